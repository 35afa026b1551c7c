import PyProof.Rows.All
import Wide.All
import OpenK.AllK
import Wide.FinOn
import Lean
import PyProof.EqAt
import PyProof.EqKinds
import PyProof.TupleCall
import PySem.Challenge.RW_manydeeds_k54_changes_refused
set_option Elab.async false
set_option linter.all false
set_option maxRecDepth 100000
namespace L2
open PySem PySem.Spec PyProof.Rows
abbrev Key:=Sum Int Str
def Zos:Key→Value→Bool
 | .inl k,v=>Value.isInt k v
 | .inr x,v=>Value.isStrOf x v
def Z6d (w:World):Key→Int
 | .inl k=>hashInt k
 | .inr x=>hashStr w x
theorem Zbt:∀ {k:Key}{v:Value},Zos k v=true→(∃ i t,k=Sum.inl i∧v=Value.int i t)∨(∃ x t,k=Sum.inr x∧v=Value.str x t)
 | .inl i,v,h=>by
  obtain ⟨t,e⟩:=Value.isInt_shape (k:=i) (v:=v) h
  exact .inl ⟨i,t,rfl,e⟩
 | .inr x,v,h=>by
  obtain ⟨t,e⟩:=Value.isStrOf_shape (x:=x) (v:=v) h
  exact .inr ⟨x,t,rfl,e⟩
theorem Zty (i:Int) (t:Tok):Zos (.inl i) (.int i t)=true:=by simp [Zos,Value.isInt]
theorem Ztx (x:Str) (t:Tok):Zos (.inr x) (.str x t)=true:=by simp [Zos,Value.isStrOf]
theorem Z1i (a b:Int):decide ((Sum.inl a:Key)=Sum.inl b)=(a == b):=by
 by_cases e:a=b
 ·subst e;simp
 ·have h:¬ (Sum.inl a:Key)=Sum.inl b:=fun q=>e (Sum.inl.inj q)
  rw [decide_eq_false h]
  exact (beq_eq_false_iff_ne.mpr e).symm
theorem Z1f (a b:Str):decide ((Sum.inr a:Key)=Sum.inr b)=decide (a=b):=by
 by_cases e:a=b
 ·subst e;simp
 ·have h:¬ (Sum.inr a:Key)=Sum.inr b:=fun q=>e (Sum.inr.inj q)
  rw [decide_eq_false h,decide_eq_false e]
theorem Z1h (a:Int) (b:Str):decide ((Sum.inl a:Key)=Sum.inr b)=false:=decide_eq_false (fun q=>nomatch q)
theorem Z1g (a:Str) (b:Int):decide ((Sum.inr a:Key)=Sum.inl b)=false:=decide_eq_false (fun q=>nomatch q)
def Zbc (prog:Program) (w:World):PySem.KeyKind prog w Key where
 is:=Zos
 hash:=Z6d w
 inj:=fun v a b ha hb=>by
  rcases Zbt ha with ⟨i,t,rfl,rfl⟩ | ⟨x,t,rfl,rfl⟩
  ·rcases Zbt hb with ⟨j,u,rfl,e⟩ | ⟨y,u,rfl,e⟩
   ·injection e with e1 _;rw [e1]
   ·exact nomatch e
  ·rcases Zbt hb with ⟨j,u,rfl,e⟩ | ⟨y,u,rfl,e⟩
   ·exact nomatch e
   ·injection e with e1 _;rw [e1]
 byValue:=fun k v h=>by
  rcases Zbt h with ⟨i,t,rfl,rfl⟩ | ⟨x,t,rfl,rfl⟩ <;> rfl
 pyHash:=fun hv h=>by
  rcases Zbt hv with ⟨i,t,rfl,rfl⟩ | ⟨x,t,rfl,rfl⟩
  ·exact wpAny_pyHash_int h
  ·exact wpAny_pyHash_str h
 eqBool:=fun hu hv h=>by
  rcases Zbt hu with ⟨i,t,rfl,rfl⟩ | ⟨x,t,rfl,rfl⟩
  ·rcases Zbt hv with ⟨j,u,rfl,rfl⟩ | ⟨y,u,rfl,rfl⟩
   ·rw [Z1i] at h;exact wpAny_eqBool_int h
   ·rw [Z1h] at h;exact SeqAt.EqAt.int_str i t y u _ _ _ _ h
  ·rcases Zbt hv with ⟨j,u,rfl,rfl⟩ | ⟨y,u,rfl,rfl⟩
   ·rw [Z1g] at h;exact SeqAt.EqAt.str_int x t j u _ _ _ _ h
   ·rw [Z1f] at h;exact wpAny_eqBool_str h
 «strs»:=fun k x t v h=>by
  rcases Zbt h with ⟨i,u,rfl,e⟩ | ⟨y,u,rfl,e⟩
  ·exact nomatch e
  ·injection e with e1 _
   subst e1
   cases v <;> rfl
theorem Zop (prog:Program) (w:World) (i:Int) (t:Tok):(Zbc prog w).is (.inl i) (.int i t)=true:=Zty i t
theorem Zoo (prog:Program) (w:World) (x:Str) (t:Tok):(Zbc prog w).is (.inr x) (.str x t)=true:=Ztx x t
end L2
namespace L2
open PySem PySem.Spec PyProof.Rows
inductive V where
 | non | bl (b:Bool) | int (i:Int) | str (x:Str) | byt (b:Array UInt8) | flt (b:UInt64) | ref (a:Addr) | ty (n:String)
 deriving DecidableEq
def Zb7:V→Value→Prop
 | .non,u=>u=Value.none
 | .bl b,u=>u=Value.bool b
 | .int i,u=>∃ t,u=Value.int i t
 | .str x,u=>∃ t,u=Value.str x t
 | .byt b,u=>∃ t,u=Value.bytes b t
 | .flt b,u=>∃ t,u=Value.float b t
 | .ref a,u=>u=Value.ref a
 | .ty n,u=>u=Value.type n
abbrev Zbr:List V→List Value→Prop:=Paired Zb7
theorem Zbr.length {xs:List V}{us:List Value}(r:Zbr xs us):xs.length=us.length:=Paired.length r
theorem Zbr.get:∀ {xs:List V}{us:List Value}{i:Nat}{x:V},Zbr xs us→xs[i]?=some x→∃ u,us[i]?=some u∧Zb7 x u
 | _,_,_,_,.nil,e=>by simp at e
 | _,_,0,_,.cons r _,e=>by simp at e;subst e;exact ⟨_,rfl,r⟩
 | _,_,i + 1,x,.cons _ t,e=>by
  obtain ⟨u,h1,h2⟩:=Zbr.get (i:=i) (x:=x) t (by simpa using e)
  exact ⟨u,by simpa using h1,h2⟩
theorem Zbr.set {x:V}{u:Value}(r:Zb7 x u):∀ {xs:List V}{us:List Value}(i:Nat),Zbr xs us→Zbr (xs.set i x) (us.set i u)
 | _,_,_,.nil=>.nil
 | _,_,0,.cons _ t=>.cons r t
 | _,_,i + 1,.cons q t=>.cons q (Zbr.set r i t)
theorem Zbr.append:∀ {xs ys:List V}{us ws:List Value},Zbr xs us→Zbr ys ws→Zbr (xs++ys) (us++ws)
 | _,_,_,_,.nil,s=>s
 | _,_,_,_,.cons r t,s=>.cons r (Zbr.append t s)
theorem Zbr.take:∀ {xs:List V}{us:List Value}(n:Nat),Zbr xs us→Zbr (xs.take n) (us.take n)
 | _,_,0,_=>.nil
 | _,_,_ + 1,.nil=>.nil
 | _,_,n + 1,.cons r t=>.cons r (Zbr.take n t)
theorem Zbr.drop:∀ {xs:List V}{us:List Value}(n:Nat),Zbr xs us→Zbr (xs.drop n) (us.drop n)
 | _,_,0,r=>r
 | _,_,_ + 1,.nil=>.nil
 | _,_,n + 1,.cons _ t=>Zbr.drop n t
def Zn3:Option V→Option Value→Prop
 | some v,some u=>Zb7 v u
 | none,none=>True
 | _,_=>False
def KV {κ:Type}:List (κ×V)→List (κ×Value)→Prop:=Paired fun (p:κ×V) (q:κ×Value)=>p.1=q.1∧Zb7 p.2 q.2
def kV:Key→V
 | .inl i=>.int i
 | .inr x=>.str x
inductive HO where
 | lst (xs:List V)
 | tup (xs:List V)
 | dK (kvs:List (Key×V)) | dT (kvs:List (List Key×V))
 | set (S:Int→Bool) (n:Nat)
 | ins (C dx:Addr) (fs:List (Str×V))
 | own (x:Addr)
 | xd (fs:List (Str×V))
 | met (f x:Addr)
 | rng (lo hi:Int)
 | frz (o:Obj) (u:HO)
 | tbl (ps:Array Value)
 | ext (φ:Heap→Prop)
abbrev Hp:=Addr→Option HO
def upd (H:Hp) (a:Addr) (o:HO):Hp:=fun b=>if b=a then some o else H b
theorem uS {H:Hp}{a:Addr}{o:HO}:upd H a o a=some o:=by unfold upd;rw [if_pos rfl]
theorem Zac {H:Hp}{a b:Addr}{o:HO}(h:b≠a):upd H a o b=H b:=by unfold upd;rw [if_neg h]
theorem Zky {H:Hp}{a:Addr}{o u:HO}:upd (upd H a o) a u=upd H a u:=by
 funext b;unfold upd;split <;> rfl
theorem Z05 {H:Hp}{a b:Addr}{o u:HO}(h:H a=some o) (h':H b=some u) (d:o≠u):a≠b:=by
 intro e;subst e;rw [h] at h';exact d (Option.some.inj h')
theorem nNo {H:Hp}{a b:Addr}{o:HO}(h:H a=some o) (h':H b=none):a≠b:=by
 intro e;subst e;rw [h] at h';cases h'
section
variable (P:Program) (w:World)
def Zbq (H:Hp) (h:Heap) (a:Addr):HO→Prop
 | .lst xs=>xs.length≤sizeLine∧∃ (its:List Value) (n:Nat),Zbr xs its∧h.get? a=some { cls:=.type "list",data:=.seq its.toArray n }
 | .tup xs=>xs.length≤sizeLine∧∃ its:List Value,Zbr xs its∧IsTup h a its.toArray
 | .dK kvs=>kvs.length≤sizeLine∧(a == sysModules)=false∧∃ vs,KV kvs vs∧h.DictOf (Zbc P w) a vs
 | .dT kvs=>kvs.length≤sizeLine∧(a == sysModules)=false∧∃ xs:List (List Key×Addr×Value),
   Paired (fun (p:List Key×V) (q:List Key×Addr×Value)=>p.1=q.1∧H q.2.1=some (.tup (p.1.map kV))∧Zb7 p.2 q.2.2) kvs xs ∧
   ∃ o es ep,h.get? a=some o∧o.ExactDict∧o.data=.dict es ep∧es.toList=xs.map (entryOfKey (tupleKind (Zbc P w)))∧(xs.map (·.1)).Nodup
 | .set S n=>h.SetOf (intKind P w) a S n
 | .ins C dx fs=>H dx=some (.own a)∧fs.length≤1000∧dx≠a∧h.get? a=some (W.instObj C dx) ∧
   ∃ mA,h.Ns1 dx mA∧(∀ f,Zn3 (fs.lookup f) (mA f))∧PySem.Within mA (fs.map (·.1))
 | .own _=>∃ o,h.get? a=some o
 | .xd fs=>∃ mA,h.Ns1 a mA∧∀ f,Zn3 (fs.lookup f) (mA f)
 | .rng lo hi=>∃ t u v,h.get? a=some { cls:=.type "range",data:=.fields #[.int lo t,.int hi u,.int 1 v] }
 | .frz o u=>h.get? a=some o∧Zbq H h a u
 | .tbl ps=>h.get? a=some { cls:=.none,data:=.fields ps }
 | .met f x=>h.get? a=some (W.methodObj (.ref f) (.ref x))
 | .ext φ=>φ h∧(∃ o,h.get? a=some o)∧∀ h1 h2:Heap,φ h1→(∀ o,h1.get? a=some o→h2.get? a=some o)→φ h2
def HOk (H:Hp) (h:Heap):Prop:=∀ a o,H a=some o→Zbq P w H h a o
end
section
variable {P:Program} {w:World} {H H':Hp} {h h':Heap} {a:Addr} {o:HO}
theorem Zbq.lt (x:Zbq P w H h a o):a<h.objs.size:=by
 cases o with
 | lst xs=>obtain ⟨_,_,_,_,e⟩:=x;exact Heap.lt_size e
 | tup xs=>obtain ⟨_,_,_,p⟩:=x;exact p.lt
 | dK kvs=>obtain ⟨_,_,_,_,o,_,_,e,_⟩:=x;exact Heap.lt_size e
 | dT kvs=>obtain ⟨_,_,_,_,o,_,_,e,_⟩:=x;exact Heap.lt_size e
 | set S n=>obtain ⟨o,_,_,_,e,_⟩:=x;exact Heap.lt_size e
 | ins C dx fs=>obtain ⟨_,_,_,e,_⟩:=x;exact Heap.lt_size e
 | own y=>obtain ⟨_,e⟩:=x;exact Heap.lt_size e
 | xd fs=>obtain ⟨_,⟨_,_,_,e,_⟩,_⟩:=x;exact Heap.lt_size e
 | rng lo hi=>obtain ⟨_,_,_,e⟩:=x;exact Heap.lt_size e
 | frz ob u=>obtain ⟨e,_⟩:=x;exact Heap.lt_size e
 | tbl ps=>exact Heap.lt_size (show h.get? a=some _ from x)
 | met f y=>exact Heap.lt_size (show h.get? a=some _ from x)
 | ext φ=>obtain ⟨_,⟨_,e⟩,_⟩:=x;exact Heap.lt_size e
theorem Paired.mapP {α β:Type}{F G:α→β→Prop}:∀ {l₁:List α}{l₂:List β},Paired F l₁ l₂→(∀ a b,F a b→G a b)→Paired G l₁ l₂
 | _,_,.nil,_=>.nil
 | _,_,.cons r t,f=>.cons (f _ _ r) (Paired.mapP t f)
theorem Zbq.stay (x:Zbq P w H h a o) (k:∀ b u,(b=a∨H b=some (.own a))→h.get? b=some u→h'.get? b=some u)
  (ho:∀ b,H b=some (.own a)→H' b=some (.own a)) (ht:∀ b xs,H b=some (.tup xs)→H' b=some (.tup xs)):Zbq P w H' h' a o:=by
 induction o with
 | lst xs=>obtain ⟨z,its,n,r,e⟩:=x;exact ⟨z,its,n,r,k _ _ (.inl rfl) e⟩
 | tup xs=>obtain ⟨z,its,r,ob,e,c⟩:=x;exact ⟨z,its,r,ob,k _ _ (.inl rfl) e,c⟩
 | dK kvs=>obtain ⟨z,y,vs,r,ob,es,ep,e,c⟩:=x;exact ⟨z,y,vs,r,ob,es,ep,k _ _ (.inl rfl) e,c⟩
 | dT kvs =>
  obtain ⟨z,y,xs,r,ob,es,ep,e,c⟩:=x
  exact ⟨z,y,xs,Paired.mapP r fun p q z=>⟨z.1,ht _ _ z.2.1,z.2.2⟩,ob,es,ep,k _ _ (.inl rfl) e,c⟩
 | set S n=>obtain ⟨ob,es,ep,t,e,c⟩:=x;exact ⟨ob,es,ep,t,k _ _ (.inl rfl) e,c⟩
 | ins C dx fs =>
  obtain ⟨d,z,ne,e,mA,⟨od,es,ep,e2,c⟩,r⟩:=x
  exact ⟨ho _ d,z,ne,k _ _ (.inl rfl) e,mA,⟨od,es,ep,k _ _ (.inr d) e2,c⟩,r⟩
 | own y=>obtain ⟨ob,e⟩:=x;exact ⟨ob,k _ _ (.inl rfl) e⟩
 | xd fs=>obtain ⟨mA,⟨od,es,ep,e,c⟩,r⟩:=x;exact ⟨mA,⟨od,es,ep,k _ _ (.inl rfl) e,c⟩,r⟩
 | rng lo hi=>obtain ⟨t,u,v,e⟩:=x;exact ⟨t,u,v,k _ _ (.inl rfl) e⟩
 | frz ob u ih=>obtain ⟨e,q⟩:=x;exact ⟨k _ _ (.inl rfl) e,ih q⟩
 | tbl ps =>
  have e:h.get? a=some { cls:=.none,data:=.fields ps }:=x
  show h'.get? a=some { cls:=.none,data:=.fields ps }
  exact k a _ (.inl rfl) e
 | met f y =>
  have e:h.get? a=some (W.methodObj (.ref f) (.ref y)):=x
  show h'.get? a=some (W.methodObj (.ref f) (.ref y))
  exact k a _ (.inl rfl) e
 | ext φ=>obtain ⟨p,⟨o,e⟩,st⟩:=x;exact ⟨st _ _ p fun o q=>k _ _ (.inl rfl) q,⟨o,k _ _ (.inl rfl) e⟩,st⟩
theorem HOk.lt (x:HOk P w H h) (e:H a=some o):a<h.objs.size:=(x a o e).lt
theorem HOk.fresh (x:HOk P w H h) (e:h.objs.size≤a):H a=none:=by
 cases q:H a with
 | none=>rfl
 | some u=>exact absurd (Nat.lt_of_lt_of_le (x.lt q) e) (Nat.lt_irrefl _)
theorem HOk.kept (x:HOk P w H h) (k:∀ b u,h.get? b=some u→h'.get? b=some u):HOk P w H h':=fun a o e =>
 (x a o e).stay (fun b u _ q=>k b u q) (fun _ q=>q) fun _ _ q=>q
theorem HOk.laid (x:HOk P w H h) (k:∀ b u,h.get? b=some u→h'.get? b=some u) (hp:h.objs.size≤a) (new:Zbq P w (upd H a o) h' a o):HOk P w (upd H a o) h':=fun b u e=>by
 have hn:=x.fresh hp
 by_cases hb:b=a
 ·subst hb;rw [uS] at e;cases e;exact new
 ·rw [Zac hb] at e
  exact (x b u e).stay (fun c v _ q=>k c v q) (fun c q=>by rw [Zac (nNo q hn)];exact q) fun c xs q=>by rw [Zac (nNo q hn)];exact q
end
def Rd (H:Hp) (a:Addr) (u:HO):Prop:=H a=some u∨∃ o,H a=some (.frz o u)
theorem Rd.ok {P:Program}{w:World}{H:Hp}{h:Heap}{a:Addr}{u:HO}(r:Rd H a u) (x:HOk P w H h):Zbq P w H h a u:=by
 rcases r with r | ⟨o,r⟩
 ·exact x a u r
 ·obtain ⟨_,q⟩:=x a _ r
  exact q
def Mut:Option HO→Prop
 | some (.lst _)=>True
 | some (.dK _)=>True
 | some (.dT _)=>True
 | some (.set _ _)=>True
 | some (.ins _ _ _)=>True
 | some (.ext _)=>True
 | _=>False
section
variable {P:Program} {w:World} {H:Hp} {h h':Heap} {x e:Addr} {o':HO}
theorem HOk.write (ok:HOk P w H h) (mu:Mut (H x)) (he:e=x∨H e=some (.own x)) (k:∀ b u,b≠e→h.get? b=some u→h'.get? b=some u) (heo:∃ u,h'.get? e=some u)
  (new:Zbq P w (upd H x o') h' x o'):HOk P w (upd H x o') h':=fun b u q=>by
 have nown:∀ c y,H c=some (.own y)→c≠x:=fun c y r z=>by subst z;rw [r] at mu;exact mu
 have ntup:∀ c xs,H c=some (.tup xs)→c≠x:=fun c xs r z=>by subst z;rw [r] at mu;exact mu
 by_cases hb:b=x
 ·subst hb;rw [uS] at q;cases q;exact new
 ·rw [Zac hb] at q
  by_cases hbe:b=e
  ·have q':H b=some (.own x):=by
    rcases he with z | z
    ·exact absurd (hbe.trans z) hb
    ·rw [hbe];exact z
   rw [q] at q';cases q'
   obtain ⟨v,hv⟩:=heo
   exact ⟨v,by rw [hbe];exact hv⟩
  ·refine (ok b u q).stay (fun c v hc r=>k c v ?_ r) (fun c r=>by rw [Zac (nown c b r)];exact r) fun c xs r=>by rw [Zac (ntup c xs r)];exact r
   rcases hc with rfl | hc
   ·exact hbe
   ·rintro rfl
    rcases he with z | z
    ·exact nown c b hc z
    ·rw [hc] at z;cases z;exact hb rfl
end
structure Un (fs ex:List Addr) (H H':Hp) (h h':Heap):Prop where
 keep:∀ b o,h.get? b=some o→H b=none→b∉fs→b∉ex→h'.get? b=some o
 slot:∀ b o,h.get? b=some o→H b=none→b∈fs→b∉ex→∃ sl,h'.get? b=some { o with slots:=sl }
 free:∀ b o,h.get? b=some o→H b=none→b∉ex→H' b=none
 there:∀ b o,h.get? b=some o→b∉ex→∃ o',h'.get? b=some o'
 tups:∀ b xs,H b=some (.tup xs)→H' b=some (.tup xs)
 frzs:∀ b o u,H b=some (.frz o u)→H' b=some (.frz o u)
 tbls:∀ b ps,H b=some (.tbl ps)→∃ more,H' b=some (.tbl (ps++more))
section
variable {fs fs' ex ex':List Addr} {H H1 H2:Hp} {h h1 h2 h':Heap} {a x e:Addr} {o:HO}
theorem Un.any (u:Un fs ex H H1 h h1) {b:Addr}{ob:Obj}(q:h.get? b=some ob) (n:H b=none) (hx:b∉ex):∃ sl,h1.get? b=some { ob with slots:=sl }:=by
 by_cases hb:b∈fs
 ·exact u.slot b ob q n hb hx
 ·exact ⟨ob.slots,u.keep b ob q n hb hx⟩
theorem Un.kept (k:∀ b u,h.get? b=some u→h'.get? b=some u):Un fs ex H H h h' :=
 ⟨fun b ob q _ _ _=>k b ob q,fun b ob q _ _ _=>⟨ob.slots,k b ob q⟩,fun _ _ _ n _=>n,fun b ob q _=>⟨ob,k b ob q⟩,fun _ _ q=>q,fun _ _ _ q=>q,fun _ ps q=>⟨#[],by rw [q];simp⟩⟩
theorem Un.refl:Un fs ex H H h h:=Un.kept fun _ _ q=>q
theorem Un.laid (k:∀ b u,h.get? b=some u→h'.get? b=some u) (hp:h.objs.size≤a) (hn:H a=none):Un fs ex H (upd H a o) h h' where
 keep:=fun b u q _ _ _=>k b u q
 slot:=fun b u q _ _ _=>⟨u.slots,k b u q⟩
 free:=fun b u q n _=>by rw [Zac (Nat.ne_of_lt (Nat.lt_of_lt_of_le (Heap.lt_size q) hp))];exact n
 there:=fun b u q _=>⟨u,k b u q⟩
 tups:=fun b xs q=>by rw [Zac (nNo q hn)];exact q
 frzs:=fun b u xs q=>by rw [Zac (nNo q hn)];exact q
 tbls:=fun b ps q=>⟨#[],by rw [Zac (nNo q hn),q];simp⟩
theorem Un.write (mu:Mut (H x)) (he:e=x∨H e=some (.own x)) (k:∀ b u,b≠e→h.get? b=some u→h'.get? b=some u) (heo:∃ u,h'.get? e=some u):Un fs ex H (upd H x o) h h':=by
 have hx:∀ b,H b=none→b≠x:=fun b n z=>by subst z;rw [n] at mu;exact mu
 have hb:∀ b,H b=none→b≠e:=fun b n z=>by
  subst z
  rcases he with r | r
  ·exact hx b n r
  ·rw [n] at r;cases r
 have hm:∀ b u,H b=some u→¬ Mut (some u)→b≠x:=fun b u q nm z=>by subst z;rw [q] at mu;exact nm mu
 refine ⟨fun b u q n _ _=>k b u (hb b n) q,fun b u q n _ _=>⟨u.slots,k b u (hb b n) q⟩,fun b u q n _=>by rw [Zac (hx b n)];exact n,fun b u q _=>?_,
  fun b xs q=>by rw [Zac (hm b _ q fun z=>z)];exact q,fun b u xs q=>by rw [Zac (hm b _ q fun z=>z)];exact q,fun b ps q=>⟨#[],by rw [Zac (hm b _ q fun z=>z),q];simp⟩⟩
 by_cases hbe:b=e
 ·subst hbe;exact heo
 ·exact ⟨u,k b u hbe q⟩
end
def trk (h:Heap) (H:Hp):List Addr:=(List.range h.objs.size).filter fun a=>(H a).isSome
def Zwn (h:Heap) (H:Hp):Heap:=W.hideAll h (trk h H)
theorem Zt8 (h:Heap) (H:Hp):(Zwn h H).objs.size=h.objs.size:=W.hideAll_size _ _
theorem Zwm {h:Heap}{H:Hp}{b:Addr}{o:Obj}(e:h.get? b=some o) (n:H b=none):(Zwn h H).get? b=some o :=
 W.hideAll_get _ e fun hm=>by
  have q:(H b).isSome=true:=(List.mem_filter.mp hm).2
  rw [n] at q;simp at q
theorem Zyw {h:Heap}{H:Hp}{b:Addr}{o:Obj}(e:(Zwn h H).get? b=some o):h.get? b=some o∧H b=none:=by
 have e':h.get? b=some o:=W.of_hideAll (trk h H) e
 refine ⟨e',?_⟩
 cases q:H b with
 | none=>rfl
 | some x =>
  have hm:b∈trk h H:=List.mem_filter.mpr ⟨List.mem_range.mpr (Heap.lt_size e'),by simp [q]⟩
  have z:(Zwn h H).get? b=none:=W.hideAll_none (trk h H) hm
  rw [z] at e;cases e
def Zzq (g h:Heap) (L:Addr):List (Addr×Obj):=(List.range h.objs.size).filterMap fun a=>if a=L∨(g.get? a).isSome=true then none else (h.get? a).map fun o=>(a,o)
def Zbb (g h:Heap) (L d:Addr):List (Addr×Obj):=(Zzq g h L).filter fun p=>decide (p.1≠d)
end L2
namespace L2
open PySem PySem.Spec PyProof.Rows
structure Mod (K:W.Frag) (mg:Str→Option Value) (base:Heap):Prop where
 kin:K.In base
 glob:base.Ns mainGlobals mg
 blt:∃ mb,base.Ns builtinsNs mb∧∀ x:Str,x≠"__name__"→mb x=bootBuiltins x
 nolimit:base.NoLimit
structure Cx where
 prog:Program
 w:World
 K:W.Frag
 mg:Str→Option Value
 base:Heap
 A:Around
 N:List Str
 s₀:Shared
 H₀:Hp
 env:Env
 outer:List Env
 stack:List Env
 ex:List Addr
 fn:Str→Bool
 calm:Bool
 pn:List (Addr×Obj)
 xe:Value→Shared→Prop
def frs (l:List Env):List Addr:=l.filterMap (·.frame)
abbrev Cx.fs (X:Cx):List Addr:=frs X.outer
def Vis (sc:Scope) (x:Str):Prop:=sc.names.lookup x=some .local∨sc.names.lookup x=some .cell∨sc.names.lookup x=some .free
def Loc (sc:Scope) (x:Str):Prop:=sc.names.lookup x=some .local∨sc.names.lookup x=some .cell
def Z6v (env:Env) (h:Heap) (m:Str→Option Value) (x:Str) (u:Value):Prop :=
 (env.kindOf x=some .local∧m x=some u)∨((env.kindOf x=some .cell∨env.kindOf x=some .free)∧∃ c,env.cells.lookup x=some c∧h.IsCell c (some u))
structure Cx.Ok (X:Cx):Prop where
 mod:Mod X.K X.mg X.base
 kind:X.env.scope.kind=.function
 glob:X.env.globals=mainGlobals
 blt:X.env.builtins=builtinsNs
 above:X.s₀.heap.objs.size≤X.env.locals
 inj:∀ x y c,X.env.cells.lookup x=some c→X.env.cells.lookup y=some c→x=y
 has:∀ x,(X.env.kindOf x=some .cell∨X.env.kindOf x=some .free)→∃ c,X.env.cells.lookup x=some c
 cab:∀ x c,X.fn x=true→X.env.cells.lookup x=some c→X.s₀.heap.objs.size≤c
 hd:X.calm=true→X.A.handled=none
 frames:X.A.frames=some X.stack
 stk:X.stack=X.outer∨(X.stack=X.env :: X.outer∧X.env.frame=some X.env.locals)
 exf:∀ b∈X.ex,b≠X.env.locals∧∀ x c,X.env.cells.lookup x=some c→c≠b
 bs:∀ b o,X.base.get? b=some o→X.s₀.heap.get? b=some o∧X.H₀ b=none
 bsz:X.base.objs.size≤X.s₀.heap.objs.size
 noex:∀ b o,X.base.get? b=some o→b∉X.ex
 exfs:∀ b∈X.ex,b∉X.fs
 funs:X.s₀.heap.FunFrames X.base X.outer
 frf:∀ b∈X.fs,X.H₀ b=none
structure Inv (X:Cx) (pins:List (Addr×Obj)) (σ:List (Option V)) (H:Hp) (s:Shared):Prop where
 ok:X.Ok
 os:s.os=X.s₀.os
 bare:AllBare s.gens
 base:Un X.fs X.ex X.H₀ H X.s₀.heap s.heap
 loc:∃ m,s.heap.Ns X.env.locals m∧∀ (i:Nat) (x:Str) (v:V),X.N[i]?=some x→σ[i]?=some (some v)→Vis X.env.scope x→∃ u,Zb7 v u∧Z6v X.env s.heap m x u
 cell:∀ x c,X.env.cells.lookup x=some c→∃ v,s.heap.IsCell c v
 free:H X.env.locals=none
 freeC:∀ x c,X.env.cells.lookup x=some c→H c=none
 pin:∀ p∈X.pn++pins,s.heap.get? p.1=some p.2∧H p.1=none∧p.1≠X.env.locals∧p.1∉X.fs∧∀ v,p.2.data≠.cell v
 hok:HOk X.prog X.w H s.heap
 len:σ.length=X.N.length
section
variable {X:Cx} {pins:List (Addr×Obj)} {σ:List (Option V)} {H H':Hp} {s:Shared} {h':Heap}
theorem Cx.Ok.nofr (ok:X.Ok) {b:Addr}{o:Obj}(e:X.base.get? b=some o):b∉X.fs:=fun hb=>by
 have:=(ok.funs.mem hb).1
 rw [e] at this;cases this
theorem Inv.bs (I:Inv X pins σ H s):∀ b o,X.base.get? b=some o→s.heap.get? b=some o∧H b=none:=fun b o e =>
 ⟨I.base.keep b o (I.ok.bs b o e).1 (I.ok.bs b o e).2 (I.ok.nofr e) (I.ok.noex b o e),I.base.free b o (I.ok.bs b o e).1 (I.ok.bs b o e).2 (I.ok.noex b o e)⟩
theorem Inv.bk (I:Inv X pins σ H s):∀ b o,X.base.get? b=some o→s.heap.get? b=some o:=fun b o e=>(I.bs b o e).1
theorem Inv.mod (I:Inv X pins σ H s):Mod X.K X.mg X.base:=I.ok.mod
theorem Inv.kIn (I:Inv X pins σ H s):X.K.In s.heap:=I.ok.mod.kin.keeps I.bk
theorem Inv.lt (I:Inv X pins σ H s):X.env.locals<s.heap.objs.size:=let ⟨_,hn,_⟩:=I.loc;hn.lt
theorem Inv.sz (I:Inv X pins σ H s):X.s₀.heap.objs.size≤s.heap.objs.size:=Nat.le_trans I.ok.above (Nat.le_of_lt I.lt)
theorem Inv.nofs (I:Inv X pins σ H s) {a:Addr}(h:s.heap.objs.size≤a):a∉X.fs:=fun hb=>by
 obtain ⟨_,o,ho,_⟩:=I.ok.funs.mem hb
 exact absurd (Nat.lt_of_lt_of_le (Heap.lt_size ho) (Nat.le_trans I.sz h)) (Nat.lt_irrefl _)
theorem Inv.cne (I:Inv X pins σ H s):∀ x c,X.env.cells.lookup x=some c→c≠X.env.locals:=fun x c e z=>by
 obtain ⟨v,o,ho,hd⟩:=I.cell x c e
 obtain ⟨m,⟨o',es,ep,ho',hd',_⟩,_⟩:=I.loc
 rw [z,ho'] at ho;cases ho;rw [hd'] at hd;cases hd
theorem Inv.funs (I:Inv X pins σ H s):s.heap.FunFrames X.base X.outer:=by
 have all:∀ (l:List Env),(∀ b∈frs l,b∈X.fs)→X.s₀.heap.FunFrames X.base l→s.heap.FunFrames X.base l:=by
  intro l
  induction l with
  | nil=>intro _ _;trivial
  | cons env r ih =>
   intro hs hl
   obtain ⟨hk,⟨L,o,hf,hn,ho,hd⟩,hr⟩:=hl
   have hL:L∈X.fs:=hs L (by unfold frs;rw [List.filterMap_cons,hf];exact List.mem_cons_self)
   obtain ⟨sl,e⟩:=I.base.slot L o ho (I.ok.frf L hL) hL fun z=>I.ok.exfs L z hL
   exact ⟨hk,⟨L,_,hf,hn,e,hd⟩,ih (fun b hb=>hs b (by unfold frs;rw [List.filterMap_cons,hf];exact List.mem_cons_of_mem _ hb)) hr⟩
 exact all X.outer (fun _ hb=>hb) I.ok.funs
theorem Inv.stack (I:Inv X pins σ H s):s.heap.FunFrames X.base X.stack:=by
 rcases I.ok.stk with e | ⟨e,hf⟩
 ·rw [e];exact I.funs
 ·rw [e]
  obtain ⟨m,hn,_⟩:=I.loc
  refine .cons (by rw [I.ok.kind];decide) hf hn ?_ I.funs
  exact Heap.get?_none_of_le (Nat.le_trans I.ok.bsz I.ok.above)
theorem Inv.stkSub (I:Inv X pins σ H s):∀ b∈frs X.stack,b∈X.env.locals :: X.fs:=fun b hb=>by
 rcases I.ok.stk with e | ⟨e,hf⟩
 ·rw [e] at hb;exact List.mem_cons_of_mem _ hb
 ·rw [e] at hb
  unfold frs at hb
  rw [List.filterMap_cons,hf] at hb
  exact hb
theorem Inv.stkFree (I:Inv X pins σ H s):∀ b∈frs X.stack,H b=none:=fun b hb=>by
 rcases List.mem_cons.mp (I.stkSub b hb) with e | hb
 ·rw [e];exact I.free
 ·obtain ⟨_,o,ho,_⟩:=I.ok.funs.mem hb
  exact I.base.free b o ho (I.ok.frf b hb) fun z=>I.ok.exfs b z hb
theorem Inv.step {g':Array GenState}{t':Nat}{d':Drawn}{ch:List Addr}(I:Inv X pins σ H s)
  (hch:∀ b∈ch,(b∈X.ex∨X.s₀.heap.objs.size≤b)∧b≠X.env.locals∧(∀ x c,X.env.cells.lookup x=some c→c≠b)∧∀ p∈X.pn++pins,p.1≠b)
  (keep:∀ b o,b≠X.env.locals→b∉X.fs→b∉ch→s.heap.get? b=some o→H b=none→h'.get? b=some o)
  (slot:∀ b o,b≠X.env.locals→b∈X.fs→b∉ch→s.heap.get? b=some o→H b=none→∃ sl,h'.get? b=some { o with slots:=sl }) (free:∀ b o,b∉ch→s.heap.get? b=some o→H b=none→H' b=none)
  (there:∀ b o,b∉ch→s.heap.get? b=some o→∃ o',h'.get? b=some o')
  (tups:∀ b xs,H b=some (.tup xs)→H' b=some (.tup xs)) (frzs:∀ b o u,H b=some (.frz o u)→H' b=some (.frz o u)) (tbls:∀ b ps,H b=some (.tbl ps)→∃ more,H' b=some (.tbl (ps++more)))
  (ns:∀ m,s.heap.Ns X.env.locals m→h'.Ns X.env.locals m) (hok:HOk X.prog X.w H' h') (hg:AllBare g'):
  Inv X pins σ H' { s with heap:=h',gens:=g',drawn:=d',toks:=t' }:=by
 have neL:∀ b o,X.s₀.heap.get? b=some o→b≠X.env.locals:=fun b o e=>Nat.ne_of_lt (Nat.lt_of_lt_of_le (Heap.lt_size e) I.ok.above)
 have neC:∀ b o,X.s₀.heap.get? b=some o→b∉X.ex→b∉ch:=fun b o e hx hb=>by
  rcases (hch b hb).1 with z | z
  ·exact hx z
  ·exact absurd (Nat.lt_of_lt_of_le (Heap.lt_size e) z) (Nat.lt_irrefl _)
 have cellK:∀ x c,X.env.cells.lookup x=some c→∀ v,s.heap.IsCell c v→h'.IsCell c v:=fun x c e v ⟨o,ho,hd⟩=>by
  have nch:c∉ch:=fun z=>(hch c z).2.2.1 x c e rfl
  by_cases hc:c∈X.fs
  ·obtain ⟨sl,q⟩:=slot c o (I.cne x c e) hc nch ho (I.freeC x c e)
   exact ⟨_,q,hd⟩
  ·exact ⟨o,keep c o (I.cne x c e) hc nch ho (I.freeC x c e),hd⟩
 refine ⟨I.ok,I.os,hg,⟨fun b o e n hb hx=>?_,fun b o e n hb hx=>?_,fun b o e n hx=>?_,fun b o e hx=>?_,fun b xs e=>tups b xs (I.base.tups b xs e),fun b o xs e=>frzs b o xs (I.base.frzs b o xs e),fun b ps e=>?_⟩,?_,fun x c e=>?_,?_,fun x c e=>?_,fun p hp=>?_,hok,I.len⟩
 ·exact keep b o (neL b o e) hb (neC b o e hx) (I.base.keep b o e n hb hx) (I.base.free b o e n hx)
 ·obtain ⟨sl,e1⟩:=I.base.slot b o e n hb hx
  obtain ⟨sl',e2⟩:=slot b _ (neL b o e) hb (neC b o e hx) e1 (I.base.free b o e n hx)
  exact ⟨sl',e2⟩
 ·obtain ⟨o',e1⟩:=I.base.there b o e hx
  exact free b o' (neC b o e hx) e1 (I.base.free b o e n hx)
 ·obtain ⟨o',e1⟩:=I.base.there b o e hx
  exact there b o' (neC b o e hx) e1
 ·obtain ⟨m1,e1⟩:=I.base.tbls b ps e
  obtain ⟨m2,e2⟩:=tbls b _ e1
  exact ⟨m1++m2,by rw [e2,Array.append_assoc]⟩
 ·obtain ⟨m,hn,hl⟩:=I.loc
  refine ⟨m,ns m hn,fun i x v e1 e2 e3=>?_⟩
  obtain ⟨u,r,l⟩:=hl i x v e1 e2 e3
  refine ⟨u,r,?_⟩
  rcases l with l | ⟨k,c,e,z⟩
  ·exact .inl l
  ·exact .inr ⟨k,c,e,cellK x c e _ z⟩
 ·obtain ⟨v,z⟩:=I.cell x c e
  exact ⟨v,cellK x c e v z⟩
 ·obtain ⟨m,⟨o,_,_,ho,_⟩,_⟩:=I.loc
  exact free _ o (fun z=>(hch _ z).2.1 rfl) ho I.free
 ·obtain ⟨v,o,ho,hd⟩:=I.cell x c e
  exact free c o (fun z=>(hch c z).2.2.1 x c e rfl) ho (I.freeC x c e)
 ·obtain ⟨e,n,ne,nf,d⟩:=I.pin p hp
  have nch:p.1∉ch:=fun z=>(hch p.1 z).2.2.2 p hp rfl
  exact ⟨keep p.1 p.2 ne nf nch e n,free p.1 p.2 nch e n,ne,nf,d⟩
theorem Inv.un {t':Nat}(I:Inv X pins σ H s) (u:Un X.fs [] H H' s.heap h') (hok:HOk X.prog X.w H' h'):Inv X pins σ H' { s with heap:=h',toks:=t' }:=by
 obtain ⟨m,⟨o,es,ep,ho,r⟩,_⟩:=id I.loc
 obtain ⟨sl,hL⟩:=u.any ho I.free (by simp)
 exact I.step (g':=s.gens) (d':=s.drawn) (ch:=[]) (fun _ z=>nomatch z) (fun b o _ hb _ e n=>u.keep b o e n hb (by simp)) (fun b o _ hb _ e n=>u.slot b o e n hb (by simp)) (fun b o _ e n=>u.free b o e n (by simp)) (fun b o _ e=>u.there b o e (by simp)) u.tups u.frzs u.tbls (fun m' hm=>by
  obtain ⟨o',es',ep',ho',r'⟩:=hm
  rw [ho] at ho';cases ho'
  exact ⟨_,es',ep',hL,r'⟩) hok I.bare
theorem Inv.call {g':Array GenState}{t':Nat}{d':Drawn}{ch:List Addr}(I:Inv X pins σ H s) (u:Un (frs X.stack) ch H H' s.heap h') (hok:HOk X.prog X.w H' h') (hg:AllBare g')
  (hch:∀ b∈ch,(b∈X.ex∨X.s₀.heap.objs.size≤b)∧b≠X.env.locals∧(∀ x c,X.env.cells.lookup x=some c→c≠b)∧∀ p∈X.pn++pins,p.1≠b):
  Inv X pins σ H' { s with heap:=h',gens:=g',drawn:=d',toks:=t' }:=by
 obtain ⟨m,⟨o,es,ep,ho,r⟩,_⟩:=id I.loc
 obtain ⟨sl,hL⟩:=u.any ho I.free fun z=>(hch _ z).2.1 rfl
 exact I.step (ch:=ch) hch (fun b o hL hb hc e n=>u.keep b o e n (fun z=>(List.mem_cons.mp (I.stkSub b z)).elim hL hb) hc) (fun b o _ _ hc e n=>u.any e n hc) (fun b o hc e n=>u.free b o e n hc) (fun b o hc e=>u.there b o e hc) u.tups u.frzs u.tbls (fun m' hm=>by
  obtain ⟨o',es',ep',ho',r'⟩:=hm
  rw [ho] at ho';cases ho'
  exact ⟨_,es',ep',hL,r'⟩) hok hg
theorem Inv.turned {t':Nat}{it:Addr}(I:Inv X pins σ H s) (k:∀ b o,b≠it→s.heap.get? b=some o→h'.get? b=some o) (hn:H it=none) (hL:it≠X.env.locals)
  (h1:it∈X.ex∨X.s₀.heap.objs.size≤it) (h2:∀ x c,X.env.cells.lookup x=some c→c≠it) (h3:∀ p∈X.pn++pins,p.1≠it):Inv X pins σ H { s with heap:=h',toks:=t' }:=by
 have nit:∀ b u,H b=some u→b≠it:=fun b u e z=>by rw [z,hn] at e;cases e
 refine I.step (g':=s.gens) (d':=s.drawn) (ch:=[it]) (fun b hb=>?_) (fun b o _ _ hc e _=>k b o (fun z=>hc (by simp [z])) e) (fun b o _ _ hc e _=>⟨o.slots,k b o (fun z=>hc (by simp [z])) e⟩) (fun _ _ _ _ n=>n)
  (fun b o hc e=>⟨o,k b o (fun z=>hc (by simp [z])) e⟩) (fun _ _ e=>e) (fun _ _ _ e=>e) (fun b ps e=>⟨#[],by rw [e];simp⟩) (fun m hm=>?_) (fun b u e=>?_) I.bare
 ·have e:b=it:=by simpa using hb
  subst e
  exact ⟨h1,hL,h2,h3⟩
 ·obtain ⟨o,es,ep,ho,r⟩:=hm
  exact ⟨o,es,ep,k _ o (Ne.symm hL) ho,r⟩
 ·refine (I.hok b u e).stay (fun c v hc q=>k c v ?_ q) (fun _ q=>q) fun _ _ q=>q
  rcases hc with z | z
  ·rw [z];exact nit b u e
  ·exact nit c _ z
theorem Inv.tok (I:Inv X pins σ H s) (t:Nat):Inv X pins σ H { s with toks:=t }:=I.un (h':=s.heap) (t':=t) Un.refl I.hok
theorem Inv.kept {t':Nat}(I:Inv X pins σ H s) (k:∀ b u,s.heap.get? b=some u→h'.get? b=some u):Inv X pins σ H { s with heap:=h',toks:=t' }:=I.un (Un.kept k) (I.hok.kept k)
theorem Inv.laid {a:Addr}{o:HO}{t':Nat}(I:Inv X pins σ H s) (k:∀ b u,s.heap.get? b=some u→h'.get? b=some u) (hp:s.heap.objs.size≤a) (new:Zbq X.prog X.w (upd H a o) h' a o):
  Inv X pins σ (upd H a o) { s with heap:=h',toks:=t' }:=I.un (Un.laid k hp (I.hok.fresh hp)) (I.hok.laid k hp new)
theorem Inv.write {x e:Addr}{o:HO}{t':Nat}(I:Inv X pins σ H s) (mu:Mut (H x)) (he:e=x∨H e=some (.own x)) (k:∀ b u,b≠e→s.heap.get? b=some u→h'.get? b=some u) (heo:∃ u,h'.get? e=some u)
  (new:Zbq X.prog X.w (upd H x o) h' x o):Inv X pins σ (upd H x o) { s with heap:=h',toks:=t' }:=I.un (Un.write mu he k heo) (I.hok.write mu he k heo new)
theorem Inv.pins_of {pins':List (Addr×Obj)}(I:Inv X pins σ H s) (h:∀ p∈pins',s.heap.get? p.1=some p.2∧H p.1=none∧p.1≠X.env.locals∧p.1∉X.fs∧∀ v,p.2.data≠.cell v):Inv X pins' σ H s :=
 ⟨I.ok,I.os,I.bare,I.base,I.loc,I.cell,I.free,I.freeC,fun p hp=>(List.mem_append.mp hp).elim (fun z=>I.pin p (List.mem_append_left _ z)) (h p),I.hok,I.len⟩
theorem Zfh {N:List Str}(hN:N.Nodup) {i j:Nat}{x:Str}(a:N[i]?=some x) (b:N[j]?=some x):i=j:=by
 obtain ⟨h1,e1⟩:=List.getElem?_eq_some_iff.mp a
 obtain ⟨h2,e2⟩:=List.getElem?_eq_some_iff.mp b
 exact (List.getElem_inj hN).mp (e1.trans e2.symm)
theorem Zme {M:Model}{A:Around}{E:Value→Shared→Prop}{i:Nat}{x:Str}{v:V}{u:Value}{Q:Unit→Shared→Prop}(I:Inv X pins σ H s) (hN:X.N.Nodup) (hi:X.N[i]?=some x) (hx:Loc X.env.scope x) (r:Zb7 v u)
  (h:∀ s',Inv X pins (σ.set i (some v)) H s'→(∃ a,Heap.SameBut a s.heap s'.heap∧(a=X.env.locals∨X.env.cells.lookup x=some a))→Q () s') (hf:X.fn x=true∨X.env.scope.names.lookup x=some .local:=by first | exact .inl rfl | exact .inr rfl | assumption):wpAny M A (storeName X.env x u) Q E s:=by
 obtain ⟨m,hn,hl⟩:=id I.loc
 have hcls:(X.env.scope.kind == .class || (X.env.scope.kind == .module&&X.env.locals != X.env.globals))=false:=by rw [I.ok.kind];rfl
 have hiσ:i<σ.length:=by rw [I.len];exact (List.getElem?_eq_some_iff.mp hi).1
 have cne:=I.cne
 have tracked:∀ {a:Addr} {h':Heap},(∃ o,s.heap.get? a=some o∧H a=none)→Heap.SameBut a s.heap h'→HOk X.prog X.w H h':=fun {a h'} ha hs b ob e=>by
  obtain ⟨_,_,hfree⟩:=ha
  refine (I.hok b ob e).stay (fun c w' hc q=>(hs.2 c ?_).trans q) (fun _ q=>q) fun _ _ q=>q
  rintro rfl
  rcases hc with rfl | hc
  ·rw [hfree] at e;cases e
  ·rw [hfree] at hc;cases hc
 rcases hx with hk | hk
 ·refine wpAny_storeName_local hk hn (fun h' hn' hs=>?_) hcls
  obtain ⟨oL,_,_,hoL,_⟩:=id hn
  refine h _ ⟨I.ok,I.os,I.bare,⟨fun b o e n hb hx=>?_,fun b o e n hb hx=>?_,I.base.free,fun b o e hx=>?_,I.base.tups,I.base.frzs,I.base.tbls⟩,⟨_,hn',fun j y v' e1 e2 e3=>?_⟩,fun y c e=>?_,I.free,I.freeC,fun p hp=>?_,tracked ⟨oL,hoL,I.free⟩ hs,by simpa using I.len⟩ ⟨_,hs,.inl rfl⟩
  ·exact (hs.2 b (Nat.ne_of_lt (Nat.lt_of_lt_of_le (Heap.lt_size e) I.ok.above))).trans (I.base.keep b o e n hb hx)
  ·obtain ⟨sl,e1⟩:=I.base.slot b o e n hb hx
   exact ⟨sl,(hs.2 b (Nat.ne_of_lt (Nat.lt_of_lt_of_le (Heap.lt_size e) I.ok.above))).trans e1⟩
  ·obtain ⟨o',e1⟩:=I.base.there b o e hx
   exact ⟨o',(hs.2 b (Nat.ne_of_lt (Nat.lt_of_lt_of_le (Heap.lt_size e) I.ok.above))).trans e1⟩
  ·by_cases hj:j=i
   ·subst hj
    rw [hi] at e1;cases e1
    rw [List.getElem?_set_self hiσ] at e2
    cases e2
    exact ⟨u,r,.inl ⟨hk,by simp⟩⟩
   ·rw [List.getElem?_set_ne (Ne.symm hj)] at e2
    obtain ⟨u',r',q⟩:=hl j y v' e1 e2 e3
    refine ⟨u',r',?_⟩
    rcases q with ⟨k,e⟩ | ⟨k,c,e,z⟩
    ·refine .inl ⟨k,?_⟩
     have:y≠x:=fun e=>hj (Zfh hN e1 (e ▸ hi))
     simp [this,e]
    ·exact .inr ⟨k,c,e,z.sameBut hs (cne y c e)⟩
  ·obtain ⟨w',z⟩:=I.cell y c e
   exact ⟨w',z.sameBut hs (cne y c e)⟩
  ·obtain ⟨e,n,ne,nf,d⟩:=I.pin p hp
   exact ⟨(hs.2 p.1 ne).trans e,n,ne,nf,d⟩
 ·have hfn:X.fn x=true:=by
   rcases hf with z | z
   ·exact z
   ·rw [z] at hk;cases hk
  obtain ⟨c,hc⟩:=I.ok.has x (.inl hk)
  obtain ⟨w',z⟩:=I.cell x c hc
  refine wpAny_storeName_cell I.ok.kind hk hc z (fun h' hc' hs=>?_)
  obtain ⟨oc,hoc,hocd⟩:=id z
  refine h { s with heap:=h' } ⟨I.ok,I.os,I.bare,⟨fun b o e n hb hx=>?_,fun b o e n hb hx=>?_,I.base.free,fun b o e hx=>?_,I.base.tups,I.base.frzs,I.base.tbls⟩,⟨m,hn.sameBut hs (Ne.symm (cne x c hc)),fun j y v' e1 e2 e3=>?_⟩,fun y c' e=>?_,I.free,I.freeC,fun p hp=>?_,tracked ⟨oc,hoc,I.freeC x c hc⟩ hs,by simpa using I.len⟩ ⟨c,hs,.inr hc⟩
  ·exact (hs.2 b (Nat.ne_of_lt (Nat.lt_of_lt_of_le (Heap.lt_size e) (I.ok.cab x c hfn hc)))).trans (I.base.keep b o e n hb hx)
  ·obtain ⟨sl,e1⟩:=I.base.slot b o e n hb hx
   exact ⟨sl,(hs.2 b (Nat.ne_of_lt (Nat.lt_of_lt_of_le (Heap.lt_size e) (I.ok.cab x c hfn hc)))).trans e1⟩
  ·obtain ⟨o',e1⟩:=I.base.there b o e hx
   exact ⟨o',(hs.2 b (Nat.ne_of_lt (Nat.lt_of_lt_of_le (Heap.lt_size e) (I.ok.cab x c hfn hc)))).trans e1⟩
  ·by_cases hj:j=i
   ·subst hj
    rw [hi] at e1;cases e1
    rw [List.getElem?_set_self hiσ] at e2
    cases e2
    exact ⟨u,r,.inr ⟨.inl hk,c,hc,hc'⟩⟩
   ·rw [List.getElem?_set_ne (Ne.symm hj)] at e2
    obtain ⟨u',r',q⟩:=hl j y v' e1 e2 e3
    refine ⟨u',r',?_⟩
    rcases q with q | ⟨k,c',e,z'⟩
    ·exact .inl q
    ·refine .inr ⟨k,c',e,z'.sameBut hs ?_⟩
     rintro rfl
     exact hj (Zfh hN e1 (I.ok.inj _ _ _ e hc ▸ hi))
  ·by_cases hcc:c'=c
   ·subst hcc;exact ⟨_,hc'⟩
   ·obtain ⟨w2,z2⟩:=I.cell y c' e
    exact ⟨w2,z2.sameBut hs hcc⟩
  ·obtain ⟨e,n,ne,nf,d⟩:=I.pin p hp
   refine ⟨(hs.2 p.1 ?_).trans e,n,ne,nf,d⟩
   intro q
   rw [q,hoc] at e
   have q':oc=p.2:=Option.some.inj e
   exact d w' (by rw [← q'];exact hocd)
theorem Zk1 {M:Model}{A:Around}{E:Value→Shared→Prop}{i:Nat}{x:Str}{v:V}{u:Value}{Q:Unit→Shared→Prop}(I:Inv X pins σ H s) (hN:X.N.Nodup) (hi:X.N[i]?=some x) (hx:Loc X.env.scope x) (r:Zb7 v u)
  (h:∀ s',Inv X pins (σ.set i (some v)) H s'→Q () s') (hf:X.fn x=true∨X.env.scope.names.lookup x=some .local:=by first | exact .inl rfl | exact .inr rfl | assumption):wpAny M A (storeName X.env x u) Q E s :=
 Zme I hN hi hx r (fun s' I' _=>h s' I') hf
theorem Inv.call' {s':Shared}{ch:List Addr}(I:Inv X pins σ H s) (ho:s'.os=s.os) (u:Un (frs X.stack) ch H H' s.heap s'.heap) (hok:HOk X.prog X.w H' s'.heap) (hg:AllBare s'.gens)
  (hch:∀ b∈ch,(b∈X.ex∨X.s₀.heap.objs.size≤b)∧b≠X.env.locals∧(∀ x c,X.env.cells.lookup x=some c→c≠b)∧∀ p∈X.pn++pins,p.1≠b):Inv X pins σ H' s':=by
 obtain ⟨h',g',d',t',o'⟩:=s'
 have e:o'=s.os:=ho
 subst e
 exact I.call (g':=g') (t':=t') (d':=d') u hok hg hch
end
abbrev XK:=Value→Option Addr→Hp→Prop
abbrev St:=List (Option V)
abbrev VK:=V→Hp→Prop
abbrev TE:=St→Hp→VK→Prop
abbrev TT:=St→Hp→(Bool→Hp→Prop)→Prop
abbrev TA:=St→Hp→(List V→Hp→Prop)→Prop
structure Zrx where
 nx:St→Hp→Prop
 rt:VK
 bk:St→Hp→Prop:=fun _ _=>False
 ct:St→Hp→Prop:=fun _ _=>False
abbrev TS:=Zrx→St→Hp→Prop
def EP (X:Cx) (pins:List (Addr×Obj)) (σ:St) (Q:VK) (u:Value) (s':Shared):Prop:=∃ v H',Inv X pins σ H' s'∧Zb7 v u∧Q v H'
def TP (X:Cx) (pins:List (Addr×Obj)) (σ:St) (Q:Bool→Hp→Prop) (b:Bool) (s':Shared):Prop:=∃ H',Inv X pins σ H' s'∧Q b H'
def AP (X:Cx) (pins:List (Addr×Obj)) (σ:St) (Q:List V→Hp→Prop) (us:List Value) (s':Shared):Prop:=∃ vs H',Inv X pins σ H' s'∧Zbr vs us∧Q vs H'
def SP (X:Cx) (pins:List (Addr×Obj)) (D:Zrx) (f:Flow) (s':Shared):Prop :=
 match f with
 | .next=>∃ σ' H',Inv X pins σ' H' s'∧D.nx σ' H'
 | .brk=>∃ σ' H',Inv X pins σ' H' s'∧D.bk σ' H'
 | .cont=>∃ σ' H',Inv X pins σ' H' s'∧D.ct σ' H'
 | .ret u=>∃ v σ' H',Inv X pins σ' H' s'∧Zb7 v u∧D.rt v H'
def PE (X:Cx) (e:Expr) (t:TE):Prop :=
 ∀ (pins:List (Addr×Obj)) (s:Shared) (σ:St) (H:Hp) (Q:VK),Inv X pins σ H s→t σ H Q→wpAny (model X.prog X.w) X.A (eval e X.env) (EP X pins σ Q) X.xe s
def PT (X:Cx) (e:Expr) (t:TT):Prop :=
 ∀ (pins:List (Addr×Obj)) (s:Shared) (σ:St) (H:Hp) (Q:Bool→Hp→Prop),Inv X pins σ H s→t σ H Q→wpAny (model X.prog X.w) X.A (isTrue e X.env (eval e X.env)) (TP X pins σ Q) X.xe s
def PW (X:Cx) (e:Expr) (t:TT):Prop :=
 ∀ (whole:Sem Value) (pins:List (Addr×Obj)) (s:Shared) (σ:St) (H:Hp) (Q:Bool→Hp→Prop),Inv X pins σ H s→t σ H Q→wpAny (model X.prog X.w) X.A (isTrue e X.env whole) (TP X pins σ Q) X.xe s
theorem PW.pt {X:Cx}{e:Expr}{t:TT}(h:PW X e t):PT X e t:=h _
def PA (X:Cx) (es:List Expr) (t:TA):Prop :=
 ∀ (pos:Pos) (pins:List (Addr×Obj)) (s:Shared) (σ:St) (H:Hp) (Q:List V→Hp→Prop),Inv X pins σ H s→t σ H Q→wpAny (model X.prog X.w) X.A (spliced (backTo pos (starEach es X.env))) (AP X pins σ Q) X.xe s
def PS (X:Cx) (st:Stmt) (t:TS):Prop :=
 ∀ (pins:List (Addr×Obj)) (s:Shared) (σ:St) (H:Hp) (D:Zrx),Inv X pins σ H s→t D σ H→wpAny (model X.prog X.w) X.A (exec st X.env) (SP X pins D) X.xe s
def PSs (X:Cx) (st:List Stmt) (t:TS):Prop :=
 ∀ (pins:List (Addr×Obj)) (s:Shared) (σ:St) (H:Hp) (D:Zrx),Inv X pins σ H s→t D σ H→wpAny (model X.prog X.w) X.A (execs st X.env) (SP X pins D) X.xe s
theorem thn {α:Type}{t:Sem α}{Q Q':α→Shared→Prop}{M:Model}{A:Around}{E:Value→Shared→Prop}{s:Shared}(h:wpAny M A t Q E s) (hQ:∀ a s,Q a s→Q' a s):wpAny M A t Q' E s:=wpAny_mono h hQ fun _ _ x=>x
end L2
namespace L2
open PySem PySem.Spec PyProof.Rows
section
variable {X:Cx}
def Zx2 (i:Nat):TE:=fun σ H Q=>∃ v,σ[i]?=some (some v)∧Q v H
def tC (v:V):TE:=fun _ H Q=>Q v H
theorem Zxg {i:Nat}{x:Str}{pos:Pos}(hN:X.N[i]?=some x) (hv:Vis X.env.scope x) (hd:(x == ("__debug__":Str))=false:=by decide) (hcd:(x == ("__classdict__":Str))=false:=by decide):PE X (.Name x pos) (Zx2 i):=by
 intro pins s σ H Q I h
 obtain ⟨v,e,h⟩:=h
 obtain ⟨m,hn,hl⟩:=I.loc
 obtain ⟨u,r,l⟩:=hl i x v hN e hv
 have fin:EP X pins σ Q u s:=⟨v,H,I,r,h⟩
 rcases l with ⟨hk,hm⟩ | ⟨hk,c,hc,hcell⟩
 ·exact wpAny_Name (wpAny_loadName_local I.ok.kind hk hn hm fin) hd
 ·rcases hk with hk | hk
  ·exact wpAny_Name (wpAny_loadName_cell I.ok.kind hk hc hcell fin) hd
  ·exact wpAny_Name (wpAny_loadName_free I.ok.kind hk hc hcell fin hcd) hd
theorem Zae {i j pos}:PE X (.Constant (.int i) j pos) (tC (.int i)):=fun _ _ _ H _ I h=>wpAny_Constant_int ⟨.int i,H,I.tok _,⟨_,rfl⟩,h⟩
theorem Ze8 {b j pos}:PE X (.Constant (.bool b) j pos) (tC (.bl b)):=fun _ _ _ H _ I h=>Constant_bool ⟨.bl b,H,I,rfl,h⟩
theorem Zkg {j pos}:PE X (.Constant .none j pos) (tC .non):=fun _ _ _ H _ I h=>Constant_none ⟨.non,H,I,rfl,h⟩
theorem Zev {x j pos}:PE X (.Constant (.str x) j pos) (tC (.str x)):=fun _ _ _ H _ I h=>Calls.Constant_str ⟨.str x,H,I.tok _,⟨_,rfl⟩,h⟩
def Gl (X:Cx) (x:Str):Prop:=X.env.kindOf x=some .globalImplicit
theorem Zfi {E:Value→Shared→Prop}{pins:List (Addr×Obj)}{s:Shared}{σ:St}{H:Hp}{x:Str}{u:Value}{pos:Pos}{Q:Value→Shared→Prop}(I:Inv X pins σ H s) (hg:Gl X x) (hm:X.mg x=some u) (h:Q u s)
  (hd:(x == ("__debug__":Str))=false:=by decide):wpAny (model X.prog X.w) X.A (eval (.Name x pos) X.env) Q E s :=
 Calls.Name_function_global I.ok.kind hg (Calls.loadGlobal_global (by rw [I.ok.glob];exact I.mod.glob.keeps I.bk) hm h) hd
theorem Zjf {E:Value→Shared→Prop}{pins:List (Addr×Obj)}{s:Shared}{σ:St}{H:Hp}{x:Str}{u:Value}{pos:Pos}{Q:Value→Shared→Prop}(I:Inv X pins σ H s) (hg:Gl X x) (hm:X.mg x=none) (hv:bootBuiltins x=some u) (h:Q u s)
  (hn:x≠"__name__":=by decide) (hd:(x == ("__debug__":Str))=false:=by decide):wpAny (model X.prog X.w) X.A (eval (.Name x pos) X.env) Q E s:=by
 obtain ⟨mb,h1,h2⟩:=I.mod.blt
 exact Calls.Name_function_global I.ok.kind hg (Calls.loadGlobal_builtin (by rw [I.ok.glob];exact I.mod.glob.keeps I.bk) hm (by rw [I.ok.blt];exact h1.keeps I.bk) ((h2 x hn).trans hv) h) hd
theorem Za0 {x:Str}{v:V}{u:Value}{pos:Pos}(hg:Gl X x) (hm:X.mg x=some u) (r:Zb7 v u) (hd:(x == ("__debug__":Str))=false:=by decide):PE X (.Name x pos) (tC v):=
 fun _ _ _ H _ I h=>Zfi I hg hm ⟨v,H,I,r,h⟩ hd
theorem Zoi {x:Str}{v:V}{u:Value}{pos:Pos}(hg:Gl X x) (hm:X.mg x=none) (hv:bootBuiltins x=some u) (r:Zb7 v u) (hn:x≠"__name__":=by decide) (hd:(x == ("__debug__":Str))=false:=by decide):PE X (.Name x pos) (tC v):=
 fun _ _ _ H _ I h=>Zjf I hg hm hv ⟨v,H,I,r,h⟩ hn hd
variable {a b:Expr} {ta tb:TE} {pos:Pos}
def PC (X:Cx) (op:CmpOp) (a b:Expr) (t:TE):Prop :=
 ∀ (pins:List (Addr×Obj)) (s:Shared) (σ:St) (H:Hp) (Q:VK),Inv X pins σ H s→t σ H Q →
  wpAny (model X.prog X.w) X.A (eval a X.env) (fun v s₁=>wpAny (model X.prog X.w) X.A (eval b X.env) (fun u s₂=>wpAny (model X.prog X.w) X.A (compareOp op v u) (EP X pins σ Q) X.xe s₂) X.xe s₁) X.xe s
theorem Zp3 (b:Expr) {op:CmpOp}(h:op≠.In) (h2:op≠.NotIn):behindInMarks op b=false:=by
 have e1:(op == CmpOp.In)=false:=by cases op <;> first | rfl | exact absurd rfl h
 have e2:(op == CmpOp.NotIn)=false:=by cases op <;> first | rfl | exact absurd rfl h2
 cases b <;> simp [behindInMarks,e1,e2]
def Z2a (ta:TE):TE:=fun σ H Q=>ta σ H fun x H1=>Q (.bl (!decide (x=.non))) H1
theorem Zb7.none_iff {x:V}{v:Value}(r:Zb7 x v):(v == Value.none)=decide (x=.non):=by
 cases x with
 | non=>cases r;rfl
 | bl _=>cases r;rfl
 | int _=>obtain ⟨t,rfl⟩:=r;rfl
 | str _=>obtain ⟨t,rfl⟩:=r;rfl
 | byt _=>obtain ⟨t,rfl⟩:=r;rfl
 | flt _=>obtain ⟨t,rfl⟩:=r;rfl
 | ref _=>cases r;rfl
 | ty _=>cases r;rfl
theorem Zli {j pos'}(ha:PE X a ta):PC X .IsNot a (.Constant .none j pos') (Z2a ta):=by
 intro pins s σ H Q I h
 refine thn (ha pins s σ H _ I h) fun v s1 ⟨x,H1,I1,r1,q1⟩=>?_
 exact Constant_none (isnot_none_gen ⟨.bl _,H1,I1,by rw [r1.none_iff];rfl,q1⟩)
def tB (t:TE):TT:=fun σ H Q=>t σ H fun x H1=>∃ c,x=.bl c∧Q c H1
theorem Zxh {op:CmpOp}{t:TE}(h:PC X op a b t) (h1:behindInMarks op b=false:=by first | exact Zp3 _ (by decide) (by decide) | rfl):PE X (.Compare a [op] [b] pos) t:=fun pins s σ H Q I hw=>wpAny_Compare1 (h pins s σ H Q I hw) h1
theorem Ze6 {op:CmpOp}{t:TE}(h:PC X op a b t) (h1:behindInMarks op b=false:=by first | exact Zp3 _ (by decide) (by decide) | rfl):PT X (.Compare a [op] [b] pos) (tB t):=by
 intro pins s σ H Q I hw
 refine wpAny_isTrue_Compare1 (thn (h pins s σ H _ I hw) fun v s1 h1=>thn h1 fun u s2 h2=>thn h2 fun c s3 ⟨x,H1,I1,r1,q1⟩=>?_) h1
 obtain ⟨d,rfl,q⟩:=q1
 cases r1
 exact wpAny_truthy_bool ⟨H1,I1,q⟩
theorem Zce {e:Expr}{t:TE}(h:PE X e t) (he:∀ whole,isTrue e X.env whole=(do let v ← whole;standAt e.pos;holding [v] (truthy v)):=by intro _;rfl):PT X e (tB t):=by
 intro pins s σ H Q I hw
 refine isTrue_plain (thn (h pins s σ H _ I hw) fun v s1 ⟨x,H1,I1,r1,q1⟩=>?_) (he _)
 obtain ⟨d,rfl,q⟩:=q1
 cases r1
 exact wpAny_truthy_bool ⟨H1,I1,q⟩
variable {tA tB':TT} {Zbb:List Expr}
def Z5j (t u:TT):TT:=fun σ H Q=>t σ H fun c H1=>if c=true then u σ H1 Q else Q false H1
def tOr (t u:TT):TT:=fun σ H Q=>t σ H fun c H1=>if c=true then Q true H1 else u σ H1 Q
def Z5a (t:TT):TT:=fun σ H Q=>t σ H fun c H1=>Q (!c) H1
theorem Zyh (ha:PT X a tA):PW X (.BoolOp .And [a] pos) tA:=by
 intro wh pins s σ H Q I h
 refine isTrue_and (thn (ha pins s σ H Q I h) fun c s1 e=>?_)
 cases c with
 | true=>exact isTrue_and_nil e
 | false=>exact e
theorem Zkd (ha:PT X a tA):PW X (.BoolOp .Or [a] pos) tA:=by
 intro wh pins s σ H Q I h
 refine isTrue_or (thn (ha pins s σ H Q I h) fun c s1 e=>?_)
 cases c with
 | false=>exact isTrue_or_nil e
 | true=>exact e
theorem Z0l (ha:PT X a tA) (hb:PW X (.BoolOp .And (b :: Zbb) pos) tB'):PW X (.BoolOp .And (a :: b :: Zbb) pos) (Z5j tA tB'):=by
 intro wh pins s σ H Q I h
 refine isTrue_and (thn (ha pins s σ H _ I h) fun c s1 ⟨H1,I1,q1⟩=>?_)
 cases c with
 | true=>exact hb wh pins s1 σ H1 Q I1 q1
 | false=>exact ⟨H1,I1,q1⟩
theorem Zof (ha:PT X a tA) (hb:PW X (.BoolOp .Or (b :: Zbb) pos) tB'):PW X (.BoolOp .Or (a :: b :: Zbb) pos) (tOr tA tB'):=by
 intro wh pins s σ H Q I h
 refine isTrue_or (thn (ha pins s σ H _ I h) fun c s1 ⟨H1,I1,q1⟩=>?_)
 cases c with
 | true=>exact ⟨H1,I1,q1⟩
 | false=>exact hb wh pins s1 σ H1 Q I1 q1
theorem Zb4 (ha:PT X a tA):PT X (.UnaryOp .Not a pos) (Z5a tA):=by
 intro pins s σ H Q I h
 exact isTrue_not (ha pins s σ H (fun c H1=>Q (!c) H1) I h)
def Z2h (ta tb:TE):TE:=fun σ H Q=>ta σ H fun x H1=>∃ c,x=.bl c∧if c=true then tb σ H1 Q else Q (.bl false) H1
def Z49 (ta tb:TE):TE:=fun σ H Q=>ta σ H fun x H1=>∃ c,x=.bl c∧if c=true then Q (.bl true) H1 else tb σ H1 Q
def Z19 (ta:TE):TE:=fun σ H Q=>ta σ H fun x H1=>∃ c,x=.bl c∧Q (.bl (!c)) H1
theorem Zi5 {op}{t:TE}(h:PE X a t):PE X (.BoolOp op [a] pos) t:=fun pins s σ H Q I hw=>BoolOp_one (h pins s σ H Q I hw)
theorem Zkh (ha:PE X a ta) (hb:PE X (.BoolOp .And (b :: Zbb) pos) tb):PE X (.BoolOp .And (a :: b :: Zbb) pos) (Z2h ta tb):=by
 intro pins s σ H Q I h
 refine BoolOp_and (thn (ha pins s σ H _ I h) fun v s1 ⟨x,H1,I1,r1,q1⟩=>?_)
 obtain ⟨c,rfl,q1⟩:=q1
 cases r1
 refine wpAny_truthy_bool ?_
 cases c with
 | true=>exact hb pins s1 σ H1 Q I1 q1
 | false=>exact ⟨.bl false,H1,I1,rfl,q1⟩
theorem Z2p (ha:PE X a ta) (hb:PE X (.BoolOp .Or (b :: Zbb) pos) tb):PE X (.BoolOp .Or (a :: b :: Zbb) pos) (Z49 ta tb):=by
 intro pins s σ H Q I h
 refine BoolOp_or (thn (ha pins s σ H _ I h) fun v s1 ⟨x,H1,I1,r1,q1⟩=>?_)
 obtain ⟨c,rfl,q1⟩:=q1
 cases r1
 refine wpAny_truthy_bool ?_
 cases c with
 | false=>exact hb pins s1 σ H1 Q I1 q1
 | true=>exact ⟨.bl true,H1,I1,rfl,q1⟩
theorem Z0q (ha:PE X a ta):PE X (.UnaryOp .Not a pos) (Z19 ta):=by
 intro pins s σ H Q I h
 refine UnaryOp_ (thn (ha pins s σ H _ I h) fun v s1 ⟨x,H1,I1,r1,q1⟩=>?_)
 obtain ⟨c,rfl,q1⟩:=q1
 cases r1
 exact not_of (wpAny_truthy_bool ⟨.bl (!c),H1,I1,rfl,q1⟩)
def tIf (t:TT) (ta tb:TE):TE:=fun σ H Q=>t σ H fun c H1=>if c=true then ta σ H1 Q else tb σ H1 Q
theorem Zvq {c:Expr}(hc:PT X c tA) (ha:PE X a ta) (hb:PE X b tb):PE X (.IfExp c a b pos) (tIf tA ta tb):=by
 intro pins s σ H Q I h
 refine wpAny_IfExp (thn (hc pins s σ H _ I h) fun d s1 ⟨H1,I1,q1⟩=>?_)
 cases d with
 | true=>exact ha pins s1 σ H1 Q I1 q1
 | false=>exact hb pins s1 σ H1 Q I1 q1
end
end L2
namespace L2
open PySem PySem.Spec PyProof.Rows
def SqL (K:W.Frag) (H:Hp) (a:Addr) (xs:List V):Prop :=
 Rd H a (.lst xs) ∨
  ∃ (o:Obj) (its:Array Value) (n:Nat),K.lookup a=some o∧o.cls=.type "list"∧o.dict=none∧o.data=.seq its n∧its.size≤sizeLine∧Zbr xs its.toList
def SqT (K:W.Frag) (H:Hp) (a:Addr) (xs:List V):Prop :=
 Rd H a (.tup xs) ∨
  ∃ (o:Obj) (its:Array Value) (n:Nat),K.lookup a=some o∧o.cls=.type "tuple"∧o.data=.seq its n∧its.size≤sizeLine∧Zbr xs its.toList
def Z6s:Value→Option V
 | .none=>some .non
 | .bool b=>some (.bl b)
 | .int i _=>some (.int i)
 | .str x _=>some (.str x)
 | .bytes b _=>some (.byt b)
 | .float b _=>some (.flt b)
 | .ref a=>some (.ref a)
 | .type n=>some (.ty n)
 | _=>none
theorem Zb7.abs {x:V}{u:Value}(r:Zb7 x u):Z6s u=some x:=by
 cases x with
 | non=>cases r;rfl
 | bl _=>cases r;rfl
 | int _=>obtain ⟨t,rfl⟩:=r;rfl
 | str _=>obtain ⟨t,rfl⟩:=r;rfl
 | byt _=>obtain ⟨t,rfl⟩:=r;rfl
 | flt _=>obtain ⟨t,rfl⟩:=r;rfl
 | ref _=>cases r;rfl
 | ty _=>cases r;rfl
theorem Zb7.inj {x y:V}{u:Value}(r:Zb7 x u) (q:Zb7 y u):x=y:=Option.some.inj (r.abs.symm.trans q.abs)
theorem Zbr.inj:∀ {xs ys:List V}{us:List Value},Zbr xs us→Zbr ys us→xs=ys
 | _,_,_,.nil,.nil=>rfl
 | _,_,_,.cons r t,.cons r' t'=>by rw [r.inj r',Zbr.inj t t']
section
variable {X:Cx} {pins:List (Addr×Obj)} {σ:St} {H:Hp} {s:Shared} {a:Addr} {xs ys:List V}
theorem SqL.of {K:W.Frag}(h:H a=some (.lst xs)):SqL K H a xs:=.inl (.inl h)
theorem SqT.of {K:W.Frag}(h:H a=some (.tup xs)):SqT K H a xs:=.inl (.inl h)
theorem Inv.list (I:Inv X pins σ H s) (h:SqL X.K H a xs):∃ its:List Value,Zbr xs its∧PlainL s.heap a its.toArray∧xs.length≤sizeLine:=by
 rcases h with h | ⟨o,its,n,hk,hc,hd,hs,hz,r⟩
 ·obtain ⟨z,its,n,r,e⟩:=h.ok I.hok
  exact ⟨its,r,⟨_,n,e,rfl,rfl,rfl⟩,z⟩
 ·refine ⟨its.toList,r,⟨o,n,I.kIn a o hk,hc,hd,by simpa using hs⟩,?_⟩
  have e:=r.length
  simp only [Array.length_toList] at e
  omega
theorem Inv.tuple (I:Inv X pins σ H s) (h:SqT X.K H a xs):∃ its:List Value,Zbr xs its∧IsTup s.heap a its.toArray∧xs.length≤sizeLine:=by
 rcases h with h | ⟨o,its,n,hk,hc,hs,hz,r⟩
 ·obtain ⟨z,its,r,p⟩:=h.ok I.hok
  exact ⟨its,r,p,z⟩
 ·refine ⟨its.toList,r,⟨o,I.kIn a o hk,hc,n,by simpa using hs⟩,?_⟩
  have e:=r.length
  simp only [Array.length_toList] at e
  omega
theorem Inv.list_inj (I:Inv X pins σ H s) (h:SqL X.K H a xs) (h':SqL X.K H a ys):xs=ys:=by
 obtain ⟨its,r,⟨o,n,e,_,_,d⟩,_⟩:=I.list h
 obtain ⟨its',r',⟨o',n',e',_,_,d'⟩,_⟩:=I.list h'
 rw [e] at e';cases e'
 rw [d] at d'
 injection d' with d1 _
 have:its=its':=by simpa using congrArg Array.toList d1
 subst this
 exact r.inj r'
theorem Inv.tuple_inj (I:Inv X pins σ H s) (h:SqT X.K H a xs) (h':SqT X.K H a ys):xs=ys:=by
 obtain ⟨its,r,⟨o,e,_,n,d⟩,_⟩:=I.tuple h
 obtain ⟨its',r',⟨o',e',_,n',d'⟩,_⟩:=I.tuple h'
 rw [e] at e';cases e'
 rw [d] at d'
 injection d' with d1 _
 have:its=its':=by simpa using congrArg Array.toList d1
 subst this
 exact r.inj r'
end
abbrev Cx.wish (X:Cx) (E:Value→Shared→Prop):Cx:={ X with xe:=E }
abbrev Cx.nox (X:Cx):Cx:=X.wish fun _ _=>False
theorem Cx.Ok.wish {X:Cx}(ok:X.Ok) (E:Value→Shared→Prop):(X.wish E).Ok :=
 ⟨ok.mod,ok.kind,ok.glob,ok.blt,ok.above,ok.inj,ok.has,ok.cab,ok.hd,ok.frames,ok.stk,ok.exf,ok.bs,ok.bsz,ok.noex,ok.exfs,ok.funs,ok.frf⟩
theorem Cx.Ok.unwish {X:Cx}{E:Value→Shared→Prop}(ok:(X.wish E).Ok):X.Ok :=
 ⟨ok.mod,ok.kind,ok.glob,ok.blt,ok.above,ok.inj,ok.has,ok.cab,ok.hd,ok.frames,ok.stk,ok.exf,ok.bs,ok.bsz,ok.noex,ok.exfs,ok.funs,ok.frf⟩
section
variable {X:Cx} {pins:List (Addr×Obj)} {σ:St} {H:Hp} {s:Shared} {E:Value→Shared→Prop}
theorem Inv.wish (I:Inv X pins σ H s) (E:Value→Shared→Prop):Inv (X.wish E) pins σ H s:=⟨I.ok.wish E,I.os,I.bare,I.base,I.loc,I.cell,I.free,I.freeC,I.pin,I.hok,I.len⟩
theorem Inv.unwish (I:Inv (X.wish E) pins σ H s):Inv X pins σ H s:=⟨I.ok.unwish,I.os,I.bare,I.base,I.loc,I.cell,I.free,I.freeC,I.pin,I.hok,I.len⟩
theorem SP.unwish {D:Zrx}{f:Flow}{s':Shared}(h:SP (X.wish E) pins D f s'):SP X pins D f s':=by
 cases f with
 | next=>obtain ⟨σ',H',I,q⟩:=h;exact ⟨σ',H',I.unwish,q⟩
 | brk=>obtain ⟨σ',H',I,q⟩:=h;exact ⟨σ',H',I.unwish,q⟩
 | cont=>obtain ⟨σ',H',I,q⟩:=h;exact ⟨σ',H',I.unwish,q⟩
 | ret u=>obtain ⟨v,σ',H',I,r,q⟩:=h;exact ⟨v,σ',H',I.unwish,r,q⟩
theorem PSs.nox {st:List Stmt}{t:TS}(h:PSs X.nox st t):PSs X st t:=fun pins s σ H D I hw =>
 wpAny_mono (h pins s σ H D (I.wish _) hw) (fun _ _ q=>q.unwish) fun _ _ z=>False.elim z
end
section
variable {X:Cx} {st:Stmt} {Zbb:List Stmt} {t u:TS} {e:Expr} {te:TE} {pos:Pos}
def Z2b:TS:=fun D σ H=>D.nx σ H
def Z18 (t u:TS):TS:=fun D σ H=>t { D with nx:=u D } σ H
theorem Zah:PSs X [] Z2b:=fun _ _ σ H _ I h=>wpAny_execs_nil ⟨σ,H,I,h⟩
theorem pS (h1:PS X st t) (h2:PSs X Zbb u):PSs X (st :: Zbb) (Z18 t u):=by
 intro pins s σ H D I h
 refine wpAny_execs_cons (thn (h1 pins s σ H { D with nx:=u D } I h) fun f s1 q=>?_)
 cases f with
 | next =>
  obtain ⟨σ',H',I',q⟩:=q
  exact h2 pins s1 σ' H' D I' q
 | ret v=>exact q
 | brk=>exact q
 | cont=>exact q
theorem Zab (h1:PS X st t):PSs X [st] t:=by
 intro pins s σ H D I h
 refine wpAny_execs_cons (thn (h1 pins s σ H D I h) fun f s1 q=>?_)
 cases f with
 | next=>exact wpAny_execs_nil q
 | ret v=>exact q
 | brk=>exact q
 | cont=>exact q
theorem Inv.quiet {pins:List (Addr×Obj)}{σ:St}{H:Hp}{s:Shared}(I:Inv X pins σ H s):interactive X.env=false:=by simp [interactive,I.ok.kind]
def Z2d (te:TE):TS:=fun D σ H=>te σ H fun _ H1=>D.nx σ H1
theorem Za3 (he:PE X e te) (hs:swapsWith e none pos.line X.env=pure false:=by rfl):PS X (.Expr e pos) (Z2d te):=by
 intro pins s σ H D I h
 exact wpAny_Expr_any (thn (he pins s σ H _ I h) fun v s1 ⟨x,H1,I1,r1,q1⟩=>⟨σ,H1,I1,q1⟩) I.quiet hs
def Z48 (te:TE):TS:=fun D σ H=>te σ H D.rt
theorem Zam (he:PE X e te):PS X (.Return (some e) pos) (Z48 te):=by
 intro pins s σ H D I h
 exact wpAny_Return_some (thn (he pins s σ H _ I h) fun v s1 ⟨x,H1,I1,r1,q1⟩=>⟨x,σ,H1,I1,r1,q1⟩)
def Z5c (c:TT) (t u:TS):TS:=fun D σ H=>c σ H fun b H1=>if b=true then t D σ H1 else u D σ H1
theorem Zau {c:Expr}{a b:List Stmt}{tc:TT}(hc:PT X c tc) (ha:PSs X a t) (hb:PSs X b u):PS X (.If c a b pos) (Z5c tc t u):=by
 intro pins s σ H D I h
 refine wpAny_If (thn (hc pins s σ H _ I h) fun d s1 ⟨H1,I1,q1⟩=>?_)
 cases d with
 | true=>exact ha pins s1 σ H1 D I1 q1
 | false=>exact hb pins s1 σ H1 D I1 q1
def Zz8:TS:=fun _ _ _=>False
theorem Zbe {sts:List Stmt}:PSs X sts Zz8:=fun _ _ _ _ _ _ h=>h.elim
end
abbrev TG:=V→St→Hp→(St→Hp→Prop)→Prop
abbrev TGs:=List V→St→Hp→(St→Hp→Prop)→Prop
def PG (X:Cx) (target:Expr) (t:TG):Prop :=
 ∀ (pins:List (Addr×Obj)) (s:Shared) (σ:St) (H:Hp) (v:V) (u:Value) (Q:St→Hp→Prop),Inv X pins σ H s→Zb7 v u→t v σ H Q →
  wpAny (model X.prog X.w) X.A (assign target X.env u) (fun _ s'=>∃ σ' H',Inv X pins σ' H' s'∧Q σ' H') X.xe s
def PGs (X:Cx) (ts:List Expr) (t:TGs):Prop :=
 ∀ (pins:List (Addr×Obj)) (s:Shared) (σ:St) (H:Hp) (vs:List V) (us:List Value) (Q:St→Hp→Prop),Inv X pins σ H s→Zbr vs us→t vs σ H Q →
  wpAny (model X.prog X.w) X.A (assignInOrder ((assignEach ts X.env).map (·.2)) us) (fun _ s'=>∃ σ' H',Inv X pins σ' H' s'∧Q σ' H') X.xe s
abbrev Z3l:=V→V→V→Hp→(Hp→Prop)→Prop
def Z4z (X:Cx) (t:Z3l):Prop :=
 ∀ (pins:List (Addr×Obj)) (s:Shared) (σ:St) (H:Hp) (o i v:V) (ov iv u:Value) (Q:Hp→Prop),Inv X pins σ H s→Zb7 o ov→Zb7 i iv→Zb7 v u→t o i v H Q →
  wpAny (model X.prog X.w) X.A (setItem ov iv u) (fun _ s'=>∃ H',Inv X pins σ H' s'∧Q H') X.xe s
section
variable {X:Cx} {pos:Pos}
def Zh0 (i:Nat):TG:=fun v σ H Q=>Q (σ.set i (some v)) H
theorem Zai {i:Nat}{x:Str}(hN:X.N.Nodup) (hi:X.N[i]?=some x) (hx:Loc X.env.scope x) (hf:X.fn x=true∨X.env.scope.names.lookup x=some .local:=by first | exact .inl rfl | exact .inr rfl | assumption):PG X (.Name x pos) (Zh0 i):=by
 intro pins s σ H v u Q I r h
 exact wpAny_assign_Name (Zk1 I hN hi hx r (fun s' I'=>⟨_,H,I',h⟩) hf)
def Z4t:TGs:=fun vs σ H Q=>vs=[]∧Q σ H
def Zze (t:TG) (u:TGs):TGs:=fun vs σ H Q=>∃ v r,vs=v :: r∧t v σ H fun σ' H'=>u r σ' H' Q
theorem Zdz:PGs X [] Z4t:=by
 intro pins s σ H vs us Q I r h
 obtain ⟨e,h⟩:=h
 subst e
 cases r
 exact assignInOrder_nil ⟨σ,H,I,h⟩
theorem gC {e:Expr}{es:List Expr}{t:TG}{u:TGs} (h1:PG X e t) (h2:PGs X es u)
  (hs:(assignEach (e :: es) X.env).map (·.2)=assign e X.env :: (assignEach es X.env).map (·.2):=by rfl):PGs X (e :: es) (Zze t u):=by
 intro pins s σ H vs us Q I r h
 obtain ⟨v,vr,e1,h⟩:=h
 subst e1
 cases r with
 | cons r rr =>
  rw [hs]
  refine assignInOrder_cons (thn (h1 pins s σ H _ _ _ I r h) fun _ s1 ⟨σ1,H1,I1,q1⟩=>?_)
  exact h2 pins s1 σ1 H1 _ _ Q I1 rr q1
def Z4s (K:W.Frag) (n:Nat) (t:TGs):TG:=fun v σ H Q=>∃ a xs,v=.ref a∧SqT K H a xs∧xs.length=n∧t xs σ H Q
theorem Zfl {es:List Expr}{k:Nat}{t:TGs}{n:Nat}(hc:X.calm=true) (h:PGs X es t)
  (hn:(assignEach es X.env).length=n:=by rfl) (hst:(assignEach es X.env).findIdx? (·.1)=none:=by rfl):PG X (.Tuple es k pos) (Z4s X.K n t):=by
 intro pins s σ H v u Q I r hw
 obtain ⟨a,xs,e1,hq,hl,hw⟩:=hw
 subst e1
 cases r
 obtain ⟨its,rv,ht,hz⟩:=I.tuple hq
 refine assign_Tuple_tuple (I.ok.hd hc) ht (by simp [hn,← hl,rv.length]) hst fun h' hx=>?_
 have I1:Inv X pins σ H { s with heap:=h' }:=I.kept (t':=s.toks) fun b o e=>hx b o (Nat.ne_of_lt (Heap.lt_size e)) e
 exact h pins _ σ H xs _ Q I1 (by simpa using rv) hw
def Z6j (to ti:TE) (t:Z3l):TG:=fun v σ H Q=>to σ H fun o H1=>ti σ H1 fun i H2=>t o i v H2 fun H3=>Q σ H3
theorem Zs6 {o i:Expr}{to ti:TE}{t:Z3l}(ho:PE X o to) (hi:PE X i ti) (hs:Z4z X t)
  (ha:∀ v,assign (.Subscript o i pos) X.env v=(do
   let ov ← holding [v] (eval o X.env)
   let iv ← holding [v,ov] (eval i X.env)
   standAt pos
   holding [v,ov,iv] (setItem ov iv v)
   release [v,ov,iv] []):=by intro _;rfl):PG X (.Subscript o i pos) (Z6j to ti t):=by
 intro pins s σ H v u Q I r h
 rw [ha]
 refine wpAny_bind (wpAny_holding (thn (ho pins s σ H _ I h) fun ov s1 ⟨x,H1,I1,r1,q1⟩=>?_))
 refine wpAny_bind (wpAny_holding (thn (hi pins s1 σ H1 _ I1 q1) fun iv s2 ⟨y,H2,I2,r2,q2⟩=>?_))
 refine wpAny_bind (wpAny_standAt (wpAny_bind (wpAny_holding (thn (hs pins s2 σ H2 x y v ov iv u _ I2 r1 r2 r q2) fun _ s3 ⟨H3,I3,q3⟩=>?_))))
 exact wpAny_release ⟨σ,H3,I3,q3⟩
def Z1x (te:TE) (g:TG):TS:=fun D σ H=>te σ H fun x H1=>g x σ H1 D.nx
theorem Zps {tg e:Expr}{te:TE}{g:TG}(he:PE X e te) (hg:PG X tg g) (hs:swapsWithSole [tg] e pos.line X.env=pure false:=by rfl) (hw:swappedStores [tg] e X.env=pure none:=by rfl)
  (h1:(assignEach [tg] X.env).map (·.2)=[assign tg X.env]:=by rfl):PS X (.Assign [tg] e pos) (Z1x te g):=by
 intro pins s σ H D I h
 refine wpAny_Assign_stores (thn (he pins s σ H _ I h) fun v s1 ⟨x,H1,I1,r1,q1⟩=>?_) hs hw
 rw [h1]
 exact thn (hg pins s1 σ H1 x v _ I1 r1 q1) fun _ s2 q=>q
theorem Zal {i:Nat}{x:Str}{e:Expr}{te:TE}{pos':Pos}(hN:X.N.Nodup) (hi:X.N[i]?=some x) (hx:Loc X.env.scope x) (he:PE X e te) (hs:swapsWith e (some (.Name x pos')) pos.line X.env=pure false:=by rfl) (hf:X.fn x=true∨X.env.scope.names.lookup x=some .local:=by first | exact .inl rfl | exact .inr rfl | assumption):
  PS X (.Assign [.Name x pos'] e pos) (Z1x te (Zh0 i)):=by
 intro pins s σ H D I h
 refine wpAny_Assign_Name (thn (he pins s σ H _ I h) fun v s1 ⟨y,H1,I1,r1,q1⟩=>?_) hs
 exact Zk1 I1 hN hi hx r1 (fun s2 I2=>⟨_,H1,I2,q1⟩) hf
end
section
variable {X:Cx} {pos:Pos}
def Zz5 (c:TT) (tb:TS):TS:=fun D σ H=>∃ W:Nat→St→Hp→Prop,(∃ m,W m σ H)∧∀ m σ H,W m σ H →
 c σ H fun b H1=>if b=true then ∃ N:St→Hp→Prop,(∀ σ' H',N σ' H'→∃ m',m'<m∧W m' σ' H')∧tb { D with nx:=N,ct:=N,bk:=D.nx } σ H1 else D.nx σ H1
theorem Zgf {c:Expr}{body:List Stmt}{tc:TT}{tb:TS}(hp:PassesOwn (model X.prog X.w) X.A X.env X.xe) (hc:PT X c tc) (hb:PSs X body tb):PS X (.While c body [] pos) (Zz5 tc tb):=by
 intro pins s σ H D I h
 obtain ⟨W,⟨m0,w0⟩,turn⟩:=h
 refine wpAny_While (codeAny_whileLoop (fun n s'=>∃ σ' H',Inv X pins σ' H' s'∧W n σ' H') ?_ m0 ⟨σ,H,I,w0⟩)
 rintro n s1 ⟨σ1,H1,I1,w1⟩
 refine wpAny_passesOwn hp (thn (hc pins s1 σ1 H1 _ I1 (turn n σ1 H1 w1)) fun b s2 ⟨H2,I2,q2⟩=>?_)
 cases b with
 | true =>
  obtain ⟨N,hN,q2⟩:=q2
  rw [if_pos rfl]
  refine wpAny_passesOwn hp (thn (hb pins s2 σ1 H2 _ I2 q2) fun f s3 q3=>?_)
  cases f with
  | next =>
   obtain ⟨σ3,H3,I3,n3⟩:=q3
   obtain ⟨m',hm,w3⟩:=hN σ3 H3 n3
   exact ⟨m',hm,σ3,H3,I3,w3⟩
  | cont =>
   obtain ⟨σ3,H3,I3,n3⟩:=q3
   obtain ⟨m',hm,w3⟩:=hN σ3 H3 n3
   exact ⟨m',hm,σ3,H3,I3,w3⟩
  | brk=>exact q3
  | ret v=>exact q3
 | false =>
  rw [if_neg Bool.false_ne_true]
  exact wpAny_execs_nil ⟨σ1,H2,I2,q2⟩
end
structure It where
 go:Nat→Hp→Prop
 yld:Nat→Hp→V→Hp→Prop
 stop:Nat→Hp→Prop
def Zj2 (X:Cx) (pins:List (Addr×Obj)) (H:Hp) (b:Addr):Prop :=
 H b=none∧b≠X.env.locals∧b∉X.fs∧(b∈X.ex∨X.s₀.heap.objs.size≤b)∧(∀ x c,X.env.cells.lookup x=some c→c≠b)∧∀ p∈X.pn++pins,p.1≠b
theorem Inv.fpOk {X:Cx}{pins:List (Addr×Obj)}{σ:St}{H H':Hp}{s:Shared}{b:Addr}(I:Inv X pins σ H s) (hb:s.heap.objs.size≤b) (hn:H' b=none):Zj2 X pins H' b:=by
 refine ⟨hn,Nat.ne_of_gt (Nat.lt_of_lt_of_le I.lt hb),I.nofs hb,.inr (Nat.le_trans I.sz hb),fun x c e z=>?_,fun p hp z=>?_⟩
 ·obtain ⟨v,q⟩:=I.cell x c e
  exact absurd (Nat.lt_of_lt_of_le q.lt (by rw [z];exact hb)) (Nat.lt_irrefl _)
 ·exact absurd (Nat.lt_of_lt_of_le (Heap.lt_size (I.pin p hp).1) (by rw [z];exact hb)) (Nat.lt_irrefl _)
structure Zrs (P:Program) (w:World) (K:W.Frag) (tg:Expr) (J:It) (fp:List Addr) (it:Addr) (tn:Nat→Heap→Prop):Prop where
 mem:it∈fp
 obj:∀ i h,tn i h→∀ b∈fp,∃ o,h.get? b=some o∧∀ v,o.data≠.cell v
 keep:∀ i h h',tn i h→(∀ b∈fp,∀ o,h.get? b=some o→h'.get? b=some o)→tn i h'
 item:∀ (X:Cx),X.prog=P→X.w=w→X.K=K→X.calm=true→∀ (i:Nat) (pins:List (Addr×Obj)) (s:Shared) (σ:St) (H:Hp) (E:Value→Shared→Prop),Inv X pins σ H s→(∀ b∈fp,Zj2 X pins H b)→tn i s.heap→J.go i H →
  wpAny (model P w) X.A (pyNext (.ref it)) (fun r s1=>∃ u,r=some u ∧
   wpAny (model P w) X.A (letOwnedTupleGo tg (.ref it) u) (fun _ s2=>∃ x H',Inv X pins σ H' s2∧Zb7 x u∧J.yld i H x H'∧tn (i + 1) s2.heap∧∀ b∈fp,H' b=none) E s1) E s
 done:∀ (X:Cx),X.prog=P→X.w=w→X.K=K→X.calm=true→∀ (i:Nat) (pins:List (Addr×Obj)) (s:Shared) (σ:St) (H:Hp) (E:Value→Shared→Prop),Inv X pins σ H s→(∀ b∈fp,Zj2 X pins H b)→tn i s.heap→J.stop i H →
  wpAny (model P w) X.A (pyNext (.ref it)) (fun r s1=>r=none∧Inv X pins σ H s1) E s
 self:∀ (A:Around) (i:Nat) (s:Shared) (Q:Value→Shared→Prop) (E:Value→Shared→Prop),tn i s.heap→Q (.ref it) s→wpAny (model P w) A (pyIter (.ref it)) Q E s
abbrev TI:=St→Hp→(It→Hp→Prop)→Prop
def PIE (X:Cx) (pins:List (Addr×Obj)) (σ:St) (tg:Expr) (R:It→Hp→Prop) (itv:Value) (s2:Shared):Prop :=
 ∃ (it:Addr) (fp:List Addr) (tn:Nat→Heap→Prop) (J:It) (H':Hp),itv=.ref it∧Inv X pins σ H' s2∧Zrs X.prog X.w X.K tg J fp it tn∧tn 0 s2.heap∧(∀ b∈fp,Zj2 X pins H' b)∧R J H'
def PI (X:Cx) (tg iter:Expr) (wi:TI):Prop :=
 ∀ (pins:List (Addr×Obj)) (s:Shared) (σ:St) (H:Hp) (R:It→Hp→Prop),Inv X pins σ H s→wi σ H R →
  wpAny (model X.prog X.w) X.A (eval iter X.env) (fun v s1=>wpAny (model X.prog X.w) X.A (pyIter v) (PIE X pins σ tg R) X.xe s1) X.xe s
theorem Zrk {M:Model}{A:Around}{E:Value→Shared→Prop}{s:Shared}{tg:Expr}{it:Addr}{u:Value}{o:Obj}{n:String}{vs:Array Value}{Q:Unit→Shared→Prop}(ho:s.heap.get? it=some o) (hc:o.cls=.type n) (hd:o.data=.fields vs)
  (hn:["enumerate","zip","dict_itemiterator","dict_reverseitemiterator","odict_iterator","itertools.zip_longest","itertools.pairwise"].contains n=false) (hQ:Q () s):wpAny M A (letOwnedTupleGo tg (.ref it) u) Q E s:=by
 unfold letOwnedTupleGo
 cases tg <;> first
  | exact wpAny_pure hQ
  | (cases u <;> first
    | exact wpAny_pure hQ
    | (refine wpAny_bind (wpAny_load ho ?_)
       rw [hc,hd]
       show wpAny M A (if (["enumerate","zip","dict_itemiterator","dict_reverseitemiterator","odict_iterator","itertools.zip_longest","itertools.pairwise"].contains n&&vs[0]? == some (rawInt _))=true then _ else _) Q E s
       rw [if_neg (by intro h;rw [hn,Bool.false_and] at h;cases h)]
       exact wpAny_pure hQ))
def Itl (K:W.Frag) (a:Addr):It :=
 ⟨fun i H=>∃ xs x,SqL K H a xs∧xs[i]?=some x,fun i H x H'=>H'=H∧∀ xs,SqL K H a xs→xs[i]?=some x,fun i H=>∃ xs,SqL K H a xs∧xs.length≤i⟩
def Itt (K:W.Frag) (a:Addr):It :=
 ⟨fun i H=>∃ xs x,SqT K H a xs∧xs[i]?=some x,fun i H x H'=>H'=H∧∀ xs,SqT K H a xs→xs[i]?=some x,fun i H=>∃ xs,SqT K H a xs∧xs.length≤i⟩
def Itr (lo:Int) (n:Nat):It:=⟨fun i _=>i<n,fun i H x H'=>H'=H∧x=.int (lo + i),fun i _=>n≤i⟩
theorem Zmb {P:Program}{w:World}{K:W.Frag}{tg:Expr} (a it:Addr):Zrs P w K tg (Itl K a) [it] it (fun i h=>h.IsListIter it a i) where
 mem:=by simp
 obj:=fun i h st b hb=>by
  have e:b=it:=by simpa using hb
  subst e
  obtain ⟨o,e,c,d⟩:=st
  exact ⟨o,e,fun v z=>by rw [d] at z;cases z⟩
 keep:=fun i h h' st k=>st.at fun o e=>k it (by simp) o e
 item:=by
  intro X hP hw hK hc i pins s σ H E I hf st hg
  subst hP hw hK
  obtain ⟨xs,x,hq,hx⟩:=hg
  obtain ⟨its,rv,p,hz⟩:=I.list hq
  obtain ⟨u,hu,ru⟩:=rv.get hx
  obtain ⟨f0,f1,f2,f3,f4,f5⟩:=hf it (by simp)
  refine wpAny_pyNext_list_item st p.isList (x:=u) (by simpa using hu) fun h' st' sb=>?_
  have I1:Inv X pins σ H { s with heap:=h' }:=I.turned (t':=s.toks) (fun b o hb e=>(sb.2 b hb).trans e) f0 f1 f3 f4 f5
  obtain ⟨o,e,c,d⟩:=id st'
  exact ⟨u,rfl,Zrk (s:={ s with heap:=h' }) e c d (by decide) ⟨x,H,I1,ru,⟨rfl,fun ys hy=>by rw [I.list_inj hy hq];exact hx⟩,st',fun b hb=>(hf b hb).1⟩⟩
 done:=by
  intro X hP hw hK hc i pins s σ H E I hf st hg
  subst hP hw hK
  obtain ⟨xs,hq,hx⟩:=hg
  obtain ⟨its,rv,p,hz⟩:=I.list hq
  obtain ⟨f0,f1,f2,f3,f4,f5⟩:=hf it (by simp)
  have hl:=rv.length
  exact wpAny_pyNext_list_end (I.ok.hd hc) st p.isList (by simp;omega) fun h' eb=>⟨rfl,I.turned (t':=s.toks) (fun b o hb e=>eb b o hb e) f0 f1 f3 f4 f5⟩
 self:=fun _ _ _ _ _ st h=>wpAny_pyIter_listiter st h
theorem Zj6 {P:Program}{w:World}{K:W.Frag}{tg:Expr} (a it:Addr):Zrs P w K tg (Itt K a) [it] it (fun i h=>h.IsTupleIter it a i) where
 mem:=by simp
 obj:=fun i h st b hb=>by
  have e:b=it:=by simpa using hb
  subst e
  obtain ⟨o,e,c,d⟩:=st
  exact ⟨o,e,fun v z=>by rw [d] at z;cases z⟩
 keep:=fun i h h' st k=>st.at fun o e=>k it (by simp) o e
 item:=by
  intro X hP hw hK hc i pins s σ H E I hf st hg
  subst hP hw hK
  obtain ⟨xs,x,hq,hx⟩:=hg
  obtain ⟨its,rv,p,hz⟩:=I.tuple hq
  obtain ⟨u,hu,ru⟩:=rv.get hx
  obtain ⟨f0,f1,f2,f3,f4,f5⟩:=hf it (by simp)
  refine wpAny_pyNext_tuple_item st (show s.heap.IsTuple a its.toArray from p) (x:=u) (by simpa using hu) fun h' st' sb=>?_
  have I1:Inv X pins σ H { s with heap:=h' }:=I.turned (t':=s.toks) (fun b o hb e=>(sb.2 b hb).trans e) f0 f1 f3 f4 f5
  obtain ⟨o,e,c,d⟩:=id st'
  exact ⟨u,rfl,Zrk (s:={ s with heap:=h' }) e c d (by decide) ⟨x,H,I1,ru,⟨rfl,fun ys hy=>by rw [I.tuple_inj hy hq];exact hx⟩,st',fun b hb=>(hf b hb).1⟩⟩
 done:=by
  intro X hP hw hK hc i pins s σ H E I hf st hg
  subst hP hw hK
  obtain ⟨xs,hq,hx⟩:=hg
  obtain ⟨its,rv,p,hz⟩:=I.tuple hq
  obtain ⟨f0,f1,f2,f3,f4,f5⟩:=hf it (by simp)
  have hl:=rv.length
  exact wpAny_pyNext_tuple_end (I.ok.hd hc) st (show s.heap.IsTuple a its.toArray from p) (by simp;omega) fun h' eb=>⟨rfl,I.turned (t':=s.toks) (fun b o hb e=>eb b o hb e) f0 f1 f3 f4 f5⟩
 self:=fun _ _ _ _ _ st h=>wpAny_pyIter_tupleiter st h
theorem Zqt {P:Program}{w:World}{K:W.Frag}{tg:Expr}(it:Addr) (lo:Int) (n:Nat):Zrs P w K tg (Itr lo n) [it] it (fun i h=>IsRangeIter h it (lo + (i:Nat) * 1) ((n:Int) - (i:Nat)) 1) where
 mem:=by simp
 obj:=fun i h st b hb=>by
  have e:b=it:=by simpa using hb
  subst e
  exact ⟨_,st,fun v z=>by
   have z':Data.fields _=Data.cell v:=z
   cases z'⟩
 keep:=fun i h h' st k=>k it (by simp) _ st
 item:=by
  intro X hP hw hK hc i pins s σ H E I hf st hg
  subst hP hw hK
  obtain ⟨f0,f1,f2,f3,f4,f5⟩:=hf it (by simp)
  have W:=Walks.range (prog:=X.prog) (w:=X.w) (I.ok.hd hc) it lo 1 n
  refine W.item i s _ _ hg st fun v h' tk hv st' kk=>?_
  obtain ⟨t,rfl⟩:=hv
  have I1:Inv X pins σ H { s with heap:=h',toks:=tk }:=I.turned (fun b o hb e=>kk b o (by simpa using hb) e) f0 f1 f3 f4 f5
  refine ⟨_,rfl,Zrk (s:={ s with heap:=h',toks:=tk }) (n:="range_iterator") st' rfl rfl (by decide) ⟨.int (lo + i),H,I1,⟨t,?_⟩,⟨rfl,rfl⟩,st',fun b hb=>(hf b hb).1⟩⟩
  rw [Int.mul_one]
 done:=by
  intro X hP hw hK hc i pins s σ H E I hf st hg
  subst hP hw hK
  obtain ⟨f0,f1,f2,f3,f4,f5⟩:=hf it (by simp)
  exact wpAny_pyNext_range_end (I.ok.hd hc) st (by have:n≤i:=hg;omega) fun h' eb=>⟨rfl,I.turned (t':=s.toks) (fun b o hb e=>eb b o hb e) f0 f1 f3 f4 f5⟩
 self:=fun _ _ _ _ _ st h=>wpAny_pyIter_rangeiter st h
end L2
namespace L2
open PySem PySem.Spec PyProof.Rows
section
variable {X:Cx} {tg:Expr}
def Z28 (K:W.Frag) (tl:TE):TI:=fun σ H R=>tl σ H fun x H1=>∃ a,x=.ref a∧(∃ xs,SqL K H1 a xs)∧R (Itl K a) H1
def Z6f (K:W.Frag) (tl:TE):TI:=fun σ H R=>tl σ H fun x H1=>∃ a,x=.ref a∧(∃ xs,SqT K H1 a xs)∧R (Itt K a) H1
theorem Zb1 {l:Expr}{tl:TE}(hl:PE X l tl):PI X tg l (Z28 X.K tl):=by
 intro pins s σ H R I h
 refine thn (hl pins s σ H _ I h) fun v s1 ⟨x,H1,I1,r1,q1⟩=>?_
 obtain ⟨a,e,⟨xs,hq⟩,q⟩:=q1
 subst e
 cases r1
 obtain ⟨its,rv,p,hz⟩:=I1.list hq
 refine wpAny_pyIter_list p.isList ?_
 refine ⟨s1.heap.objs.size,[s1.heap.objs.size],_,_,H1,rfl,I1.kept (t':=s1.toks) fun b o e=>Heap.get?_push_of_some _ e,Zmb a _,⟨_,Heap.get?_push_size _ rfl,rfl,rfl⟩,fun b hb=>?_,q⟩
 have e:b=s1.heap.objs.size:=by simpa using hb
 subst e
 exact I1.fpOk (Nat.le_refl _) (I1.hok.fresh (Nat.le_refl _))
theorem Zhe {l:Expr}{tl:TE}(hl:PE X l tl):PI X tg l (Z6f X.K tl):=by
 intro pins s σ H R I h
 refine thn (hl pins s σ H _ I h) fun v s1 ⟨x,H1,I1,r1,q1⟩=>?_
 obtain ⟨a,e,⟨xs,hq⟩,q⟩:=q1
 subst e
 cases r1
 obtain ⟨its,rv,p,hz⟩:=I1.tuple hq
 refine wpAny_pyIter_tuple (show s1.heap.IsTuple a its.toArray from p) ?_
 refine ⟨s1.heap.objs.size,[s1.heap.objs.size],_,_,H1,rfl,I1.kept (t':=s1.toks) fun b o e=>Heap.get?_push_of_some _ e,Zj6 a _,⟨_,Heap.get?_push_size _ rfl,rfl,rfl⟩,fun b hb=>?_,q⟩
 have e:b=s1.heap.objs.size:=by simpa using hb
 subst e
 exact I1.fpOk (Nat.le_refl _) (I1.hok.fresh (Nat.le_refl _))
theorem Zvh {pins:List (Addr×Obj)}{σ:St}{H:Hp}{s:Shared}{R:It→Hp→Prop}{E:Value→Shared→Prop}{lo hi:Int}{t u v:Tok}{tk:Nat}(I:Inv X pins σ H s) (h1:-(2 ^ 62)≤lo) (h2:lo<2 ^ 62) (h3:-(2 ^ 62)≤hi) (h4:hi<2 ^ 62)
  (q:R (Itr lo (hi - lo).toNat) H):wpAny (model X.prog X.w) X.A (pyIter (.ref s.heap.objs.size)) (PIE X pins σ tg R) E { s with heap:=s.heap.push { cls:=.type "range",data:=.fields #[.int lo t,.int hi u,.int 1 v] },toks:=tk }:=by
 refine wpAny_pyIter_range (IsRange.new ..) (small_one h1 h2 h3 h4) ?_
 have I1:Inv X pins σ H { s with heap:=s.heap.push { cls:=.type "range",data:=.fields #[.int lo t,.int hi u,.int 1 v] },toks:=tk }:=I.kept fun b o e=>Heap.get?_push_of_some _ e
 refine ⟨(s.heap.push { cls:=.type "range",data:=.fields #[.int lo t,.int hi u,.int 1 v] }).objs.size,[(s.heap.push { cls:=.type "range",data:=.fields #[.int lo t,.int hi u,.int 1 v] }).objs.size],_,_,H,rfl,
  I1.kept (t':=tk) fun b o e=>Heap.get?_push_of_some _ e,Zqt _ lo (hi - lo).toNat,?_,fun b hb=>?_,q⟩
 ·have e1:lo + ((0:Nat):Int) * 1=lo:=by simp
  have e2:(((hi - lo).toNat:Nat):Int) - ((0:Nat):Int)=Builtin.Range.rangeSize lo hi 1:=by rw [rangeSize_one];split <;> omega
  show IsRangeIter _ _ (lo + ((0:Nat):Int) * 1) ((((hi - lo).toNat:Nat):Int) - ((0:Nat):Int)) 1
  rw [e1,e2]
  exact Heap.get?_push_size _ rfl
 ·have e:b=(s.heap.push { cls:=.type "range",data:=.fields #[.int lo t,.int hi u,.int 1 v] }).objs.size:=by simpa using hb
  subst e
  exact I1.fpOk (Nat.le_refl _) (I1.hok.fresh (Nat.le_refl _))
def Z27 (ta:TA):TI:=fun σ H R=>ta σ H fun vs H1=>∃ j:Int,vs=[.int j]∧-(2 ^ 62)≤j∧j<2 ^ 62∧R (Itr 0 j.toNat) H1
theorem Zcf {a:Expr}{ta:TA}{p pos:Pos}(hg:Gl X "range") (hm:X.mg "range"=none) (ha:PA X [a] ta) (hs:starEach [a] X.env=[(false,eval a X.env)]:=by rfl):PI X tg (.Call (.Name "range" p) [a] [] pos) (Z27 ta):=by
 intro pins s σ H R I h
 refine Call_ (Zjf I hg hm boot_range (PyProof.Rows.callWith_type1 (thn (ha pos pins s σ H _ I h) fun us s1 ⟨vs,H1,I1,r1,q1⟩=>?_) hs rfl))
 obtain ⟨j,e,q1,q2,q⟩:=q1
 subst e
 cases r1 with
 | cons r rr =>
  cases rr
  obtain ⟨t,rfl⟩:=r
  exact call_range_1 (Zvh I1 (by omega) (by omega) q1 q2 (by simpa using q))
def Z5e (wi:TI) (g:TG) (tb:TS):TS:=fun D σ H=>wi σ H fun J H1=>∃ W:Nat→Nat→St→Hp→Prop,(∃ m,W 0 m σ H1)∧∀ i m σ H,W i m σ H →
 (J.stop i H∧D.nx σ H)∨(J.go i H∧∃ N:St→Hp→Prop,(∀ σ' H',N σ' H'→∃ m',m'<m∧W (i + 1) m' σ' H')∧∀ x H',J.yld i H x H'→g x σ H' fun σ2 H2=>tb { D with nx:=N,ct:=N,bk:=D.nx } σ2 H2)
def Zmx (fp:List Addr) (h:Heap):List (Addr×Obj):=fp.filterMap fun b=>(h.get? b).map fun o=>(b,o)
theorem Zgh {fp:List Addr}{h:Heap}{b:Addr}{o:Obj}(hb:b∈fp) (e:h.get? b=some o):(b,o)∈Zmx fp h:=List.mem_filterMap.mpr ⟨b,hb,by rw [e];rfl⟩
theorem Ztn {fp:List Addr}{h:Heap}{p:Addr×Obj}(hp:p∈Zmx fp h):p.1∈fp∧h.get? p.1=some p.2:=by
 obtain ⟨b,hb,e⟩:=List.mem_filterMap.mp hp
 cases q:h.get? b with
 | none=>rw [q] at e;cases e
 | some o =>
  rw [q] at e
  have e':(b,o)=p:=Option.some.inj e
  subst e'
  exact ⟨hb,q⟩
theorem Inv.pinned {pins:List (Addr×Obj)}{σ:St}{H:Hp}{s:Shared}{fp:List Addr}(I:Inv X pins σ H s) (hf:∀ b∈fp,Zj2 X pins H b) (ho:∀ b∈fp,∃ o,s.heap.get? b=some o∧∀ v,o.data≠.cell v):Inv X (pins++Zmx fp s.heap) σ H s :=
 I.pins_of fun p hp=>(List.mem_append.mp hp).elim (fun z=>I.pin p (List.mem_append_right _ z)) fun z=>by
  obtain ⟨hb,e⟩:=Ztn z
  obtain ⟨f0,f1,f2,_⟩:=hf p.1 hb
  obtain ⟨o,e',d⟩:=ho p.1 hb
  rw [e] at e';cases e'
  exact ⟨e,f0,f1,f2,d⟩
theorem Inv.unpinned {pins pl:List (Addr×Obj)}{σ:St}{H:Hp}{s:Shared}(I:Inv X (pins++pl) σ H s):Inv X pins σ H s:=I.pins_of fun p hp=>I.pin p (List.mem_append_right _ (List.mem_append_left _ hp))
theorem Zbn {iter:Expr}{body:List Stmt}{wi:TI}{g:TG}{tb:TS}{pos:Pos}(hp:PassesOwn (model X.prog X.w) X.A X.env X.xe) (hc:X.calm=true) (hi:PI X tg iter wi) (hg:PG X tg g) (hb:PSs X body tb)
  (hs:∀ x,foldedSetIterable iter X.env x=pure x:=by intro _;rfl):PS X (.For tg iter body [] pos) (Z5e wi g tb):=by
 intro pins s σ H D I h
 refine wpAny_For (thn (hi pins s σ H _ I h) fun v s1 h1=>thn h1 fun itv s2 h2=>?_) hs
 obtain ⟨it,fp,tn,J,H2,e,I2,T,st2,f2,W,⟨m0,w0⟩,turn⟩:=h2
 subst e
 have stat:∀ {H':Hp},(∀ b∈fp,H' b=none)→∀ b∈fp,Zj2 X pins H' b:=fun hn b hb=>⟨hn b hb,(f2 b hb).2⟩
 refine codeAny_forLoop_any (fun n s'=>∃ i σ' H',Inv X pins σ' H' s'∧tn i s'.heap∧(∀ b∈fp,H' b=none)∧W i n σ' H') ?_ m0 ⟨0,σ,H2,I2,st2,fun b hb=>(f2 b hb).1,w0⟩
 rintro n s3 ⟨i,σ3,H3,I3,st3,fr3,w3⟩
 rcases turn i n σ3 H3 w3 with ⟨stop,qn⟩ | ⟨go,N,hN,step⟩
 ·refine wpAny_passesOwn hp (thn (T.done X rfl rfl rfl hc i pins s3 σ3 H3 X.xe I3 (stat fr3) st3 stop) fun r s4 ⟨hr,I4⟩=>?_)
  subst hr
  exact wpAny_execs_nil ⟨σ3,H3,I4,qn⟩
 ·refine wpAny_passesOwn hp (thn (T.item X rfl rfl rfl hc i pins s3 σ3 H3 X.xe I3 (stat fr3) st3 go) fun r s4 ⟨u,hr,h4⟩=>?_)
  subst hr
  refine wpAny_passesOwn hp (thn h4 fun _ s5 ⟨x,H5,I5,r5,y5,st5,fr5⟩=>?_)
  have I5':=I5.pinned (stat fr5) (T.obj _ _ st5)
  refine wpAny_passesOwn hp (thn (hg _ s5 σ3 H5 x u _ I5' r5 (step x H5 y5)) fun _ s6 ⟨σ6,H6,I6,q6⟩=>?_)
  refine wpAny_passesOwn hp (thn (hb _ s6 σ6 H6 _ I6 q6) fun f s7 q7=>?_)
  have again:∀ {σ7:St} {H7:Hp},Inv X (pins++Zmx fp s5.heap) σ7 H7 s7→N σ7 H7→∃ m,m<n∧∃ i σ' H',Inv X pins σ' H' s7∧tn i s7.heap∧(∀ b∈fp,H' b=none)∧W i m σ' H':=fun {σ7 H7} I7 n7=>by
   obtain ⟨m',hm,w7⟩:=hN σ7 H7 n7
   refine ⟨m',hm,i + 1,σ7,H7,I7.unpinned,T.keep _ _ _ st5 fun b hb o e=>(I7.pin (b,o) (List.mem_append_right _ (List.mem_append_right _ (Zgh hb e)))).1,fun b hb=>?_,w7⟩
   obtain ⟨o,e,d⟩:=T.obj _ _ st5 b hb
   exact (I7.pin (b,o) (List.mem_append_right _ (List.mem_append_right _ (Zgh hb e)))).2.1
  cases f with
  | next=>obtain ⟨σ7,H7,I7,n7⟩:=q7;exact again I7 n7
  | cont=>obtain ⟨σ7,H7,I7,n7⟩:=q7;exact again I7 n7
  | brk=>obtain ⟨σ7,H7,I7,q7⟩:=q7;exact ⟨σ7,H7,I7.unpinned,q7⟩
  | ret v=>obtain ⟨x7,σ7,H7,I7,r7,q7⟩:=q7;exact ⟨x7,σ7,H7,I7.unpinned,r7,q7⟩
end
end L2
namespace L2
open PySem PySem.Spec PyProof.Rows
abbrev R2:=V→V→Hp→VK→Prop
def OpR (X:Cx) (f:Value→Value→Sem Value) (r:R2):Prop :=
 ∀ (pins:List (Addr×Obj)) (s:Shared) (σ:St) (H:Hp) (x y:V) (v u:Value) (Q:VK),Inv X pins σ H s→Zb7 x v→Zb7 y u→r x y H Q →
  wpAny (model X.prog X.w) X.A (f v u) (EP X pins σ Q) X.xe s
def UnR (X:Cx) (f:Value→Sem Value) (r:V→Hp→VK→Prop):Prop :=
 ∀ (pins:List (Addr×Obj)) (s:Shared) (σ:St) (H:Hp) (x:V) (v:Value) (Q:VK),Inv X pins σ H s→Zb7 x v→r x H Q →
  wpAny (model X.prog X.w) X.A (f v) (EP X pins σ Q) X.xe s
def Zif (X:Cx) (f:Value) (r:List V→Hp→VK→Prop):Prop :=
 ∀ (pins:List (Addr×Obj)) (s:Shared) (σ:St) (H:Hp) (xs:List V) (us:List Value) (Q:VK),Inv X pins σ H s→Zbr xs us→r xs H Q →
  wpAny (model X.prog X.w) X.A (call f us) (EP X pins σ Q) X.xe s
def Z6u (X:Cx) (r:V→Hp→(Bool→Hp→Prop)→Prop):Prop :=
 ∀ (pins:List (Addr×Obj)) (s:Shared) (σ:St) (H:Hp) (x:V) (v:Value) (Q:Bool→Hp→Prop),Inv X pins σ H s→Zb7 x v→r x H Q →
  wpAny (model X.prog X.w) X.A (truthy v) (TP X pins σ Q) X.xe s
def tOp (r:R2) (ta tb:TE):TE:=fun σ H Q=>ta σ H fun x H1=>tb σ H1 fun y H2=>r x y H2 Q
def tUn (r:V→Hp→VK→Prop) (ta:TE):TE:=fun σ H Q=>ta σ H fun x H1=>r x H1 Q
def rI (C:Int→Int→Prop) (g:Int→Int→V):R2:=fun x y H Q=>∃ i j,x=.int i∧y=.int j∧C i j∧Q (g i j) H
def rI0 (g:Int→Int→V):R2:=fun x y H Q=>∃ i j,x=.int i∧y=.int j∧Q (g i j) H
def rU (g:Int→V):V→Hp→VK→Prop:=fun x H Q=>∃ i,x=.int i∧Q (g i) H
section
variable {X:Cx} {a b c:Expr} {ta tb tc:TE} {pos:Pos}
theorem Z3g (ha:PE X a ta) (hb:PE X b tb) {pins:List (Addr×Obj)}{s:Shared}{σ:St}{H:Hp}{R:V→V→Hp→Prop}(I:Inv X pins σ H s)
  (h:ta σ H fun x H1=>tb σ H1 fun y H2=>R x y H2) {Q:Value→Shared→Prop} {f:Value→Value→Sem Value}
  (hf:∀ v u s2 x y H2,Inv X pins σ H2 s2→Zb7 x v→Zb7 y u→R x y H2→wpAny (model X.prog X.w) X.A (f v u) Q X.xe s2):
  wpAny (model X.prog X.w) X.A (eval a X.env) (fun v s₁=>wpAny (model X.prog X.w) X.A (eval b X.env) (fun u s₂=>wpAny (model X.prog X.w) X.A (f v u) Q X.xe s₂) X.xe s₁) X.xe s:=by
 refine thn (ha pins s σ H _ I h) fun v s1 ⟨x,H1,I1,r1,q1⟩=>?_
 refine thn (hb pins s1 σ H1 _ I1 q1) fun u s2 ⟨y,H2,I2,r2,q2⟩=>?_
 exact hf v u s2 x y H2 I2 r1 r2 q2
theorem Zbs {op:Operator}{r:R2}(ho:OpR X (binaryOp op) r) (ha:PE X a ta) (hb:PE X b tb):PE X (.BinOp a op b pos) (tOp r ta tb):=by
 intro pins s σ H Q I h
 exact wpAny_BinOp (Z3g ha hb I h fun v u s2 x y H2 I2 rx ry q=>ho pins s2 σ H2 x y v u Q I2 rx ry q)
theorem Zs8 {op:UnaryOp}{r:V→Hp→VK→Prop}(ho:UnR X (unaryOp op) r) (ha:PE X a ta):PE X (.UnaryOp op a pos) (tUn r ta):=by
 intro pins s σ H Q I h
 exact UnaryOp_ (thn (ha pins s σ H _ I h) fun v s1 ⟨x,H1,I1,r1,q1⟩=>ho pins s1 σ H1 x v Q I1 r1 q1)
theorem opI {f:Value→Value→Sem Value}{C:Int→Int→Prop}{g:Int→Int→Int}
  (rule:∀ (i j:Int) (t u:Tok) (s:Shared) (Q:Value→Shared→Prop) (E:Value→Shared→Prop),C i j→Q (.int (g i j) s.toks) { s with toks:=s.toks + 1 }→wpAny (model X.prog X.w) X.A (f (.int i t) (.int j u)) Q E s):
  OpR X f (rI C fun i j=>.int (g i j)):=by
 intro pins s σ H x y v u Q I rx ry h
 obtain ⟨i,j,rfl,rfl,hc,q⟩:=h
 obtain ⟨t,rfl⟩:=rx
 obtain ⟨t',rfl⟩:=ry
 exact rule i j t t' s _ _ hc ⟨.int (g i j),H,I.tok _,⟨_,rfl⟩,q⟩
theorem Z4m {f:Value→Value→Sem Value}{g:Int→Int→Int}
  (rule:∀ (i j:Int) (t u:Tok) (s:Shared) (Q:Value→Shared→Prop) (E:Value→Shared→Prop),Q (.int (g i j) s.toks) { s with toks:=s.toks + 1 }→wpAny (model X.prog X.w) X.A (f (.int i t) (.int j u)) Q E s):
  OpR X f (rI0 fun i j=>.int (g i j)):=by
 intro pins s σ H x y v u Q I rx ry h
 obtain ⟨i,j,rfl,rfl,q⟩:=h
 obtain ⟨t,rfl⟩:=rx
 obtain ⟨t',rfl⟩:=ry
 exact rule i j t t' s _ _ ⟨.int (g i j),H,I.tok _,⟨_,rfl⟩,q⟩
theorem Z11 {f:Value→Value→Sem Value}{g:Int→Int→Bool}
  (rule:∀ (i j:Int) (t u:Tok) (s:Shared) (Q:Value→Shared→Prop) (E:Value→Shared→Prop),Q (.bool (g i j)) s→wpAny (model X.prog X.w) X.A (f (.int i t) (.int j u)) Q E s):
  OpR X f (rI0 fun i j=>.bl (g i j)):=by
 intro pins s σ H x y v u Q I rx ry h
 obtain ⟨i,j,rfl,rfl,q⟩:=h
 obtain ⟨t,rfl⟩:=rx
 obtain ⟨t',rfl⟩:=ry
 exact rule i j t t' s _ _ ⟨.bl (g i j),H,I,rfl,q⟩
def Z6y (i j:Int):Prop:=0<j∧j<1073741824
def Z6x (i j:Int):Prop:=0≤j∧j≤1000000∧i.natAbs<2 ^ 64
def Z3t (i j:Int):Prop:=(-(2 ^ 64)<i∧i<2 ^ 64)∨(-(2 ^ 64)<j∧j<2 ^ 64)
theorem Z3t.ok {i j:Int}(h:Z3t i j):IntMulOk i j:=by
 rcases h with ⟨h1,h2⟩ | ⟨h1,h2⟩
 ·exact .of_left (intBits_le_64 h1 h2)
 ·exact .of_right (intBits_le_64 h1 h2)
theorem Zkj:OpR X (binaryOp .Add) (rI0 fun i j=>.int (i + j)):=Z4m fun _ _ _ _ _ _ _ q=>add_int q
theorem Zxi:OpR X (binaryOp .Sub) (rI0 fun i j=>.int (i - j)):=Z4m fun _ _ _ _ _ _ _ q=>sub_int q
theorem Zki:OpR X (binaryOp .Mult) (rI Z3t fun i j=>.int (i * j)):=opI fun _ _ _ _ _ _ _ hc q=>mul_int q hc.ok
theorem Ztb:OpR X (binaryOp .FloorDiv) (rI Z6y fun i j=>.int (i / j)):=opI fun i j _ _ _ _ _ hc q=>by
 have h1:(0:Int)<j:=hc.1
 have h2:j<1073741824:=hc.2
 exact floordiv_int (by omega) (by rw [Int.fdiv_eq_ediv_of_nonneg i (by omega)];exact q) (.inl (PyProof.noPylong_small (by omega)))
theorem Zh7:OpR X (binaryOp .Mod) (rI (fun _ j=>0<j) fun i j=>.int (i % j)):=opI fun i j _ _ _ _ _ hc q=>by
 have h1:(0:Int)<j:=hc
 exact mod_int' (by omega) (by rw [Int.fmod_eq_emod_of_nonneg i (by omega)];exact q)
theorem Zmz:OpR X (binaryOp .Pow) (rI Z6x fun i j=>.int (i ^ j.toNat)):=opI fun _ _ _ _ _ _ _ hc q=>pow_int_small hc.1 hc.2.1 hc.2.2 q
theorem unI {f:Value→Sem Value}{g:Int→Int}
  (rule:∀ (i:Int) (t:Tok) (s:Shared) (Q:Value→Shared→Prop) (E:Value→Shared→Prop),Q (.int (g i) s.toks) { s with toks:=s.toks + 1 }→wpAny (model X.prog X.w) X.A (f (.int i t)) Q E s):
  UnR X f (rU fun i=>.int (g i)):=by
 intro pins s σ H x v Q I rx h
 obtain ⟨i,rfl,q⟩:=h
 obtain ⟨t,rfl⟩:=rx
 exact rule i t s _ _ ⟨.int (g i),H,I.tok _,⟨_,rfl⟩,q⟩
theorem Zma:UnR X (unaryOp .USub) (rU fun i=>.int (-i)):=unI fun _ _ _ _ _ q=>neg_int q
end
def Z3w:V→V→Bool
 | .non,.non=>true | .non,.int _=>true | .int _,.non=>true | .non,.bl _=>true | .bl _,.non=>true | .non,.str _=>true | .str _,.non=>true
 | .int _,.int _=>true | .bl _,.bl _=>true | .str _,.str _=>true | .byt _,.byt _=>true
 | .int _,.str _=>true | .str _,.int _=>true | .bl _,.str _=>true | .str _,.bl _=>true
 | _,_=>false
def rEq:R2:=fun x y H Q=>Z3w x y=true∧Q (.bl (decide (x=y))) H
def rNe:R2:=fun x y H Q=>Z3w x y=true∧Q (.bl (!decide (x=y))) H
theorem Zuk {i j:Int}:decide (V.int i=V.int j)=(i == j):=by
 rw [Bool.eq_iff_iff]
 simp
theorem Zxs {i j:Bool}:decide (V.bl i=V.bl j)=(i == j):=by
 rw [Bool.eq_iff_iff]
 simp
theorem Zuj {i j:Str}:decide (V.str i=V.str j)=(i == j):=by
 rw [Bool.eq_iff_iff]
 simp
theorem Zul {i j:Array UInt8}:decide (V.byt i=V.byt j)=(i.toList == j.toList):=by
 rw [Bool.eq_iff_iff]
 cases i
 cases j
 simp
section
variable {X:Cx} {a b c:Expr} {ta tb tc:TE} {pos:Pos}
theorem Zbf {pins:List (Addr×Obj)}{σ:St}{H:Hp}{s:Shared}{Q:VK}{k k':Bool}(I:Inv X pins σ H s) (q:Q (.bl k) H) (e:k=k'):EP X pins σ Q (.bool k') s:=by
 subst e
 exact ⟨.bl k,H,I,rfl,q⟩
theorem Ze9:OpR X (compareOp .Eq) rEq:=by
 intro pins s σ H x y v u Q I rx ry h
 obtain ⟨hs,q⟩:=h
 cases x with
 | non =>
  cases rx
  cases y with
  | non=>cases ry;exact PySem.EqNone.eq_none_none (Zbf I q (by simp))
  | bl j=>cases ry;exact PySem.EqNone.eq_none_bool (Zbf I q (by simp))
  | int j=>obtain ⟨t',rfl⟩:=ry;exact PySem.EqNone.eq_none_int (Zbf I q (by simp))
  | str j=>obtain ⟨t',rfl⟩:=ry;exact PySem.EqNone.eq_none_str (Zbf I q (by simp))
  | _=>exact absurd (show false=true from hs) Bool.false_ne_true
 | bl i =>
  cases rx
  cases y with
  | non=>cases ry;exact PySem.EqNone.eq_bool_none (Zbf I q (by simp))
  | bl j=>cases ry;exact eq_bool (Zbf I q Zxs)
  | str j=>obtain ⟨t',rfl⟩:=ry;exact PySem.EqMixed.eq_bool_str (Zbf I q (by simp))
  | _=>exact absurd (show false=true from hs) Bool.false_ne_true
 | int i =>
  obtain ⟨t,rfl⟩:=rx
  cases y with
  | non=>cases ry;exact PySem.EqNone.eq_int_none (Zbf I q (by simp))
  | int j=>obtain ⟨t',rfl⟩:=ry;exact eq_int (Zbf I q Zuk)
  | str j=>obtain ⟨t',rfl⟩:=ry;exact PySem.EqMixed.eq_int_str (Zbf I q (by simp))
  | _=>exact absurd (show false=true from hs) Bool.false_ne_true
 | str i =>
  obtain ⟨t,rfl⟩:=rx
  cases y with
  | non=>cases ry;exact PySem.EqNone.eq_str_none (Zbf I q (by simp))
  | bl j=>cases ry;exact PySem.EqMixed.eq_str_bool (Zbf I q (by simp))
  | int j=>obtain ⟨t',rfl⟩:=ry;exact PySem.EqMixed.eq_str_int (Zbf I q (by simp))
  | str j=>obtain ⟨t',rfl⟩:=ry;exact eq_str (Zbf I q Zuj)
  | _=>exact absurd (show false=true from hs) Bool.false_ne_true
 | byt i =>
  obtain ⟨t,rfl⟩:=rx
  cases y with
  | byt j=>obtain ⟨t',rfl⟩:=ry;exact W.eq_bytes (Zbf I q Zul)
  | _=>exact absurd (show false=true from hs) Bool.false_ne_true
 | _=>cases y <;> exact absurd (show false=true from hs) Bool.false_ne_true
theorem Z2q:OpR X (compareOp .NotEq) rNe:=by
 intro pins s σ H x y v u Q I rx ry h
 obtain ⟨hs,q⟩:=h
 cases x with
 | non =>
  cases rx
  cases y with
  | non=>cases ry;exact PySem.EqNone.ne_none_none (Zbf I q (by simp))
  | bl j=>cases ry;exact PySem.EqNone.ne_none_bool (Zbf I q (by simp))
  | int j=>obtain ⟨t',rfl⟩:=ry;exact PySem.EqNone.ne_none_int (Zbf I q (by simp))
  | str j=>obtain ⟨t',rfl⟩:=ry;exact PySem.EqNone.ne_none_str (Zbf I q (by simp))
  | _=>exact absurd (show false=true from hs) Bool.false_ne_true
 | bl i =>
  cases rx
  cases y with
  | non=>cases ry;exact PySem.EqNone.ne_bool_none (Zbf I q (by simp))
  | bl j=>cases ry;exact ne_bool (Zbf I q (congrArg not Zxs))
  | str j=>obtain ⟨t',rfl⟩:=ry;exact PySem.EqMixed.ne_bool_str (Zbf I q (by simp))
  | _=>exact absurd (show false=true from hs) Bool.false_ne_true
 | int i =>
  obtain ⟨t,rfl⟩:=rx
  cases y with
  | non=>cases ry;exact PySem.EqNone.ne_int_none (Zbf I q (by simp))
  | int j=>obtain ⟨t',rfl⟩:=ry;exact ne_int (Zbf I q (congrArg not Zuk))
  | str j=>obtain ⟨t',rfl⟩:=ry;exact PySem.EqMixed.ne_int_str (Zbf I q (by simp))
  | _=>exact absurd (show false=true from hs) Bool.false_ne_true
 | str i =>
  obtain ⟨t,rfl⟩:=rx
  cases y with
  | non=>cases ry;exact PySem.EqNone.ne_str_none (Zbf I q (by simp))
  | bl j=>cases ry;exact PySem.EqMixed.ne_str_bool (Zbf I q (by simp))
  | int j=>obtain ⟨t',rfl⟩:=ry;exact PySem.EqMixed.ne_str_int (Zbf I q (by simp))
  | str j=>obtain ⟨t',rfl⟩:=ry;exact ne_str (Zbf I q (congrArg not Zuj))
  | _=>exact absurd (show false=true from hs) Bool.false_ne_true
 | byt i =>
  obtain ⟨t,rfl⟩:=rx
  cases y with
  | byt j=>obtain ⟨t',rfl⟩:=ry;exact W.ne_bytes (Zbf I q (congrArg not Zul))
  | _=>exact absurd (show false=true from hs) Bool.false_ne_true
 | _=>cases y <;> exact absurd (show false=true from hs) Bool.false_ne_true
theorem Zta:OpR X (compareOp .Lt) (rI0 fun i j=>.bl (decide (i<j))):=Z11 fun _ _ _ _ _ _ _ q=>lt_int q
theorem Zid:OpR X (compareOp .LtE) (rI0 fun i j=>.bl (decide (i≤j))):=Z11 fun _ _ _ _ _ _ _ q=>le_int q
theorem Zi9:OpR X (compareOp .Gt) (rI0 fun i j=>.bl (decide (j<i))):=Z11 fun _ _ _ _ _ _ _ q=>gt_int q
theorem Zvs:OpR X (compareOp .GtE) (rI0 fun i j=>.bl (decide (j≤i))):=Z11 fun _ _ _ _ _ _ _ q=>ge_int q
theorem Zm0:OpR X (compareOp .In) (fun x y H Q=>∃ i j,x=.str i∧y=.str j∧Q (.bl (!(Builtin.Str.occurrences j i 0 j.length 1).isEmpty)) H):=by
 intro pins s σ H x y v u Q I rx ry h
 obtain ⟨i,j,rfl,rfl,q⟩:=h
 obtain ⟨t,rfl⟩:=rx
 obtain ⟨t',rfl⟩:=ry
 exact in_str (Zbf I q rfl)
theorem Zxj:OpR X (compareOp .Is) (fun x y H Q=>y=.non∧Q (.bl (decide (x=.non))) H):=by
 intro pins s σ H x y v u Q I rx ry h
 obtain ⟨rfl,q⟩:=h
 cases ry
 refine is_none_gen (Zbf I q ?_)
 cases x <;> first
  | (cases rx;rfl)
  | (obtain ⟨t,rfl⟩:=rx;rfl)
theorem Zaz (b:Expr) {op:CmpOp}(h:op≠.In:=by decide) (h2:op≠.NotIn:=by decide):behindInMarks op b=false:=by
 have e1:(op == CmpOp.In)=false:=by cases op <;> first | rfl | exact absurd rfl h
 have e2:(op == CmpOp.NotIn)=false:=by cases op <;> first | rfl | exact absurd rfl h2
 cases b <;> simp [behindInMarks,e1,e2]
theorem Zeg {op:CmpOp}{r:R2}(ho:OpR X (compareOp op) r) (ha:PE X a ta) (hb:PE X b tb) (hm:behindInMarks op b=false):PE X (.Compare a [op] [b] pos) (tOp r ta tb):=by
 intro pins s σ H Q I h
 exact wpAny_Compare1 (Z3g ha hb I h fun v u s2 x y H2 I2 rx ry q=>ho pins s2 σ H2 x y v u Q I2 rx ry q) hm
def Zz6 (t:TE):TT:=fun σ H Q=>t σ H fun x H'=>∃ k,x=.bl k∧Q k H'
theorem Zap {op:CmpOp}{r:R2}(ho:OpR X (compareOp op) r) (ha:PE X a ta) (hb:PE X b tb) (hm:behindInMarks op b=false):PT X (.Compare a [op] [b] pos) (Zz6 (tOp r ta tb)):=by
 intro pins s σ H Q I h
 refine wpAny_isTrue_Compare1 (thn (ha pins s σ H _ I h) fun v s1 ⟨x,H1,I1,r1,q1⟩=>thn (hb pins s1 σ H1 _ I1 q1) fun u s2 ⟨y,H2,I2,r2,q2⟩ =>
  thn (ho pins s2 σ H2 x y v u _ I2 r1 r2 q2) fun c s3 ⟨z,H3,I3,r3,k,e,q3⟩=>?_) hm
 subst e
 cases r3
 exact wpAny_truthy_bool ⟨H3,I3,q3⟩
def Zw7 (r r':R2) (ta tb tc:TE):TE:=fun σ H Q=>ta σ H fun x H1=>tb σ H1 fun y H2=>r x y H2 fun z H3=>∃ k,z=.bl k ∧
 (if k=true then tc σ H3 fun w' H4=>r' y w' H4 Q else Q (.bl false) H3)
theorem Zvr {op op':CmpOp}{r r':R2}(ho:OpR X (compareOp op) r) (ho':OpR X (compareOp op') r') (ha:PE X a ta) (hb:PE X b tb) (hc:PE X c tc)
  (hm:lastMarks [op,op'] [b,c]=false:=by with_unfolding_all rfl):PE X (.Compare a [op,op'] [b,c] pos) (Zw7 r r' ta tb tc):=by
 intro pins s σ H Q I h
 refine Compare_chain (thn (ha pins s σ H _ I h) fun v s1 ⟨x,H1,I1,r1,q1⟩=>chain_link (thn (hb pins s1 σ H1 _ I1 q1) fun u s2 ⟨y,H2,I2,r2,q2⟩ =>
  thn (ho pins s2 σ H2 x y v u _ I2 r1 r2 q2) fun d s3 ⟨z,H3,I3,r3,k,e,q3⟩=>?_)) hm
 subst e
 cases r3
 refine wpAny_truthy_bool ?_
 cases k with
 | false=>exact ite_ff ⟨.bl false,H3,I3,rfl,q3⟩
 | true=>exact ite_tt (chain_last (thn (hc pins s3 σ H3 _ I3 q3) fun w' s4 ⟨z',H4,I4,r4,q4⟩=>ho' pins s4 σ H4 y z' u w' Q I4 r2 r4 q4))
theorem Zhc {op op':CmpOp}{r r':R2}(ho:OpR X (compareOp op) r) (ho':OpR X (compareOp op') r') (ha:PE X a ta) (hb:PE X b tb) (hc:PE X c tc)
  (hm:lastMarks [op,op'] [b,c]=false:=by with_unfolding_all rfl):PT X (.Compare a [op,op'] [b,c] pos) (Zz6 (Zw7 r r' ta tb tc)):=by
 intro pins s σ H Q I h
 refine isTrue_chain (thn (ha pins s σ H _ I h) fun v s1 ⟨x,H1,I1,r1,q1⟩=>test_link (thn (hb pins s1 σ H1 _ I1 q1) fun u s2 ⟨y,H2,I2,r2,q2⟩ =>
  thn (ho pins s2 σ H2 x y v u _ I2 r1 r2 q2) fun d s3 ⟨z,H3,I3,r3,k,e,q3⟩=>?_)) hm
 subst e
 cases r3
 refine wpAny_truthy_bool ?_
 cases k with
 | false =>
  obtain ⟨k',e',q'⟩:=q3
  cases e'
  exact ite_ff ⟨H3,I3,q'⟩
 | true =>
  refine ite_tt (test_last (thn (hc pins s3 σ H3 _ I3 q3) fun w' s4 ⟨z',H4,I4,r4,q4⟩=>thn (ho' pins s4 σ H4 y z' u w' _ I4 r2 r4 q4) fun d' s5 ⟨z2,H5,I5,r5,k2,e2,q5⟩=>?_))
  subst e2
  cases r5
  exact wpAny_truthy_bool ⟨H5,I5,q5⟩
def Z4w (K:W.Frag) (x:V) (H:Hp) (k:Bool):Prop :=
 match x with
 | .non=>k=false
 | .bl b=>k=b
 | .int i=>k=(i != 0)
 | .str y=>y.length≤sizeLine∧k=((y.length:Int) != 0)
 | .byt y=>y.size≤sizeLine∧k=((y.size:Int) != 0)
 | .ref p=>(∃ xs,SqL K H p xs∧k=!xs.isEmpty)∨(∃ xs,SqT K H p xs∧k=!xs.isEmpty)∨∃ kvs,H p=some (.dK kvs)∧k=!kvs.isEmpty
 | _=>False
theorem Zrj {κ:Type}{kvs:List (κ×V)}{vs:List (κ×Value)}(r:KV kvs vs):(!vs.isEmpty)=!kvs.isEmpty:=by
 cases r <;> rfl
theorem Zko {xs:List V}{its:List Value}(r:Zbr xs its):(!its.toArray.isEmpty)=!xs.isEmpty:=by
 cases r <;> simp
theorem Zjd:(sizeLine:Nat)<2 ^ 63:=by rw [sizeLine_eq];decide
theorem Zz3:Z6u X (fun x H Q=>∃ k,Z4w X.K x H k∧Q k H):=by
 intro pins s σ H x v Q I rx h
 obtain ⟨k,e,q⟩:=h
 have hl:=Zjd
 have hs:sizeLine=16777216:=sizeLine_eq
 cases x with
 | non =>
  cases rx
  have e':k=false:=e
  subst e'
  exact truthy_none ⟨H,I,q⟩
 | bl b =>
  cases rx
  have e':k=b:=e
  subst e'
  exact wpAny_truthy_bool ⟨H,I,q⟩
 | int i =>
  obtain ⟨t,rfl⟩:=rx
  have e':k=(i != 0):=e
  subst e'
  exact PySem.P.truthy_int ⟨H,I,q⟩
 | str y =>
  obtain ⟨t,rfl⟩:=rx
  obtain ⟨hy,e'⟩:y.length≤sizeLine∧k=((y.length:Int) != 0):=e
  subst e'
  exact PySem.P.truthy_str (by omega) ⟨H,I.tok _,q⟩
 | byt y =>
  obtain ⟨t,rfl⟩:=rx
  obtain ⟨hy,e'⟩:y.size≤sizeLine∧k=((y.size:Int) != 0):=e
  subst e'
  exact W.truthy_bytes (by omega) ⟨H,I.tok _,q⟩
 | ref p =>
  cases rx
  have e':(∃ xs,SqL X.K H p xs∧k=!xs.isEmpty)∨(∃ xs,SqT X.K H p xs∧k=!xs.isEmpty)∨∃ kvs,H p=some (.dK kvs)∧k=!kvs.isEmpty:=e
  rcases e' with ⟨xs,hx,e'⟩ | ⟨xs,hx,e'⟩ | ⟨kvs,hx,e'⟩
  ·subst e'
   obtain ⟨its,r,pl,hz⟩:=I.list hx
   have hlen:=r.length
   exact wpAny_truthy_list pl.isList (by simp only [List.size_toArray];omega) ⟨H,I.tok _,by rw [Zko r];exact q⟩
  ·subst e'
   obtain ⟨its,r,pl,hz⟩:=I.tuple hx
   have hlen:=r.length
   exact truthy_tuple pl (by simp only [List.size_toArray];omega) ⟨H,I.tok _,by rw [Zko r];exact q⟩
  ·subst e'
   obtain ⟨hz,hS,vs,r,m⟩:kvs.length≤sizeLine∧(p == sysModules)=false∧∃ vs,KV kvs vs∧s.heap.DictOf (Zbc X.prog X.w) p vs:=I.hok p _ hx
   have hlen:kvs.length=vs.length:=Paired.length r
   exact wpAny_truthy_dict hS m (by omega) ⟨H,I.tok _,by rw [Zrj r];exact q⟩
 | _=>exact (show False from e).elim
theorem Zik (ha:PE X a ta) (he:∀ whole,isTrue a X.env whole=(do let v ← whole;standAt a.pos;holding [v] (truthy v))):
  PT X a (fun σ H Q=>ta σ H fun x H'=>∃ k,Z4w X.K x H' k∧Q k H'):=by
 intro pins s σ H Q I h
 exact isTrue_plain (thn (ha pins s σ H _ I h) fun v s1 ⟨x,H1,I1,r1,q1⟩=>Zz3 pins s1 σ H1 x v Q I1 r1 q1) (he _)
theorem Zqy:OpR X (binaryOp .Add) (fun x y H Q=>∃ i j,x=.str i∧y=.str j∧i.length + j.length≤sizeLine∧Q (.str (i++j)) H):=by
 intro pins s σ H x y v u Q I rx ry h
 obtain ⟨i,j,rfl,rfl,hz,q⟩:=h
 obtain ⟨t,rfl⟩:=rx
 obtain ⟨t',rfl⟩:=ry
 exact add_str (fun t' tk=>⟨.str (i++j),H,I.tok _,⟨_,rfl⟩,q⟩) hz
theorem Zkx {x:V}{us:List Value}(r:Zbr [x] us):∃ u,us=[u]∧Zb7 x u:=by
 cases r with
 | cons r1 r2=>cases r2;exact ⟨_,rfl,r1⟩
theorem Zz1 {x y:V}{us:List Value}(r:Zbr [x,y] us):∃ u w',us=[u,w']∧Zb7 x u∧Zb7 y w':=by
 cases r with
 | cons r1 r2 =>
  cases r2 with
  | cons r3 r4=>cases r4;exact ⟨_,_,rfl,r1,r3⟩
theorem Zjq:Zif X (.type "int") (fun xs H Q=>(∃ i,xs=[.int i]∧Q (.int i) H)∨∃ k,xs=[.bl k]∧Q (.int (if k then 1 else 0)) H):=by
 intro pins s σ H xs us Q I r h
 rcases h with ⟨i,rfl,q⟩ | ⟨k,rfl,q⟩
 ·obtain ⟨u,rfl,t,rfl⟩:=Zkx r
  exact call_int_int ⟨.int i,H,I,⟨_,rfl⟩,q⟩
 ·obtain ⟨u,rfl,r1⟩:=Zkx r
  cases r1
  exact call_int_bool ⟨.int (if k then 1 else 0),H,I.tok _,⟨_,rfl⟩,q⟩
def Z41 (K:W.Frag) (x:V) (H:Hp) (n:Nat):Prop :=
 match x with
 | .str y=>y.length≤sizeLine∧n=y.length
 | .byt y=>y.size≤sizeLine∧n=y.size
 | .ref p=>(∃ xs,SqL K H p xs∧n=xs.length)∨∃ xs,SqT K H p xs∧n=xs.length
 | _=>False
theorem Zca:Zif X (.builtin "len") (fun xs H Q=>∃ x n,xs=[x]∧Z41 X.K x H n∧Q (.int n) H):=by
 intro pins s σ H xs us Q I r h
 obtain ⟨x,n,rfl,e,q⟩:=h
 obtain ⟨u,rfl,rx⟩:=Zkx r
 have hl:=Zjd
 have hs:sizeLine=16777216:=sizeLine_eq
 cases x with
 | str y =>
  obtain ⟨t,rfl⟩:=rx
  obtain ⟨hy,e'⟩:y.length≤sizeLine∧n=y.length:=e
  subst e'
  exact len_str (by omega) ⟨.int _,H,I.tok _,⟨_,rfl⟩,q⟩
 | byt y =>
  obtain ⟨t,rfl⟩:=rx
  obtain ⟨hy,e'⟩:y.size≤sizeLine∧n=y.size:=e
  subst e'
  exact W.len_bytes (by omega) ⟨.int _,H,I.tok _,⟨_,rfl⟩,q⟩
 | ref p =>
  cases rx
  have e':(∃ xs,SqL X.K H p xs∧n=xs.length)∨∃ xs,SqT X.K H p xs∧n=xs.length:=e
  rcases e' with ⟨xs,hx,e'⟩ | ⟨xs,hx,e'⟩
  ·subst e'
   obtain ⟨its,r',pl,hz⟩:=I.list hx
   have hlen:=r'.length
   exact Calls.call_len_list pl.isList (by simp only [List.size_toArray];omega) ⟨.int xs.length,H,I.tok _,⟨_,by simp only [List.size_toArray];rw [hlen]⟩,q⟩
  ·subst e'
   obtain ⟨its,r',pl,hz⟩:=I.tuple hx
   have hlen:=r'.length
   exact len_tuple pl (by simp only [List.size_toArray];omega) ⟨.int xs.length,H,I.tok _,⟨_,by simp only [List.size_toArray];rw [hlen]⟩,q⟩
 | _=>exact (show False from e).elim
end
end L2
namespace L2
open PySem PySem.Spec PyProof.Rows
structure Zzs (h:Heap) (x dx C:Addr) (mA:Str→Option Value):Prop where
 obj:h.get? x=some (W.instObj C dx)
 ns:h.Ns1 dx mA
 ne:dx≠x
theorem Zne {h:Heap}{dx:Addr}{mA:Str→Option Value}(n:h.Ns1 dx mA):∃ od,h.get? dx=some od∧∀ name,W.lookIn name od=some (mA name):=by
 obtain ⟨o,es,ep,ho,hd,hk,_,hm⟩:=n
 refine ⟨o,ho,fun name=>?_⟩
 have e:=hm name
 unfold nsFind findBy at e
 rw [← Array.find?_toList] at e
 unfold W.lookIn
 rw [hd]
 dsimp only
 split
 ·rename_i y q
  rw [q] at e
  exact congrArg some e
 ·rename_i q
  rw [q] at e
  have a:es.toList.any (·.refKey)=false:=by
   rw [List.any_eq_false]
   intro y hy
   obtain ⟨z,t,hkey⟩:=hk y (Array.mem_toList_iff.mp hy)
   simp [DictEntry.refKey,hkey]
  have a':¬ es.toList.any (·.refKey)=true:=by rw [a];exact Bool.false_ne_true
  rw [if_neg a']
  exact congrArg some e
theorem Zzs.look {h:Heap}{x dx C:Addr}{mA:Str→Option Value}(I:Zzs h x dx C mA):∃ od,W.InstAt h x (W.instObj C dx) C (some od)∧∀ name,W.lookIn name od=some (mA name):=
 let ⟨od,ho,hl⟩:=Zne I.ns
 ⟨od,⟨I.obj,rfl,rfl,ho⟩,hl⟩
section
variable {prog:Program} {w:World} {A:Around} {E:Value→Shared→Prop} {s:Shared} {K:W.Frag} {x dx C f:Addr} {mA:Str→Option Value} {name:Str} {v:Value}
theorem Zzd {expr:Bool}{Q:Value→Shared→Prop}(X:K.In s.heap) (I:Zzs s.heap x dx C mA) (hg:W.plainGet K C name=true) (hh:W.hasDictIn K C=true)
  (ha:W.findIn K (.ref C) name=some none) (hv:mA name=some v) (hv':W.handedIn v=true) (h:Q v { s with toks:=s.toks + 1 }):
  wpAny (model prog w) A (getAttr (.ref x) name expr) Q E s:=by
 obtain ⟨od,J,hl⟩:=I.look
 exact W.get_value X J (W.plainGet_of hg).1 (W.findObj_own hh ha rfl (by rw [hl,hv])) hv' h
theorem Zwp {pl:Sem Bool}{Q:Value×List Value→Shared→Prop}(X:K.In s.heap) (I:Zzs s.heap x dx C mA) (hg:W.plainGet K C name=true)
  (hf:W.findIn K (.ref C) name=some (some (.ref f))) (ht:W.isFn K (.ref f)=true) (hv:mA name=none) (h:Q (.ref f,[.ref x]) s):
  wpAny (model prog w) A (getMethod (.ref x) name pl) Q E s:=by
 obtain ⟨od,J,hl⟩:=I.look
 exact W.method_fn X J (W.plainGet_of hg).1 (W.plainGet_of hg).2 hf (beq_iff_eq.mp ht) (by show (W.lookIn name od).map (·.isSome)=some false;rw [hl,hv];rfl) h
theorem Zx8 {ns:List Str}{Q:Unit→Shared→Prop}(X:K.In s.heap) (I:Zzs s.heap x dx C mA)
  (hs:W.findIn K (.ref C) "__setattr__"=some (some (.builtin "object.__setattr__"))) (hp:W.plainOver K C=true) (ht:W.takerIn K C name=some none) (hh:W.hasDictIn K C=true)
  (hw:PySem.Within mA ns) (hsz:ns.length≤sizeLine)
  (h:∀ h',Zzs h' x dx C (fun y=>if y=name then some v else mA y)→Heap.SameBut dx s.heap h'→Q () { s with heap:=h',toks:=s.toks + 2 }):
  wpAny (model prog w) A (setAttr (.ref x) name v) Q E s:=by
 obtain ⟨od,J,hl⟩:=I.look
 refine W.set_plain X J hs (W.osa_open (s:={ s with toks:=s.toks + 1 }) (r:=none) X J hp ht fun b=>?_)
 obtain ⟨cd,hc,hd'⟩:=W.any_some hh
 have hx:s.heap.get? x=some ⟨.ref C,some dx,.plain,#[]⟩:=I.obj
 refine wpAny_bind (wpAny_pure (wpAny_bind (wpAny_bind (wpAny_loadPart hx (wpAny_bind (W.Looks.here (s:={ s with toks:=s.toks + 1 }) (W.looks_clsIn X hc) ?_))))))
 rw [hd']
 refine wpAny_pure (a:=some dx) (wpAny_bind (wpAny_pure (wpAny_bind ?_)))
 refine wpAny_nsSet1 (s:={ s with toks:=s.toks + 1 }) I.ns fun h' hn2 hs2=>?_
 obtain ⟨oD,esD,epD,hoD,hdD,hcD⟩:=hn2.count (PySem.Within.cons name v hw)
 refine wpAny_bind (wpAny_lookBehind hoD (by rw [hdD];exact pastItsLine_dict (Nat.le_trans hcD (by rw [List.length_cons];omega))) ?_)
 exact wpAny_pure (h _ ⟨(hs2.2 _ (Ne.symm I.ne)).trans I.obj,hn2,I.ne⟩ hs2)
theorem Zwh {R:Result→Shared→Prop}{vs:List Value}{kw:List (Str×Value)}(X:K.In s.heap) (hm:W.makesIn K C=true)
  (hi:W.findIn K (.ref C) "__init__"=some (some (.ref f))) (hf:W.typeIn K (.ref f)=some (.type "function"))
  (h:codeAny (model prog w) (A.under (.builtin "type.__call__" ⟨.ref C :: vs,kw⟩)) (.call (.ref f) ⟨.ref (s.heap.objs.size + 1):: vs,kw⟩) (W.InitBack (s.heap.objs.size + 1) R)
   { s with heap:=(s.heap.push W.emptyDict).push (W.instObj C s.heap.objs.size) }):
  codeAny (model prog w) A (.call (.ref C) ⟨vs,kw⟩) R s:=by
 obtain ⟨hh,g,d,t,os⟩:=s
 exact W.make_core (W.makes_of X hm) (W.looks_findIn X hi) (fun self=>W.bind_fn X self hf) (.inl rfl) h
end
def Zgt (f:Str) (v:V):List (Str×V)→List (Str×V)
 | []=>[(f,v)]
 | (g,x):: r=>if g=f then (g,v):: r else (g,x):: Zgt f v r
theorem Zay (f g:Str) (v:V):∀ fs:List (Str×V),(Zgt f v fs).lookup g=if g=f then some v else fs.lookup g
 | []=>by
  show List.lookup g [(f,v)]=_
  by_cases h:g=f
  ·have hb:(g == f)=true:=beq_iff_eq.mpr h
   simp only [List.lookup,hb,if_pos h]
  ·have hb:(g == f)=false:=beq_eq_false_iff_ne.mpr h
   simp only [List.lookup,hb,if_neg h]
 | (k,x):: r=>by
  have ih:=Zay f g v r
  rw [show Zgt f v ((k,x):: r)=(if k=f then (k,v):: r else (k,x):: Zgt f v r) from rfl]
  by_cases hk:k=f
  ·rw [if_pos hk]
   by_cases h:g=k
   ·have hb:(g == k)=true:=beq_iff_eq.mpr h
    simp only [List.lookup,hb,if_pos (h.trans hk)]
   ·have hb:(g == k)=false:=beq_eq_false_iff_ne.mpr h
    simp only [List.lookup,hb,if_neg (fun e:g=f=>h (e.trans hk.symm))]
  ·rw [if_neg hk]
   by_cases h:g=k
   ·have hb:(g == k)=true:=beq_iff_eq.mpr h
    simp only [List.lookup,hb,if_neg (fun e:g=f=>hk (h.symm.trans e))]
   ·have hb:(g == k)=false:=beq_eq_false_iff_ne.mpr h
    simp only [List.lookup,hb]
    exact ih
theorem Zjh (f:Str) (v:V):∀ fs:List (Str×V),f∈(Zgt f v fs).map (·.1)∧∀ g,g∈fs.map (·.1)→g∈(Zgt f v fs).map (·.1)
 | []=>⟨by simp [Zgt],fun g h=>by simp at h⟩
 | (k,x):: r=>by
  obtain ⟨i1,i2⟩:=Zjh f v r
  rw [show Zgt f v ((k,x):: r)=(if k=f then (k,v):: r else (k,x):: Zgt f v r) from rfl]
  by_cases hk:k=f
  ·rw [if_pos hk]
   subst hk
   exact ⟨by simp,fun g h=>by simpa using h⟩
  ·rw [if_neg hk]
   refine ⟨?_,fun g h=>?_⟩
   ·rw [List.map_cons]
    exact List.mem_cons_of_mem _ i1
   ·rw [List.map_cons] at h ⊢
    rcases List.mem_cons.mp h with e | e
    ·exact List.mem_cons.mpr (.inl e)
    ·exact List.mem_cons_of_mem _ (i2 g e)
theorem Zje (f:Str) (v:V):∀ fs:List (Str×V),(Zgt f v fs).length≤fs.length + 1
 | []=>by simp [Zgt]
 | (k,x):: r=>by
  have ih:=Zje f v r
  rw [show Zgt f v ((k,x):: r)=(if k=f then (k,v):: r else (k,x):: Zgt f v r) from rfl]
  by_cases hk:k=f
  ·rw [if_pos hk,List.length_cons,List.length_cons];omega
  ·rw [if_neg hk,List.length_cons,List.length_cons];omega
theorem Zn3.some_of {v:V}{o:Option Value}(r:Zn3 (some v) o):∃ u,o=some u∧Zb7 v u:=by
 cases o with
 | none=>exact (show False from r).elim
 | some u=>exact ⟨u,rfl,r⟩
theorem Zn3.none_of {o:Option Value}(r:Zn3 none o):o=none:=by
 cases o with
 | none=>rfl
 | some u=>exact (show False from r).elim
theorem Zno {v:V}{u:Value}(r:Zb7 v u):W.handedIn u=true:=by
 cases v with
 | non=>cases (show u=Value.none from r);rfl
 | bl b=>cases (show u=Value.bool b from r);rfl
 | int i=>obtain ⟨t,e⟩:=(show ∃ t,u=Value.int i t from r);cases e;rfl
 | str x=>obtain ⟨t,e⟩:=(show ∃ t,u=Value.str x t from r);cases e;rfl
 | byt b=>obtain ⟨t,e⟩:=(show ∃ t,u=Value.bytes b t from r);cases e;rfl
 | flt b=>obtain ⟨t,e⟩:=(show ∃ t,u=Value.float b t from r);cases e;rfl
 | ref a=>cases (show u=Value.ref a from r);rfl
 | ty n=>cases (show u=Value.type n from r);rfl
section
variable {P:Program} {w:World} {H H':Hp} {h h':Heap} {a C dx:Addr} {fs fs':List (Str×V)}
theorem Zlv (hok:HOk P w H h) (e:H a=some (.ins C dx fs)):∃ mA,Zzs h a dx C mA∧(∀ f,Zn3 (fs.lookup f) (mA f))∧PySem.Within mA (fs.map (·.1))∧fs.length≤1000∧H dx=some (.own a):=by
 obtain ⟨d,z,ne,ob,mA,n,r,q⟩:=(show Zbq P w H h a (.ins C dx fs) from hok a _ e)
 exact ⟨mA,⟨ob,n,ne⟩,r,q,z,d⟩
end
structure Cls (K:W.Frag) (C:Addr):Prop where
 pg:W.plainGet K C Str.empty=true
 hd:W.hasDictIn K C=true
 po:W.plainOver K C=true
 sa:W.findIn K (.ref C) "__setattr__"=some (some (.builtin "object.__setattr__"))
theorem Cls.get {K:W.Frag}{C:Addr}(c:Cls K C) (f:Str):W.plainGet K C f=true:=c.pg
def Zf3 (K:W.Frag) (C:Addr) (f:Str):Prop:=W.findIn K (.ref C) f=some none
theorem Zf3.taker {K:W.Frag}{C:Addr}{f:Str}(n:Zf3 K C f):W.takerIn K C f=some none:=by
 unfold W.takerIn
 rw [show W.findIn K (.ref C) f=some none from n]
 rfl
structure Con (K:W.Frag) (C:Addr) (f:Str) (v:V) (u:Value):Prop where
 at_:W.findIn K (.ref C) f=some (some u)
 rel:Zb7 v u
 get:W.specialIn K u "__get__"=some none
 cp:W.copiedNames.contains f=false
structure Z14 (K:W.Frag) (C:Addr) (m:Str) (f:Addr):Prop where
 at_:W.findIn K (.ref C) m=some (some (.ref f))
 fn:W.isFn K (.ref f)=true
 kp:W.keepIn K (.ref f)=true
section
variable {X:Cx} {pins:List (Addr×Obj)} {σ:St} {H:Hp} {s:Shared} {a C dx:Addr} {fs:List (Str×V)} {f:Str} {v:V} {A:Around} {E:Value→Shared→Prop}
theorem Zrl {b:Bool}{Q:Value→Shared→Prop}(I:Inv X pins σ H s) (e:H a=some (.ins C dx fs)) (c:Cls X.K C) (n:Zf3 X.K C f) (l:fs.lookup f=some v)
  (h:∀ u s',Inv X pins σ H s'→Zb7 v u→Q u s'):wpAny (model X.prog X.w) A (getAttr (.ref a) f b) Q E s:=by
 obtain ⟨mA,O,r,_,_,_⟩:=Zlv I.hok e
 obtain ⟨u,hu,ru⟩:=Zn3.some_of (v:=v) (o:=mA f) (by rw [← l];exact r f)
 exact Zzd I.kIn O (c.get f) c.hd n hu (Zno ru) (h u _ (I.tok _) ru)
theorem Zkp {m:Str}{g:Addr}{pl:Sem Bool}{Q:Value×List Value→Shared→Prop}(I:Inv X pins σ H s) (e:H a=some (.ins C dx fs)) (c:Cls X.K C) (k:Z14 X.K C m g) (l:fs.lookup m=none)
  (h:Q (.ref g,[.ref a]) s):wpAny (model X.prog X.w) A (getMethod (.ref a) m pl) Q E s:=by
 obtain ⟨mA,O,r,_,_,_⟩:=Zlv I.hok e
 have hn:mA m=none:=Zn3.none_of (by rw [← l];exact r m)
 exact Zwp I.kIn O (c.get m) k.at_ k.fn hn h
theorem Zqw {y:V}{u:Value}{Q:Unit→Shared→Prop}(I:Inv X pins σ H s) (e:H a=some (.ins C dx fs)) (c:Cls X.K C) (n:Zf3 X.K C f) (hl:fs.length<1000) (ry:Zb7 y u)
  (h:∀ s',Inv X pins σ (upd H a (.ins C dx (Zgt f y fs))) s'→Q () s'):wpAny (model X.prog X.w) A (setAttr (.ref a) f u) Q E s:=by
 obtain ⟨mA,O,r,wi,_,ho⟩:=Zlv I.hok e
 have hz:(fs.map (·.1)).length≤sizeLine:=by rw [List.length_map,sizeLine_eq];omega
 refine Zx8 I.kIn O c.sa c.po n.taker c.hd wi hz fun h' O' sb=>h _ ?_
 have hd:∃ o,h'.get? dx=some o:=let ⟨o,_,_,e',_⟩:=O'.ns;⟨o,e'⟩
 refine I.write (x:=a) (e:=dx) (by rw [e];exact True.intro) (.inr ho) (fun b q hb z=>(sb.2 b hb).trans z) hd ?_
 refine ⟨by rw [Zac O.ne];exact ho,?_,O.ne,O'.obj,_,O'.ns,fun g=>?_,fun g hg=>?_⟩
 ·have:=Zje f y fs;omega
 ·show Zn3 ((Zgt f y fs).lookup g) (if g=f then some u else mA g)
  rw [Zay]
  by_cases q:g=f
  ·rw [if_pos q,if_pos q];exact ry
  ·rw [if_neg q,if_neg q];exact r g
 ·by_cases q:g=f
  ·rw [q];exact (Zjh f y fs).1
  ·refine (Zjh f y fs).2 g (wi g fun z=>hg ?_)
   show (if g=f then some u else mA g)=none
   rw [if_neg q];exact z
theorem Inv.made (I:Inv X pins σ H s):Inv X pins σ (upd (upd H s.heap.objs.size (.own (s.heap.objs.size + 1))) (s.heap.objs.size + 1) (.ins C s.heap.objs.size []))
  { s with heap:=(s.heap.push W.emptyDict).push (W.instObj C s.heap.objs.size) }:=by
 have e1:(s.heap.push W.emptyDict).get? s.heap.objs.size=some W.emptyDict:=Heap.get?_push_size s.heap rfl
 have e2:((s.heap.push W.emptyDict).push (W.instObj C s.heap.objs.size)).get? (s.heap.objs.size + 1)=some (W.instObj C s.heap.objs.size):=by
  have:=Heap.get?_push_size (s.heap.push W.emptyDict) (o:=W.instObj C s.heap.objs.size) rfl
  rwa [Heap.size_push] at this
 have e3:(s.heap.push W.emptyDict).Ns s.heap.objs.size (fun _=>none):=⟨W.emptyDict,#[],_,e1,rfl,(fun e he=>absurd he (by simp)),fun _=>rfl⟩
 have I1:=I.laid (a:=s.heap.objs.size) (o:=.own (s.heap.objs.size + 1)) (h':=s.heap.push W.emptyDict) (t':=s.toks) (fun b u q=>Heap.get?_push_of_some _ q) (Nat.le_refl _) ⟨_,e1⟩
 refine I1.laid (a:=s.heap.objs.size + 1) (o:=.ins C s.heap.objs.size []) (t':=s.toks) (fun b u q=>Heap.get?_push_of_some _ q) (Nat.le_of_eq (Heap.size_push _ _)) ?_
 have ne:s.heap.objs.size≠s.heap.objs.size + 1:=Nat.ne_of_lt (Nat.lt_succ_self _)
 refine ⟨by rw [Zac ne,uS],Nat.zero_le _,ne,e2,fun _=>none,(Heap.Ns1.of_empty e3).at fun o q=>Heap.get?_push_of_some _ q,fun _=>True.intro,fun y hy=>absurd rfl hy⟩
theorem Zut {prog:Program}{w:World}{env:Env}{e:Expr}{f:Str}{pos:Pos}{s:Shared}{Q:Value→Shared→Prop}(hb:attributeBase e f env (eval e env)=eval e env)
  (h:wpAny (model prog w) A (eval e env) (fun o s₁=>wpAny (model prog w) A (getAttr o f true) Q E s₁) E s):wpAny (model prog w) A (eval (.Attribute e f pos) env) Q E s :=
 Attribute_any_ h (by rw [arm_eval_Attribute,hb])
end
def Z5f (K:W.Frag) (ta:TE) (f:Str):TE:=fun σ H Q=>ta σ H fun x H1=>∃ a C dx fs v,x=.ref a∧H1 a=some (.ins C dx fs)∧Cls K C∧Zf3 K C f∧fs.lookup f=some v∧Q v H1
def Z57 (K:W.Frag) (ta tv:TE) (f:Str):TS:=fun D σ H=>tv σ H fun y H1=>ta σ H1 fun x H2=>∃ a C dx fs,x=.ref a∧H2 a=some (.ins C dx fs)∧Cls K C∧Zf3 K C f∧fs.length<1000 ∧
 D.nx σ (upd H2 a (.ins C dx (Zgt f y fs)))
section
variable {X:Cx} {o e value:Expr} {f:Str} {pos pos' tpos:Pos} {ta tv:TE}
theorem Zds (he:PE X e ta) (hb:attributeBase e f X.env (eval e X.env)=eval e X.env):PE X (.Attribute e f pos) (Z5f X.K ta f):=by
 intro pins s σ H Q I h
 refine Zut hb (thn (he pins s σ H _ I h) fun u s1 ⟨x,H1,I1,rx,a,C,dx,fs,v,ex,ea,c,n,l,q⟩=>?_)
 subst ex
 obtain rfl:u=Value.ref a:=rx
 exact Zrl I1 ea c n l fun u' s2 I2 ru=>⟨v,H1,I2,ru,q⟩
theorem Zmw (ha:PE X o ta) (hv:PE X value tv) (hs:swapsWith value (some (.Attribute o f pos')) pos.line X.env=pure false):PS X (.Assign [.Attribute o f pos'] value pos) (Z57 X.K ta tv f):=by
 intro pins s σ H D I h
 refine plainObj_wpAny_Assign_Attribute (thn (hv pins s σ H _ I h) fun u s1 ⟨y,H1,I1,ry,q⟩=>thn (ha pins s1 σ H1 _ I1 q) fun ov s2 ⟨x,H2,I2,rx,a,C,dx,fs,ex,ea,c,n,l,q2⟩=>?_) hs
 subst ex
 obtain rfl:ov=Value.ref a:=rx
 exact Zqw I2 ea c n l ry fun s3 I3=>⟨σ,_,I3,q2⟩
end
section
variable {X:Cx} {pins:List (Addr×Obj)} {σ:St} {H:Hp} {s:Shared} {A:Around} {E:Value→Shared→Prop} {Q:Value→Shared→Prop} {c:Value} {b:Bool}
inductive Zrr (K:W.Frag) (H:Hp):V→Value→Prop where
 | non:Zrr K H .non (.type "NoneType")
 | bl (x:Bool):Zrr K H (.bl x) (.type "bool")
 | int (i:Int):Zrr K H (.int i) (.type "int")
 | str (x:Str):Zrr K H (.str x) (.type "str")
 | flt (x:UInt64):Zrr K H (.flt x) (.type "float")
 | lst {a:Addr} {xs:List V} (e:H a=some (.lst xs)):Zrr K H (.ref a) (.type "list")
 | frz {a:Addr} {o:Obj} {xs:List V} (e:H a=some (.frz o (.lst xs))):Zrr K H (.ref a) (.type "list")
 | tup {a:Addr} {xs:List V} (e:H a=some (.tup xs)):Zrr K H (.ref a) (.type "tuple")
 | dK {a:Addr} {kvs:List (Key×V)} (e:H a=some (.dK kvs)):Zrr K H (.ref a) (.type "dict")
 | dT {a:Addr} {kvs:List (List Key×V)} (e:H a=some (.dT kvs)):Zrr K H (.ref a) (.type "dict")
 | ins {a C dx:Addr} {fs:List (Str×V)} (e:H a=some (.ins C dx fs)) (cl:Cls K C) (ha:W.findIn K (.ref C) "__class__"=some (some (.builtin "object.__class__")))
   (hn:W.specialIn K (.builtin "object.__class__") "__get__"=some (some (.builtin "getset_descriptor.__get__"))) (htk:W.takesIn K (.builtin "object.__class__")=some true)
   (hm:W.mroIn K C (.type "object")=some true):Zrr K H (.ref a) (.ref C)
theorem Zt3 {x:V}{u t:Value}(I:Inv X pins σ H s) (rx:Zb7 x u) (ty:Zrr X.K H x t) (e:W.kitOne X.K t c=some b) (h:∀ tk,Q (.bool b) { s with toks:=tk }):
  wpAny (model X.prog X.w) A (call (.builtin "isinstance") [u,c]) Q E s:=by
 cases ty with
 | non=>cases (show u=Value.none from rx);exact W.kia_one W.kitx_none I.kIn True.intro e (fun z=>nomatch z) h
 | bl y=>cases (show u=Value.bool y from rx);exact W.kia_one W.kitx_bool I.kIn True.intro e (fun z=>nomatch z) h
 | int i=>obtain ⟨t,q⟩:=(show ∃ t,u=Value.int i t from rx);cases q;exact W.kia_one W.kitx_int I.kIn True.intro e (fun z=>nomatch z) h
 | str y=>obtain ⟨t,q⟩:=(show ∃ t,u=Value.str y t from rx);cases q;exact W.kia_one W.kitx_str I.kIn True.intro e (fun z=>nomatch z) h
 | flt y=>obtain ⟨t,q⟩:=(show ∃ t,u=Value.float y t from rx);cases q;exact W.kia_one W.kitx_float I.kIn True.intro e (fun z=>nomatch z) h
 | @lst a xs ea =>
  cases (show u=Value.ref a from rx)
  obtain ⟨_,_,n,_,h1⟩:=(show Zbq X.prog X.w H s.heap a (.lst xs) from I.hok a _ ea)
  exact W.kia_one W.kitx_list I.kIn ⟨_,h1,rfl⟩ e (fun z=>nomatch z) h
 | @frz a ob xs ea =>
  cases (show u=Value.ref a from rx)
  obtain ⟨_,_,_,n,_,h1⟩:=(show Zbq X.prog X.w H s.heap a (.frz ob (.lst xs)) from I.hok a _ ea)
  exact W.kia_one W.kitx_list I.kIn ⟨_,h1,rfl⟩ e (fun z=>nomatch z) h
 | @tup a xs ea =>
  cases (show u=Value.ref a from rx)
  obtain ⟨_,_,_,p⟩:=(show Zbq X.prog X.w H s.heap a (.tup xs) from I.hok a _ ea)
  obtain ⟨o,h1,h2,_⟩:=p
  exact W.kia_one W.kitx_tuple I.kIn ⟨o,h1,h2⟩ e (fun z=>nomatch z) h
 | @dK a kvs ea =>
  cases (show u=Value.ref a from rx)
  obtain ⟨_,_,vs,_,p⟩:=(show Zbq X.prog X.w H s.heap a (.dK kvs) from I.hok a _ ea)
  obtain ⟨o,es,ep,h1,h2,_⟩:=p
  exact W.kia_one W.kitx_dict I.kIn ⟨o,h1,h2.1⟩ e (fun z=>nomatch z) h
 | @dT a kvs ea =>
  cases (show u=Value.ref a from rx)
  obtain ⟨_,_,xs,_,o,es,ep,h1,h2,_⟩:=(show Zbq X.prog X.w H s.heap a (.dT kvs) from I.hok a _ ea)
  exact W.kia_one W.kitx_dict I.kIn ⟨o,h1,h2.1⟩ e (fun z=>nomatch z) h
 | @ins a C dx fs ea cl ha hn htk hm =>
  cases (show u=Value.ref a from rx)
  obtain ⟨mA,O,_⟩:=Zlv I.hok ea
  obtain ⟨od,J,_⟩:=O.look
  exact W.kia_one (W.kitx_own (cl.get _) cl.hd ha hn htk hm) I.kIn J e (fun z=>nomatch z) h
end
end L2
namespace L2
open PySem PySem.Spec PyProof.Rows
structure Zb6 (k:Nat) (A:Around):Prop where
 hd:A.handled=none
 dp:A.depth + 3 * k + 5<recursionLimit
 un:A.units + 16 * k + 200<cLine
 gd:A.guards=some []
theorem Zb6.mono {j k:Nat}{A:Around}(r:Zb6 k A) (h:j≤k):Zb6 j A:=⟨r.hd,by have:=r.dp;omega,by have:=r.un;omega,r.gd⟩
theorem Zb6.deeper {k:Nat}{A:Around}(r:Zb6 (k + 1) A) (env:Env):Zb6 k (A.deeper env):=
 ⟨r.hd,by have:=r.dp;show A.depth + 1 + 3 * k + 5<_;omega,by have:=r.un;show A.units + 3 + 16 * k + 200<_;omega,r.gd⟩
theorem Zre {A:Around}{C:Addr}{us:List Value}{kw:List (Str×Value)}:(A.under (.builtin "type.__call__" ⟨.ref C :: us,kw⟩)).depth=A.depth + 1:=by
 first | rfl | simp [Around.under,Code.weight,Code.isCreation,Code.isGuard,Code.isCaller,Code.frames,Code.isFrame,guardIds]
theorem Zrd {A:Around}{C:Addr}{us:List Value}{kw:List (Str×Value)}:(A.under (.builtin "type.__call__" ⟨.ref C :: us,kw⟩)).units=A.units + 1:=by
 first | rfl | simp [Around.under,Code.cUnits,Code.frames,Code.isFrame]
theorem Zb6.make {k:Nat}{A:Around}(r:Zb6 (k + 1) A) (C:Addr) (us:List Value) (kw:List (Str×Value)):Zb6 k (A.under (.builtin "type.__call__" ⟨.ref C :: us,kw⟩)):=
 ⟨r.hd,by have:=r.dp;rw [Zre];omega,by have:=r.un;rw [Zrd];omega,by first | exact r.gd | simpa [Around.under,Code.guards,Code.isGuard,guardIds,pushGuards] using r.gd⟩
theorem Zb6.depth {k:Nat}{A:Around}(r:Zb6 k A):A.depth<recursionLimit:=by have:=r.dp;omega
theorem Zb6.units {k:Nat}{A:Around}(r:Zb6 k A):A.units + 64<cLine:=by have:=r.un;omega
def Zzw:TA:=fun _ H Q=>Q [] H
def Zmd (ta:TE) (tr:TA):TA:=fun σ H Q=>ta σ H fun x H1=>tr σ H1 fun xs H2=>Q (x :: xs) H2
section
variable {X:Cx} {e:Expr} {es:List Expr} {te:TE} {t:TA} {pos:Pos}
theorem Zaa:PA X [] Zzw:=fun _ _ _ _ H Q I h=>Calls.spliced_nil ⟨[],H,I,.nil,h⟩
theorem pC (ha:PE X e te) (hr:PA X es t) (hs:starEach (e :: es) X.env=(false,eval e X.env):: starEach es X.env:=by rfl):PA X (e :: es) (Zmd te t):=by
 intro pos pins s σ H Q I h
 rw [hs]
 show wpAny _ _ (spliced ((false,eval e X.env):: backTo pos (starEach es X.env))) _ _ s
 refine Calls.spliced_cons (thn (ha pins s σ H _ I h) fun u s1 ⟨x,H1,I1,r1,q1⟩=>?_)
 exact thn (hr pos pins s1 σ H1 _ I1 q1) fun us s2 ⟨xs,H2,I2,r2,q2⟩=>⟨x :: xs,H2,I2,.cons r1 r2,q2⟩
def Z3v (t:TA):TE:=fun σ H Q=>t σ H fun xs H1=>xs.length≤sizeLine∧∀ p,H1 p=none→Q (.ref p) (upd H1 p (.tup xs))
def Z5b (t:TA):TE:=fun σ H Q=>t σ H fun xs H1=>xs.length≤sizeLine∧∀ p,H1 p=none→Q (.ref p) (upd H1 p (.lst xs))
theorem Zav {x1}(h:PA X es t):PE X (.Tuple es x1 pos) (Z3v t):=by
 intro pins s σ H Q I hq
 refine wpAny_Tuple_spliced (thn (h pos pins s σ H _ I hq) fun us s1 ⟨xs,H1,I1,r,z,q⟩=>⟨by rw [← r.length];exact z,?_⟩)
 have hf:H1 s1.heap.objs.size=none:=I1.hok.fresh (Nat.le_refl _)
 refine ⟨.ref s1.heap.objs.size,upd H1 s1.heap.objs.size (.tup xs),I1.laid (t':=s1.toks) (fun b u e=>Heap.get?_push_of_some _ e) (Nat.le_refl _) ?_,rfl,q _ hf⟩
 exact ⟨z,us,r,⟨_,Heap.get?_push_size _ rfl,rfl,_,rfl⟩⟩
theorem Zd0 (h:PA X es t):PE X (.List es pos) (Z5b t):=by
 intro pins s σ H Q I hq
 refine wpAny_List_spliced (thn (h pos pins s σ H _ I hq) fun us s1 ⟨xs,H1,I1,r,z,q⟩=>⟨by rw [← r.length];exact z,?_⟩)
 have hf:H1 s1.heap.objs.size=none:=I1.hok.fresh (Nat.le_refl _)
 refine ⟨.ref s1.heap.objs.size,upd H1 s1.heap.objs.size (.lst xs),I1.laid (t':=s1.toks) (fun b u e=>Heap.get?_push_of_some _ e) (Nat.le_refl _) ?_,rfl,q _ hf⟩
 exact ⟨z,us,0,r,Heap.get?_push_size _ rfl⟩
end
abbrev Sp:=List V→Hp→VK→XK→Prop
abbrev CXT:=List Env→Hp→Shared→XK→Value→Shared→Prop
structure Env0 (P:Program) (w:World) (K:W.Frag) (mg:Str→Option Value) (base:Heap) (A:Around) (outer:List Env) (s:Shared) (H:Hp):Prop where
 frames:A.frames=some outer
 mod:Mod K mg base
 bs:∀ b o,base.get? b=some o→s.heap.get? b=some o∧H b=none
 bsz:base.objs.size≤s.heap.objs.size
 funs:s.heap.FunFrames base outer
 frf:∀ b∈frs outer,H b=none
 hok:HOk P w H s.heap
 bare:AllBare s.gens
def CE (outer:List Env) (P:Program) (w:World) (H:Hp) (s:Shared) (Q:VK) (u:Value) (s':Shared):Prop :=
 ∃ v H',s'.os=s.os∧AllBare s'.gens∧Un (frs outer) [] H H' s.heap s'.heap∧HOk P w H' s'.heap∧Zb7 v u∧Q v H'
def CR (CX:CXT) (outer:List Env) (P:Program) (w:World) (H:Hp) (s:Shared) (Q:VK) (E:XK) (r:Result) (s':Shared):Prop :=
 match r with
 | .ok (.ret u)=>CE outer P w H s Q u s'
 | .ok _=>False
 | .error e=>CX outer H s E e s'
structure Zaq (P:Program) (w:World) (K:W.Frag) (mg:Str→Option Value) (base:Heap) (CX:CXT) (k:Nat) (f:Addr) (fd:FuncData) (ps:List Str) (sp:Sp):Prop where
 len:∀ vs H Q E,sp vs H Q E→vs.length=ps.length
 run:∀ (A:Around) (outer:List Env) (s:Shared) (H:Hp) (args:Args) (us:List Value) (vs:List V) (Q:VK) (E:XK),Zb6 k A→Env0 P w K mg base A outer s H→BindsTo s fd args (ps.zip us)→Zbr vs us→sp vs H Q E →
  codeAny (model P w) A (.call (.ref f) args) (CR CX outer P w H s Q E) s
theorem Zaq.mono {P:Program}{w:World}{K:W.Frag}{mg:Str→Option Value}{base:Heap}{CX:CXT}{j k:Nat}{f:Addr}{fd:FuncData}{ps:List Str}{sp:Sp}(F:Zaq P w K mg base CX j f fd ps sp) (h:j≤k):
  Zaq P w K mg base CX k f fd ps sp:=⟨F.len,fun A outer s H args us vs Q E hr=>F.run A outer s H args us vs Q E (hr.mono h)⟩
theorem Env0.make {P:Program}{w:World}{K:W.Frag}{mg:Str→Option Value}{base:Heap}{A:Around}{outer:List Env}{s:Shared}{H:Hp}(e:Env0 P w K mg base A outer s H) (C:Addr) (us:List Value) (kw:List (Str×Value)):
  Env0 P w K mg base (A.under (.builtin "type.__call__" ⟨.ref C :: us,kw⟩)) outer s H:=⟨by first | exact e.frames | (simpa [Around.under,Code.envs,Code.isFrame,pushEnvs] using e.frames),e.mod,e.bs,e.bsz,e.funs,e.frf,e.hok,e.bare⟩
section
variable {X:Cx} {pins:List (Addr×Obj)} {σ:St} {H:Hp} {s s':Shared}
theorem Inv.env0 (I:Inv X pins σ H s):Env0 X.prog X.w X.K X.mg X.base X.A X.stack s H :=
 ⟨I.ok.frames,I.ok.mod,I.bs,Nat.le_trans I.ok.bsz I.sz,I.stack,I.stkFree,I.hok,I.bare⟩
theorem Inv.after {Q:VK}{u:Value}(I:Inv X pins σ H s) (h:CE X.stack X.prog X.w H s Q u s'):EP X pins σ Q u s':=by
 obtain ⟨v,H',os,bare,un,hok,r,q⟩:=h
 obtain ⟨hh,g,d,t,os'⟩:=s'
 obtain rfl:os'=s.os:=os
 exact ⟨v,H',I.call (h':=hh) (g':=g) (d':=d) (t':=t) (ch:=[]) un hok bare (fun b z=>absurd z (by simp)),r,q⟩
end
def Zvb (sp:Sp) (dvs:List V) (E:XK) (t:TA):TE:=fun σ H Q=>t σ H fun vs H1=>sp (vs++dvs) H1 Q E
def Zz9 (C:Addr) (m:Str) (sp:Sp) (dvs:List V) (E:XK) (ta:TE) (t:TA):TE:=fun σ H Q=>ta σ H fun x H1=>∃ a dx fs,x=.ref a∧H1 a=some (.ins C dx fs)∧fs.lookup m=none ∧
 t σ H1 fun vs H2=>sp (x :: (vs++dvs)) H2 Q E
def Z2c (C:Addr) (sp:Sp) (dvs:List V) (E:XK) (t:TA):TE:=fun σ H Q=>t σ H fun vs H1=>∀ x dx,H1 x=none→H1 dx=none→dx≠x →
 sp (.ref x :: (vs++dvs)) (upd (upd H1 dx (.own x)) x (.ins C dx [])) (fun v H2=>v=.non∧Q (.ref x) H2) E
def Zc9 (K:W.Frag) (fd:FuncData) (ps:List Str) (ds:List Value):Prop :=
 ∀ (s:Shared) (us:List Value),K.In s.heap→(us++ds).length=ps.length→BindsTo s fd ⟨us,[]⟩ (ps.zip (us++ds))
theorem Zc9.all {K:W.Frag}{fd:FuncData}{ps:List Str}(h:∀ us:List Value,us.length=ps.length→bindArgs fd ⟨us,[]⟩=pure (ps.zip us)):Zc9 K fd ps []:=fun s us _ hl=>by
 rw [List.append_nil] at hl ⊢
 exact .of_eq (h us hl)
def Zia (CX:CXT) (X:Cx) (E:XK):Prop:=∀ (pins:List (Addr×Obj)) (σ:St) (H:Hp) (s:Shared) (e:Value) (s':Shared),Inv X pins σ H s→CX X.stack H s E e s'→X.xe e s'
section
variable {X:Cx} {CX:CXT} {k:Nat} {f C:Addr} {fd:FuncData} {ps:List Str} {sp:Sp} {dvs:List V} {ds:List Value} {E:XK} {x m:Str} {p pos apos:Pos} {e o:Expr} {es:List Expr} {ta:TE} {t:TA}
theorem Zsw {pins:List (Addr×Obj)}{σ:St}{H:Hp}{s:Shared}{Q:VK}{us:List Value}{vs:List V}(F:Zaq X.prog X.w X.K X.mg X.base CX k f fd ps sp) (hr:Zb6 k X.A) (hb:Zc9 X.K fd ps ds) (hd:Zbr dvs ds) (hx:Zia CX X E)
  (I:Inv X pins σ H s) (r:Zbr vs us) (h:sp (vs++dvs) H Q E):wpAny (model X.prog X.w) X.A (call (.ref f) us) (EP X pins σ Q) X.xe s:=by
 have r2:Zbr (vs++dvs) (us++ds):=r.append hd
 have hl:(us++ds).length=ps.length:=by rw [← r2.length];exact F.len _ _ _ _ h
 refine wpAny_call (codeAny_mono (F.run X.A X.stack s H ⟨us,[]⟩ (us++ds) (vs++dvs) Q E hr I.env0 (hb s us I.kIn hl) r2 h) fun r s' hq=>?_)
 cases r with
 | error e=>exact hx pins σ H s e s' I hq
 | ok fl =>
  cases fl with
  | ret u=>exact I.after hq
  | next=>exact False.elim hq
  | brk=>exact False.elim hq
  | cont=>exact False.elim hq
theorem Zdi (F:Zaq X.prog X.w X.K X.mg X.base CX k f fd ps sp) (hr:Zb6 k X.A) (hg:Gl X x) (hm:X.mg x=some (.ref f)) (hk:W.keepIn X.K (.ref f)=true) (hb:Zc9 X.K fd ps ds) (hd:Zbr dvs ds) (hx:Zia CX X E)
  (ha:PA X (e :: es) t) (hdb:(x == ("__debug__":Str))=false:=by decide) (he:starEach (e :: es) X.env=(false,eval e X.env):: starEach es X.env:=by rfl) (hpl:(backTo pos (starEach es X.env)).any (·.1)=false:=by rfl):
  PE X (.Call (.Name x p) (e :: es) [] pos) (Zvb sp dvs E t):=by
 intro pins s σ H Q I h
 refine wpAny_Call_Name_kw (Zfi I hg hm ?_ hdb)
 refine W.callWith_K (h₀:=X.base) I.ok.mod.kin hk (thn (ha pos pins s σ H _ I h) fun us s1 ⟨vs,H1,I1,r,q⟩=>⟨I1.kIn,?_⟩) he hpl
 exact Zsw F hr hb hd hx I1 r q
theorem Zcn {pl:Sem Bool}(he:PE X o ta) (c:Cls X.K C) (hm:Z14 X.K C m f) (F:Zaq X.prog X.w X.K X.mg X.base CX k f fd ps sp) (hr:Zb6 k X.A) (hb:Zc9 X.K fd ps ds) (hd:Zbr dvs ds) (hx:Zia CX X E) (ha:PA X (e :: es) t)
  (hst:starEach (e :: es) X.env=(false,eval e X.env):: starEach es X.env:=by rfl) (hpl:(backTo pos (starEach es X.env)).any (·.1)=false:=by rfl)
  (ht:eval (.Call (.Attribute o m apos) (e :: es) [] pos) X.env=(do
   let ov ← eval o X.env
   standAt apos.atName
   let (f,first) ← holding [ov] (getMethod ov m pl)
   callWith pos f first (backTo pos (starEach (e :: es) X.env)) (backToKw pos (keywordEach [] X.env))):=by rfl):
  PE X (.Call (.Attribute o m apos) (e :: es) [] pos) (Zz9 C m sp dvs E ta t):=by
 intro pins s σ H Q I h
 refine W.methodCall_KW (pl:=pl) (thn (he pins s σ H _ I h) fun u s1 ⟨x,H1,I1,rx,a,dx,fs,ex,ea,l,q⟩=>?_) ht
 subst ex
 obtain rfl:u=Value.ref a:=rx
 refine Zkp I1 ea c hm l ?_
 refine W.callWith_K (first:=[.ref a]) (h₀:=X.base) I.ok.mod.kin hm.kp (thn (ha pos pins s1 σ H1 _ I1 q) fun us s2 ⟨vs,H2,I2,r,q2⟩=>⟨I2.kIn,?_⟩) hst hpl
 exact Zsw (us:=.ref a :: us) (vs:=.ref a :: vs) F hr hb hd hx I2 (.cons rfl r) q2
theorem Zb2 {pl:Sem Bool}(he:PE X o ta) (c:Cls X.K C) (hm:Z14 X.K C m f) (F:Zaq X.prog X.w X.K X.mg X.base CX k f fd ps sp) (hr:Zb6 k X.A) (hb:Zc9 X.K fd ps ds) (hd:Zbr dvs ds) (hx:Zia CX X E)
  (ht:eval (.Call (.Attribute o m apos) [] [] pos) X.env=(do
   let ov ← eval o X.env
   standAt apos.atName
   let (f,first) ← holding [ov] (getMethod ov m pl)
   callWith pos f first (backTo pos (starEach [] X.env)) (backToKw pos (keywordEach [] X.env))):=by rfl):
  PE X (.Call (.Attribute o m apos) [] [] pos) (Zz9 C m sp dvs E ta Zzw):=by
 intro pins s σ H Q I h
 refine W.methodCall_KW (pl:=pl) (thn (he pins s σ H _ I h) fun u s1 ⟨x,H1,I1,rx,a,dx,fs,ex,ea,l,q⟩=>?_) ht
 subst ex
 obtain rfl:u=Value.ref a:=rx
 refine Zkp I1 ea c hm l ?_
 exact W.callWith_K0 (first:=[.ref a]) I1.kIn hm.kp (Zsw (us:=[.ref a]) (vs:=[.ref a]) F hr hb hd hx I1 (.cons rfl .nil) q)
structure Mk (K:W.Frag) (C f:Addr):Prop where
 makes:W.makesIn K C=true
 init:W.findIn K (.ref C) "__init__"=some (some (.ref f))
 fn:W.isFn K (.ref f)=true
 kp:W.keepIn K (.ref C)=true
theorem Zvf {pins:List (Addr×Obj)}{σ:St}{H:Hp}{s:Shared}{Q:VK}{us:List Value}{vs:List V}(M:Mk X.K C f) (F:Zaq X.prog X.w X.K X.mg X.base CX k f fd ps sp) (hr:Zb6 (k + 1) X.A) (hb:Zc9 X.K fd ps ds) (hd:Zbr dvs ds)
  (hx:Zia CX X E) (I:Inv X pins σ H s) (r:Zbr vs us)
  (h:∀ x dx,H x=none→H dx=none→dx≠x→sp (.ref x :: (vs++dvs)) (upd (upd H dx (.own x)) x (.ins C dx [])) (fun v H2=>v=.non∧Q (.ref x) H2) E):
  wpAny (model X.prog X.w) X.A (call (.ref C) us) (EP X pins σ Q) X.xe s:=by
 have hq:=h (s.heap.objs.size + 1) s.heap.objs.size (I.hok.fresh (Nat.le_succ _)) (I.hok.fresh (Nat.le_refl _)) (Nat.ne_of_lt (Nat.lt_succ_self _))
 have I2:=Inv.made (C:=C) I
 have r2:Zbr (V.ref (s.heap.objs.size + 1):: (vs++dvs)) (Value.ref (s.heap.objs.size + 1):: (us++ds)):=.cons rfl (r.append hd)
 have hl:(Value.ref (s.heap.objs.size + 1):: us++ds).length=ps.length:=by
  have e:=r2.length
  rw [F.len _ _ _ _ hq] at e
  exact e.symm
 refine wpAny_call (Zwh (f:=f) I.kIn M.makes M.init (beq_iff_eq.mp M.fn) (codeAny_mono (F.run _ X.stack _ _ ⟨Value.ref (s.heap.objs.size + 1):: us,[]⟩ (Value.ref (s.heap.objs.size + 1):: (us++ds)) _ _ E (hr.make C us [])
  (I2.env0.make C us []) (hb _ (Value.ref (s.heap.objs.size + 1):: us) I2.kIn hl) r2 hq) fun r s' hq'=>?_))
 cases r with
 | error e=>exact hx pins σ _ _ e s' I2 hq'
 | ok fl =>
  cases fl with
  | ret u =>
   obtain ⟨v,H',I3,rv,ev,q3⟩:=I2.after hq'
   subst ev
   exact ⟨rv,⟨V.ref (s.heap.objs.size + 1),H',I3,rfl,q3⟩⟩
  | next=>exact False.elim hq'
  | brk=>exact False.elim hq'
  | cont=>exact False.elim hq'
theorem Zhu (M:Mk X.K C f) (F:Zaq X.prog X.w X.K X.mg X.base CX k f fd ps sp) (hr:Zb6 (k + 1) X.A) (hg:Gl X x) (hm:X.mg x=some (.ref C)) (hb:Zc9 X.K fd ps ds) (hd:Zbr dvs ds) (hx:Zia CX X E)
  (ha:PA X (e :: es) t) (hdb:(x == ("__debug__":Str))=false:=by decide) (he:starEach (e :: es) X.env=(false,eval e X.env):: starEach es X.env:=by rfl) (hpl:(backTo pos (starEach es X.env)).any (·.1)=false:=by rfl):
  PE X (.Call (.Name x p) (e :: es) [] pos) (Z2c C sp dvs E t):=by
 intro pins s σ H Q I h
 refine wpAny_Call_Name_kw (Zfi I hg hm ?_ hdb)
 refine W.callWith_K (h₀:=X.base) I.ok.mod.kin M.kp (thn (ha pos pins s σ H _ I h) fun us s1 ⟨vs,H1,I1,r,q⟩=>⟨I1.kIn,?_⟩) he hpl
 exact Zvf M F hr hb hd hx I1 r q
end
section
variable {X:Cx} {CX:CXT} {k:Nat} {f C:Addr} {fd:FuncData} {ps ks:List Str} {sp:Sp} {E:XK} {x m:Str} {p pos apos kpos:Pos} {e o:Expr} {es:List Expr} {kws:List Keyword} {te ta:TE} {t tk:TA} {nm:Option Str}
structure Z42 (K:W.Frag) (fd:FuncData) (ps ks:List Str) (g:List Value→List Value→List Value) (gV:List V→List V→List V):Prop where
 to:∀ (s:Shared) (us ws:List Value),K.In s.heap→(g us ws).length=ps.length→BindsTo s fd ⟨us,ks.zip ws⟩ (ps.zip (g us ws))
 rel:∀ {vs:List V} {us:List Value} {zs:List V} {ws:List Value},Zbr vs us→Zbr zs ws→Zbr (gV vs zs) (g us ws)
variable {g:List Value→List Value→List Value} {gV:List V→List V→List V}
end
structure Zak (N P:List Str) (sc:Scope):Prop where
 kind:sc.kind=.function
 co:sc.isCoroutine=false
 gen:sc.isGenerator=false
 nd:N.Nodup
 pre:N.take P.length=P
 par:∀ x∈P,sc.names.lookup x=some .local∨sc.names.lookup x=some .cell
 nofree:∀ y∈sc.names,y.2≠.free
theorem Znx {kindOf:Str→Option NameKind}{x:Str}:∀ {binds:List (Str×Value)}{m:Str→Option Value},(∀ v,(x,v)∉binds)→bindL kindOf binds m x=m x
 | [],_,_=>rfl
 | (n,v):: r,m,h=>by
  unfold bindL
  rw [Znx fun w hw=>h w (List.mem_cons_of_mem _ hw)]
  split
  ·have:x≠n:=by rintro rfl;exact h v List.mem_cons_self
   simp [this]
  ·rfl
theorem Znz {kindOf:Str→Option NameKind}{x:Str}:∀ {binds:List (Str×Value)}{m:Str→Option Value},(∀ v,(x,v)∉binds)→bindC kindOf binds m x=m x
 | [],_,_=>rfl
 | (n,v):: r,m,h=>by
  unfold bindC
  rw [Znz fun w hw=>h w (List.mem_cons_of_mem _ hw)]
  split
  ·rfl
  ·have:x≠n:=by rintro rfl;exact h v List.mem_cons_self
   simp [this]
theorem Zny {kindOf:Str→Option NameKind}{x:Str}{v:Value}:∀ {P:List Str}{vs:List Value}{i:Nat}{m:Str→Option Value},P.Nodup→P[i]?=some x→vs[i]?=some v→kindOf x=some .local →
  bindL kindOf (P.zip vs) m x=some v
 | [],_,_,_,_,h,_,_=>by simp at h
 | _ :: _,[],_,_,_,_,h,_=>by simp at h
 | p :: P,w :: vs,0,m,nd,h1,h2,hk=>by
  simp at h1 h2;subst h1;subst h2
  show bindL kindOf ((p,w):: P.zip vs) m p=_
  unfold bindL
  rw [Znx fun v hv=>(List.nodup_cons.mp nd).1 (List.of_mem_zip hv).1,if_pos hk]
  simp
 | p :: P,w :: vs,i + 1,m,nd,h1,h2,hk=>by
  show bindL kindOf ((p,w):: P.zip vs) m x=_
  unfold bindL
  exact Zny (i:=i) (List.nodup_cons.mp nd).2 (by simpa using h1) (by simpa using h2) hk
theorem Zn0 {kindOf:Str→Option NameKind}{x:Str}{v:Value}:∀ {P:List Str}{vs:List Value}{i:Nat}{m:Str→Option Value},P.Nodup→P[i]?=some x→vs[i]?=some v→kindOf x≠some .local →
  bindC kindOf (P.zip vs) m x=some v
 | [],_,_,_,_,h,_,_=>by simp at h
 | _ :: _,[],_,_,_,_,h,_=>by simp at h
 | p :: P,w :: vs,0,m,nd,h1,h2,hk=>by
  simp at h1 h2;subst h1;subst h2
  show bindC kindOf ((p,w):: P.zip vs) m p=_
  unfold bindC
  rw [Znz fun v hv=>(List.nodup_cons.mp nd).1 (List.of_mem_zip hv).1,if_neg hk]
  simp
 | p :: P,w :: vs,i + 1,m,nd,h1,h2,hk=>by
  show bindC kindOf ((p,w):: P.zip vs) m x=_
  unfold bindC
  exact Zn0 (i:=i) (List.nodup_cons.mp nd).2 (by simpa using h1) (by simpa using h2) hk
def start (N:List Str) (vs:List V):St:=vs.map some++List.replicate (N.length - vs.length) none
def Zxt (CX:CXT) (P:Program) (w:World) (K:W.Frag) (mg:Str→Option Value) (base:Heap) (N:List Str) (qual:Str) (scope:Scope) (f:Addr) (cd:Value) (A:Around) (outer:List Env) (s:Shared) (H:Hp) (E:XK):Cx where
 prog:=P
 w:=w
 K:=K
 mg:=mg
 base:=base
 A:=A.deeper (envOfC qual scope s.heap.objs.size f cd)
 N:=N
 s₀:=s
 H₀:=H
 env:=envOfC qual scope s.heap.objs.size f cd
 outer:=outer
 stack:=envOfC qual scope s.heap.objs.size f cd :: outer
 ex:=[]
 calm:=true
 fn:=fun _=>true
 pn:=[]
 xe:=fun e s'=>wpAny (model P w) (A.deeper (envOfC qual scope s.heap.objs.size f cd)) (leaving (envOfC qual scope s.heap.objs.size f cd) e) (fun _ s''=>CX outer H s E e s'') (fun e' s''=>CX outer H s E e' s'') s'
theorem Zql {sc:Scope}{n:Nat}{x:Str}(h:sc.names.lookup x=some .cell):∃ c,(cellsFrom n sc.names []).lookup x=some c:=by
 have q:=W.cellsFrom_some sc.names n [] (.inl h)
 exact Option.isSome_iff_exists.mp q
theorem Zt5 {CX:CXT}{P:Program}{w:World}{K:W.Frag}{mg:Str→Option Value}{base:Heap}{N ps:List Str}{qual:Str}{scope:Scope}{f:Addr}{cd:Value}{A:Around}{outer:List Env}{s s1:Shared}{H:Hp}{E:XK}{us:List Value}{vs:List V}
  (S:Zak N ps scope) (hd:A.handled=none) (e0:Env0 P w K mg base A outer s H) (hl:vs.length=ps.length) (r:Zbr vs us)
  (x:InCallC s s.heap.objs.size (bindL (envOfC qual scope s.heap.objs.size f cd).kindOf (ps.zip us) fun _=>none) (cellsFrom (s.heap.objs.size + 1) scope.names []) (bindC (envOfC qual scope s.heap.objs.size f cd).kindOf (ps.zip us) fun _=>none) s1):
  Inv (Zxt CX P w K mg base N qual scope f cd A outer s H E) [] (start N vs) H s1:=by
 have hpl:ps.length≤N.length:=by have:=congrArg List.length S.pre;rw [List.length_take] at this;omega
 obtain ⟨h1,tk,rfl,hk⟩:=x.done
 have noA:∀ b:Addr,b∉(Zxt CX P w K mg base N qual scope f cd A outer s H E).ex:=fun b z=>absurd (show b∈([]:List Addr) from z) (by simp)
 refine ⟨⟨e0.mod,S.kind,rfl,rfl,Nat.le_refl _,fun y z c h1 h2=>?_,fun y hy=>?_,fun y c _ h=>?_,fun _=>hd,Around.frames_deeper e0.frames,.inr ⟨rfl,rfl⟩,fun b z=>absurd z (noA b),e0.bs,e0.bsz,fun b _ _=>noA b,fun b z=>absurd z (noA b),e0.funs,e0.frf⟩,
  rfl,e0.bare,Un.kept hk,⟨_,x.toInCall.ns,fun i y v h1 h2 h3=>?_⟩,fun y c h=>⟨_,x.cell y c h⟩,e0.hok.fresh (Nat.le_refl _),fun y c h=>?_,fun p hp=>absurd (show p∈([]:List (Addr×Obj)) from hp) (by simp),e0.hok.kept hk,?_⟩
 ·exact name_of_addr x.apart (PySem.mem_of_lookup h1) (PySem.mem_of_lookup h2)
 ·have hy:scope.names.lookup y=some .cell∨scope.names.lookup y=some .free:=hy
  rcases hy with hy | hy
  ·exact Zql hy
  ·exact absurd rfl (S.nofree _ (PySem.mem_of_lookup hy))
 ·exact Nat.le_of_lt (x.above y c (PySem.mem_of_lookup h))
 ·have hi:i<vs.length:=by
   unfold start at h2
   by_cases hi:i<vs.length
   ·exact hi
   ·rw [List.getElem?_append_right (by simpa using hi)] at h2
    rw [List.getElem?_replicate] at h2
    split at h2 <;> cases h2
  have ha:vs[i]?=some v:=by
   unfold start at h2
   rw [List.getElem?_append_left (by simpa using hi),List.getElem?_map] at h2
   cases e:vs[i]? with
   | none=>rw [e] at h2;cases h2
   | some a=>rw [e] at h2;cases h2;rfl
  obtain ⟨u,hu,rv⟩:=r.get ha
  have hp:ps[i]?=some y:=by
   rw [← S.pre,List.getElem?_take_of_lt (by omega)];exact h1
  have ndP:ps.Nodup:=by rw [← S.pre];exact S.nd.sublist (List.take_sublist _ _)
  refine ⟨u,rv,?_⟩
  rcases S.par y (List.mem_of_getElem? hp) with k | k
  ·exact .inl ⟨k,Zny ndP hp hu k⟩
  ·obtain ⟨c,e⟩:=Zql (n:=s.heap.objs.size + 1) k
   refine .inr ⟨.inl k,c,e,?_⟩
   have q:=x.cell y c e
   rw [Zn0 ndP hp hu (by show scope.names.lookup y≠_;rw [k];decide)] at q
   exact q
 ·exact e0.hok.fresh (Nat.le_of_lt (x.above y c (PySem.mem_of_lookup h)))
 ·unfold start
  show _=N.length
  rw [List.length_append,List.length_map,List.length_replicate]
  omega
theorem Z1o {CX:CXT}{P:Program}{w:World}{K:W.Frag}{mg:Str→Option Value}{base:Heap}{k:Nat}{f:Addr}{name qual:Str}{params:Arguments}{body:List Stmt}{scope:Scope}{dV kV doc pm cdv ct oc:Value}{an od:Option Addr}
  {osl:Array (Option Value)} {N ps:List Str} {sp:Sp} (lk:K.lookup f=some ⟨oc,od,.func (W.fnOf name qual params body scope dV kV doc pm an cdv ct),osl⟩) (hcd:W.codeIn K cdv qual=true) (S:Zak N ps scope)
  (len:∀ vs H Q E,sp vs H Q E→vs.length=ps.length)
  (hbody:∀ (A:Around) (outer:List Env) (s:Shared) (H:Hp) (vs:List V) (Q:VK) (E:XK),Zb6 k (A.deeper (envOfC qual scope s.heap.objs.size f cdv))→sp vs H Q E →
   ∃ t,PSs (Zxt CX P w K mg base N qual scope f cdv A outer s H E) body t∧t { nx:=fun _ H'=>Q .non H',rt:=Q } (start N vs) H):
  Zaq P w K mg base CX (k + 1) f (W.fnOf name qual params body scope dV kV doc pm an cdv ct) ps sp:=by
 refine ⟨len,fun A outer s H args us vs Q E hr e0 hb r hsp=>?_⟩
 have hl:=len _ _ _ _ hsp
 have KX:K.In s.heap:=e0.mod.kin.keeps fun b o e=>(e0.bs b o e).1
 have lim:s.heap.NoLimit:=e0.mod.nolimit.keeps fun b o e=>(e0.bs b o e).1
 have hkind:∀ y∈ps.zip us,scope.names.lookup y.1=some .local∨(scope.names.lookup y.1=some .cell∧((cellsFrom (s.heap.objs.size + 1) scope.names []).lookup y.1).isSome=true):=fun ⟨n,v⟩ hy=>by
  rcases S.par n (List.of_mem_zip hy).1 with q | q
  ·exact .inl q
  ·exact .inr ⟨q,W.cellsFrom_some _ _ _ (.inl q)⟩
 refine codeAny_call_function hr.depth (KX _ _ lk) rfl S.co S.gen rfl (W.codeRec_of KX hcd) (hb _ _ _ _ ?_)
 refine wpAny_newFunctionEnv_cells S.kind hkind fun env he s1 x=>?_
 subst he
 refine ⟨lim.keeps x.toInCall.keep,codeAny_func ?_⟩
 obtain ⟨t,ht,hq⟩:=hbody A outer s H vs Q E (hr.deeper _) hsp
 have I:Inv (Zxt CX P w K mg base N qual scope f cdv A outer s H E) [] (start N vs) H s1:=Zt5 S hr.hd e0 hl r x
 refine wpAny_mono (ht [] s1 (start N vs) H _ I hq) (fun fl s' hs=>?_) fun e s' hs=>hs
 have fin:∀ {σ':St} {H':Hp} {v:V} {u:Value},Inv (Zxt CX P w K mg base N qual scope f cdv A outer s H E) [] σ' H' s'→Zb7 v u→Q v H'→CE outer P w H s Q u s' :=
  fun {σ' H' v u} J rv q=>⟨v,H',J.os,J.bare,J.base,J.hok,rv,q⟩
 cases fl with
 | ret u =>
  obtain ⟨v,σ',H',J,rv,q⟩:=hs
  exact fin J rv q
 | next =>
  obtain ⟨σ',H',J,q⟩:=hs
  exact fin (v:=V.non) (u:=Value.none) J rfl q
 | brk =>
  obtain ⟨_,_,_,q⟩:=hs
  exact False.elim q
 | cont =>
  obtain ⟨_,_,_,q⟩:=hs
  exact False.elim q
end L2
namespace L2
open PySem PySem.Spec PyProof.Rows
section
variable {X:Cx} {x:Str} {p pos:Pos} {e:Expr} {es:List Expr} {t:TA} {id T:String} {r:List V→Hp→VK→Prop}
def tCB (r:List V→Hp→VK→Prop) (t:TA):TE:=fun σ H Q=>t σ H fun vs H1=>r vs H1 Q
theorem Zaj (hc:Zif X (.builtin id) r) (hg:Gl X x) (hm:X.mg x=none) (hv:bootBuiltins x=some (.builtin id)) (ha:PA X (e :: es) t) (hn:x≠"__name__":=by decide) (hdb:(x == ("__debug__":Str))=false:=by decide)
  (he:starEach (e :: es) X.env=(false,eval e X.env):: starEach es X.env:=by rfl) (hpl:(backTo pos (starEach es X.env)).any (·.1)=false:=by rfl):PE X (.Call (.Name x p) (e :: es) [] pos) (tCB r t):=by
 intro pins s σ H Q I h
 refine wpAny_Call_Name_kw (Zjf I hg hm hv ?_ hn hdb)
 exact PyProof.Rows.callWith_builtin1 (thn (ha pos pins s σ H _ I h) fun us s1 ⟨vs,H1,I1,r1,q1⟩=>hc pins s1 σ H1 vs us Q I1 r1 q1) he hpl
theorem Zbo (hc:Zif X (.type T) r) (hg:Gl X x) (hm:X.mg x=none) (hv:bootBuiltins x=some (.type T)) (ha:PA X (e :: es) t) (hn:x≠"__name__":=by decide) (hdb:(x == ("__debug__":Str))=false:=by decide)
  (he:starEach (e :: es) X.env=(false,eval e X.env):: starEach es X.env:=by rfl) (hpl:(backTo pos (starEach es X.env)).any (·.1)=false:=by rfl):PE X (.Call (.Name x p) (e :: es) [] pos) (tCB r t):=by
 intro pins s σ H Q I h
 refine wpAny_Call_Name_kw (Zjf I hg hm hv ?_ hn hdb)
 exact PyProof.Rows.callWith_type1 (thn (ha pos pins s σ H _ I h) fun us s1 ⟨vs,H1,I1,r1,q1⟩=>hc pins s1 σ H1 vs us Q I1 r1 q1) he hpl
end
end L2
namespace HT
open PySem PyProof.Rows
section
open PySem.SeqAt
open PySem.AutoSeq1 (wpAny_loadPart')
open PySem.MeetsSeq PySem.MeetsSeq2 PySem.MeetsSeq3
end
section
variable {prog:Program} {w:World} {A:Around} {E:Value→Shared→Prop} {s:Shared}
theorem cat_tup {t b:Addr}{vs ws:List Value}{Q:Value→Shared→Prop}(ht:IsTup s.heap t vs.toArray) (hb:IsTup s.heap b ws.toArray) (hv:vs≠[])
  (h1:ws=[]→Q (.ref t) s) (h2:ws≠[]→Q (.ref s.heap.objs.size) { s with heap:=s.heap.push { cls:=.type "tuple",data:=.seq (vs++ws).toArray } })
  (hsz:vs.length + ws.length≤sizeLine):wpAny (model prog w) A (binaryOp .Add (.ref t) (.ref b)) Q E s:=by
 obtain ⟨⟨cls,dd,data,sl⟩,ho,hc,n,hd⟩:=id ht
 obtain ⟨⟨cls2,dd2,data2,sl2⟩,ho2,hc2,n2,hd2⟩:=id hb
 simp only at hc hd hc2 hd2
 subst hc hd hc2 hd2
 have e:vs.toArray++ws.toArray=(vs++ws).toArray:=by simp
 by_cases hw:ws=[]
 ·exact concat_meets ⟨_,ho,rfl⟩ ⟨_,ho2,rfl⟩ noFill_tuple_add seq_tuple_add PySem.F.slot_tuple_add PySem.F.entry_tuple_add (PySem.F.args_tuple_add_2 _ _)
   (tuple_addW1 t b vs.toArray ws.toArray n n2 dd dd2 sl sl2 (by simpa using hv) (by simp [hw])) ⟨ho,ho2,h1 hw⟩
 ·refine concat_meets ⟨_,ho,rfl⟩ ⟨_,ho2,rfl⟩ noFill_tuple_add seq_tuple_add PySem.F.slot_tuple_add PySem.F.entry_tuple_add (PySem.F.args_tuple_add_2 _ _)
   (tuple_addW2 t b vs.toArray ws.toArray n n2 dd dd2 sl sl2 (by simpa using hv) (by simpa using hw) (by rw [List.size_toArray,List.size_toArray];exact hsz)) ⟨ho,ho2,?_⟩
  rw [e]
  exact h2 hw
def sIx (n d:Nat):Option Int→Nat
 | none=>d
 | some v=>if v<0 then (v + (n:Int)).toNat else min v.toNat n
theorem sIx_none (n d:Nat):sIx n d none=d:=rfl
theorem sIx_nat (n d k:Nat):sIx n d (some (k:Int))=min k n:=by
 show (if (k:Int)<0 then ((k:Int) + (n:Int)).toNat else min (k:Int).toNat n)=min k n
 rw [if_neg (by omega),Int.toNat_natCast]
end
end HT
namespace L2
open PySem PySem.Spec PyProof.Rows
abbrev TO:=St→Hp→(Option Int→Hp→Prop)→Prop
def PO (X:Cx) (e:Option Expr) (t:TO):Prop :=
 ∀ (pins:List (Addr×Obj)) (s:Shared) (σ:St) (H:Hp) (Q:Option Int→Hp→Prop),Inv X pins σ H s→t σ H Q →
  wpAny (model X.prog X.w) X.A (evalPart e X.env) (fun u s'=>∃ o H',Inv X pins σ H' s'∧IsPart u o∧Q o H') X.xe s
def Zir:TO:=fun _ H Q=>Q none H
def Zz7 (t:TE):TO:=fun σ H Q=>t σ H fun x H1=>∃ i,x=.int i∧Q (some i) H1
section
variable {X:Cx} {e:Expr} {te:TE} {lo hi:Option Expr} {tl th:TO} {pos p2:Pos}
theorem Zlh:PO X none Zir:=by
 intro pins s σ H Q I h
 rw [evalPart_none]
 exact wpAny_pure ⟨none,H,I,.none,h⟩
theorem Zht (h:PE X e te):PO X (some e) (Zz7 te):=by
 intro pins s σ H Q I hw
 rw [evalPart_some]
 refine thn (h pins s σ H _ I hw) fun u s1 ⟨x,H1,I1,r1,q1⟩=>?_
 obtain ⟨i,rfl,q⟩:=q1
 obtain ⟨t,rfl⟩:=r1
 exact ⟨some i,H1,I1,.int i t,q⟩
def SlR (X:Cx) (r:V→Option Int→Option Int→Hp→VK→Prop):Prop :=
 ∀ (pins:List (Addr×Obj)) (s:Shared) (σ:St) (H:Hp) (x:V) (v vl vu:Value) (lo hi:Option Int) (sl:Addr) (Q:VK),Inv X pins σ H s→Zb7 x v→s.heap.IsSliceOf sl vl vu .none→IsPart vl lo→IsPart vu hi→r x lo hi H Q →
  ∃ T id,typeLookup (.type T) "__getitem__"=pure (some (.builtin id))∧s.TypeIs v T∧wpAny (model X.prog X.w) X.A (getItem v (.ref sl)) (EP X pins σ Q) X.xe s
def tSl (r:V→Option Int→Option Int→Hp→VK→Prop) (te:TE) (tl th:TO):TE:=fun σ H Q=>te σ H fun x H1=>tl σ H1 fun l H2=>th σ H2 fun u H3=>r x l u H3 Q
theorem Zhf {r:V→Option Int→Option Int→Hp→VK→Prop}(hr:SlR X r) (he:PE X e te) (hl:PO X lo tl) (hu:PO X hi th):PE X (.Subscript e (.Slice lo hi none p2) pos) (tSl r te tl th):=by
 intro pins s σ H Q I h
 refine Subscript_ (thn (he pins s σ H _ I h) fun v s1 ⟨x,H1,I1,r1,q1⟩=>?_)
 refine wpAny_Slice (thn (hl pins s1 σ H1 _ I1 q1) fun vl s2 ⟨l,H2,I2,pl,q2⟩=>thn (hu pins s2 σ H2 _ I2 q2) fun vu s3 ⟨u,H3,I3,pu,q3⟩=>?_)
 rw [evalPart_none]
 refine wpAny_pure ?_
 have I4:Inv X pins σ H3 { s3 with heap:=s3.heap.push { cls:=.type "slice",data:=.fields #[vl,vu,.none] } }:=I3.kept (t':=s3.toks) fun b ob q=>Heap.get?_push_of_some _ q
 obtain ⟨T,id,hT,ht,hg⟩:=hr pins { s3 with heap:=s3.heap.push { cls:=.type "slice",data:=.fields #[vl,vu,.none] } } σ H3 x v vl vu l u s3.heap.objs.size Q I4 r1 (Heap.IsSliceOf.new ..) pl pu q3
 show wpAny (model X.prog X.w) X.A (subscriptTail e (.Slice lo hi none p2) v (.ref s3.heap.objs.size)) (EP X pins σ Q) X.xe { s3 with heap:=s3.heap.push { cls:=.type "slice",data:=.fields #[vl,vu,.none] } }
 exact tail_any (ops:=[.ref s3.heap.objs.size,v]) ht hT hg (by with_unfolding_all rfl)
def Zqk (xs:List V) (lo hi:Option Int):List V:=(xs.drop (HT.sIx xs.length 0 lo)).take (HT.sIx xs.length xs.length hi - HT.sIx xs.length 0 lo)
theorem Zo0 (xs:List V) (lo hi:Option Int):(Zqk xs lo hi).length≤xs.length:=by
 unfold Zqk
 rw [List.length_take,List.length_drop]
 omega
def Z2o (K:W.Frag):R2:=fun x y H Q=>∃ a b xs ys,x=.ref a∧y=.ref b∧SqT K H a xs∧SqT K H b ys∧xs≠[]∧xs.length + ys.length≤sizeLine ∧
 (ys=[]→Q (.ref a) H)∧(ys≠[]→∀ p,H p=none→Q (.ref p) (upd H p (.tup (xs++ys))))
theorem Zbr.nil_iff {xs:List V}{us:List Value}(r:Zbr xs us):us=[]↔xs=[]:=by
 cases r with
 | nil=>simp
 | cons _ _=>simp
theorem Zyo:OpR X (binaryOp .Add) (Z2o X.K):=by
 intro pins s σ H x y v u Q I rx ry h
 obtain ⟨a,b,xs,ys,rfl,rfl,ha,hb,hx,hz,q1,q2⟩:=h
 cases rx
 cases ry
 obtain ⟨its,r1,p1,_⟩:=I.tuple ha
 obtain ⟨its2,r2,p2,_⟩:=I.tuple hb
 refine HT.cat_tup p1 p2 (fun z=>hx (r1.nil_iff.mp z)) (fun z=>⟨.ref a,H,I,rfl,q1 (r2.nil_iff.mp z)⟩) (fun z=>?_) (by rw [← r1.length,← r2.length];exact hz)
 refine ⟨.ref s.heap.objs.size,_,I.laid (t':=s.toks) (o:=.tup (xs++ys)) (fun b ob q=>Heap.get?_push_of_some _ q) (Nat.le_refl _) ?_,rfl,q2 (fun w=>z (r2.nil_iff.mpr w)) _ (I.hok.fresh (Nat.le_refl _))⟩
 exact ⟨by rw [List.length_append];exact hz,_,r1.append r2,IsTup.new _ _⟩
end
end L2
namespace L2
open PySem PySem.Spec PyProof.Rows
def ixN (n:Nat) (i:Int):Option Nat:=if 0≤i then (if i<n then some i.toNat else none) else if -(n:Int)≤i then some (i + n).toNat else none
def atI {α:Type} (xs:List α) (i:Int):Option α:=(ixN xs.length i).bind fun j=>xs[j]?
theorem Zt2 {n:Nat}{i:Int}{j:Nat}(h:ixN n i=some j):seqIndex? i n=some j∧j<n∧-(n:Int)≤i∧i<n:=by
 unfold ixN at h
 by_cases h0:0≤i
 ·rw [if_pos h0] at h
  by_cases h1:i<n
  ·rw [if_pos h1] at h
   have e:i.toNat=j:=Option.some.inj h
   exact ⟨by rw [seqIndex_of h0 h1,e],by omega,by omega,h1⟩
  ·rw [if_neg h1] at h;cases h
 ·rw [if_neg h0] at h
  by_cases h1:-(n:Int)≤i
  ·rw [if_pos h1] at h
   have e:(i + n).toNat=j:=Option.some.inj h
   exact ⟨by rw [seqIndex_neg (by omega) h1,e],by omega,h1,by omega⟩
  ·rw [if_neg h1] at h;cases h
theorem Zo3 {α:Type}{xs:List α}{i:Int}{v:α}(h:atI xs i=some v):∃ j,seqIndex? i xs.length=some j∧xs[j]?=some v∧j<xs.length∧-(xs.length:Int)≤i∧i<xs.length:=by
 unfold atI at h
 cases e:ixN xs.length i with
 | none=>rw [e] at h;cases h
 | some j =>
  rw [e] at h
  obtain ⟨h1,h2,h3,h4⟩:=Zt2 e
  exact ⟨j,h1,h,h2,h3,h4⟩
theorem Zch {α:Type}{xs:List α}{j:Nat}{v:α}(h:xs[j]?=some v):atI xs (j:Int)=some v:=by
 have hj:j<xs.length:=(List.getElem?_eq_some_iff.mp h).1
 have e:ixN xs.length (j:Int)=some j:=by
  unfold ixN
  rw [if_pos (by omega),if_pos (by omega)];simp
 unfold atI;rw [e];exact h
def Zuv (b:Expr):Prop:=∀ o i,subscripted b false o i=operate [o,i] (getItem o i)
def IxR (X:Cx) (r:R2):Prop :=
 ∀ (value slice:Expr) (pins:List (Addr×Obj)) (s:Shared) (σ:St) (H:Hp) (x y:V) (v u:Value) (Q:VK),Inv X pins σ H s→Zb7 x v→Zb7 y u→r x y H Q →
  subscripted slice false v u=operate [v,u] (getItem v u)→wpAny (model X.prog X.w) X.A (subscriptTail value slice v u) (EP X pins σ Q) X.xe s
def MtR (X:Cx) (id:String) (r:V→List V→Hp→VK→Prop):Prop :=
 ∀ (pins:List (Addr×Obj)) (s:Shared) (σ:St) (H:Hp) (x:V) (xs:List V) (v:Value) (us:List Value) (Q:VK),Inv X pins σ H s→Zb7 x v→Zbr xs us→r x xs H Q →
  wpAny (model X.prog X.w) X.A (call (.builtin id) (v :: us)) (EP X pins σ Q) X.xe s
section
variable {X:Cx} {a b:Expr} {ta tb:TE} {pos:Pos}
theorem Zbd {r:R2}(hr:IxR X r) (ha:PE X a ta) (hb:PE X b tb) (hs:Zuv b):PE X (.Subscript a b pos) (tOp r ta tb):=by
 intro pins s σ H Q I h
 exact Subscript_ (Z3g ha hb I h fun v u s2 x y H2 I2 rx ry q=>hr a b pins s2 σ H2 x y v u Q I2 rx ry q (hs _ _))
def Zl7 (K:W.Frag):R2:=fun x y H Q=>∃ p xs i v,x=.ref p∧y=.int i∧SqL K H p xs∧atI xs i=some v∧Q v H
def Zib (K:W.Frag):R2:=fun x y H Q=>∃ p xs i v,x=.ref p∧y=.int i∧SqT K H p xs∧atI xs i=some v∧Q v H
def Z6a:R2:=fun x y H Q=>∃ z i c,x=.str z∧y=.int i∧z.length≤sizeLine∧atI z.cps.toList i=some c∧Q (.str ⟨#[c]⟩) H
theorem Za9:IxR X (Zl7 X.K):=by
 intro value slice pins s σ H x y v u Q I rx ry h hs
 obtain ⟨p,xs,i,z,rfl,rfl,hq,he,q⟩:=h
 cases rx
 obtain ⟨t,rfl⟩:=ry
 obtain ⟨its,r,pl,hz⟩:=I.list hq
 obtain ⟨j,h1,h2,h3,h4,h5⟩:=Zo3 he
 obtain ⟨w,ew,rw'⟩:=r.get h2
 have hl:=r.length
 have hn:=Zjd
 have fin:EP X pins σ Q w s:=⟨z,H,I,rw',q⟩
 by_cases h0:0≤i
 ·have hj:i.toNat=j:=by
   rw [seqIndex_of h0 h5] at h1
   exact Option.some.inj h1
  exact item_listR pl.isList h0 (by omega) (by rw [hj];simpa using ew) fin hs
 ·have hj:(i + (its.toArray.size:Int)).toNat=j:=by
   rw [seqIndex_neg (by omega) h4] at h1
   rw [List.size_toArray,← hl]
   exact Option.some.inj h1
  exact subscriptTail_builtinR (x:=w) pl.isList.typeIs slot_list_getitem.lookup
   (wpAny_getItem_list_neg (Q:=fun r s'=>r=w∧EP X pins σ Q r s') pl.isList (by omega) (by rw [List.size_toArray] <;> omega) (by omega) (by rw [hj];simpa using ew) ⟨rfl,fin⟩) hs
theorem Zb9:IxR X (Zib X.K):=by
 intro value slice pins s σ H x y v u Q I rx ry h hs
 obtain ⟨p,xs,i,z,rfl,rfl,hq,he,q⟩:=h
 cases rx
 obtain ⟨t,rfl⟩:=ry
 obtain ⟨its,r,pl,hz⟩:=I.tuple hq
 obtain ⟨j,h1,h2,h3,h4,h5⟩:=Zo3 he
 obtain ⟨w,ew,rw'⟩:=r.get h2
 have hl:=r.length
 have hn:=Zjd
 have fin:EP X pins σ Q w s:=⟨z,H,I,rw',q⟩
 exact subscriptTail_builtinR (x:=w) pl.typeIs slot_tuple_getitem.lookup
  (getItem_tuple (j:=j) (Q:=fun r s'=>r=w∧EP X pins σ Q r s') pl (by omega) (by omega) (by rw [List.size_toArray,← hl];exact h1) (by simpa using ew) ⟨rfl,fin⟩) hs
theorem Z1k:IxR X Z6a:=by
 intro value slice pins s σ H x y v u Q I rx ry h hs
 obtain ⟨z,i,c,rfl,rfl,hz,he,q⟩:=h
 obtain ⟨t,rfl⟩:=rx
 obtain ⟨t',rfl⟩:=ry
 obtain ⟨j,h1,h2,h3,h4,h5⟩:=Zo3 he
 have hl:z.cps.toList.length=z.length:=by simp [Str.length]
 rw [hl] at h1 h4 h5
 have hn:=Zjd
 exact tail_any (typeIs_str s z t) slot_str_getitem.lookup (getItem_str (c:=c) (by
  have e1:decide (i < -(2 ^ 63:Int))=false:=decide_eq_false (by omega)
  have e2:decide (i ≥ 2 ^ 63)=false:=decide_eq_false (by omega)
  rw [e1,e2,Bool.or_false]) (by rw [h1];simpa using h2) ⟨.str ⟨#[c]⟩,H,I.tok _,⟨_,rfl⟩,q⟩) hs
theorem Zrb (its:List Value) (n j:Nat) (u:Value):Obj.mapSeq (·.setIfInBounds j u) { cls:=.type "list",data:=.seq its.toArray n }={ cls:=.type "list",data:=.seq (its.set j u).toArray n }:=by
 simp [Obj.mapSeq]
theorem Inv.lst {pins:List (Addr×Obj)}{σ:St}{H:Hp}{s:Shared}{p:Addr}{xs:List V}(I:Inv X pins σ H s) (h:H p=some (.lst xs)):
  ∃ (its:List Value) (n:Nat),Zbr xs its∧s.heap.get? p=some { cls:=.type "list",data:=.seq its.toArray n }∧xs.length≤sizeLine:=by
 obtain ⟨z,its,n,r,e⟩:=I.hok p _ h
 exact ⟨its,n,r,e,z⟩
theorem Inv.lstUpd {pins:List (Addr×Obj)}{σ:St}{H:Hp}{s:Shared}{p:Addr}{xs ys:List V}{its its':List Value}{n n':Nat}{f:Obj→Obj}(I:Inv X pins σ H s) (h:H p=some (.lst xs))
  (ho:s.heap.get? p=some { cls:=.type "list",data:=.seq its.toArray n }) (hf:f { cls:=.type "list",data:=.seq its.toArray n }={ cls:=.type "list",data:=.seq its'.toArray n' }) (r:Zbr ys its') (hz:ys.length≤sizeLine) (t:Nat):
  Inv X pins σ (upd H p (.lst ys)) { s with heap:=s.heap.update p f,toks:=t }:=by
 have e:(s.heap.update p f).get? p=some { cls:=.type "list",data:=.seq its'.toArray n' }:=by
  rw [Heap.get?_update_self f ho (by rw [hf] <;> rfl),hf]
 refine I.write (x:=p) (e:=p) (by rw [h];trivial) (.inl rfl) (fun b u hb q=>(Heap.get?_update_other _ _ (Ne.symm hb)).trans q) ⟨_,e⟩ ?_
 exact ⟨hz,its',n',r,e⟩
def Z2m:V→V→V→Hp→(Hp→Prop)→Prop:=fun o i v H Q=>∃ p xs k j,o=.ref p∧i=.int k∧H p=some (.lst xs)∧ixN xs.length k=some j∧Q (upd H p (.lst (xs.set j v)))
theorem Zld:Z4z X Z2m:=by
 intro pins s σ H o i v ov iv u Q I ro ri rv h
 obtain ⟨p,xs,k,j,rfl,rfl,hp,hj,q⟩:=h
 cases ro
 obtain ⟨t,rfl⟩:=ri
 obtain ⟨its,n,r,ho,hz⟩:=I.lst hp
 obtain ⟨h1,h2,h3,h4⟩:=Zt2 hj
 have hl:=r.length
 have hn:=Zjd
 have I':Inv X pins σ (upd H p (.lst (xs.set j v))) { s with heap:=s.heap.update p (Obj.mapSeq (·.setIfInBounds j u)) } :=
  I.lstUpd hp ho (Zrb its n j u) (r.set rv j) (by rw [List.length_set];exact hz) s.toks
 by_cases h0:0≤k
 ·have hk:k.toNat=j:=by
   rw [seqIndex_of h0 h4] at h1
   exact Option.some.inj h1
  exact W.ki_setAt ho h0 (by omega) (by rw [List.size_toArray,← hl];exact h4) (by rw [hk];exact ⟨_,I',q⟩)
 ·have hk:(k + (its.toArray.size:Int)).toNat=j:=by
   rw [seqIndex_neg (by omega) h3] at h1
   rw [List.size_toArray,← hl]
   exact Option.some.inj h1
  exact W.ki_setBack ho (by omega) (by rw [List.size_toArray,← hl];exact h3) (by omega) (by rw [hk];exact ⟨_,I',q⟩)
theorem Zmq (lo hi:Option Int) (n:Nat):(sliceBounds lo hi none n).1=((HT.sIx n 0 lo:Nat):Int)∧(sliceBounds lo hi none n).2.1=((HT.sIx n n hi:Nat):Int)∧(sliceBounds lo hi none n).2.2=1:=by
 refine ⟨?_,?_,rfl⟩
 ·cases lo with
  | none=>simp [sliceBounds,HT.sIx]
  | some i =>
   simp only [sliceBounds,HT.sIx,Option.getD_none,show (1:Int) > 0 by decide,if_true]
   by_cases h:i<0
   ·simp only [h,if_true] <;> omega
   ·simp only [h,if_false] <;> omega
 ·cases hi with
  | none=>simp [sliceBounds,HT.sIx]
  | some i =>
   simp only [sliceBounds,HT.sIx,Option.getD_none,show (1:Int) > 0 by decide,if_true]
   by_cases h:i<0
   ·simp only [h,if_true] <;> omega
   ·simp only [h,if_false] <;> omega
theorem Zlb (its:List Value) (lo hi:Option Int):slicePick its.toArray lo hi none=((its.drop (HT.sIx its.length 0 lo)).take (HT.sIx its.length its.length hi - HT.sIx its.length 0 lo)).toArray:=by
 obtain ⟨h1,h2,h3⟩:=Zmq lo hi its.toArray.size
 unfold slicePick
 rw [h1,h2,h3]
 simp only [sliceRange_one,pick_run,List.size_toArray] <;> rfl
def Zyd (K:W.Frag):V→Option Int→Option Int→Hp→VK→Prop:=fun x lo hi H Q=>∃ a xs,x=.ref a∧SqL K H a xs∧∀ p,H p=none→Q (.ref p) (upd H p (.lst (Zqk xs lo hi)))
theorem Zi0:SlR X (Zyd X.K):=by
 intro pins s σ H x v vl vu lo hi sl Q I rx hs pl pu h
 obtain ⟨a,xs,rfl,hx,q⟩:=h
 cases rx
 obtain ⟨its,r,ht,hz⟩:=I.list hx
 have hlen:=r.length
 refine ⟨"list",_,slot_list_getitem.lookup,ht.isList.typeIs,?_⟩
 refine wpAny_getItem_list_slice ht.isList hs pl pu .none (by simp) ?_ (by rw [List.size_toArray] <;> omega)
 rw [Zlb,← hlen]
 refine ⟨.ref s.heap.objs.size,_,I.laid (t':=s.toks) (o:=.lst (Zqk xs lo hi)) (fun b ob q=>Heap.get?_push_of_some _ q) (Nat.le_refl _) ?_,rfl,q _ (I.hok.fresh (Nat.le_refl _))⟩
 exact ⟨Nat.le_trans (Zo0 xs lo hi) hz,_,0,(r.drop (HT.sIx xs.length 0 lo)).take (HT.sIx xs.length xs.length hi - HT.sIx xs.length 0 lo),Heap.get?_push_size _ rfl⟩
def Zly:V→Bool
 | .non=>true
 | .bl _=>true
 | .int _=>true
 | .str _=>true
 | _=>false
def eqV:V→V→Bool
 | .non,.non=>true
 | .bl a,.bl b=>a == b
 | .bl a,.int b=>(if a then 1 else 0) == b
 | .int a,.bl b=>a == (if b then 1 else 0)
 | .int a,.int b=>a == b
 | .str a,.str b=>a == b
 | _,_=>false
theorem Z1q {A:Around}{s:Shared}{y x:V}{u v:Value}(ry:Zb7 y u) (rx:Zb7 x v) (fy:Zly y=true) (fx:Zly x=true):SeqAt.EqAt A s u v (eqV y x):=by
 cases y with
 | non =>
  cases ry
  cases x with
  | non=>cases rx;exact SeqAt.EqAt.same _
  | bl b=>cases rx;exact SeqAt.EqAt.none_bool b
  | int b=>obtain ⟨t,rfl⟩:=rx;exact SeqAt.EqAt.none_int b t
  | str b=>obtain ⟨t,rfl⟩:=rx;exact SeqAt.EqAt.none_str b t
  | _=>exact absurd (show false=true from fx) Bool.false_ne_true
 | bl a =>
  cases ry
  cases x with
  | non=>cases rx;exact SeqAt.EqAt.bool_none a
  | bl b=>cases rx;exact SeqAt.EqAt.bool_bool a b
  | int b=>obtain ⟨t,rfl⟩:=rx;exact SeqAt.EqAt.bool_int a b t
  | str b=>obtain ⟨t,rfl⟩:=rx;exact SeqAt.EqAt.bool_str a b t
  | _=>exact absurd (show false=true from fx) Bool.false_ne_true
 | int a =>
  obtain ⟨t',rfl⟩:=ry
  cases x with
  | non=>cases rx;exact SeqAt.EqAt.int_none a t'
  | bl b=>cases rx;exact SeqAt.EqAt.int_bool a t' b
  | int b=>obtain ⟨t,rfl⟩:=rx;exact SeqAt.EqAt.int_int a t' b t
  | str b=>obtain ⟨t,rfl⟩:=rx;exact SeqAt.EqAt.int_str a t' b t
  | _=>exact absurd (show false=true from fx) Bool.false_ne_true
 | str a =>
  obtain ⟨t',rfl⟩:=ry
  cases x with
  | non=>cases rx;exact SeqAt.EqAt.str_none a t'
  | bl b=>cases rx;exact SeqAt.EqAt.str_bool a t' b
  | int b=>obtain ⟨t,rfl⟩:=rx;exact SeqAt.EqAt.str_int a t' b t
  | str b=>obtain ⟨t,rfl⟩:=rx;exact SeqAt.EqAt.str_str a t' b t
  | _=>exact absurd (show false=true from fx) Bool.false_ne_true
 | _=>exact absurd (show false=true from fy) Bool.false_ne_true
def eqU (x:V) (u:Value):Bool:=match u with
 | .none=>eqV .non x
 | .bool b=>eqV (.bl b) x
 | .int i _=>eqV (.int i) x
 | .str z _=>eqV (.str z) x
 | _=>false
theorem Zxq {x y:V}{u:Value}(r:Zb7 y u) (f:Zly y=true):eqU x u=eqV y x:=by
 cases y with
 | non=>cases r;rfl
 | bl b=>cases r;rfl
 | int i=>obtain ⟨t,rfl⟩:=r;rfl
 | str z=>obtain ⟨t,rfl⟩:=r;rfl
 | _=>exact absurd (show false=true from f) Bool.false_ne_true
theorem Zjt {x:V}:∀ {xs:List V}{us:List Value},Zbr xs us→xs.all Zly=true→us.any (eqU x)=xs.any fun y=>eqV y x
 | _,_,.nil,_=>rfl
 | y :: xs,u :: us,.cons r t,f=>by
  rw [List.all_cons,Bool.and_eq_true] at f
  rw [List.any_cons,List.any_cons,Zxq r f.1,Zjt t f.2]
theorem Zhi {A:Around}{s:Shared}{x:V}{v:Value}(rx:Zb7 x v) (fx:Zly x=true):∀ {xs:List V}{us:List Value},Zbr xs us→xs.all Zly=true→∀ u∈us,SeqAt.EqAt A s u v (eqU x u)
 | _,_,.nil,_=>fun u hu=>by cases hu
 | y :: xs,u :: us,.cons r t,f=>fun u' hu=>by
  rw [List.all_cons,Bool.and_eq_true] at f
  rcases List.mem_cons.mp hu with rfl | hu
  ·rw [Zxq r f.1];exact Z1q r rx f.1 fx
  ·exact Zhi rx fx t f.2 u' hu
def inV (x:V) (xs:List V):Bool:=xs.any fun y=>eqV y x
def rIn (K:W.Frag) (neg:Bool):R2:=fun x y H Q=>∃ p xs,y=.ref p∧(SqL K H p xs∨SqT K H p xs)∧Zly x=true∧xs.all Zly=true∧Q (.bl (if neg then !inV x xs else inV x xs)) H
theorem Zdt:OpR X (compareOp .In) (rIn X.K false):=by
 intro pins s σ H x y v u Q I rx ry h
 obtain ⟨p,xs,rfl,hq,fx,fs,q⟩:=h
 cases ry
 rcases hq with hq | hq
 ·obtain ⟨its,r,pl,hz⟩:=I.list hq
  refine SeqAt.in_listAt (eqU x) pl.isList (fun w hw=>Zhi rx fx r fs w (by simpa using hw)) ⟨.bl _,H,I,rfl,?_⟩
  rw [show its.toArray.any (eqU x)=its.any (eqU x) by simp,Zjt r fs]
  exact q
 ·obtain ⟨its,r,pl,hz⟩:=I.tuple hq
  refine SeqAt.in_tupleAt (eqU x) pl (fun w hw=>Zhi rx fx r fs w (by simpa using hw)) ⟨.bl _,H,I,rfl,?_⟩
  rw [show its.toArray.any (eqU x)=its.any (eqU x) by simp,Zjt r fs]
  exact q
theorem Zew:OpR X (compareOp .NotIn) (rIn X.K true):=by
 intro pins s σ H x y v u Q I rx ry h
 obtain ⟨p,xs,rfl,hq,fx,fs,q⟩:=h
 cases ry
 rcases hq with hq | hq
 ·obtain ⟨its,r,pl,hz⟩:=I.list hq
  refine SeqAt.notIn_listAt (eqU x) pl.isList (fun w hw=>Zhi rx fx r fs w (by simpa using hw)) ⟨.bl _,H,I,rfl,?_⟩
  rw [show its.toArray.any (eqU x)=its.any (eqU x) by simp,Zjt r fs]
  exact q
 ·obtain ⟨its,r,pl,hz⟩:=I.tuple hq
  refine SeqAt.notIn_tupleAt (eqU x) pl (fun w hw=>Zhi rx fx r fs w (by simpa using hw)) ⟨.bl _,H,I,rfl,?_⟩
  rw [show its.toArray.any (eqU x)=its.any (eqU x) by simp,Zjt r fs]
  exact q
theorem Zaw:Zif X (.builtin "len") (fun xs H Q=>∃ p ys,xs=[.ref p]∧(SqL X.K H p ys∨SqT X.K H p ys)∧Q (.int ys.length) H):=by
 intro pins s σ H xs us Q I r h
 obtain ⟨p,ys,rfl,hq,q⟩:=h
 obtain ⟨u,rfl,rx⟩:=Zkx r
 cases rx
 have hn:=Zjd
 rcases hq with hq | hq
 ·obtain ⟨its,r',pl,hz⟩:=I.list hq
  have hlen:=r'.length
  exact Calls.call_len_list pl.isList (by simp only [List.size_toArray] <;> omega) ⟨.int ys.length,H,I.tok _,⟨s.toks + 1,by rw [List.size_toArray,hlen]⟩,q⟩
 ·obtain ⟨its,r',pl,hz⟩:=I.tuple hq
  have hlen:=r'.length
  exact len_tuple pl (by simp only [List.size_toArray] <;> omega) ⟨.int ys.length,H,I.tok _,⟨s.toks + 1,by rw [List.size_toArray,hlen]⟩,q⟩
theorem Zh9:Zif X (.type "list") (fun xs H Q=>∃ p ys,xs=[.ref p]∧(SqL X.K H p ys∨SqT X.K H p ys)∧∀ l,H l=none→Q (.ref l) (upd H l (.lst ys))):=by
 intro pins s σ H xs us Q I r h
 obtain ⟨p,ys,rfl,hq,q⟩:=h
 obtain ⟨u,rfl,rx⟩:=Zkx r
 cases rx
 have fin:∀ (its:List Value),Zbr ys its→ys.length≤sizeLine→∀ (h':Heap) (c':Nat),(∀ b o',s.heap.get? b=some o'→h'.get? b=some o') →
   h'.get? s.heap.objs.size=some { cls:=.type "list",dict:=none,data:=.seq its.toArray c',slots:=#[] }→EP X pins σ Q (.ref s.heap.objs.size) { s with heap:=h' }:=fun its r' hz h' c' kp e =>
  ⟨.ref s.heap.objs.size,_,I.laid (t':=s.toks) kp (Nat.le_refl _) (show Zbq X.prog X.w _ h' _ (.lst ys) from ⟨hz,its,c',r',e⟩),rfl,q _ (I.hok.fresh (Nat.le_refl _))⟩
 rcases hq with hq | hq
 ·obtain ⟨its,r',pl,hz⟩:=I.list hq
  have hlen:=r'.length
  obtain ⟨o,ho,hc,n,hd⟩:=pl.isList
  exact call_list_seq p (.inl rfl) ho hc hd (fun h' c' kp e=>fin its r' hz h' c' kp e) (by simp only [List.size_toArray] <;> omega)
 ·obtain ⟨its,r',pl,hz⟩:=I.tuple hq
  have hlen:=r'.length
  obtain ⟨o,ho,hc,n,hd⟩:=pl
  exact call_list_seq p (.inr rfl) ho hc hd (fun h' c' kp e=>fin its r' hz h' c' kp e) (by simp only [List.size_toArray] <;> omega)
theorem Zck:Zif X (.type "tuple") (fun xs H Q=>∃ p ys,xs=[.ref p]∧((SqL X.K H p ys∧∀ l,H l=none→Q (.ref l) (upd H l (.tup ys)))∨(SqT X.K H p ys∧Q (.ref p) H))):=by
 intro pins s σ H xs us Q I r h
 obtain ⟨p,ys,rfl,h⟩:=h
 obtain ⟨u,rfl,rx⟩:=Zkx r
 cases rx
 rcases h with ⟨hq,q⟩ | ⟨hq,q⟩
 ·obtain ⟨its,r',pl,hz⟩:=I.list hq
  have hlen:=r'.length
  refine call_tuple_list pl.isList (fun h' kp=>?_) (by simp only [List.size_toArray] <;> omega)
  have I1:Inv X pins σ H { s with heap:=h' }:=I.kept (t':=s.toks) kp
  have I2:Inv X pins σ (upd H h'.objs.size (.tup ys)) { s with heap:=h'.push { cls:=.type "tuple",data:=.seq its.toArray } } :=
   I1.laid (t':=s.toks) (fun b o e=>Heap.get?_push_of_some _ e) (Nat.le_refl _) (show Zbq X.prog X.w _ _ _ (.tup ys) from ⟨hz,its,r',IsTup.new _ _⟩)
  exact ⟨.ref h'.objs.size,_,I2,rfl,q _ (I1.hok.fresh (Nat.le_refl _))⟩
 ·obtain ⟨its,r',pl,hz⟩:=I.tuple hq
  exact call_tuple_same pl ⟨.ref p,H,I,rfl,q⟩
def tyV (K:W.Frag) (T:String) (x:V) (H:Hp):Prop:=match x with
 | .str _=>T="str"
 | .int _=>T="int"
 | .ref p=>(T="list"∧∃ xs,SqL K H p xs)∨(T="tuple"∧∃ o,K.lookup p=some o∧o.cls=.type "tuple"∧o.dict=none) ∨
   (T="dict"∧((∃ kvs,H p=some (.dK kvs))∨∃ kvs,H p=some (.dT kvs)))∨(T="set"∧∃ S n,H p=some (.set S n))
 | _=>False
theorem Zw6 {pins:List (Addr×Obj)}{σ:St}{H:Hp}{s:Shared}{T:String}{x:V}{v:Value}(I:Inv X pins σ H s) (r:Zb7 x v) (ty:tyV X.K T x H):
  s.TypeIs v T∧∀ a,v=.ref a→∃ ob,s.heap.get? a=some ob∧ob.dict=none:=by
 cases x with
 | str z =>
  obtain ⟨t,rfl⟩:=r
  cases (show T="str" from ty)
  exact ⟨typeIs_str s z t,fun _ e=>nomatch e⟩
 | int i =>
  obtain ⟨t,rfl⟩:=r
  cases (show T="int" from ty)
  exact ⟨typeIs_int s i t,fun _ e=>nomatch e⟩
 | ref p =>
  cases r
  rcases ty with ⟨rfl,xs,hq⟩ | ⟨rfl,o,hk,hc,hd⟩ | ⟨rfl,hk⟩ | ⟨rfl,S,n,hk⟩
  ·obtain ⟨its,_,pl,_⟩:=I.list hq
   refine ⟨pl.isList.typeIs,fun a e=>?_⟩
   cases e
   obtain ⟨o,n,e,c,hd,_⟩:=pl
   exact ⟨o,e,hd⟩
  ·refine ⟨⟨o,I.kIn p o hk,hc⟩,fun a e=>?_⟩
   cases e
   exact ⟨o,I.kIn _ o hk,hd⟩
  ·have z:∃ o,s.heap.get? p=some o∧o.ExactDict:=by
    rcases hk with ⟨kvs,hk⟩ | ⟨kvs,hk⟩
    ·obtain ⟨_,_,_,_,o,_,_,e,ex,_⟩:=I.hok p _ hk
     exact ⟨o,e,ex⟩
    ·obtain ⟨_,_,_,_,o,_,_,e,ex,_⟩:=I.hok p _ hk
     exact ⟨o,e,ex⟩
   obtain ⟨o,e,ex⟩:=z
   refine ⟨⟨o,e,ex.1⟩,fun a e2=>?_⟩
   cases e2
   exact ⟨o,e,ex.2.1⟩
  ·obtain ⟨o,_,_,_,e,ex,_⟩:=I.hok p _ hk
   refine ⟨⟨o,e,ex.1⟩,fun a e2=>?_⟩
   cases e2
   exact ⟨o,e,ex.2.1⟩
 | _=>exact False.elim ty
def Z5i (K:W.Frag) (T:String) (r:V→List V→Hp→VK→Prop) (to:TE):TE:=fun σ H Q=>to σ H fun x H1=>tyV K T x H1∧r x [] H1 Q
def tBM (K:W.Frag) (T:String) (r:V→List V→Hp→VK→Prop) (to:TE) (t:TA):TE:=fun σ H Q=>to σ H fun x H1=>tyV K T x H1∧t σ H1 fun xs H2=>r x xs H2 Q
variable {o e:Expr} {es:List Expr} {to:TE} {t:TA} {name:Str} {apos cpos:Pos} {T id:String} {r:V→List V→Hp→VK→Prop}
theorem Z0r (pa:PlainAttrs T) (slot:Slot T name id) (hty:typeOf (.builtin id)=pure (.type "method_descriptor")) (hm:MtR X id r) (ho:PE X o to)
  (hbase:attributeBase o name X.env (eval o X.env)=eval o X.env:=by rfl) (hline:(apos.endLine == cpos.line)=true:=by rfl):PE X (.Call (.Attribute o name apos) [] [] cpos) (Z5i X.K T r to):=by
 intro pins s σ H Q I h
 refine wpAny_Call_method0_late hbase hline (thn (ho pins s σ H _ I h) fun v s1 ⟨x,H1,I1,r1,ty,q1⟩=>?_)
 obtain ⟨h1,h2⟩:=Zw6 I1 r1 ty
 exact ⟨T,id,pa,slot,hty,h1,h2,Calls.callWith_builtin rfl (PySem.evalArgs_none (hm pins s1 σ H1 x [] v [] Q I1 r1 .nil q1))⟩
theorem Zic (pa:PlainAttrs T) (slot:Slot T name id) (hty:typeOf (.builtin id)=pure (.type "method_descriptor")) (hm:MtR X id r) (ho:PE X o to) (ha:PA X (e :: es) t)
  (hbase:attributeBase o name X.env (eval o X.env)=eval o X.env:=by rfl)
  (hfew:((backTo cpos (starEach (e :: es) X.env)).all (fun x=>!x.1)&&(backToKw cpos (keywordEach [] X.env)).all (fun x=>x.1.isSome)
   && decide ((e :: es).length + ([]:List Keyword).length + (if ([]:List Keyword).isEmpty then 0 else 1)<30))=true:=by rfl)
  (hline:(apos.endLine == cpos.line)=true:=by rfl) (hs:starEach (e :: es) X.env=(false,eval e X.env):: starEach es X.env:=by rfl) (hplain:(backTo cpos (starEach es X.env)).any (·.1)=false:=by rfl):
  PE X (.Call (.Attribute o name apos) (e :: es) [] cpos) (tBM X.K T r to t):=by
 intro pins s σ H Q I h
 refine wpAny_Call_method_late hbase hfew hline rfl (thn (ho pins s σ H _ I h) fun v s1 ⟨x,H1,I1,r1,ty,q1⟩=>?_)
 obtain ⟨h1,h2⟩:=Zw6 I1 r1 ty
 refine ⟨T,id,pa,slot,hty,h1,h2,?_⟩
 have hA:=ha cpos pins s1 σ H1 _ I1 q1
 rw [hs] at hA ⊢
 refine Calls.callWith_builtin (by show (false || (backTo cpos (starEach es X.env)).any (·.1))=false;rw [hplain] <;> rfl) (Calls.evalArgs_plain ?_)
 exact thn hA fun us s2 ⟨vs,H2,I2,r2,q2⟩=>hm pins s2 σ H2 x vs v us Q I2 r1 r2 q2
end
end L2
namespace L2
open PySem PySem.Spec PyProof.Rows
def MtM (X:Cx) (id:String) (r:V→List V→Hp→VK→Prop):Prop :=
 ∀ (pins:List (Addr×Obj)) (s:Shared) (σ:St) (H:Hp) (x:V) (xs:List V) (v:Value) (us:List Value) (Q:VK),Inv X pins σ H s→Zb7 x v→Zbr xs us→r x xs H Q →
  wpAny (model X.prog X.w) X.A (call (.builtin id) (v :: us)) (EP X pins σ Q) X.xe s
theorem Zbr.one:∀ {x:V}{us:List Value},Zbr [x] us→∃ u,us=[u]∧Zb7 x u
 | _,_,.cons r .nil=>⟨_,rfl,r⟩
theorem Zbr.zero:∀ {us:List Value},Zbr [] us→us=[]
 | _,.nil=>rfl
theorem Zbr.dropLast {xs:List V}{us:List Value}(h:Zbr xs us):Zbr xs.dropLast us.dropLast:=by
 induction h with
 | nil=>exact .nil
 | cons r t ih =>
  cases t with
  | nil=>exact .nil
  | cons q t'=>exact .cons r ih
theorem Zbr.rep {xs:List V}{us:List Value}(h:Zbr xs us):∀ k:Nat,Zbr (List.replicate k xs).flatten (List.replicate k us).flatten
 | 0=>.nil
 | k + 1=>by
  rw [List.replicate_succ,List.replicate_succ,List.flatten_cons,List.flatten_cons]
  exact Zbr.append h (Zbr.rep h k)
theorem Zrn {α:Type}(l:List α):l.eraseIdx (l.length - 1)=l.dropLast:=by
 induction l with
 | nil=>rfl
 | cons a r ih =>
  cases r with
  | nil=>rfl
  | cons b r =>
   have e:(a :: b :: r).length - 1=((b :: r).length - 1) + 1:=by
    have h1:(a :: b :: r).length=r.length + 2:=rfl
    have h2:(b :: r).length=r.length + 1:=rfl
    omega
   rw [e,List.eraseIdx_cons_succ,ih]
   all_goals rfl
theorem Znp (its:List Value):∀ (k:Nat) (acc:List Value),
  List.foldl (fun x1 x2=>x1++x2) acc.toArray (List.replicate k its.toArray)=(acc++(List.replicate k its).flatten).toArray
 | 0,acc=>by simp
 | k + 1,acc=>by
  have e:acc.toArray++its.toArray=(acc++its).toArray:=by simp
  have e2:(acc++its)++(List.replicate k its).flatten=acc++(List.replicate (k + 1) its).flatten:=by
   rw [List.replicate_succ,List.flatten_cons,List.append_assoc]
  rw [← e2,← Znp its k (acc++its),← e,List.replicate_succ,List.foldl_cons]
section
variable {X:Cx} {pins:List (Addr×Obj)} {σ:St} {H:Hp} {s:Shared} {l b:Addr} {xs ys zs:List V}
theorem Inv.lset {its its':List Value}{n:Nat}{f:Array Value→Array Value}{t':Nat}(I:Inv X pins σ H s) (hH:H l=some (.lst xs))
  (e:s.heap.get? l=some { cls:=.type "list",data:=.seq its.toArray n }) (hf:f its.toArray=its'.toArray) (hv:Zbr ys its') (hz:ys.length≤sizeLine):
  Inv X pins σ (upd H l (.lst ys)) { s with heap:=s.heap.update l (Obj.mapSeq f),toks:=t' }:=by
 have q:=PySem.IsL.update e f
 rw [hf] at q
 refine I.write (x:=l) (e:=l) (by rw [hH];exact trivial) (.inl rfl) (fun b' u hb hu=>(Heap.get?_update_other s.heap (Obj.mapSeq f) (Ne.symm hb)).trans hu) ⟨_,q⟩ ?_
 exact ⟨hz,its',_,hv,q⟩
theorem Inv.lnew {its:List Value}{t':Nat}(I:Inv X pins σ H s) (hv:Zbr ys its) (hz:ys.length≤sizeLine):
  Inv X pins σ (upd H s.heap.objs.size (.lst ys)) { s with heap:=s.heap.push { cls:=.type "list",data:=.seq its.toArray },toks:=t' } :=
 I.laid (fun _ _ q=>Heap.get?_push_of_some _ q) (Nat.le_refl _) ⟨hz,its,0,hv,Heap.get?_push_size _ rfl⟩
theorem Inv.fresh (I:Inv X pins σ H s):H s.heap.objs.size=none:=I.hok.fresh (Nat.le_refl _)
theorem Inv.lstM (I:Inv X pins σ H s) (hH:H l=some (.lst xs)):xs.length≤sizeLine∧∃ (its:List Value) (n:Nat),Zbr xs its∧xs.length=its.length∧s.heap.get? l=some { cls:=.type "list",data:=.seq its.toArray n }:=by
 obtain ⟨z,its,n,r,e⟩:=I.hok l _ hH
 exact ⟨z,its,n,r,r.length,e⟩
theorem Zp2 {n:Nat}(h:n≤sizeLine):Builtin.List.listTooLong n=false:=by
 unfold Builtin.List.listTooLong
 exact decide_eq_false (by omega)
end
section
variable {X:Cx}
def Zyg:V→List V→Hp→VK→Prop:=fun x vs H Q=>∃ l xs y,x=.ref l∧vs=[y]∧H l=some (.lst xs)∧xs.length<sizeLine∧Q .non (upd H l (.lst (xs++[y])))
theorem Zdu:MtM X "list.append" Zyg:=by
 intro pins s σ H x vs v us Q I rx rv h
 obtain ⟨l,xs,y,rfl,rfl,hH,hz,q⟩:=h
 cases rx
 obtain ⟨u,rfl,ru⟩:=rv.one
 obtain ⟨z,its,n,r,hl,e⟩:=I.lstM hH
 refine call_meets F.slot_list_append ⟨_,e,rfl⟩ F.entry_list_append (F.args_list_append_2 _ _) (PySem.list_append l its.toArray n u (by rw [List.size_toArray];omega)) ⟨e,?_⟩
 refine ⟨.non,_,I.lset (its':=its++[u]) hH e (by simp) (r.append (.cons ru .nil)) ?_,rfl,q⟩
 rw [List.length_append,List.length_singleton]
 omega
def Zyf:V→List V→Hp→VK→Prop:=fun x vs H Q=>∃ l b xs zs,x=.ref l∧vs=[.ref b]∧H l=some (.lst xs)∧H b=some (.lst zs)∧xs.length + zs.length≤sizeLine∧Q .non (upd H l (.lst (xs++zs)))
theorem Znb:MtM X "list.extend" Zyf:=by
 intro pins s σ H x vs v us Q I rx rv h
 obtain ⟨l,b,xs,zs,rfl,rfl,hH,hB,hz,q⟩:=h
 cases rx
 obtain ⟨u,rfl,ru⟩:=rv.one
 cases ru
 obtain ⟨z,its,n,r,hl,e⟩:=I.lstM hH
 obtain ⟨z2,its2,n2,r2,hl2,e2⟩:=I.lstM hB
 have hsz:its.toArray.size + its2.toArray.size≤sizeLine:=by rw [List.size_toArray,List.size_toArray];omega
 have hlong:¬ (!its.toArray.isEmpty&&Builtin.List.listTooLong (its.toArray.size + its2.toArray.size))=true:=by
  rw [Zp2 hsz,Bool.and_false]
  exact Bool.false_ne_true
 refine call_meets F.slot_list_extend ⟨_,e,rfl⟩ F.entry_list_extend (F.args_list_extend_2 _ _)
  (AutoSeq1.list_extend_list_list_0 l its.toArray n b its2.toArray n2 hlong (by rw [List.size_toArray];omega) (by omega)) ⟨e,e2,?_⟩
 refine ⟨.non,_,I.lset (its':=its++its2) hH e (by simp) (r.append r2) ?_,rfl,q⟩
 rw [List.length_append]
 omega
def Z59:V→List V→Hp→VK→Prop:=fun x vs H Q=>∃ l xs y,x=.ref l∧vs=[]∧H l=some (.lst xs)∧xs[xs.length - 1]?=some y∧Q y (upd H l (.lst xs.dropLast))
theorem Z1d:MtM X "list.pop" Z59:=by
 intro pins s σ H x vs v us Q I rx rv h
 obtain ⟨l,xs,y,rfl,rfl,hH,hy,q⟩:=h
 cases rx
 have hus:=rv.zero
 subst hus
 obtain ⟨z,its,n,r,hl,e⟩:=I.lstM hH
 obtain ⟨u,hu,ru⟩:=r.get hy
 have hy':its.toArray[its.toArray.size - 1]?=some u:=by
  show its.toArray[its.length - 1]?=some u
  rw [← Array.getElem?_toList,← hl]
  exact hu
 refine call_meets F.slot_list_pop ⟨_,e,rfl⟩ F.entry_list_pop (F.args_list_pop_1 _) (MeetsSeq.list_pop_last l its.toArray n u hy' (by rw [List.size_toArray];omega)) ⟨e,?_⟩
 refine ⟨y,_,I.lset (its':=its.dropLast) hH e ?_ r.dropLast ?_,ru,q⟩
 ·show its.toArray.eraseIdxIfInBounds (its.toArray.size - 1)=its.dropLast.toArray
  rw [List.size_toArray,List.eraseIdxIfInBounds_toArray,Zrn]
 ·rw [List.length_dropLast]
  omega
def Z6c:R2:=fun x y H Q=>∃ l b xs zs,x=.ref l∧y=.ref b∧H l=some (.lst xs)∧H b=some (.lst zs)∧xs.length + zs.length≤sizeLine∧∀ p,H p=none→Q (.ref p) (upd H p (.lst (xs++zs)))
theorem Ztc:OpR X (binaryOp .Add) Z6c:=by
 intro pins s σ H x y v u Q I rx ry h
 obtain ⟨l,b,xs,zs,rfl,rfl,hH,hB,hz,q⟩:=h
 cases rx
 cases ry
 obtain ⟨z,its,n,r,hl,e⟩:=I.lstM hH
 obtain ⟨z2,its2,n2,r2,hl2,e2⟩:=I.lstM hB
 refine PySem.P.add_list e e2 ?_ (by rw [List.size_toArray,List.size_toArray];omega)
 have ea:its.toArray++its2.toArray=(its++its2).toArray:=by simp
 rw [ea]
 exact ⟨.ref _,_,I.lnew (t':=s.toks) (r.append r2) (by rw [List.length_append];omega),rfl,q _ I.fresh⟩
def Z58:R2:=fun x y H Q=>∃ l k xs,x=.ref l∧y=.int k∧H l=some (.lst xs)∧-(2 ^ 63)≤k∧k<2 ^ 63∧xs.length * k.toNat≤sizeLine ∧
 ∀ p,H p=none→Q (.ref p) (upd H p (.lst (List.replicate k.toNat xs).flatten))
theorem Zy5 {α:Type}(xs:List α) (k:Nat):(List.replicate k xs).flatten.length=k * xs.length:=by
 induction k with
 | zero=>simp
 | succ k ih=>rw [List.replicate_succ,List.flatten_cons,List.length_append,ih,Nat.succ_mul,Nat.add_comm]
theorem Z0s:OpR X (binaryOp .Mult) Z58:=by
 intro pins s σ H x y v u Q I rx ry h
 obtain ⟨l,k,xs,rfl,rfl,hH,h1,h2,hz,q⟩:=h
 cases rx
 obtain ⟨t,rfl⟩:=ry
 obtain ⟨z,its,n,r,hl,e⟩:=I.lstM hH
 have hlen:its.toArray.size * k.toNat≤sizeLine:=by rw [List.size_toArray,← hl];exact hz
 have hcap:¬ its.toArray.size * k.toNat > (2 ^ 63 - 1) / 8:=by
  have:(sizeLine:Nat)≤(2 ^ 63 - 1) / 8:=by decide
  omega
 have hfit:¬ (!Builtin.List.listFitsIndex k)=true:=by
  rw [fitsIndex_both h1 h2]
  exact Bool.false_ne_true
 have hlong:¬ Builtin.List.listTooLong (its.toArray.size * k.toNat)=true:=by
  rw [Zp2 hlen]
  exact Bool.false_ne_true
 have hnew:List.foldl (fun x1 x2=>x1++x2) #[] (List.replicate (if its.toArray.isEmpty=true then 0 else k.toNat) its.toArray)=(List.replicate k.toNat its).flatten.toArray:=by
  have f0:∀ m:Nat,List.foldl (fun x1 x2=>x1++x2) #[] (List.replicate m its.toArray)=(List.replicate m its).flatten.toArray:=fun m=>by
   have:=Znp its m []
   rw [List.nil_append] at this
   exact this
  rw [f0]
  cases its with
  | nil=>simp
  | cons a r'=>rw [if_neg (by simp)]
 refine wpAny_binaryOp_repeat_ref (T:="list") (U:="int") (by decide) ⟨_,e,rfl⟩ (fun s'=>typeIs_int s' k t) noFill_list_mul F.fills_int_mul F.slot_int_rmul repeat_list F.slot_int_index.lookup
  (call_meets F.slot_int_rmul (typeIs_int s k t) F.entry_int_rmul (F.args_int_rmul_2 _ _) (int___rmul___int_list k t l its.toArray n)
   ⟨e,rfl,⟨_,e,rfl⟩,call_meets F.slot_list_mul ⟨_,e,rfl⟩ F.entry_list_mul (F.args_list_mul_2 _ _) (AutoListH.list___mul___list_int_3 l its.toArray n k t hfit hcap hlong) ⟨e,?_⟩⟩)
 rw [hnew]
 exact ⟨.ref _,_,I.lnew (t':=s.toks) (r.rep k.toNat) (by rw [Zy5,Nat.mul_comm];exact hz),rfl,q _ I.fresh⟩
end
section
variable {prog:Program} {w:World} {A:Around} {E:Value→Shared→Prop} {s:Shared}
end
section
variable {X:Cx}
end
end L2
namespace L2
open PySem PySem.Spec PyProof.Rows
section
variable {κ:Type} [DecidableEq κ]
def Zga (kvs:List (κ×V)) (k:κ):Option V:=(kvs.find? fun kv=>decide (kv.1=k)).map (·.2)
def Zfn (kvs:List (κ×V)) (k:κ) (v:V):List (κ×V):=
 if (kvs.any fun kv=>decide (kv.1=k))=true then kvs.map (fun kv=>if kv.1=k then (kv.1,v) else kv) else kvs++[(k,v)]
theorem Zf7 {p:κ×V}{r:List (κ×V)}{k:κ}(e:p.1=k):Zga (p :: r) k=some p.2:=by simp [Zga,List.find?_cons,e]
theorem Zf8 {p:κ×V}{r:List (κ×V)}{k:κ}(e:¬ p.1=k):Zga (p :: r) k=Zga r k:=by simp [Zga,List.find?_cons,e]
theorem Zf9 (k:κ):∀ kvs:List (κ×V),(kvs.any fun kv=>decide (kv.1=k))=(Zga kvs k).isSome
 | []=>rfl
 | p :: r=>by
  rw [List.any_cons]
  by_cases e:p.1=k
  ·simp only [Zf7 e,decide_eq_true e,Bool.true_or,Option.isSome_some]
  ·rw [Zf8 e,decide_eq_false e,Bool.false_or];exact Zf9 k r
theorem Zgw (kvs:List (κ×V)) (k:κ) (v:V):(Zfn kvs k v).length≤kvs.length + 1:=by
 unfold Zfn
 split
 ·rw [List.length_map];omega
 ·rw [List.length_append,List.length_cons,List.length_nil];omega
theorem Zff {kvs:List (κ×V)}{k:κ}(v:V) (h:Zga kvs k=none):Zfn kvs k v=kvs++[(k,v)]:=by
 unfold Zfn
 rw [Zf9,h]
 exact if_neg (by decide)
theorem Zn3.isSome_eq {o:Option V}{u:Option Value}(r:Zn3 o u):o.isSome=u.isSome:=by
 cases o with
 | none=>cases u with
  | none=>rfl
  | some _=>exact (show False from r).elim
 | some _=>cases u with
  | none=>exact (show False from r).elim
  | some _=>rfl
theorem KV.val {kvs:List (κ×V)}{vs:List (κ×Value)}(r:KV kvs vs) (k:κ):Zn3 (Zga kvs k) (valueAt vs k):=by
 unfold KV at r
 induction r with
 | nil=>exact True.intro
 | @cons p q ps qs h t ih =>
  obtain ⟨h1,h2⟩:=h
  by_cases e:p.1=k
  ·have e':q.1=k:=h1.symm.trans e
   have b:valueAt (q :: qs) k=some q.2:=by simp [valueAt,List.find?_cons,e']
   rw [Zf7 e,b];exact h2
  ·have e':¬ q.1=k:=fun z=>e (h1.trans z)
   have b:valueAt (q :: qs) k=valueAt qs k:=by simp [valueAt,List.find?_cons,e']
   rw [Zf8 e,b];exact ih
theorem KV.any {kvs:List (κ×V)}{vs:List (κ×Value)}(r:KV kvs vs) (k:κ):(kvs.any fun kv=>decide (kv.1=k))=vs.any fun kv=>decide (kv.1=k):=by
 unfold KV at r
 induction r with
 | nil=>rfl
 | cons h t ih=>rw [List.any_cons,List.any_cons,ih,h.1]
theorem KV.repl {kvs:List (κ×V)}{vs:List (κ×Value)}(r:KV kvs vs) (k:κ) {y:V}{u:Value}(ry:Zb7 y u):
  KV (kvs.map fun kv=>if kv.1=k then (kv.1,y) else kv) (vs.map fun kv=>if kv.1=k then (kv.1,u) else kv):=by
 unfold KV at r ⊢
 induction r with
 | nil=>exact .nil
 | @cons p q ps qs h t ih =>
  rw [List.map_cons,List.map_cons]
  refine .cons ?_ ih
  obtain ⟨h1,h2⟩:=h
  by_cases e:p.1=k
  ·rw [if_pos e,if_pos (h1.symm.trans e)];exact ⟨h1,ry⟩
  ·rw [if_neg e,if_neg (fun z=>e (h1.trans z))];exact ⟨h1,h2⟩
theorem KV.put {kvs:List (κ×V)}{vs:List (κ×Value)}(r:KV kvs vs) (k:κ) {y:V}{u:Value}(ry:Zb7 y u):KV (Zfn kvs k y) (stored vs k u):=by
 unfold Zfn stored
 rw [r.any k]
 by_cases e:(vs.any fun kv=>decide (kv.1=k))=true
 ·rw [if_pos e,if_pos e];exact r.repl k ry
 ·rw [if_neg e,if_neg e];exact Paired.snoc r ⟨rfl,ry⟩
theorem KV.length {kvs:List (κ×V)}{vs:List (κ×Value)}(r:KV kvs vs):kvs.length=vs.length:=Paired.length r
end
theorem Zrh {P:Program}{w:World}{k:Key}{u:Value}(r:Zb7 (kV k) u):(Zbc P w).is k u=true:=by
 cases k with
 | inl i=>obtain ⟨t,e⟩:=(show ∃ t,u=Value.int i t from r);subst e;exact Zop P w i t
 | inr x=>obtain ⟨t,e⟩:=(show ∃ t,u=Value.str x t from r);subst e;exact Zoo P w x t
theorem Znn {P:Program}{w:World}:∀ {ks:List Key}{us:List Value},Zbr (ks.map kV) us→ItemsAre (Zbc P w) ks us
 | [],_,r=>by rw [List.map_nil] at r;cases r;exact .nil
 | k :: ks,_,r=>by
  rw [List.map_cons] at r
  cases r with
  | cons h t=>exact .cons (Zrh h) (Znn t)
abbrev KT (H:Hp):List (List Key×V)→List (List Key×Addr×Value)→Prop:=Paired fun p q=>p.1=q.1∧H q.2.1=some (.tup (p.1.map kV))∧Zb7 p.2 q.2.2
theorem KT.val {H:Hp}{kvs:List (List Key×V)}{xs:List (List Key×Addr×Value)}(r:KT H kvs xs) (k:List Key):Zn3 (Zga kvs k) ((atKey xs k).map (·.2)):=by
 induction r with
 | nil=>exact True.intro
 | @cons p q ps qs h t ih =>
  obtain ⟨h1,_,h2⟩:=h
  by_cases e:p.1=k
  ·have e':q.1=k:=h1.symm.trans e
   have b:atKey (q :: qs) k=some q.2:=by simp [atKey,List.find?_cons,e']
   rw [Zf7 e,b];exact h2
  ·have e':¬ q.1=k:=fun z=>e (h1.trans z)
   have b:atKey (q :: qs) k=atKey qs k:=by simp [atKey,List.find?_cons,e']
   rw [Zf8 e,b];exact ih
theorem KT.repl {H:Hp}{kvs:List (List Key×V)}{xs:List (List Key×Addr×Value)}(r:KT H kvs xs) (k:List Key) {y:V}{u:Value}(ry:Zb7 y u):
  KT H (kvs.map fun kv=>if kv.1=k then (kv.1,y) else kv) (xs.map (putAt k u)):=by
 induction r with
 | nil=>exact .nil
 | @cons p q ps qs h t ih =>
  rw [List.map_cons,List.map_cons]
  refine .cons ?_ ih
  obtain ⟨h1,h2,h3⟩:=h
  unfold putAt
  by_cases e:p.1=k
  ·rw [if_pos e,if_pos (h1.symm.trans e)];exact ⟨h1,h2,ry⟩
  ·rw [if_neg e,if_neg (fun z=>e (h1.trans z))];exact ⟨h1,h2,h3⟩
theorem KT.put {H:Hp}{kvs:List (List Key×V)}{xs:List (List Key×Addr×Value)}(r:KT H kvs xs) (k:List Key) {b:Addr}{y:V}{u:Value}(hb:H b=some (.tup (k.map kV))) (ry:Zb7 y u):
  KT H (Zfn kvs k y) (storedH xs k b u):=by
 have e:(kvs.any fun kv=>decide (kv.1=k))=(atKey xs k).isSome:=by
  rw [Zf9,(r.val k).isSome_eq,Option.isSome_map]
 unfold Zfn storedH
 rw [e]
 by_cases q:(atKey xs k).isSome=true
 ·rw [if_pos q,if_pos q];exact r.repl k ry
 ·rw [if_neg q,if_neg q];exact Paired.snoc r ⟨rfl,hb,ry⟩
theorem KT.keeps {H H':Hp}{kvs:List (List Key×V)}{xs:List (List Key×Addr×Value)}(r:KT H kvs xs) (ht:∀ b ys,H b=some (.tup ys)→H' b=some (.tup ys)):KT H' kvs xs :=
 Paired.mapP r fun _ _ z=>⟨z.1,ht _ _ z.2.1,z.2.2⟩
section
variable {P:Program} {w:World} {H:Hp} {h:Heap} {a:Addr}
theorem Z0k {u:HO}(ok:HOk P w H h) (e:Rd H a u):Zbq P w H h a u:=e.ok ok
theorem Zns {kvs:List (Key×V)}(ok:HOk P w H h) (e:Rd H a (.dK kvs)):kvs.length≤sizeLine∧(a == sysModules)=false∧∃ vs,KV kvs vs∧h.DictOf (Zbc P w) a vs :=
 show Zbq P w H h a (.dK kvs) from Z0k ok e
theorem Z1r {kvs:List (Key×V)}(ok:HOk P w H h) (e:H a=some (.dK kvs)):kvs.length≤sizeLine∧(a == sysModules)=false∧∃ vs,KV kvs vs∧h.DictOf (Zbc P w) a vs:=Zns ok (.inl e)
theorem Znm {ks:List Key}(ok:HOk P w H h) (e:H a=some (.tup (ks.map kV))):(tupleKind (Zbc P w)).is h ks a:=by
 obtain ⟨_,its,r,o,h1,h2,n,h3⟩:=(show Zbq P w H h a (.tup (ks.map kV)) from ok a _ e)
 exact ⟨o,its.toArray,n,h1,h2,h3,by simpa using Znn r⟩
theorem Zro {kvs:List (List Key×V)}(ok:HOk P w H h) (e:Rd H a (.dT kvs)):kvs.length≤sizeLine∧(a == sysModules)=false ∧
  ∃ xs,KT H kvs xs∧h.DictOfH (tupleKind (Zbc P w)) a xs:=by
 obtain ⟨z,y,xs,r,o,es,ep,h1,h2,h3,h4,h5⟩:=(show Zbq P w H h a (.dT kvs) from Z0k ok e)
 refine ⟨z,y,xs,r,o,es,ep,h1,h2,h3,h4,fun x hx=>?_,h5⟩
 have all:∀ {l:List (List Key×V)} {m:List (List Key×Addr×Value)},KT H l m→∀ x∈m,(tupleKind (Zbc P w)).is h x.1 x.2.1:=by
  intro l m q
  induction q with
  | nil=>intro x hx;exact nomatch hx
  | @cons p q ps qs hq t ih =>
   intro x hx
   rcases List.mem_cons.mp hx with e | hx
   ·subst e
    exact Znm ok (by rw [← hq.1];exact hq.2.1)
   ·exact ih x hx
 exact all r x hx
theorem Z3e {kvs:List (List Key×V)}(ok:HOk P w H h) (e:H a=some (.dT kvs)):kvs.length≤sizeLine∧(a == sysModules)=false ∧
  ∃ xs,KT H kvs xs∧h.DictOfH (tupleKind (Zbc P w)) a xs:=Zro ok (.inl e)
end
def Zf5 (H:Hp) (a:Addr) (y:V) (r:Option V):Prop :=
 (∃ kvs k,Rd H a (.dK kvs)∧y=kV k∧r=Zga kvs k)∨∃ kvs k b,Rd H a (.dT kvs)∧y=.ref b∧H b=some (.tup (k.map kV))∧r=Zga kvs k
def Zkw (H:Hp) (a:Addr) (y v:V) (H':Hp):Prop :=
 (∃ kvs k,H a=some (.dK kvs)∧y=kV k∧kvs.length<sizeLine∧H'=upd H a (.dK (Zfn kvs k v))) ∨
 ∃ kvs k b,H a=some (.dT kvs)∧y=.ref b∧H b=some (.tup (k.map kV))∧kvs.length<sizeLine∧H'=upd H a (.dT (Zfn kvs k v))
theorem Zf5.k {H:Hp}{a:Addr}{kvs:List (Key×V)}{k:Key}(e:H a=some (.dK kvs)):Zf5 H a (kV k) (Zga kvs k):=.inl ⟨kvs,k,.inl e,rfl,rfl⟩
theorem Zf5.t {H:Hp}{a b:Addr}{kvs:List (List Key×V)}{k:List Key}(e:H a=some (.dT kvs)) (eb:H b=some (.tup (k.map kV))):Zf5 H a (.ref b) (Zga kvs k):=.inr ⟨kvs,k,b,.inl e,rfl,eb,rfl⟩
theorem Zkw.k {H:Hp}{a:Addr}{kvs:List (Key×V)}{k:Key}{v:V}(e:H a=some (.dK kvs)) (hl:kvs.length<sizeLine):Zkw H a (kV k) v (upd H a (.dK (Zfn kvs k v))):=.inl ⟨kvs,k,e,rfl,hl,rfl⟩
theorem Zkw.t {H:Hp}{a b:Addr}{kvs:List (List Key×V)}{k:List Key}{v:V}(e:H a=some (.dT kvs)) (eb:H b=some (.tup (k.map kV))) (hl:kvs.length<sizeLine):
  Zkw H a (.ref b) v (upd H a (.dT (Zfn kvs k v))):=.inr ⟨kvs,k,b,e,rfl,eb,hl,rfl⟩
section
variable {X:Cx} {pins:List (Addr×Obj)} {σ:St} {H:Hp} {s:Shared} {a:Addr} {y v:V} {u r:Value} {o:Option V} {A:Around} {E:Value→Shared→Prop}
theorem Inv.big (I:Inv X pins σ H s):sysModules<s.heap.objs.size:=by
 have h:mainGlobals<s.heap.objs.size:=(I.mod.glob.keeps I.bk).lt
 exact Nat.lt_trans (by decide) h
theorem Zun {Q:Value→Shared→Prop}(hu:A.units + 1<cLine) (I:Inv X pins σ H s) (g:Zf5 H a y (some v)) (ry:Zb7 y u) (h:∀ w' s',Inv X pins σ H s'→Zb7 v w'→Q w' s'):
  wpAny (model X.prog X.w) A (getItem (.ref a) u) Q E s:=by
 rcases g with ⟨kvs,k,e,ey,l⟩ | ⟨kvs,k,b,e,ey,eb,l⟩
 ·subst ey
  obtain ⟨z,hd,vs,rel,dd⟩:=Zns I.hok e
  obtain ⟨w',hw,rw'⟩:=Zn3.some_of (v:=v) (o:=valueAt vs k) (by rw [l];exact rel.val k)
  exact wpAny_getItem_of (Zrh ry) dd.mapOf hw (h w' _ (I.tok _) rw')
 ·subst ey
  cases (show u=Value.ref b from ry)
  obtain ⟨z,hd,xs,rel,dd⟩:=Zro I.hok e
  obtain ⟨w',hw,rw'⟩:=Zn3.some_of (v:=v) (o:=(atKey xs k).map (·.2)) (by rw [l];exact rel.val k)
  obtain ⟨p,hp,hp2⟩:=Option.map_eq_some_iff.mp hw
  refine wpAny_getItem_heap (tupleKind_room_in1 hu) (Znm I.hok eb) dd hp ?_
  rw [hp2]
  exact h w' _ (I.tok _) rw'
theorem Z6o {Q:Value→Shared→Prop}(hu:A.units + 1<cLine) (I:Inv X pins σ H s) (g:Zf5 H a y o) (ry:Zb7 y u) (h:∀ s',Inv X pins σ H s'→Q (.bool o.isSome) s'):
  wpAny (model X.prog X.w) A (compareOp .In u (.ref a)) Q E s:=by
 rcases g with ⟨kvs,k,e,ey,l⟩ | ⟨kvs,k,b,e,ey,eb,l⟩
 ·subst ey
  obtain ⟨z,hd,vs,rel,dd⟩:=Zns I.hok e
  refine wpAny_in_of (Zrh ry) hd dd.mapOf ?_
  rw [← (rel.val k).isSome_eq,← l]
  exact h _ (I.tok _)
 ·subst ey
  cases (show u=Value.ref b from ry)
  obtain ⟨z,hd,xs,rel,dd⟩:=Zro I.hok e
  refine wpAny_in_heap (tupleKind_room_in1 hu) (Znm I.hok eb) hd dd ?_
  have q:=(rel.val k).isSome_eq
  rw [Option.isSome_map] at q
  rw [← q,← l]
  exact h _ (I.tok _)
theorem Zzm {Q:Value→Shared→Prop}(hu:A.units + 1<cLine) (I:Inv X pins σ H s) (g:Zf5 H a y o) (ry:Zb7 y u) (h:∀ s',Inv X pins σ H s'→Q (.bool (!o.isSome)) s'):
  wpAny (model X.prog X.w) A (compareOp .NotIn u (.ref a)) Q E s:=by
 rcases g with ⟨kvs,k,e,ey,l⟩ | ⟨kvs,k,b,e,ey,eb,l⟩
 ·subst ey
  obtain ⟨z,hd,vs,rel,dd⟩:=Zns I.hok e
  refine wpAny_notIn_of (Zrh ry) hd dd.mapOf ?_
  rw [← (rel.val k).isSome_eq,← l]
  exact h _ (I.tok _)
 ·subst ey
  cases (show u=Value.ref b from ry)
  obtain ⟨z,hd,xs,rel,dd⟩:=Zro I.hok e
  refine wpAny_notIn_heap (tupleKind_room_in1 hu) (Znm I.hok eb) hd dd ?_
  have q:=(rel.val k).isSome_eq
  rw [Option.isSome_map] at q
  rw [← q,← l]
  exact h _ (I.tok _)
theorem Zoz {h':Heap}{t':Nat}{ob:HO}(I:Inv X pins σ H s) (mu:Mut (H a)) (hs:Heap.SameBut a s.heap h') (he:∃ q,h'.get? a=some q) (new:Zbq X.prog X.w (upd H a ob) h' a ob):
  Inv X pins σ (upd H a ob) { s with heap:=h',toks:=t' } :=
 I.write (x:=a) (e:=a) mu (.inl rfl) (fun b q hb z=>(hs.2 b hb).trans z) he new
theorem Zxr {P:Program}{w:World}{H':Hp}{h':Heap}{kvs:List (Key×V)}{vs:List (Key×Value)}(z:kvs.length≤sizeLine) (hd:(a == sysModules)=false) (rel:KV kvs vs) (dd:h'.DictOf (Zbc P w) a vs):
  Zbq P w H' h' a (.dK kvs):=⟨z,hd,vs,rel,dd⟩
theorem Zum {H':Hp}{Q:Unit→Shared→Prop}(hu:A.units + 1<cLine) (I:Inv X pins σ H s) (g:Zkw H a y v H') (ry:Zb7 y u) (rv:Zb7 v r) (h:∀ s',Inv X pins σ H' s'→Q () s'):
  wpAny (model X.prog X.w) A (setItem (.ref a) u r) Q E s:=by
 rcases g with ⟨kvs,k,e,ey,l,eH⟩ | ⟨kvs,k,b,e,ey,eb,l,eH⟩
 ·subst ey eH
  obtain ⟨z,hd,vs,rel,dd⟩:=Z1r I.hok e
  have hz:vs.length≤sizeLine:=by rw [← rel.length];exact z
  have hl:(Zfn kvs k v).length≤sizeLine:=by have:=Zgw kvs k v;omega
  refine wpAny_setItem_pairs (hsz:=hz) (Zrh ry) dd fun h' dd' hs=>h _ ?_
  have he:∃ q,h'.get? a=some q:=let ⟨q,_,_,hq,_⟩:=dd';⟨q,hq⟩
  exact Zoz I (by rw [e];exact True.intro) hs he (Zxr hl hd (rel.put k rv) dd')
 ·subst ey eH
  cases (show u=Value.ref b from ry)
  obtain ⟨z,hd,xs,rel,dd⟩:=Z3e I.hok e
  have hz:xs.length≤sizeLine:=by rw [← Paired.length rel];exact z
  have hl:(Zfn kvs k v).length≤sizeLine:=by have:=Zgw kvs k v;omega
  refine wpAny_setItem_heap (hsz:=hz) (tupleKind_room_in1 hu) (Znm I.hok eb) dd fun h' dd' hs=>h _ ?_
  obtain ⟨q,es,ep,hq,h2,h3,h4,_,h5⟩:=dd'
  refine Zoz I (by rw [e];exact True.intro) hs ⟨q,hq⟩ ⟨hl,hd,_,(rel.put k eb rv).keeps fun c ys ec=>?_,q,es,ep,hq,h2,h3,h4,h5⟩
  rw [Zac (Z05 ec e (fun z=>nomatch z))]
  exact ec
end
section
variable {X:Cx} {pins:List (Addr×Obj)} {σ:St} {H:Hp} {s:Shared} {a:Addr} {kvs:List (Key×V)} {k:Key} {u:Value} {A:Around} {E:Value→Shared→Prop}
end
def Z40 (i:Expr):Prop:=∀ ov iv,subscripted i false ov iv=operate [ov,iv] (getItem ov iv)
theorem Zx5 {prog:Program}{w:World}{A:Around}{E:Value→Shared→Prop}{s:Shared}{env:Env}{value slice:Expr}{pos:Pos}{T id:String}{Q:Value→Shared→Prop}
  (hl:typeLookup (.type T) "__getitem__"=pure (some (.builtin id))) (hs:Z40 slice)
  (h:wpAny (model prog w) A (eval value env) (fun o s₁=>wpAny (model prog w) A (eval slice env) (fun i s₂=>s₂.TypeIs o T∧wpAny (model prog w) A (getItem o i) Q E s₂) E s₁) E s):
  wpAny (model prog w) A (eval (.Subscript value slice pos) env) Q E s:=by
 refine Subscript_ (wpAny_mono h (fun o s₁ h₁=>wpAny_mono h₁ (fun i s₂ h₂=>?_) fun _ _ x=>x) fun _ _ x=>x)
 obtain ⟨hT,h₂⟩:=h₂
 unfold subscriptTail
 refine wpAny_bind ?_
 rw [getitemInPython_of_ne hT.not_modules]
 refine wpAny_bind (wpAny_specialOf hT hl ?_)
 have fin:wpAny (model prog w) A (subscripted slice false o i) (fun r s₃=>wpAny (model prog w) A (letTemporaryGo value o r>>=fun _=>pure r) Q E s₃) E s₂:=by
  rw [hs o i]
  exact wpAny_operating (wpAny_mono h₂ (fun r s₃ h₃=>wpAny_bind (wpAny_letTemporaryGo (wpAny_pure h₃))) fun _ _ x=>x)
 first
  | exact wpAny_pure (wpAny_bind fin)
  | exact wpAny_bind (wpAny_pure (wpAny_bind fin))
  | exact wpAny_bind fin
theorem Zoy {X:Cx}{pins:List (Addr×Obj)}{σ:St}{H:Hp}{s:Shared}{a:Addr}{y:V}{o:Option V}(I:Inv X pins σ H s) (g:Zf5 H a y o):s.TypeIs (.ref a) "dict":=by
 rcases g with ⟨kvs,k,e,_,_⟩ | ⟨kvs,k,b,e,_,_,_⟩
 ·obtain ⟨_,_,vs,_,dd⟩:=Zns I.hok e
  exact dd.typeIs
 ·obtain ⟨_,_,xs,_,dd⟩:=Zro I.hok e
  exact dd.typeIs
def Z2f (td ty:TE):TE:=fun σ H Q=>td σ H fun x H1=>ty σ H1 fun y H2=>∃ a v,x=.ref a∧Zf5 H2 a y (some v)∧Q v H2
def Z5g (ty td:TE):TE:=fun σ H Q=>ty σ H fun y H1=>td σ H1 fun x H2=>∃ a o,x=.ref a∧Zf5 H2 a y o∧Q (.bl o.isSome) H2
def Zx4 (ty td:TE):TE:=fun σ H Q=>ty σ H fun y H1=>td σ H1 fun x H2=>∃ a o,x=.ref a∧Zf5 H2 a y o∧Q (.bl (!o.isSome)) H2
def Z2l (td ty tv:TE):TS:=fun D σ H=>tv σ H fun v H1=>td σ H1 fun x H2=>ty σ H2 fun y H3=>∃ a H4,x=.ref a∧Zkw H3 a y v H4∧D.nx σ H4
section
variable {X:Cx} {o i e value:Expr} {pos pos' tpos:Pos} {td ty tv:TE}
theorem Zgu (hu:X.A.units + 1<cLine) (ho:PE X o td) (hi:PE X i ty) (hs:Z40 i):PE X (.Subscript o i pos) (Z2f td ty):=by
 intro pins s σ H Q I h
 refine Zx5 PySem.F.slot_dict_getitem.lookup hs (thn (ho pins s σ H _ I h) fun u s1 ⟨x,H1,I1,rx,q1⟩=>thn (hi pins s1 σ H1 _ I1 q1) fun iv s2 ⟨y,H2,I2,ry,a,v,ex,g,q2⟩=>?_)
 subst ex
 obtain rfl:u=Value.ref a:=rx
 exact ⟨Zoy I2 g,Zun hu I2 g ry fun w' s3 I3 rw'=>⟨v,H2,I3,rw',q2⟩⟩
theorem Zh6 (hu:X.A.units + 1<cLine) (hi:PE X i ty) (ho:PE X o td):PC X .In i o (Z5g ty td):=by
 intro pins s σ H Q I h
 refine thn (hi pins s σ H _ I h) fun iv s1 ⟨y,H1,I1,ry,q1⟩=>thn (ho pins s1 σ H1 _ I1 q1) fun u s2 ⟨x,H2,I2,rx,a,ov,ex,g,q2⟩=>?_
 subst ex
 obtain rfl:u=Value.ref a:=rx
 exact Z6o hu I2 g ry fun s3 I3=>⟨.bl ov.isSome,H2,I3,rfl,q2⟩
theorem Zi6 (hu:X.A.units + 1<cLine) (hi:PE X i ty) (ho:PE X o td):PC X .NotIn i o (Zx4 ty td):=by
 intro pins s σ H Q I h
 refine thn (hi pins s σ H _ I h) fun iv s1 ⟨y,H1,I1,ry,q1⟩=>thn (ho pins s1 σ H1 _ I1 q1) fun u s2 ⟨x,H2,I2,rx,a,ov,ex,g,q2⟩=>?_
 subst ex
 obtain rfl:u=Value.ref a:=rx
 exact Zzm hu I2 g ry fun s3 I3=>⟨.bl (!ov.isSome),H2,I3,rfl,q2⟩
theorem Zdy (hu:X.A.units + 1<cLine) (ho:PE X o td) (hi:PE X i ty) (hv:PE X value tv) (hs:swapsWith value (some (.Subscript o i pos')) pos.line X.env=pure false):
  PS X (.Assign [.Subscript o i pos'] value pos) (Z2l td ty tv):=by
 intro pins s σ H D I h
 refine wpAny_Assign_Subscript (thn (hv pins s σ H _ I h) fun r s1 ⟨v,H1,I1,rv,q1⟩=>thn (ho pins s1 σ H1 _ I1 q1) fun u s2 ⟨x,H2,I2,rx,q2⟩=>thn (hi pins s2 σ H2 _ I2 q2) fun iv s3 ⟨y,H3,I3,ry,a,H4,ex,g,q3⟩=>?_) hs
 subst ex
 obtain rfl:u=Value.ref a:=rx
 exact Zum hu I3 g ry rv fun s4 I4=>⟨σ,H4,I4,q3⟩
end
theorem Zqh {P:Program}{w:World}{H:Hp}(h:Heap) (hb:sysModules<h.objs.size):Zbq P w H (h.push { cls:=.type "dict",data:=.dict #[] }) h.objs.size (.dK []):=
 ⟨Nat.zero_le _,beq_eq_false_iff_ne.mpr (Ne.symm (Nat.ne_of_lt hb)),[],.nil,Heap.DictOf.new h⟩
theorem Zww {P:Program}{w:World}{H:Hp}(h:Heap) (hb:sysModules<h.objs.size):Zbq P w H (h.push { cls:=.type "dict",data:=.dict #[] }) h.objs.size (.dT []):=
 ⟨Nat.zero_le _,beq_eq_false_iff_ne.mpr (Ne.symm (Nat.ne_of_lt hb)),[],.nil,_,#[],0,Heap.get?_push_size _ rfl,⟨rfl,rfl,rfl⟩,rfl,rfl,List.nodup_nil⟩
def Z0c:TE:=fun _ H Q=>∀ p,H p=none→Q (.ref p) (upd H p (.dK []))
def Z0b:TE:=fun _ H Q=>∀ p,H p=none→Q (.ref p) (upd H p (.dT []))
section
variable {X:Cx} {pos:Pos}
theorem Zd8:PE X (.Dict [] [] pos) Z0c:=fun pins s σ H Q I h =>
 wpAny_Dict_empty ⟨.ref s.heap.objs.size,_,I.laid (a:=s.heap.objs.size) (o:=.dK []) (t':=s.toks) (fun _ _ q=>Heap.get?_push_of_some _ q) (Nat.le_refl _) (Zqh s.heap I.big),rfl,h _ (I.hok.fresh (Nat.le_refl _))⟩
theorem Zpv:PE X (.Dict [] [] pos) Z0b:=fun pins s σ H Q I h =>
 wpAny_Dict_empty ⟨.ref s.heap.objs.size,_,I.laid (a:=s.heap.objs.size) (o:=.dT []) (t':=s.toks) (fun _ _ q=>Heap.get?_push_of_some _ q) (Nat.le_refl _) (Zww s.heap I.big),rfl,h _ (I.hok.fresh (Nat.le_refl _))⟩
end
def Zsc:List (TE×TE)→St→Hp→(List (V×V)→Hp→Prop)→Prop
 | [],_,H,Q=>Q [] H
 | (tk,tv):: r,σ,H,Q=>tk σ H fun x H1=>tv σ H1 fun y H2=>Zsc r σ H2 fun ps H3=>Q ((x,y):: ps) H3
abbrev VV:List (V×V)→List (Value×Value)→Prop:=Paired fun p q=>Zb7 p.1 q.1∧Zb7 p.2 q.2
def PPs (X:Cx) (pos:Pos) (keys:List (Option Expr)) (values:List Expr) (trs:List (TE×TE)):Prop :=
 ∀ (pins:List (Addr×Obj)) (s:Shared) (σ:St) (H:Hp) (Q:List (V×V)→Hp→Prop),Inv X pins σ H s→Zsc trs σ H Q →
  wpAny (model X.prog X.w) X.A (evalPairs (pairTrees keys values X.env pos)) (fun vs s'=>∃ ps H',Inv X pins σ H' s'∧VV ps vs∧Q ps H') X.xe s
theorem Zyi {X:Cx}{pos:Pos}:PPs X pos [] [] []:=fun pins s σ H Q I h=>pairTrees_nil_walk ⟨[],H,I,.nil,h⟩
theorem Zvm {X:Cx}{pos:Pos}{k v:Expr}{ks:List (Option Expr)}{vs:List Expr}{tk tv:TE}{trs:List (TE×TE)}(hk:PE X k tk) (hv:PE X v tv) (hr:PPs X pos ks vs trs):
  PPs X pos (some k :: ks) (v :: vs) ((tk,tv):: trs):=fun pins s σ H Q I h =>
 pairTrees_cons_walk (thn (hk pins s σ H _ I h) fun u s1 ⟨x,H1,I1,rx,q1⟩=>thn (hv pins s1 σ H1 _ I1 q1) fun w2 s2 ⟨y,H2,I2,ry,q2⟩ =>
  thn (hr pins s2 σ H2 _ I2 q2) fun ws s3 ⟨ps,H3,I3,rel,q3⟩=>⟨(x,y):: ps,H3,I3,.cons ⟨rx,ry⟩ rel,q3⟩)
def Znc (kvs more:List (Key×V)):List (Key×V):=more.foldl (fun acc kv=>Zfn acc kv.1 kv.2) kvs
theorem KV.merge:∀ {more:List (Key×V)}{rs:List (Key×Value)}{kvs:List (Key×V)}{vs:List (Key×Value)},KV more rs→KV kvs vs→KV (Znc kvs more) (merged vs rs):=by
 intro more rs kvs vs r
 unfold KV at r
 induction r generalizing kvs vs with
 | nil=>intro q;exact q
 | @cons p q ps qs h t ih =>
  intro r0
  have e:KV (Zfn kvs p.1 p.2) (stored vs q.1 q.2):=by
   have:=r0.put p.1 h.2
   rw [← h.1];exact this
  exact ih e
theorem Zhj:∀ (more kvs:List (Key×V)),(Znc kvs more).length≤kvs.length + more.length
 | [],kvs=>by show kvs.length≤kvs.length + 0;omega
 | p :: r,kvs=>by
  have h1:=Zhj r (Zfn kvs p.1 p.2)
  have h2:=Zgw kvs p.1 p.2
  show (Znc (Zfn kvs p.1 p.2) r).length≤_
  rw [List.length_cons];omega
theorem Zks {P:Program}{w:World}:∀ {kvs:List (Key×V)}{ws:List (Value×Value)},VV (kvs.map fun kv=>(kV kv.1,kv.2)) ws→∃ rs,Carries (Zbc P w) ws rs∧KV kvs rs
 | [],_,r=>by rw [List.map_nil] at r;cases r;exact ⟨[],True.intro,.nil⟩
 | p :: kvs,_,r=>by
  rw [List.map_cons] at r
  cases r with
  | @cons a b as bs h t =>
   obtain ⟨rs,c,q⟩:=Zks (P:=P) (w:=w) t
   obtain ⟨b1,b2⟩:=b
   exact ⟨(p.1,b2):: rs,⟨Zrh h.1,rfl,c⟩,.cons ⟨rfl,h.2⟩ q⟩
def Z2e (trs:List (TE×TE)):TE:=fun σ H Q=>∀ p,H p=none→Zsc trs σ (upd H p (.dK [])) fun ps H2=>H2 p=some (.dK [])∧∃ kvs:List (Key×V),ps=kvs.map (fun kv=>(kV kv.1,kv.2))∧kvs.length≤15∧Q (.ref p) (upd H2 p (.dK (Znc [] kvs)))
theorem Zyl {X:Cx}{pos:Pos}{keys:List (Option Expr)}{values:List Expr}{trs:List (TE×TE)}(h:PPs X pos keys values trs) (hall:keys.all (·.isSome)=true) (hl:keys.length=values.length) (h0:keys≠[])
  (h15:keys.length≤15):PE X (.Dict keys values pos) (Z2e trs):=by
 intro pins s σ H Q I q
 have hn:=I.hok.fresh (Nat.le_refl s.heap.objs.size)
 have I1:=I.laid (a:=s.heap.objs.size) (o:=.dK []) (h':=s.heap.push { cls:=.type "dict",data:=.dict #[] }) (t':=s.toks) (fun _ _ q=>Heap.get?_push_of_some _ q) (Nat.le_refl _) (Zqh s.heap I.big)
 refine wpAny_Dict_walk (knd:=Zbc X.prog X.w) hall hl h0 h15 (thn (h pins _ σ _ _ I1 (q _ hn)) fun ws s2 ⟨ps,H2,I2,rel,e,kvs,ep,lk,q2⟩=>?_)
 subst ep
 obtain ⟨rs,c,rk⟩:=Zks (P:=X.prog) (w:=X.w) rel
 obtain ⟨z,hd,vs0,r0,dd⟩:=Z1r I2.hok e
 cases r0
 refine ⟨rs,c,dd,fun h' dd' hs=>⟨.ref s.heap.objs.size,_,?_,rfl,q2⟩⟩
 have hz:(Znc [] kvs).length≤sizeLine:=by
  have h1:=Zhj kvs []
  rw [List.length_nil] at h1
  rw [sizeLine_eq];omega
 have he:∃ q,h'.get? s.heap.objs.size=some q:=let ⟨q,_,_,hq,_⟩:=dd';⟨q,hq⟩
 exact Zoz I2 (by rw [e];exact True.intro) hs he (Zxr hz hd (rk.merge .nil) dd')
structure M1 (X:Cx) (o:Expr) (m:Str) (apos:Pos) (e:Expr) (cpos:Pos):Prop where
 base:attributeBase o m X.env (eval o X.env)=eval o X.env
 few:((backTo cpos (starEach [e] X.env)).all (fun x=>!x.1)&&(backToKw cpos (keywordEach [] X.env)).all (fun x=>x.1.isSome)
  && decide (([e]:List Expr).length + ([]:List Keyword).length + (if ([]:List Keyword).isEmpty then 0 else 1)<30))=true
 line:(apos.endLine == cpos.line)=true
 trees:backTo cpos (starEach [e] X.env)=[(false,eval e X.env)]
structure M2 (X:Cx) (o:Expr) (m:Str) (apos:Pos) (e f:Expr) (cpos:Pos):Prop where
 base:attributeBase o m X.env (eval o X.env)=eval o X.env
 few:((backTo cpos (starEach [e,f] X.env)).all (fun x=>!x.1)&&(backToKw cpos (keywordEach [] X.env)).all (fun x=>x.1.isSome)
  && decide (([e,f]:List Expr).length + ([]:List Keyword).length + (if ([]:List Keyword).isEmpty then 0 else 1)<30))=true
 line:(apos.endLine == cpos.line)=true
 trees:backTo cpos (starEach [e,f] X.env)=[(false,eval e X.env),(false,eval f X.env)]
def IsD (H:Hp) (a:Addr):Prop:=(∃ kvs,Rd H a (.dK kvs))∨∃ kvs,Rd H a (.dT kvs)
theorem Zt4 {X:Cx}{pins:List (Addr×Obj)}{σ:St}{H:Hp}{s:Shared}{a:Addr}(I:Inv X pins σ H s) (d:IsD H a):
  s.TypeIs (.ref a) "dict"∧(∀ b,Value.ref a=.ref b→∃ ob,s.heap.get? b=some ob∧ob.dict=none)∧(a == sysModules)=false:=by
 rcases d with ⟨kvs,e⟩ | ⟨kvs,e⟩
 ·obtain ⟨_,hd,vs,_,dd⟩:=Zns I.hok e
  refine ⟨dd.typeIs,fun b q=>?_,hd⟩
  cases q
  obtain ⟨ob,_,_,h1,h2,_⟩:=dd
  exact ⟨ob,h1,h2.2.1⟩
 ·obtain ⟨_,hd,xs,_,dd⟩:=Zro I.hok e
  refine ⟨dd.typeIs,fun b q=>?_,hd⟩
  cases q
  obtain ⟨ob,_,_,h1,h2,_⟩:=dd
  exact ⟨ob,h1,h2.2.1⟩
section
variable {X:Cx} {pins:List (Addr×Obj)} {σ:St} {H:Hp} {s:Shared} {a:Addr} {y d:V} {u r:Value} {o:Option V} {A:Around} {E:Value→Shared→Prop}
end
section
variable {X:Cx} {o e f:Expr} {apos cpos:Pos} {td ty tx:TE}
end
section
variable {X:Cx} {pins:List (Addr×Obj)} {σ:St} {H:Hp} {s:Shared} {a:Addr} {kvs:List (Key×V)} {A:Around} {E:Value→Shared→Prop}
end
section
variable {X:Cx} {pins:List (Addr×Obj)} {σ:St} {H:Hp} {s:Shared} {a:Addr} {y:V} {u:Value} {A:Around} {E:Value→Shared→Prop}
end
end L2
namespace Att
open PySem PySem.W PySem.Calls PyProof.Rows
theorem Zjj {P:Params}{h:Heap}:∀ (ns:List Int) (vs:List Value),WellAll P h vs (ns.map WData.int)→IntsAre vs ns:=by
 intro ns
 induction ns with
 | nil =>
  intro vs w
  rw [List.map_nil] at w
  cases w
  exact .nil
 | cons n ns ih =>
  intro vs w
  rw [List.map_cons] at w
  cases w with
  | cons a b =>
   cases a
   exact .cons _ _ (ih _ b)
theorem Zst {l:OpenLaw}{n:Nat}(hn:l.most=some n) {P:Params}{h:Heap}{args:List WData}{vals:List Value}
  (hpre:l.row.toRowW.claim.pre args=true) (hwl:WellAll P h vals args):
  ∃ a vs ns,vals=[Value.ref a]∧args=[WData.list (ns.map WData.int)]∧h.get? a=some { cls:=.type "list",data:=.seq vs.toArray }∧IntsAre vs ns∧ns.length≤n:=by
 have hsh:WShape.hasAll [] args [.list .int]=true:=(pre_splitW hpre).1
 have hc:l.pre.holds [] { args:=args }=true:=(pre_splitW hpre).2
 obtain ⟨d,r,rfl,h1,h2⟩:=hasAllW_cons hsh
 obtain rfl:=hasAllW_nil h2
 obtain ⟨xs,rfl,h3⟩:=hasW_list h1
 obtain ⟨ns,rfl⟩:=items_int h3
 have hlen:ns.length≤n:=by
  unfold OpenLaw.pre at hc
  have h4:(WTm.not (.lt (.lit (.int (n:Int))) (.len (.arg 0)))).holds [] { args:=[.list (ns.map .int)] }=true:=by
   have h4:=(holds_andW hc).1
   rw [hn] at h4
   exact h4
  have h5:=condW_of h4 (w_not (w_lt w_lit (w_len_list (w_arg rfl))))
  rw [List.length_map] at h5
  refine Nat.le_of_not_lt fun q=>?_
  have q':(n:Int)<((ns.length:Nat):Int):=by omega
  first
   | (rw [decide_eq_true q'] at h5;exact absurd h5 (by decide))
   | (simp at h5;omega)
 cases hwl with
 | cons w1 w2 =>
  cases w2
  cases w1 with
  | list ho hall=>exact ⟨_,_,ns,rfl,rfl,ho,Zjj ns _ hall,hlen⟩
theorem Zs4 (l:OpenLaw) (args:List WData):l.row.toRowW.claim.post args (.bool true) args=true :=
 postW_of (r:=l.row.toRowW) (X:=(true == true))
  (show WShape.has [] (.bool true) .bool=true by first | rfl | decide | simp [WShape.has,WShape.arms,WShape.armsAll])
  (show (WTm.eq .res (.lit (.bool true))).value [] { args:=args,res:=some (.bool true),after:=args }=some (.bool (true == true)) from w_eq_bool (w_res rfl) w_lit) rfl
theorem attach_call {l:OpenLaw}{n:Nat}{q:Program}{loose:List Str}{XP:(Str→Option Value)→Heap→Prop}{YP:World→Heap→Prop}{d:DefRec}
  (hn:l.most=some n) (hdf:d.params.defaults=[])
  (call:∀ (w:World) (s₀ s₁:Shared) (mg mb:Str→Option Value) (fa:Addr) (o:Obj) (pm cd doc:Value) (a:Addr) (vs:List Value) (ns:List Int),
   Ground q loose [] XP w s₀ mg mb s₁.heap→YP w s₁.heap →
   s₁.heap.get? fa=some o→o.data=.func (docDef d.name d.params d.body d.scope pm cd doc)→s₁.heap.CodeRec cd d.name→mg d.name=some (.ref fa) →
   s₁.heap.get? a=some { cls:=.type "list",data:=.seq vs.toArray }→IntsAre vs ns→ns.length≤n→s₁.gens=#[] →
   codeAny (model l.prog w) callerA (.call (.ref fa) ⟨[.ref a],[]⟩) (fun r s'=>r=.ok (.ret (.bool true))∧OldK s₁.heap s'.heap∧s'.os=s₁.os∧AllBare s'.gens) s₁):
  WalkO q loose XP YP l.row.toRowW d [] (fun f vs=>PySem.call f vs):=by
 intro w s₀ s₁ mg mb G Y fa o pm cd doc dV kV ho hd hcd hD hmg hg args vals as hpre hlay hrd hwl hlo
 obtain rfl:dV=.none:=Dflts.none hD hdf
 obtain rfl:kV=.none:=Dflts.noKw hD
 obtain ⟨a,vs,ns,rfl,rfl,hobj,hints,hlen⟩:=Zst hn hpre hwl
 refine enter_call (codeAny_mono (call w s₀ s₁ mg mb fa o pm cd doc a vs ns G Y ho (fd_plain hd) hcd hmg hobj hints hlen hg) fun r s' hq=>?_)
 obtain ⟨rfl,h2,h3,h4⟩:=hq
 exact ⟨.inl ⟨.bool true,.bool true,[],rfl,fun _=>rfl,.bool true,Zs4 l _,fun _=>⟨List.Pairwise.nil,fun _ hm=>(nomatch hm)⟩⟩,h2,h3,h4⟩
section
variable {prog:Program} {w:World} {A:Around} {E:Value→Shared→Prop} {s:Shared} {K:Frag}
end
end Att
namespace L2
open PySem PySem.Spec PyProof.Rows
theorem Zl9:∀ {vs:List Value}{ns:List Int},IntsAre vs ns→Zbr (ns.map V.int) vs
 | _,_,.nil=>.nil
 | _,_,.cons n t h=>.cons ⟨t,rfl⟩ (Zl9 h)
def Z3m (H:Hp):Prop:=∀ b,H b=none∨∃ o xs,H b=some (.frz o (.lst xs))
theorem Zwj {P:Program}{w:World}{K:W.Frag}{mg mb:Str→Option Value}{CX:CXT}{k:Nat}{fa a:Addr}{fd:FuncData}{x:Str}{sp:Sp}{s₁:Shared}{vs:List Value}{ns:List Int}
  (KX:K.In s₁.heap) (hns:s₁.heap.Ns mainGlobals mg) (hb:s₁.heap.Ns builtinsNs mb) (hbb:∀ x:Str,x≠"__name__"→mb x=bootBuiltins x) (hlim:s₁.heap.NoLimit) (hg:s₁.gens=#[])
  (ha:s₁.heap.get? a=some { cls:=.type "list",data:=.seq vs.toArray }) (hi:IntsAre vs ns) (hl:ns.length≤sizeLine) (hr:Zb6 k callerA)
  (F:∀ base:Heap,K.In base→base.Ns mainGlobals mg→Zaq P w K mg base CX k fa fd [x] sp) (hbind:∀ (s:Shared) (u:Value),BindsTo s fd ⟨[u],[]⟩ [(x,u)])
  (hsp:∀ H:Hp,Z3m H→SqL K H a (ns.map V.int)→sp [.ref a] H (fun v _=>v=.bl true) fun _ _ _=>False)
  (hCX:∀ H e s',CX [] H s₁ (fun _ _ _=>False) e s'→False):
  codeAny (model P w) callerA (.call (.ref fa) ⟨[.ref a],[]⟩) (fun r s'=>r=.ok (.ret (.bool true))∧OldK s₁.heap s'.heap∧s'.os=s₁.os∧AllBare s'.gens) s₁:=by
 have rv:=Zl9 hi
 have lenV:=hi.length
 have core:∀ H:Hp,Z3m H→SqL K H a (ns.map V.int)→HOk P w H s₁.heap→(∀ b,H b≠none→b=a)→(H a≠none→K.lookup a=none) →
   codeAny (model P w) callerA (.call (.ref fa) ⟨[.ref a],[]⟩) (fun r s'=>r=.ok (.ret (.bool true))∧OldK s₁.heap s'.heap∧s'.os=s₁.os∧AllBare s'.gens) s₁:=by
  intro H hO hS hok hA hK
  have base_of:∀ {b:Addr} {o:Obj},s₁.heap.get? b=some o→H b=none→(Zwn s₁.heap H).get? b=some o:=fun e n=>Zwm e n
  have noA:∀ {b:Addr} {o:Obj} {es:Array DictEntry} {ep:Nat},s₁.heap.get? b=some o→o.data=.dict es ep→H b=none:=fun {b o es ep} e d=>by
   cases q:H b with
   | none=>rfl
   | some u =>
    have e':b=a:=hA b (by rw [q];simp)
    subst e'
    rw [ha] at e;cases e
    have d':Data.seq vs.toArray _=Data.dict es ep:=d
    cases d'
  have nsK:∀ {b:Addr} {m:Str→Option Value},s₁.heap.Ns b m→(Zwn s₁.heap H).Ns b m:=fun {b m} ⟨o,es,ep,e,d,r⟩=>⟨o,es,ep,base_of e (noA e d),d,r⟩
  have hKb:K.In (Zwn s₁.heap H):=fun b o e=>base_of (KX b o e) (by
   cases q:H b with
   | none=>rfl
   | some u =>
    have e':b=a:=hA b (by rw [q];simp)
    subst e'
    rw [hK (by rw [q];simp)] at e;cases e)
  have hM:Mod K mg (Zwn s₁.heap H):=⟨hKb,nsK hns,⟨mb,nsK hb,hbb⟩,let ⟨mc,h1,h2⟩:=hlim;⟨mc,nsK h1,h2⟩⟩
  have e0:Env0 P w K mg (Zwn s₁.heap H) callerA [] s₁ H:=⟨rfl,hM,fun b o e=>Zyw e,Nat.le_of_eq (Zt8 _ _),trivial,fun b hb=>absurd (show b∈([]:List Addr) from hb) (by simp),hok,.of_eq hg⟩
  refine codeAny_mono ((F _ hKb (nsK hns)).run callerA [] s₁ H ⟨[.ref a],[]⟩ [.ref a] [.ref a] _ _ hr e0 (hbind s₁ (.ref a)) (.cons rfl .nil) (hsp H hO hS)) fun r s' h=>?_
  cases r with
  | error e=>exact (hCX H e s' h).elim
  | ok fl =>
   cases fl with
   | next=>exact False.elim h
   | brk=>exact False.elim h
   | cont=>exact False.elim h
   | ret u =>
    obtain ⟨v,H',os,bare,un,hok',r',q⟩:=h
    have q':v=.bl true:=q
    subst q'
    obtain rfl:u=Value.bool true:=r'
    refine ⟨rfl,OldK.of_keep fun b o e=>?_,os,bare⟩
    cases q:H b with
    | none=>exact un.keep b o e q (by intro z;exact absurd (show b∈([]:List Addr) from z) (by simp)) (by simp)
    | some u =>
     rcases hO b with z | ⟨ob,xs,z⟩
     ·rw [q] at z;cases z
     ·have z2:=un.frzs b ob _ z
      obtain ⟨e1,_⟩:=hok b _ z
      obtain ⟨e2,_⟩:=hok' b _ z2
      rw [e] at e1;cases e1
      exact e2
 cases hk:K.lookup a with
 | some o =>
  have e:=KX a o hk
  rw [ha] at e
  cases e
  refine core (fun _=>none) (fun _=>.inl rfl) (.inr ⟨_,vs.toArray,_,hk,rfl,rfl,rfl,by rw [List.size_toArray,lenV];exact hl,by simpa using rv⟩) (fun b u z=>by have z':(none:Option HO)=some u:=z;cases z') (fun b z=>absurd rfl z) fun z=>absurd rfl z
 | none =>
  refine core (fun b=>if b=a then some (.frz { cls:=.type "list",data:=.seq vs.toArray } (.lst (ns.map V.int))) else none) (fun b=>?_) (.inl (.inr ⟨{ cls:=.type "list",data:=.seq vs.toArray },if_pos rfl⟩)) (fun b u z=>?_) (fun b z=>?_) fun _=>hk
  ·by_cases hb:b=a
   ·exact .inr ⟨_,_,if_pos hb⟩
   ·exact .inl (if_neg hb)
  ·by_cases hb:b=a
   ·have z':=(if_pos hb).symm.trans z
    cases z'
    subst hb
    exact ⟨ha,by rw [List.length_map];exact hl,vs,_,rv,ha⟩
   ·have z':=(if_neg hb).symm.trans z
    cases z'
  ·by_cases hb:b=a
   ·exact hb
   ·exact absurd (if_neg hb) z
end L2
namespace L2
open PySem PySem.Spec PyProof.Rows
theorem walk_of {l:W.OpenLaw}{n k:Nat}{q:Program}{loose:List Str}{XP:(Str→Option Value)→Heap→Prop}{YP:World→Heap→Prop}{d:DefRec}{K:Params→W.Frag}{CX:World→CXT}{sp:World→Sp}{x:Str}
  (hn:l.most=some n) (hn2:n≤sizeLine) (hdf:d.params.defaults=[]) (hr:Zb6 k callerA)
  (hY:∀ (w:World) (h:Heap),YP w h→(K w.params).In h)
  (F:∀ (w:World) (mg:Str→Option Value) (fa:Addr) (h:Heap),(K w.params).In h→h.Ns mainGlobals mg→mg d.name=some (.ref fa) →
   ∃ fd:FuncData,(∀ (s:Shared) (u:Value),BindsTo s fd ⟨[u],[]⟩ [(x,u)]) ∧
    ∀ base:Heap,(K w.params).In base→base.Ns mainGlobals mg→Zaq l.prog w (K w.params) mg base (CX w) k fa fd [x] (sp w))
  (hsp:∀ (w:World) (H:Hp) (a:Addr) (ns:List Int),ns.length≤n→Z3m H→SqL (K w.params) H a (ns.map V.int)→sp w [.ref a] H (fun v _=>v=.bl true) fun _ _ _=>False)
  (hCX:∀ (w:World) (H:Hp) (s:Shared) (e:Value) (s':Shared),CX w [] H s (fun _ _ _=>False) e s'→False):
  W.WalkO q loose XP YP l.row.toRowW d [] (fun f vs=>PySem.call f vs):=by
 refine Att.attach_call hn hdf fun w s₀ s₁ mg mb fa o pm cd doc a vs ns G Y ho hd hcd hmg hobj hints hlen hg=>?_
 have KX:=hY w _ Y
 obtain ⟨fd,hb,hF⟩:=F w mg fa _ KX G.T.g hmg
 exact Zwj KX G.T.g G.T.b G.T.builtins G.T.nolimit hg hobj hints (Nat.le_trans hlen hn2) hr hF hb (fun H hO hS=>hsp w H a ns hlen hO hS) fun H e s'=>hCX w H s₁ e s'
end L2
namespace L2
open PySem PySem.Spec PyProof.Rows
def Zbu (s:Stmt) (j:Nat):Stmt:=match s with
 | .ClassDef _ _ _ body _ _ _ _ _ _ _=>body.getD j (.Pass ⟨0,0,0,0⟩)
 | _=>.Pass ⟨0,0,0,0⟩
def Zc7 (s:Stmt):Arguments:=match s with
 | .FunctionDef _ a _ _ _ _ _ _ _ _=>a
 | _=>{ posonlyargs:=[],args:=[],vararg:=none,kwonlyargs:=[],kw_defaults:=[],kwarg:=none,defaults:=[] }
def Zco (s:Stmt):List Stmt:=match s with
 | .FunctionDef _ _ b _ _ _ _ _ _ _=>b
 | _=>[]
def Zad (s:Stmt):Scope:=match s with
 | .FunctionDef _ _ _ _ _ _ sc _ _ _=>sc
 | _=>{ kind:=.function,names:=[],isGenerator:=false,isCoroutine:=false }
abbrev CX0:CXT:=fun _ _ _ _ _ _=>False
abbrev E0:XK:=fun _ _ _=>False
theorem Zhh {X:Cx}:Zia CX0 X E0:=fun _ _ _ _ _ _ _ h=>h.elim
structure Fun (K:W.Frag) (x qual:Str) (st:Stmt) (f:Addr) (fd:FuncData):Prop where
 ex:∃ (oc:Value) (od:Option Addr) (kV doc pm:Value) (an:Option Addr) (cdv ct:Value) (osl:Array (Option Value)),
  fd=W.fnOf x qual (Zc7 st) (Zco st) (Zad st) .none kV doc pm an cdv ct∧K.lookup f=some ⟨oc,od,.func fd,osl⟩∧W.codeIn K cdv qual=true
 kp:W.keepIn K (.ref f)=true
section
variable {P:Program} {w:World} {K:W.Frag} {mg:Str→Option Value} {base:Heap}
theorem Fun.ok {x qual:Str}{st:Stmt}{f:Addr}{fd:FuncData}{N ps:List Str}{k:Nat}{sp:Sp}(F:Fun K x qual st f fd) (S:Zak N ps (Zad st)) (len:∀ vs H Q E,sp vs H Q E→vs.length=ps.length)
  (hbody:∀ (cdv:Value) (A:Around) (outer:List Env) (s:Shared) (H:Hp) (vs:List V) (Q:VK) (E:XK),Zb6 k (A.deeper (envOfC qual (Zad st) s.heap.objs.size f cdv))→sp vs H Q E →
   ∃ t,PSs (Zxt CX0 P w K mg base N qual (Zad st) f cdv A outer s H E).nox (Zco st) t∧t { nx:=fun _ H'=>Q .non H',rt:=Q } (start N vs) H):Zaq P w K mg base CX0 (k + 1) f fd ps sp:=by
 obtain ⟨oc,od,kV,doc,pm,an,cdv,ct,osl,rfl,lk,hcd⟩:=F.ex
 refine Z1o lk hcd S len fun A outer s H vs Q E hr hsp=>?_
 obtain ⟨t,h,q⟩:=hbody cdv A outer s H vs Q E hr hsp
 exact ⟨t,h.nox,q⟩
theorem Fun.binds {x qual:Str}{st:Stmt}{f:Addr}{fd:FuncData}{ps:List Str}(F:Fun K x qual st f fd)
  (h:∀ (kV doc pm:Value) (an:Option Addr) (cdv ct:Value) (us:List Value),us.length=ps.length→bindArgs (W.fnOf x qual (Zc7 st) (Zco st) (Zad st) .none kV doc pm an cdv ct) ⟨us,[]⟩=pure (ps.zip us)):Zc9 K fd ps []:=by
 obtain ⟨oc,od,kV,doc,pm,an,cdv,ct,osl,rfl,lk,hcd⟩:=F.ex
 exact .all (h kV doc pm an cdv ct)
theorem Zxo {x qual:Str}{st:Stmt}{f:Addr}{oc:Value}{od an:Option Addr}{osl:Array (Option Value)}{kV doc pm cdv ct:Value}(l:K.lookup f=some ⟨oc,od,.func (W.fnOf x qual (Zc7 st) (Zco st) (Zad st) .none kV doc pm an cdv ct),osl⟩)
  (c:W.codeIn K cdv qual=true) (k:W.keepIn K (.ref f)=true):Fun K x qual st f (W.fnOf x qual (Zc7 st) (Zco st) (Zad st) .none kV doc pm an cdv ct):=⟨⟨oc,od,kV,doc,pm,an,cdv,ct,osl,rfl,l,c⟩,k⟩
end
theorem Zgn {A:Around}{k:Nat}(hr:Zb6 k A):A.units + 1<cLine:=Nat.lt_of_le_of_lt (Nat.add_le_add_left (by decide:1≤64) _) hr.units
section
variable {X:Cx}
theorem pv (i:Nat) {x:Str}{pos:Pos}(hN:X.N[i]?=some x:=by rfl) (hv:Vis X.env.scope x:=by first | exact Or.inl rfl | exact Or.inr (Or.inl rfl) | exact Or.inr (Or.inr rfl)) (hd:(x == ("__debug__":Str))=false:=by decide)
  (hcd:(x == ("__classdict__":Str))=false:=by decide):PE X (.Name x pos) (Zx2 i):=Zxg hN hv hd hcd
end
theorem Zbz {A B:Prop}(h:B):if false=true then A else B:=by
 rw [if_neg Bool.false_ne_true]
 exact h
theorem Ze5 {A B:Prop}(h:A):if true=true then A else B:=by
 rw [if_pos rfl]
 exact h
theorem Zek {c A B:Prop} [Decidable c] (h1:c→A) (h2:¬ c→B):if c then A else B:=by
 by_cases h:c
 ·rw [if_pos h]
  exact h1 h
 ·rw [if_neg h]
  exact h2 h
def Zag (H H':Hp):Prop:=∀ b o,H b=some o→H' b=some o
theorem Zag.refl (H:Hp):Zag H H:=fun _ _ h=>h
theorem Zag.trans {H H1 H2:Hp}(a:Zag H H1) (b:Zag H1 H2):Zag H H2:=fun c o h=>b c o (a c o h)
theorem Zag.free {H H':Hp}(e:Zag H H') {l:Addr}(h:H' l=Option.none):H l=Option.none:=by
 cases q:H l with
 | none=>rfl
 | some o =>
  rw [e l o q] at h
  cases h
theorem Zag.seq {K:W.Frag}{H H':Hp}{a:Addr}{xs:List V}(e:Zag H H') (h:SqL K H a xs):SqL K H' a xs:=by
 rcases h with (h | ⟨o,h⟩) | h
 ·exact .inl (.inl (e _ _ h))
 ·exact .inl (.inr ⟨o,e _ _ h⟩)
 ·exact .inr h
end L2
namespace L2
open PySem PySem.Spec PyProof.Rows
section
variable {X:Cx}
end
section
variable {κ:Type} [DecidableEq κ]
theorem Zo8 {kvs:List (κ×V)}{k:κ}(h:Zga kvs k=none):¬ k∈kvs.map (·.1):=by
 intro m
 obtain ⟨p,hp,e⟩:=List.mem_map.mp m
 have q:(kvs.any fun kv=>decide (kv.1=k))=true:=List.any_eq_true.mpr ⟨p,hp,decide_eq_true e⟩
 rw [Zf9,h] at q
 exact absurd q (by simp)
theorem Zr4 {kvs:List (κ×V)}{k:κ}{v:V}(h:Zga kvs k=some v):k∈kvs.map (·.1):=by
 have q:(kvs.any fun kv=>decide (kv.1=k))=true:=by
  rw [Zf9,h]
  all_goals rfl
 obtain ⟨p,hp,e⟩:=List.any_eq_true.mp q
 exact List.mem_map.mpr ⟨p,hp,of_decide_eq_true e⟩
end
end L2
set_option maxHeartbeats 4000000
namespace HT
open PySem PyProof.Rows
open PySem.SeqAt
open PySem.AutoSeq1 (wpAny_loadPart')
open PySem.MeetsSeq PySem.MeetsSeq2 PySem.MeetsSeq3
section
variable {prog:Program} {w:World} {A:Around} {E:Value→Shared→Prop} {s:Shared}
end
end HT
namespace L2
open PySem PySem.Spec PyProof.Rows
structure Zrv (J:It) (xs:List V) (Ok:Hp→Prop):Prop where
 go:∀ (i:Nat) (x:V) (H:Hp),Ok H→xs[i]?=some x→J.go i H
 yld:∀ (i:Nat) (x:V) (H:Hp) (y:V) (H':Hp),Ok H→xs[i]?=some x→J.yld i H y H'→y=x∧H'=H
 stop:∀ (H:Hp),Ok H→J.stop xs.length H
theorem Za8 {K:W.Frag}{a:Addr}{xs:List V}:Zrv (Itl K a) xs (fun H=>SqL K H a xs) where
 go:=fun i x H ok hx=>⟨xs,x,ok,hx⟩
 yld:=fun i x H y H' ok hx h=>by
  obtain ⟨e,h⟩:=h
  have q:=h xs ok
  rw [hx] at q
  exact ⟨(Option.some.inj q).symm,e⟩
 stop:=fun H ok=>⟨xs,ok,Nat.le_refl _⟩
theorem Zd6 {K:W.Frag}{a:Addr}{xs:List V}:Zrv (Itt K a) xs (fun H=>SqT K H a xs) where
 go:=fun i x H ok hx=>⟨xs,x,ok,hx⟩
 yld:=fun i x H y H' ok hx h=>by
  obtain ⟨e,h⟩:=h
  have q:=h xs ok
  rw [hx] at q
  exact ⟨(Option.some.inj q).symm,e⟩
 stop:=fun H ok=>⟨xs,ok,Nat.le_refl _⟩
def Zft (lo:Int) (n:Nat):List V:=(List.range n).map fun (k:Nat)=>V.int (lo + (k:Int))
theorem Zbm (lo:Int) (n:Nat):(Zft lo n).length=n:=by unfold Zft;rw [List.length_map,List.length_range]
theorem Zc0 {lo:Int}{n i:Nat}{x:V}(h:(Zft lo n)[i]?=some x):i<n∧x=V.int (lo + (i:Int)):=by
 have hi:i<n:=by
  have:=(List.getElem?_eq_some_iff.mp h).1
  rwa [Zbm] at this
 refine ⟨hi,?_⟩
 unfold Zft at h
 rw [List.getElem?_map,List.getElem?_range hi] at h
 exact (Option.some.inj h).symm
theorem Zcz {lo:Int}{n:Nat}:Zrv (Itr lo n) (Zft lo n) (fun _=>True) where
 go:=fun i x H _ hx=>(Zc0 hx).1
 yld:=fun i x H y H' _ hx h=>by
  obtain ⟨e,h⟩:=h
  exact ⟨h.trans (Zc0 hx).2.symm,e⟩
 stop:=fun H _=>by
  show n≤(Zft lo n).length
  rw [Zbm]
  exact Nat.le_refl _
theorem Za1 {J:It}{xs:List V}{Ok:Hp→Prop}(R:Zrv J xs Ok) {g:TG}{tb:TS}{D:Zrx}{σ:St}{H:Hp}(Pv:Nat→St→Hp→Prop) (h0:Pv 0 σ H) (hl:∀ i σ H,i≤xs.length→Pv i σ H→Ok H)
  (hs:∀ i x σ H,xs[i]?=some x→Pv i σ H→g x σ H fun σ2 H2=>tb { D with nx:=Pv (i + 1),ct:=Pv (i + 1),bk:=D.nx } σ2 H2) (hd:∀ σ H,Pv xs.length σ H→D.nx σ H):
  ∃ W:Nat→Nat→St→Hp→Prop,(∃ m,W 0 m σ H)∧∀ i m σ H,W i m σ H →
   (J.stop i H∧D.nx σ H)∨(J.go i H∧∃ N:St→Hp→Prop,(∀ σ' H',N σ' H'→∃ m',m'<m∧W (i + 1) m' σ' H')∧∀ x H',J.yld i H x H'→g x σ H' fun σ2 H2=>tb { D with nx:=N,ct:=N,bk:=D.nx } σ2 H2):=by
 refine ⟨fun i m σ H=>m=xs.length - i∧i≤xs.length∧Pv i σ H,⟨xs.length,by simp,Nat.zero_le _,h0⟩,?_⟩
 rintro i m σ H ⟨rfl,hi,p⟩
 have q:=hl i σ H hi p
 by_cases hlt:i<xs.length
 ·have hx:xs[i]?=some xs[i]:=by simp [hlt]
  refine .inr ⟨R.go i _ H q hx,Pv (i + 1),fun σ' H' p'=>⟨xs.length - (i + 1),by omega,rfl,hlt,p'⟩,fun x H' y=>?_⟩
  obtain ⟨e1,e2⟩:=R.yld i _ H x H' q hx y
  rw [e2]
  exact hs i x σ H (by rw [e1];exact hx) p
 ·have e:i=xs.length:=by omega
  subst e
  exact .inl ⟨R.stop H q,hd σ H p⟩
def Its (x:Str):It:=⟨fun i _=>i<x.cps.size,fun i H v H'=>H'=H∧∃ c,x.cps[i]?=some c∧v=.str ⟨#[c]⟩,fun i _=>x.cps.size≤i⟩
def Zfp (x:Str):List V:=x.cps.toList.map fun c=>V.str ⟨#[c]⟩
theorem Zpm {x:Str}:Zrv (Its x) (Zfp x) (fun _=>True) where
 go:=fun i y H _ hx=>by
  have:=(List.getElem?_eq_some_iff.mp hx).1
  unfold Zfp at this
  rw [List.length_map] at this
  show i<x.cps.size
  simpa using this
 yld:=fun i y H z H' _ hx h=>by
  obtain ⟨e,c,hc,hz⟩:=h
  refine ⟨?_,e⟩
  unfold Zfp at hx
  rw [List.getElem?_map,Array.getElem?_toList,hc] at hx
  rw [hz]
  exact Option.some.inj hx
 stop:=fun H _=>by
  show x.cps.size≤(Zfp x).length
  unfold Zfp
  simp
theorem Zpa {P:Program}{w:World}{K:W.Frag}{tg:Expr}(x:Str) (t:Tok) (it:Addr) (ty:String) (hty:ty="str_ascii_iterator"∨ty="str_iterator"):
  Zrs P w K tg (Its x) [it] it (fun i h=>h.IsStrIter it ty x t i) where
 mem:=by simp
 obj:=fun i h st b hb=>by
  have e:b=it:=by simpa using hb
  subst e
  obtain ⟨o,e,c,d⟩:=st
  exact ⟨o,e,fun v z=>by rw [d] at z;cases z⟩
 keep:=fun i h h' st k=>by
  obtain ⟨o,ho,r⟩:=st
  exact ⟨o,k it (by simp) o ho,r⟩
 item:=by
  intro X hP hw hK hc i pins s σ H E I hf st hg
  subst hP hw hK
  obtain ⟨f0,f1,f2,f3,f4,f5⟩:=hf it (by simp)
  have hi:i<x.cps.size:=hg
  have hx:x.cps[i]?=some x.cps[i]:=by simp [hi]
  have fin:∀ h':Heap,h'.IsStrIter it ty x t (i + 1)→Heap.SameBut it s.heap h'→∃ u,some (Value.str ⟨#[x.cps[i]]⟩ s.toks)=some u ∧
    wpAny (model X.prog X.w) X.A (letOwnedTupleGo tg (.ref it) u) (fun _ s2=>∃ y H',Inv X pins σ H' s2∧Zb7 y u∧(Its x).yld i H y H'∧s2.heap.IsStrIter it ty x t (i + 1)∧∀ b∈[it],H' b=none) E { s with heap:=h',toks:=s.toks + 1 }:=fun h' st' sb=>by
   have I1:Inv X pins σ H { s with heap:=h',toks:=s.toks + 1 }:=I.turned (fun b o hb e=>(sb.2 b hb).trans e) f0 f1 f3 f4 f5
   obtain ⟨o,e,c,d⟩:=id st'
   refine ⟨_,rfl,Zrk (s:={ s with heap:=h',toks:=s.toks + 1 }) e c d ?_ ⟨.str ⟨#[x.cps[i]]⟩,H,I1,⟨_,rfl⟩,⟨rfl,_,hx,rfl⟩,st',fun b hb=>(hf b hb).1⟩⟩
   rcases hty with rfl | rfl <;> decide
  rcases hty with rfl | rfl
  ·exact wpAny_pyNext_ascii_item st hx fun h' st' sb=>fin h' st' sb
  ·exact wpAny_pyNext_wide_item st hx fun h' st' sb=>fin h' st' sb
 done:=by
  intro X hP hw hK hc i pins s σ H E I hf st hg
  subst hP hw hK
  obtain ⟨f0,f1,f2,f3,f4,f5⟩:=hf it (by simp)
  have hi:x.cps.size≤i:=hg
  have hx:x.cps[i]?=none:=by simp [hi]
  rcases hty with rfl | rfl
  ·exact wpAny_pyNext_ascii_end (I.ok.hd hc) st hx fun h' eb=>⟨rfl,I.turned (t':=s.toks) (fun b o hb e=>eb b o hb e) f0 f1 f3 f4 f5⟩
  ·exact wpAny_pyNext_wide_end (I.ok.hd hc) st hx fun h' eb=>⟨rfl,I.turned (t':=s.toks) (fun b o hb e=>eb b o hb e) f0 f1 f3 f4 f5⟩
 self:=fun _ _ _ _ _ st h=>by
  rcases hty with rfl | rfl
  ·exact wpAny_pyIter_striter_ascii st h
  ·exact wpAny_pyIter_striter_wide st h
section
variable {X:Cx} {tg:Expr}
def Z6g (tl:TE):TI:=fun σ H R=>tl σ H fun x H1=>∃ z,x=.str z∧R (Its z) H1
theorem Zxf {l:Expr}{tl:TE}(hl:PE X l tl):PI X tg l (Z6g tl):=by
 intro pins s σ H R I h
 refine thn (hl pins s σ H _ I h) fun v s1 ⟨x,H1,I1,r1,q1⟩=>?_
 obtain ⟨z,e,q⟩:=q1
 subst e
 obtain ⟨t,rfl⟩:=r1
 have fp:∀ b∈[s1.heap.objs.size],Zj2 X pins H1 b:=fun b hb=>by
  have e:b=s1.heap.objs.size:=by simpa using hb
  subst e
  exact I1.fpOk (Nat.le_refl _) (I1.hok.fresh (Nat.le_refl _))
 cases ha:z.cps.all (·<128) with
 | false =>
  refine wpAny_pyIter_wide ha ?_
  exact ⟨s1.heap.objs.size,[s1.heap.objs.size],_,_,H1,rfl,I1.kept (t':=s1.toks) fun b o e=>Heap.get?_push_of_some _ e,Zpa z t _ "str_iterator" (.inr rfl),⟨_,Heap.get?_push_size _ rfl,rfl,rfl⟩,fp,q⟩
 | true =>
  refine wpAny_pyIter_ascii ha ?_
  exact ⟨s1.heap.objs.size,[s1.heap.objs.size],_,_,H1,rfl,I1.kept (t':=s1.toks) fun b o e=>Heap.get?_push_of_some _ e,Zpa z t _ "str_ascii_iterator" (.inl rfl),⟨_,Heap.get?_push_size _ rfl,rfl,rfl⟩,fp,q⟩
end
def Znu (env:Env):List (Str×NameKind)→List (Str×Addr)→List (Str×Addr)
 | [],acc=>acc
 | (n,k):: r,acc=>if (k == NameKind.free)=true then Znu env r ((n,(env.cells.lookup n).getD 0):: acc) else Znu env r acc
theorem Zo1 {env:Env}{n:Str}{c:Addr}(h:env.cells.lookup n=some c):cellOf env n=pure c:=by
 unfold cellOf
 rw [h]
theorem Zhm {scope:Scope}{env:Env}(h:∀ y∈scope.names,y.2=.free→∃ c,env.cells.lookup y.1=some c):closureFor scope env=pure (Znu env scope.names []):=by
 have key:∀ (l:List (Str×NameKind)) (acc:List (Str×Addr)),(∀ y∈l,y.2=.free→∃ c,env.cells.lookup y.1=some c) →
   (forIn l acc fun (x:Str×NameKind) (r:List (Str×Addr))=>(match x with
    | (name,kind)=>if (kind == NameKind.free)=true then (do let a ← cellOf env name;pure (ForInStep.yield ((name,a):: r))) else pure (ForInStep.yield r):Sem (ForInStep (List (Str×Addr)))))=pure (Znu env l acc):=by
  intro l
  induction l with
  | nil=>intro acc _;rfl
  | cons y r ih =>
   intro acc hy
   obtain ⟨n,k⟩:=y
   have ih':=fun acc=>ih acc fun z hz=>hy z (List.mem_cons_of_mem _ hz)
   rw [List.forIn_cons]
   by_cases hk:(k == NameKind.free)=true
   ·obtain ⟨c,hc⟩:=hy (n,k) List.mem_cons_self (by simpa using hk)
    have hc:env.cells.lookup n=some c:=hc
    simp only [hk,if_true,Zo1 hc]
    unfold Znu
    rw [if_pos hk,hc]
    exact ih' _
   ·simp only [hk]
    unfold Znu
    rw [if_neg hk]
    exact ih' _
 unfold closureFor
 have q:=key scope.names [] h
 show ((forIn scope.names [] _:Sem (List (Str×Addr)))>>=fun r=>pure r)=_
 first
  | (rw [show (forIn scope.names [] _:Sem (List (Str×Addr)))=_ from q];rfl)
  | (refine (congrArg (fun m=>m>>=fun r=>pure r) q).trans ?_;rfl)
theorem Zgz {env:Env}:∀ (l:List (Str×NameKind)) (acc:List (Str×Addr)) (x:Str) (c:Addr),(∀ y∈l,y.2=.free→∃ c,env.cells.lookup y.1=some c) →
  (∀ x c,acc.lookup x=some c→env.cells.lookup x=some c)→(Znu env l acc).lookup x=some c→env.cells.lookup x=some c
 | [],acc,x,c,_,ha,h=>ha x c h
 | (n,k):: r,acc,x,c,hy,ha,h=>by
  have hr:∀ y∈r,y.2=.free→∃ c,env.cells.lookup y.1=some c:=fun y hy'=>hy y (List.mem_cons_of_mem _ hy')
  unfold Znu at h
  by_cases hk:(k == NameKind.free)=true
  ·rw [if_pos hk] at h
   refine Zgz r _ x c hr (fun z d hz=>?_) h
   obtain ⟨c',hc'⟩:=hy (n,k) List.mem_cons_self (by simpa using hk)
   have hc':env.cells.lookup n=some c':=hc'
   rw [List.lookup_cons] at hz
   by_cases e:(z == n)=true
   ·simp only [e] at hz
    have e':z=n:=by simpa using e
    rw [e',hc']
    rw [hc'] at hz
    exact hz
   ·have e':(z == n)=false:=by simpa using e
    simp only [e'] at hz
    exact ha z d hz
  ·rw [if_neg hk] at h
   exact Zgz r acc x c hr ha h
theorem Zh2 {env:Env}:∀ (l:List (Str×NameKind)) (acc:List (Str×Addr)) (x:Str),(acc.lookup x).isSome=true→((Znu env l acc).lookup x).isSome=true
 | [],acc,x,h=>h
 | (n,k):: r,acc,x,h=>by
  unfold Znu
  by_cases hk:(k == NameKind.free)=true
  ·rw [if_pos hk]
   refine Zh2 r _ x ?_
   rw [List.lookup_cons]
   cases e:(x == n) with
   | true=>rfl
   | false=>exact h
  ·rw [if_neg hk]
   exact Zh2 r acc x h
theorem Zl2 {env:Env}:∀ (l:List (Str×NameKind)) (acc:List (Str×Addr)) (x:Str),(x,NameKind.free)∈l→((Znu env l acc).lookup x).isSome=true
 | [],acc,x,h=>nomatch h
 | (n,k):: r,acc,x,h=>by
  unfold Znu
  rcases List.mem_cons.mp h with e | h
  ·injection e with e1 e2
   subst e1
   subst e2
   rw [if_pos (by decide)]
   refine Zh2 r _ x ?_
   rw [List.lookup_cons]
   simp
  ·by_cases hk:(k == NameKind.free)=true
   ·rw [if_pos hk]
    exact Zl2 r _ x h
   ·rw [if_neg hk]
    exact Zl2 r _ x h
theorem Zeh {env:Env}:∀ {names:List (Str×NameKind)}{x:Str},names.lookup x=some .free →
  (names.map fun (n,k)=>if (k == NameKind.free&&env.scope.kind == .function&&env.kindOf n == some .cell) then (n,NameKind.cell) else (n,k)).lookup x=some .cell ∨
  (names.map fun (n,k)=>if (k == NameKind.free&&env.scope.kind == .function&&env.kindOf n == some .cell) then (n,NameKind.cell) else (n,k)).lookup x=some .free
 | [],_,h=>by simp at h
 | (n,k):: r,x,h=>by
  have ih:=@Zeh env r x
  rw [List.map_cons]
  show List.lookup x ((if (k == NameKind.free&&env.scope.kind == .function&&env.kindOf n == some .cell)=true then (n,NameKind.cell) else (n,k)):: _)=_∨List.lookup x ((if (k == NameKind.free&&env.scope.kind == .function&&env.kindOf n == some .cell)=true then (n,NameKind.cell) else (n,k)):: _)=_
  cases hx:x == n with
  | true =>
   simp only [List.lookup_cons,hx] at h
   cases h
   by_cases hc:(NameKind.free == NameKind.free&&env.scope.kind == .function&&env.kindOf n == some .cell)=true
   ·rw [if_pos hc];simp only [List.lookup_cons,hx];exact .inl trivial
   ·rw [if_neg hc];simp only [List.lookup_cons,hx];exact .inr trivial
  | false =>
   simp only [List.lookup_cons,hx] at h
   by_cases hc:(k == NameKind.free&&env.scope.kind == .function&&env.kindOf n == some .cell)=true
   ·rw [if_pos hc];simp only [List.lookup_cons,hx];exact ih h
   ·rw [if_neg hc];simp only [List.lookup_cons,hx];exact ih h
end L2
namespace L2
open PySem PySem.Spec PyProof.Rows
theorem Zez {env:Env}:∀ {names:List (Str×NameKind)}{x:Str},
  ((names.map fun (n,k)=>if (k == NameKind.free&&env.scope.kind == .function&&env.kindOf n == some .cell) then (n,NameKind.cell) else (n,k)).lookup x=some .cell ∨
  (names.map fun (n,k)=>if (k == NameKind.free&&env.scope.kind == .function&&env.kindOf n == some .cell) then (n,NameKind.cell) else (n,k)).lookup x=some .free) →
  names.lookup x=some .free∨names.lookup x=some .cell
 | [],_,h=>by simp at h
 | (n,k):: r,x,h=>by
  have ih:=@Zez env r x
  rw [List.map_cons] at h
  change List.lookup x ((if (k == NameKind.free&&env.scope.kind == .function&&env.kindOf n == some .cell)=true then (n,NameKind.cell) else (n,k)):: _)=_∨List.lookup x ((if (k == NameKind.free&&env.scope.kind == .function&&env.kindOf n == some .cell)=true then (n,NameKind.cell) else (n,k)):: _)=_ at h
  cases hx:x == n with
  | true =>
   simp only [List.lookup_cons,hx]
   by_cases hc:(k == NameKind.free&&env.scope.kind == .function&&env.kindOf n == some .cell)=true
   ·left
    have:(k == NameKind.free)=true:=by
     cases hk:(k == NameKind.free) with
     | true=>rfl
     | false=>rw [hk] at hc;simp at hc
    have:k=NameKind.free:=by simpa using this
    rw [this]
   ·rw [if_neg hc] at h
    simp only [List.lookup_cons,hx] at h
    rcases h with h | h
    ·exact .inr h
    ·exact .inl h
  | false =>
   simp only [List.lookup_cons,hx]
   apply ih
   by_cases hc:(k == NameKind.free&&env.scope.kind == .function&&env.kindOf n == some .cell)=true
   ·rw [if_pos hc] at h;simp only [List.lookup_cons,hx] at h;exact h
   ·rw [if_neg hc] at h;simp only [List.lookup_cons,hx] at h;exact h
abbrev Zc8 (X:Cx) (scope:Scope) (N:List Str) (C:Addr) (s:Shared) (H:Hp) (fp:List Addr):Cx :=
 { X with N:=N,s₀:=s,H₀:=H,env:=compEnvC scope (Znu X.env scope.names []) C X.env,outer:=X.stack,ex:=fp,fn:=fun _=>false,pn:=[],xe:=fun _ _=>False }
def sgC (n:Nat) (js:List Nat) (σ:St):St:=List.replicate n none++js.map fun j=>(σ[j]?).join
theorem Zx7 (n:Nat) (js:List Nat) (σ:St):(sgC n js σ).length=n + js.length:=by unfold sgC;simp
structure Zfm (X:Cx) (scope:Scope) (own frees:List Str) (js:List Nat):Prop where
 calm:X.calm=true
 kind:scope.kind=.function
 nocell:∀ y∈scope.names,y.2≠.cell
 locals:∀ y∈scope.names,y.2=.local→scope.names.lookup y.1=some .local
 fr:∀ y∈scope.names,y.2=.free→X.env.scope.names.lookup y.1=some .cell∨X.env.scope.names.lookup y.1=some .free
 fre:∀ x∈frees,scope.names.lookup x=some .free
 slots:js.map (fun j=>X.N[j]?)=frees.map some
def PTs (X:Cx) (ifs:List Expr) (t:TT):Prop :=
 ∀ (pins:List (Addr×Obj)) (s:Shared) (σ:St) (H:Hp) (Q:Bool→Hp→Prop),Inv X pins σ H s→t σ H Q →
  wpAny (model X.prog X.w) X.A (forIn ifs true fun c r=>if r=true then do let ok ← isTrue c X.env (eval c X.env);pure (ForInStep.yield ok) else pure (ForInStep.yield r)) (TP X pins σ Q) X.xe s
def Zx3:TT:=fun _ H Q=>Q true H
theorem Zcm {X:Cx}:PTs X [] Zx3:=fun _ _ _ H _ I h=>wpAny_tests_nil ⟨H,I,h⟩
theorem Zfv {X:Cx}{c:Expr}{t:TT}(h:PT X c t):PTs X [c] t:=fun pins s σ H Q I q=>wpAny_tests_one (h pins s σ H Q I q)
def compBody (n:Nat) (js:List Nat) (g:TG) (tt:TT) (te:TE) (σ:St) (Q:VK) (J:It) (H1:Hp):Prop:=∀ D,H1 D=none →
 ∃ W:Nat→Nat→List V→St→Hp→Prop,(∃ m,W 0 m [] (sgC n js σ) (upd H1 D (.lst [])))∧∀ i m ys σ' H',W i m ys σ' H' →
  (J.stop i H'∧Q (.ref D) H') ∨
  (J.go i H'∧ys.length<sizeLine∧∃ N:List V→St→Hp→Prop,(∀ ys3 σ3 H3,N ys3 σ3 H3→∃ m',m'<m∧W (i + 1) m' ys3 σ3 H3)∧∀ x H2,J.yld i H' x H2→g x σ' H2 fun σ3 H3=>tt σ3 H3 fun b H4 =>
   if b=true then te σ3 H4 fun v H5=>H5 D=some (.lst ys)∧N (ys++[v]) σ3 (upd H5 D (.lst (ys++[v])))
   else N ys σ3 H4)
section
variable {prog:Program} {w:World} {A:Around} {E:Value→Shared→Prop} {R:Result→Shared→Prop} {s:Shared}
theorem Znt {elt target iter:Expr}{ifs:List Expr}{scope:Scope}{pos:Pos}{it acc:Value}{env:Env}(I:Nat→Shared→Prop)
  (turn:∀ n s,I n s→∀ E:Value→Shared→Prop,wpAny (model prog w) A (pyNext it) (fun r s₁=>match r with
   | none=>R (.ok .next) s₁
   | some v=>wpAny (model prog w) A (letOwnedTupleGo target it v) (fun _ s₁'=>wpAny (model prog w) A (assign target env v) (fun _ s₂ =>
     wpAny (model prog w) A (forIn ifs true fun c r=>if r=true then do let ok ← isTrue c env (eval c env);pure (ForInStep.yield ok) else pure (ForInStep.yield r)) (fun ok s₃ =>
      if ok=true then wpAny (model prog w) A (eval elt env) (fun x s₄ =>
       wpAny (model prog w) A (call (.builtin "list.append") [acc,x]) (fun _ s₅=>∃ m,m<n∧I m s₅) E s₄) E s₃
      else ∃ m,m<n∧I m s₃) E s₂) E s₁') E s₁) E s)
  (n:Nat) (h:I n s):
  codeAny (model prog w) A (.compLoop (.ListComp elt [⟨target,iter,ifs,0⟩] scope pos) 0 it acc env) R s:=by
 refine codeAny_loop rfl I (fun n s hI=>?_) n h
 show wpAny _ A ((compTurn (.ListComp elt [⟨target,iter,ifs,0⟩] scope pos) 0 it acc env).onRaise (fun x=>do noteFrame x env;theTreesLotGoes x)) _ _ s
 refine wpAny_noted ?_
 rw [compTurn_list]
 refine wpAny_bind (wpAny_standAt (wpAny_bind (wpAny_mono (turn n s hI _) (fun r s₁ h₁=>?_) fun _ _ h'=>h')))
 cases r with
 | none=>exact wpAny_pure h₁
 | some v =>
  refine wpAny_bind (wpAny_mono h₁ (fun _ s₁' h₁'=>?_) fun _ _ h'=>h')
  refine wpAny_bind (wpAny_mono h₁' (fun _ s₂ h₂=>wpAny_bind (wpAny_mono h₂ (fun ok s₃ h₃=>?_) fun _ _ h'=>h')) fun _ _ h'=>h')
  cases ok with
  | false=>exact wpAny_pure ⟨rfl,h₃⟩
  | true =>
   exact wpAny_bind (wpAny_bind (wpAny_mono h₃ (fun x s₄ h₄=>wpAny_bind (wpAny_mono h₄ (fun _ s₅ h₅=>wpAny_pure (wpAny_pure ⟨rfl,h₅⟩)) fun _ _ h'=>h')) fun _ _ h'=>h'))
end
section
variable {X:Cx} {pins:List (Addr×Obj)} {σ:St} {scope:Scope} {own frees:List Str} {js:List Nat}
theorem Zfm.cells (c:Zfm X scope own frees js) (ok:X.Ok):∀ y∈scope.names,y.2=.free→∃ a,X.env.cells.lookup y.1=some a:=fun y hy e=>by
 rcases c.fr y hy e with h | h
 ·exact ok.has y.1 (.inl h)
 ·exact ok.has y.1 (.inr h)
theorem Zfm.cl (c:Zfm X scope own frees js) (ok:X.Ok) {x:Str}{a:Addr}(h:(Znu X.env scope.names []).lookup x=some a):X.env.cells.lookup x=some a :=
 Zgz scope.names [] x a (c.cells ok) (fun _ _ z=>by simp at z) h
theorem Zfm.has (c:Zfm X scope own frees js) {x:Str}(h:scope.names.lookup x=some .free):∃ a,(Znu X.env scope.names []).lookup x=some a :=
 Option.isSome_iff_exists.mp (Zl2 scope.names [] x (PySem.mem_of_lookup h))
theorem Zfm.ok {s2:Shared}{H2:Hp}{fp:List Addr}{C:Addr}(c:Zfm X scope own frees js) (I:Inv X pins σ H2 s2) (f2:∀ b∈fp,Zj2 X pins H2 b) (hlt:∀ b∈fp,b<s2.heap.objs.size) (hC:s2.heap.objs.size≤C) (N:List Str):
  (Zc8 X scope N C s2 H2 fp).Ok where
 mod:=I.ok.mod
 kind:=c.kind
 glob:=I.ok.glob
 blt:=I.ok.blt
 above:=hC
 inj:=fun x y a h1 h2=>I.ok.inj x y a (c.cl I.ok h1) (c.cl I.ok h2)
 has:=fun x h=>by
  have h':scope.names.lookup x=some .free∨scope.names.lookup x=some .cell:=Zez (env:=X.env) h
  rcases h' with h' | h'
  ·exact c.has h'
  ·exact absurd rfl (c.nocell _ (PySem.mem_of_lookup h'))
 cab:=fun x a h=>absurd (show false=true from h) Bool.false_ne_true
 hd:=fun h=>I.ok.hd h
 frames:=I.ok.frames
 stk:=.inl rfl
 exf:=fun b hb=>⟨Nat.ne_of_lt (Nat.lt_of_lt_of_le (hlt b hb) hC),fun x a h=>(f2 b hb).2.2.2.2.1 x a (c.cl I.ok h)⟩
 bs:=I.bs
 bsz:=Nat.le_trans I.ok.bsz I.sz
 noex:=fun b o e hb=>by
  rcases (f2 b hb).2.2.2.1 with z | z
  ·exact I.ok.noex b o e z
  ·exact absurd (Nat.lt_of_lt_of_le (Heap.lt_size e) (Nat.le_trans I.ok.bsz z)) (Nat.lt_irrefl _)
 exfs:=fun b hb z=>by
  rcases List.mem_cons.mp (I.stkSub b z) with e | e
  ·exact (f2 b hb).2.1 e
  ·exact (f2 b hb).2.2.1 e
 funs:=I.stack
 frf:=I.stkFree
theorem Zkr {s2:Shared}{tg iter elt:Expr}{ifs:List Expr}{pos:Pos}{g:TG}{tt:TT}{te:TE}{Q:VK}{RR:Value→Addr→Result→Shared→Prop}{itv:Value}{E:Value→Shared→Prop}
  (c:Zfm X scope own frees js)
  (hg:∀ C s H fp,PG (Zc8 X scope (own++frees) C s H fp) tg g) (ht:∀ C s H fp,PTs (Zc8 X scope (own++frees) C s H fp) ifs tt) (he:∀ C s H fp,PE (Zc8 X scope (own++frees) C s H fp) elt te)
  (h:PIE X pins σ tg (compBody own.length js g tt te σ Q) itv s2)
  (hR:∀ D C H' s',Inv X pins σ H' s'→Zj2 X pins H' C→(∃ m,s'.heap.Ns C m)→Q (.ref D) H'→RR (.ref D) C (.ok .next) s'):
  wpAny (model X.prog X.w) X.A (newList []) (fun acc s₃=>wpAny (model X.prog X.w) X.A (newFunctionEnv scope X.env.globals (Znu X.env scope.names []) [] X.env.qual none .none (some X.env)) (fun cenv s₄ =>
   codeAny (model X.prog X.w) X.A (.compStart (.ListComp elt [⟨tg,iter,ifs,0⟩] scope pos) 0 itv acc { cenv with scope:=relabel scope X.env }) (RR acc cenv.locals) s₄) E s₃) E s2:=by
 obtain ⟨it,fp,tn,J,H2,e,I2,T,st2,f2,hq⟩:=h
 subst e
 refine wpAny_newObj_type (wpAny_newFunctionEnv c.nocell (by intro y hy;simp at hy) (fun h₁ hns₁ hsb₁=>?_) c.kind)
 dsimp only at hns₁ hsb₁ ⊢
 generalize hH2:s2.heap.push { cls:=.type "list",dict:=none,data:=.seq ([]:List Value).toArray }=G2 at hns₁ hsb₁ ⊢
 have hC:G2.objs.size=s2.heap.objs.size + 1:=by rw [← hH2,Heap.size_push]
 have hDC:s2.heap.objs.size≠G2.objs.size:=by rw [hC];exact Nat.ne_of_lt (Nat.lt_succ_self _)
 have hCle:s2.heap.objs.size≤G2.objs.size:=by rw [hC];exact Nat.le_succ _
 have old:∀ b o,s2.heap.get? b=some o→h₁.get? b=some o:=fun b o e=>by
  have hb:=Heap.lt_size e
  exact hsb₁.extBut b o (by rw [hC];exact Nat.ne_of_lt (Nat.lt_succ_of_lt hb)) (Heap.get?_push_of_some _ (hH2 ▸ Heap.get?_push_of_some _ e))
 have hD:H2 s2.heap.objs.size=none:=I2.hok.fresh (Nat.le_refl _)
 have hlt:∀ b∈fp,b<s2.heap.objs.size:=fun b hb=>by
  obtain ⟨o,e,_⟩:=T.obj _ _ st2 b hb
  exact Heap.lt_size e
 have hacc:h₁.get? s2.heap.objs.size=some { cls:=.type "list",data:=.seq ([]:List Value).toArray }:=hsb₁.extBut _ _ hDC (Heap.get?_push_of_some _ (hH2 ▸ Heap.get?_push_size _ rfl))
 obtain ⟨W,⟨m0,w0⟩,turn⟩:=hq _ hD
 have I0:∀ tk,Inv (Zc8 X scope (own++frees) G2.objs.size s2 H2 fp) [] (sgC own.length js σ) (upd H2 s2.heap.objs.size (.lst [])) { s2 with heap:=h₁,toks:=tk }:=fun tk=>by
  refine ⟨c.ok I2 f2 hlt hCle _,rfl,I2.bare,Un.laid old (Nat.le_refl _) hD,⟨_,hns₁,fun i x v h1 h2 h3=>?_⟩,fun x a h=>?_,?_,fun x a h=>?_,fun p hp=>absurd (show p∈([]:List (Addr×Obj)) from hp) (by simp),I2.hok.laid old (Nat.le_refl _) ⟨Nat.zero_le _,[],0,.nil,hacc⟩,?_⟩
  ·have hi:own.length≤i:=by
    by_cases hi:i<own.length
    ·unfold sgC at h2
     rw [List.getElem?_append_left (by simpa using hi),List.getElem?_replicate] at h2
     rw [if_pos hi] at h2
     cases h2
    ·omega
   have hx:frees[i - own.length]?=some x:=by
    have h1':(own++frees)[i]?=some x:=h1
    rwa [List.getElem?_append_right hi] at h1'
   have h2':(js.map fun j=>(σ[j]?).join)[i - own.length]?=some (some v):=by
    unfold sgC at h2
    rw [List.getElem?_append_right (by simpa using hi)] at h2
    simpa using h2
   rw [List.getElem?_map] at h2'
   obtain ⟨j,hj,hjv⟩:=Option.map_eq_some_iff.mp h2'
   have hs:=congrArg (fun l=>l[i - own.length]?) c.slots
   rw [List.getElem?_map,List.getElem?_map,hj,hx] at hs
   have hNj:X.N[j]?=some x:=Option.some.inj hs
   have hσ:σ[j]?=some (some v):=by
    cases q:σ[j]? with
    | none=>rw [q] at hjv;cases hjv
    | some o =>
     rw [q] at hjv
     have:o=some v:=hjv
     rw [this]
   have hfree:=c.fre x (List.mem_of_getElem? hx)
   have hXk:=c.fr (x,.free) (PySem.mem_of_lookup hfree) rfl
   obtain ⟨m,hn,hl⟩:=I2.loc
   have vis:Vis X.env.scope x:=by rcases hXk with k | k;exact .inr (.inl k);exact .inr (.inr k)
   obtain ⟨u,r,l⟩:=hl j x v hNj hσ vis
   refine ⟨u,r,.inr ⟨Zeh (env:=X.env) hfree,?_⟩⟩
   rcases l with ⟨hk,_⟩ | ⟨_,a,ha,hcell⟩
   ·rcases hXk with k | k
    ·have hk:X.env.scope.names.lookup x=some .local:=hk
     rw [show X.env.scope.names.lookup x=some .cell from k] at hk;cases hk
    ·have hk:X.env.scope.names.lookup x=some .local:=hk
     rw [show X.env.scope.names.lookup x=some .free from k] at hk;cases hk
   ·obtain ⟨a',ha'⟩:=c.has hfree
    have e:=c.cl I2.ok ha'
    rw [ha] at e
    cases e
    obtain ⟨o,ho,hd⟩:=hcell
    exact ⟨a,ha',o,old a o ho,hd⟩
  ·obtain ⟨v,o,ho,hd⟩:=I2.cell x a (c.cl I2.ok h)
   exact ⟨v,o,old a o ho,hd⟩
  ·show upd H2 s2.heap.objs.size (.lst []) G2.objs.size=none
   rw [Zac (Ne.symm hDC)]
   exact I2.hok.fresh hCle
  ·obtain ⟨v,o,ho,hd⟩:=I2.cell x a (c.cl I2.ok h)
   rw [Zac (Nat.ne_of_lt (Heap.lt_size ho))]
   exact I2.freeC x a (c.cl I2.ok h)
  ·rw [Zx7,List.length_append]
   have:=congrArg List.length c.slots
   rw [List.length_map,List.length_map] at this
   omega
 have stat:∀ {H':Hp},(∀ b∈fp,H' b=none)→∀ b∈fp,Zj2 (Zc8 X scope (own++frees) G2.objs.size s2 H2 fp) [] H' b:=fun {H'} hn b hb=>by
  obtain ⟨f0,f1,f3,f4,f5,f6⟩:=f2 b hb
  refine ⟨hn b hb,Nat.ne_of_lt (Nat.lt_of_lt_of_le (hlt b hb) hCle),fun z=>?_,.inl hb,fun x a h=>f5 x a (c.cl I2.ok h),fun p hp=>absurd (show p∈([]:List (Addr×Obj)) from hp) (by simp)⟩
  rcases List.mem_cons.mp (I2.stkSub b z) with e | e
  ·exact f1 e
  ·exact f3 e
 have loop:∀ s₃:Shared,s₃={ s2 with heap:=h₁,toks:=s2.toks + ([]:List (Str×Value)).length } →
   codeAny (model X.prog X.w) X.A (.compLoop (.ListComp elt [⟨tg,iter,ifs,0⟩] scope pos) 0 (.ref it) (.ref s2.heap.objs.size) (compEnvC scope (Znu X.env scope.names []) G2.objs.size X.env))
    (RR (.ref s2.heap.objs.size) G2.objs.size) s₃:=by
  rintro s₃ rfl
  refine Znt (fun n s'=>∃ i ys σ' H',Inv (Zc8 X scope (own++frees) G2.objs.size s2 H2 fp) [] σ' H' s'∧tn i s'.heap∧(∀ b∈fp,H' b=none)∧W i n ys σ' H') ?_ m0
   ⟨0,[],_,_,I0 _,T.keep _ _ _ st2 fun b _ o e=>old b o e,fun b hb=>by rw [Zac (Nat.ne_of_lt (hlt b hb))];exact (f2 b hb).1,w0⟩
  rintro n s3 ⟨i,ys,σ3,H3,I3,st3,fr3,w3⟩ E'
  rcases turn i n ys σ3 H3 w3 with ⟨stop,qn⟩ | ⟨go,hz,N,hN,step⟩
  ·refine thn (T.done (Zc8 X scope (own++frees) G2.objs.size s2 H2 fp) rfl rfl rfl c.calm i [] s3 σ3 H3 E' I3 (stat fr3) st3 stop) fun r s4 ⟨hr,I4⟩=>?_
   subst hr
   have back:Inv X pins σ H3 s4:=I2.call' (ch:=fp) I4.os I4.base I4.hok I4.bare fun b hb=>⟨(f2 b hb).2.2.2.1,(f2 b hb).2.1,(f2 b hb).2.2.2.2.1,(f2 b hb).2.2.2.2.2⟩
   exact hR _ _ H3 s4 back (I2.fpOk hCle I4.free) ⟨_,I4.loc.choose_spec.1⟩ qn
  ·refine thn (T.item (Zc8 X scope (own++frees) G2.objs.size s2 H2 fp) rfl rfl rfl c.calm i [] s3 σ3 H3 E' I3 (stat fr3) st3 go) fun r s4 ⟨u,hr,h4⟩=>?_
   subst hr
   refine thn h4 fun _ s5 ⟨x,H5,I5,r5,y5,st5,fr5⟩=>?_
   have I5':=I5.pinned (stat fr5) (T.obj _ _ st5)
   have nof:∀ (e:Value) (s':Shared),(Zc8 X scope (own++frees) G2.objs.size s2 H2 fp).xe e s'→E' e s':=fun _ _ z=>False.elim z
   refine wpAny_mono (hg _ _ _ _ _ s5 σ3 H5 x u _ I5' r5 (step x H5 y5)) (fun _ s6 ⟨σ6,H6,I6,q6⟩=>?_) nof
   refine wpAny_mono (ht _ _ _ _ _ s6 σ6 H6 _ I6 q6) (fun b s7 ⟨H7,I7,q7⟩=>?_) nof
   have again:∀ {σ7:St} {H7:Hp} {s7:Shared} {ys':List V},Inv (Zc8 X scope (own++frees) G2.objs.size s2 H2 fp) ([]++Zmx fp s5.heap) σ7 H7 s7→N ys' σ7 H7 →
     ∃ m,m<n∧∃ i ys σ' H',Inv (Zc8 X scope (own++frees) G2.objs.size s2 H2 fp) [] σ' H' s7∧tn i s7.heap∧(∀ b∈fp,H' b=none)∧W i m ys σ' H':=fun {σ7 H7 s7 ys'} I7 n7=>by
    obtain ⟨m',hm,w7⟩:=hN _ _ _ n7
    refine ⟨m',hm,i + 1,ys',σ7,H7,I7.unpinned,T.keep _ _ _ st5 fun b hb o e=>(I7.pin (b,o) (List.mem_append_right _ (List.mem_append_right _ (Zgh hb e)))).1,fun b hb=>?_,w7⟩
    obtain ⟨o,e,d⟩:=T.obj _ _ st5 b hb
    exact (I7.pin (b,o) (List.mem_append_right _ (List.mem_append_right _ (Zgh hb e)))).2.1
   cases b with
   | false =>
    rw [if_neg Bool.false_ne_true] at q7 ⊢
    exact again I7 q7
   | true =>
    rw [if_pos rfl] at q7 ⊢
    refine wpAny_mono (he _ _ _ _ _ s7 σ6 H7 _ I7 q7) (fun v s8 ⟨y,H8,I8,r8,hD8,w8⟩=>?_) nof
    refine wpAny_mono (Zdu (X:=Zc8 X scope (own++frees) G2.objs.size s2 H2 fp) _ s8 σ6 H8 (.ref s2.heap.objs.size) [y] (.ref s2.heap.objs.size) [v] (fun _ H9=>H9=upd H8 s2.heap.objs.size (.lst (ys++[y]))) I8 rfl (.cons r8 .nil) ⟨_,ys,y,rfl,rfl,hD8,hz,rfl⟩) (fun z s9 ⟨_,H9,I9,_,e9⟩=>?_) nof
    subst e9
    exact again I9 w8
 exact codeAny_compStart_list (loop _ rfl) (T.self X.A 0 _ _ _ (T.keep _ _ _ st2 fun b _ o e=>old b o e) (loop _ rfl))
end
section
variable {X:Cx} {scope:Scope} {own frees:List Str} {js:List Nat} {tg iter elt:Expr} {ifs:List Expr} {wi:TI} {g:TG} {tt:TT} {te:TE} {pos:Pos}
def Z2g (n:Nat) (js:List Nat) (wi:TI) (g:TG) (tt:TT) (te:TE):TE:=fun σ H Q=>wi σ H (compBody n js g tt te σ Q)
theorem Zb3 (own frees:List Str) (js:List Nat) (hc:X.Ok→Zfm X scope own frees js) (hi:PI X tg iter wi)
  (hg:∀ C s H fp,PG (Zc8 X scope (own++frees) C s H fp) tg g) (ht:∀ C s H fp,PTs (Zc8 X scope (own++frees) C s H fp) ifs tt) (he:∀ C s H fp,PE (Zc8 X scope (own++frees) C s H fp) elt te)
  (hs:∀ x,foldedSetIterable iter X.env x=pure x:=by intro _;rfl):
  PE X (.ListComp elt [⟨tg,iter,ifs,0⟩] scope pos) (Z2g own.length js wi g tt te):=by
 intro pins s σ H Q I h
 have c:=hc I.ok
 rw [eval_ListComp]
 refine wpAny_comprehension_free (use:=none) rfl hs (Zhm (c.cells I.ok)) c.kind c.locals (thn (hi pins s σ H _ I h) fun xv s₁ h₁=>thn h₁ fun it s₂ h₂=>?_)
 refine Zkr (RR:=fun acc C=>compPost (model X.prog X.w) X.A X.xe none (EP X pins σ Q) acc C) c hg ht he h₂ fun D C H' s' J F n q=>?_
 obtain ⟨m,hn⟩:=n
 obtain ⟨f0,f1,f2,f3,f4,f5⟩:=F
 exact ⟨m,hn,fun h' hs'=>⟨.ref D,H',J.turned (t':=s'.toks) (fun b o hb e=>hs'.extBut b o hb e) f0 f1 f3 f4 f5,rfl,q⟩⟩
def Zva (k n:Nat) (js:List Nat) (wi:TI) (g:TG) (tt:TT) (te:TE):TS:=fun D σ H=>wi σ H (compBody n js g tt te σ fun v H1=>D.nx (σ.set k (some v)) H1)
theorem Ze7 {k:Nat}{y:Str}{py spos:Pos} (own frees:List Str) (js:List Nat) (hN:X.N.Nodup) (hk:X.N[k]?=some y) (hy:X.env.scope.names.lookup y=some .local) (hc:X.Ok→Zfm X scope own frees js) (hi:PI X tg iter wi)
  (hg:∀ C s H fp,PG (Zc8 X scope (own++frees) C s H fp) tg g) (ht:∀ C s H fp,PTs (Zc8 X scope (own++frees) C s H fp) ifs tt) (he:∀ C s H fp,PE (Zc8 X scope (own++frees) C s H fp) elt te)
  (hsw:swapsWith (.ListComp elt [⟨tg,iter,ifs,0⟩] scope pos) (some (.Name y py)) spos.line X.env=pure true:=by rfl)
  (hs:∀ x,foldedSetIterable iter X.env x=pure x:=by intro _;rfl):
  PS X (.Assign [.Name y py] (.ListComp elt [⟨tg,iter,ifs,0⟩] scope pos) spos) (Zva k own.length js wi g tt te):=by
 intro pins s σ H D I h
 have c:=hc I.ok
 rw [exec_Assign_Name_used _ _ _ _ hsw]
 refine wpAny_bind (wpAny_standAt (wpAny_bind ?_))
 show wpAny _ X.A (do let _ ← comprehension (.ListComp elt [⟨tg,iter,ifs,0⟩] scope pos) scope X.env _ (newList []) false (eval iter X.env) (some (assign (.Name y py) X.env))) _ _ s
 refine wpAny_bind (wpAny_mono (wpAny_comprehension_free (use:=some (assign (.Name y py) X.env)) (Q:=fun _ s'=>SP X pins D .next s') rfl hs (Zhm (c.cells I.ok)) c.kind c.locals
  (thn (hi pins s σ H _ I h) fun xv s₁ h₁=>thn h₁ fun it s₂ h₂=>?_)) (fun _ s' hq=>wpAny_pure (wpAny_pure hq)) fun _ _ e=>e)
 refine Zkr (RR:=fun acc C=>compPost (model X.prog X.w) X.A X.xe (some (assign (.Name y py) X.env)) (fun _ s'=>SP X pins D .next s') acc C) c hg ht he h₂ fun A' C H' s' J F n q=>?_
 obtain ⟨m,hn⟩:=n
 obtain ⟨f0,f1,f2,f3,f4,f5⟩:=F
 show wpAny _ X.A (assign (.Name y py) X.env (.ref A')) _ _ _
 refine wpAny_assign_Name (Zme J hN hk (.inl hy) (v:=.ref A') rfl (fun s'' J' ⟨a,sb,ha⟩=>?_) (.inr hy))
 have hne:a≠C:=by
  rcases ha with e | e
  ·rw [e];exact Ne.symm f1
  ·exact f4 y a e
 refine ⟨m,hn.sameBut sb (Ne.symm hne),fun h' hs'=>⟨_,H',J'.turned (t':=s''.toks) (fun b o hb e=>hs'.extBut b o hb e) f0 f1 f3 f4 f5,q⟩⟩
end
theorem Zjp {J:It}{xs:List V}{Ok:Hp→Prop}(R:Zrv J xs Ok) {n:Nat}{js:List Nat}{g:TG}{tt:TT}{te:TE}{σ:St}{Q:VK}{H1:Hp}(hz:xs.length≤sizeLine)
  (Pv:Addr→Nat→List V→St→Hp→Prop) (h0:∀ D,H1 D=none→Pv D 0 [] (sgC n js σ) (upd H1 D (.lst [])))
  (hok:∀ D i ys σ' H,i≤xs.length→Pv D i ys σ' H→Ok H∧ys.length≤i)
  (hs:∀ D i x ys σ' H,H1 D=none→xs[i]?=some x→Pv D i ys σ' H→g x σ' H fun σ3 H3=>tt σ3 H3 fun b H4 =>
   if b=true then te σ3 H4 fun v H5=>H5 D=some (.lst ys)∧Pv D (i + 1) (ys++[v]) σ3 (upd H5 D (.lst (ys++[v]))) else Pv D (i + 1) ys σ3 H4)
  (hd:∀ D ys σ' H,H1 D=none→Pv D xs.length ys σ' H→Q (.ref D) H):
  compBody n js g tt te σ Q J H1:=by
 intro D hD
 refine ⟨fun i m ys σ' H=>m=xs.length - i∧i≤xs.length∧Pv D i ys σ' H,⟨xs.length,by simp,Nat.zero_le _,h0 D hD⟩,?_⟩
 rintro i m ys σ' H ⟨rfl,hi,p⟩
 obtain ⟨q,hy⟩:=hok D i ys σ' H hi p
 by_cases hlt:i<xs.length
 ·have hx:xs[i]?=some xs[i]:=by simp [hlt]
  refine .inr ⟨R.go i _ H q hx,by omega,Pv D (i + 1),fun ys3 σ3 H3 p3=>⟨xs.length - (i + 1),by omega,rfl,hlt,p3⟩,fun x H' y=>?_⟩
  obtain ⟨e1,e2⟩:=R.yld i _ H x H' q hx y
  rw [e2]
  exact hs D i x ys σ' H hD (by rw [e1];exact hx) p
 ·have e:i=xs.length:=by omega
  subst e
  exact .inl ⟨R.stop H q,hd D ys σ' H hD p⟩
theorem Zf2 {J:It}{xs:List V}{Ok:Hp→Prop}(R:Zrv J xs Ok) {js:List Nat}{tt:TT}{te:TE}{σ:St}{Q:VK}{H1:Hp}(hz:xs.length≤sizeLine) (p:V→Bool) (f:V→V)
  (hok:∀ D ys,H1 D=none→Ok (upd H1 D (.lst ys)))
  (ht:∀ D ys x (R:Bool→Hp→Prop),H1 D=none→x∈xs→R (p x) (upd H1 D (.lst ys))→tt (some x :: js.map fun j=>(σ[j]?).join) (upd H1 D (.lst ys)) R)
  (he:∀ D ys x (R:V→Hp→Prop),H1 D=none→x∈xs→p x=true→R (f x) (upd H1 D (.lst ys))→te (some x :: js.map fun j=>(σ[j]?).join) (upd H1 D (.lst ys)) R)
  (hd:∀ D,H1 D=none→Q (.ref D) (upd H1 D (.lst ((xs.filter p).map f)))):
  compBody 1 js (Zh0 0) tt te σ Q J H1:=by
 refine Zjp R hz (fun D i ys σ' H=>H1 D=none∧ys=((xs.take i).filter p).map f∧(∃ o,σ'=o :: js.map fun j=>(σ[j]?).join)∧H=upd H1 D (.lst ys)) ?_ ?_ ?_ ?_
 ·intro D hD
  exact ⟨hD,by simp,⟨none,rfl⟩,rfl⟩
 ·rintro D i ys σ' H hi ⟨hD,e,_,rfl⟩
  refine ⟨hok D ys hD,?_⟩
  rw [e,List.length_map]
  exact Nat.le_trans (List.length_filter_le _ _) (by rw [List.length_take];omega)
 ·rintro D i x ys σ' H hD hx ⟨_,e,⟨o,rfl⟩,rfl⟩
  show tt (some x :: js.map fun j=>(σ[j]?).join) (upd H1 D (.lst ys)) _
  have hm:x∈xs:=List.mem_of_getElem? hx
  refine ht D ys x _ hD hm ?_
  cases hp:p x with
  | true =>
   rw [if_pos rfl]
   refine he D ys x _ hD hm hp ⟨uS,hD,?_,⟨_,rfl⟩,Zky⟩
   rw [take_succ_filter p xs i x hx,hp,List.map_append,e]
   rfl
  | false =>
   rw [if_neg Bool.false_ne_true]
   refine ⟨hD,?_,⟨_,rfl⟩,rfl⟩
   rw [take_succ_filter p xs i x hx,hp,List.map_append,e]
   simp
 ·rintro D ys σ' H hD ⟨_,e,_,rfl⟩
  rw [List.take_length] at e
  rw [e]
  exact hd D hD
end L2
namespace L2
open PySem PySem.Spec PyProof.Rows
section
variable {X:Cx}
theorem Znw {bs:List Bool}{its:List Value}(r:Zbr (bs.map V.bl) its):∀ (i:Nat) (v:Value),its[i]?=some v→v=Value.bool (bs.getD i false):=fun i v h=>by
 have hl:=r.length
 rw [List.length_map] at hl
 have hi:i<its.length:=(List.getElem?_eq_some_iff.mp h).1
 have hb:(bs.map V.bl)[i]?=some (V.bl (bs.getD i false)):=by
  rw [List.getElem?_map,List.getD_eq_getElem?_getD]
  have:i<bs.length:=by omega
  simp [this]
 obtain ⟨u,hu,ru⟩:=r.get hb
 rw [h] at hu
 cases hu
 exact ru
theorem Zs2 {bs:List Bool}:(List.range bs.length).all (fun i=>bs.getD i false)=bs.all id:=by
 rw [Bool.eq_iff_iff]
 simp only [List.all_eq_true,List.mem_range,id]
 constructor
 ·intro h b hb
  obtain ⟨i,hi,e⟩:=List.mem_iff_getElem.mp hb
  have:=h i hi
  rw [List.getD_eq_getElem?_getD] at this
  simpa [hi,e] using this
 ·intro h i hi
  rw [List.getD_eq_getElem?_getD]
  simp only [List.getElem?_eq_getElem hi,Option.getD_some]
  exact h _ (List.getElem_mem hi)
theorem Zs1 {bs:List Bool}:(List.range bs.length).any (fun i=>bs.getD i false)=bs.any id:=by
 rw [Bool.eq_iff_iff]
 simp only [List.any_eq_true,List.mem_range,id]
 constructor
 ·rintro ⟨i,hi,e⟩
  rw [List.getD_eq_getElem?_getD] at e
  simp only [List.getElem?_eq_getElem hi,Option.getD_some] at e
  exact ⟨_,List.getElem_mem hi,e⟩
 ·rintro ⟨b,hb,e⟩
  obtain ⟨i,hi,e'⟩:=List.mem_iff_getElem.mp hb
  refine ⟨i,hi,?_⟩
  rw [List.getD_eq_getElem?_getD]
  simp only [List.getElem?_eq_getElem hi,Option.getD_some]
  rw [e',e]
def Z4l (K:W.Frag) (f:List Bool→Bool):List V→Hp→VK→Prop:=fun xs H Q=>∃ a bs,xs=[.ref a]∧SqL K H a (bs.map V.bl)∧Q (.bl (f bs)) H
theorem Zin (hc:X.calm=true):Zif X (.builtin "all") (Z4l X.K fun bs=>bs.all id):=by
 intro pins s σ H xs us Q I r h
 obtain ⟨a,bs,rfl,ha,q⟩:=h
 obtain ⟨u,rfl,ru⟩:=Zkx r
 cases ru
 obtain ⟨its,rv,p,hz⟩:=I.list ha
 have hl:=rv.length
 rw [List.length_map] at hl
 refine call_all_walk (wpAny_pyIter_list p.isList ?_)
 have hne:a≠s.heap.objs.size:=by
  obtain ⟨o,ho,_⟩:=p.isList
  exact Nat.ne_of_lt (Heap.lt_size ho)
 refine ⟨s.heap.objs.size,_,_,_,_,_,fun i=>bs.getD i false,rfl,Walks.list (A:=X.A.in1) (I.ok.hd hc) s.heap.objs.size a hne its.toArray,⟨⟨_,Heap.get?_push_size _ rfl,rfl,rfl⟩,?_⟩,?_,?_⟩
 ·obtain ⟨o,ho,r'⟩:=p.isList
  exact ⟨o,Heap.get?_push_of_some _ ho,r'⟩
 ·intro i v s' Q' E' hv hq
  have e:=Znw rv i v (by simpa using hv)
  subst e
  exact wpAny_truthy_bool hq
 ·intro h' tk hk
  refine ⟨.bl (bs.all id),H,I.kept fun b o e=>hk b o ?_ (Heap.get?_push_of_some _ e),?_,q⟩
  ·have hb:=Heap.lt_size e
   intro z
   have z':b=s.heap.objs.size:=by simpa using z
   exact Nat.ne_of_lt hb z'
  ·have:its.toArray.size=bs.length:=by simp [hl]
   rw [this,Zs2]
   rfl
theorem Zqn (hc:X.calm=true):Zif X (.builtin "any") (Z4l X.K fun bs=>bs.any id):=by
 intro pins s σ H xs us Q I r h
 obtain ⟨a,bs,rfl,ha,q⟩:=h
 obtain ⟨u,rfl,ru⟩:=Zkx r
 cases ru
 obtain ⟨its,rv,p,hz⟩:=I.list ha
 have hl:=rv.length
 rw [List.length_map] at hl
 refine call_any_walk (wpAny_pyIter_list p.isList ?_)
 have hne:a≠s.heap.objs.size:=by
  obtain ⟨o,ho,_⟩:=p.isList
  exact Nat.ne_of_lt (Heap.lt_size ho)
 refine ⟨s.heap.objs.size,_,_,_,_,_,fun i=>bs.getD i false,rfl,Walks.list (A:=X.A.in1) (I.ok.hd hc) s.heap.objs.size a hne its.toArray,⟨⟨_,Heap.get?_push_size _ rfl,rfl,rfl⟩,?_⟩,?_,?_⟩
 ·obtain ⟨o,ho,r'⟩:=p.isList
  exact ⟨o,Heap.get?_push_of_some _ ho,r'⟩
 ·intro i v s' Q' E' hv hq
  have e:=Znw rv i v (by simpa using hv)
  subst e
  exact wpAny_truthy_bool hq
 ·intro h' tk hk
  refine ⟨.bl (bs.any id),H,I.kept fun b o e=>hk b o ?_ (Heap.get?_push_of_some _ e),?_,q⟩
  ·have hb:=Heap.lt_size e
   intro z
   have z':b=s.heap.objs.size:=by simpa using z
   exact Nat.ne_of_lt hb z'
  ·have:its.toArray.size=bs.length:=by simp [hl]
   rw [this,Zs1]
   rfl
def Z3s (i j:Int):Prop:=Builtin.Int.intBits i≤2 ^ 20∧Builtin.Int.intBits j≤2 ^ 20
theorem Zoj:OpR X (binaryOp .Mult) (rI Z3s fun i j=>.int (i * j)):=opI fun _ _ _ _ _ _ _ hc q=>mul_int q (IntMulOk.of_bits hc.1 hc.2)
def Z3u (i j:Int):Prop:=0<j∧j<4611686018427387904
theorem Zvt:OpR X (binaryOp .FloorDiv) (rI Z3u fun i j=>.int (i / j)):=opI fun i j _ _ _ _ _ hc q=>by
 have h1:(0:Int)<j:=hc.1
 have h2:j<4611686018427387904:=hc.2
 refine floordiv_int (by omega) (by rw [Int.fdiv_eq_ediv_of_nonneg i (by omega)];exact q) (.inl (PyProof.noPylong_of_log2 ?_))
 have h3:j.natAbs.log2<62:=(Nat.log2_lt (by omega)).mpr (by omega)
 omega
def Z6b (K:W.Frag):List V→Hp→VK→Prop:=fun xs H Q=>∃ x n t b,xs=[x,.ty n]∧Zrr K H x t∧W.kitOne K t (.type n)=some b∧Q (.bl b) H
theorem Zqm:Zif X (.builtin "isinstance") (Z6b X.K):=by
 intro pins s σ H xs us Q I r h
 obtain ⟨x,n,t,b,rfl,ty,e,q⟩:=h
 obtain ⟨u,w',rfl,r1,r2⟩:=Zz1 r
 cases r2
 exact Zt3 I r1 ty e fun tk=>⟨.bl b,H,I.tok _,rfl,q⟩
end
def Z1s (osc:Scope) (on:List Str) (scope:Scope) (frees:List Str) (js:List Nat):Bool :=
 (scope.kind == .function)&&scope.names.all (fun y=>y.2 != .cell)&&scope.names.all (fun y=>y.2 != .local || scope.names.lookup y.1 == some .local) &&
 scope.names.all (fun y=>y.2 != .free || (osc.names.lookup y.1 == some .cell || osc.names.lookup y.1 == some .free))&&frees.all (fun x=>scope.names.lookup x == some .free)&&decide (js.map (fun j=>on[j]?)=frees.map some)
theorem Za5 {X:Cx}{osc scope:Scope}{on own frees:List Str}{js:List Nat}(h:Z1s osc on scope frees js=true) (h1:X.env.scope=osc) (h2:X.N=on) (h3:X.calm=true):Zfm X scope own frees js:=by
 subst h1
 subst h2
 unfold Z1s at h
 simp only [Bool.and_eq_true,List.all_eq_true,decide_eq_true_eq,Bool.or_eq_true,bne_iff_ne,beq_iff_eq,ne_eq] at h
 obtain ⟨⟨⟨⟨⟨a,b⟩,c⟩,d⟩,e⟩,f⟩:=h
 exact ⟨h3,a,b,fun y hy z=>(c y hy).resolve_left (fun q=>q z),fun y hy z=>(d y hy).resolve_left (fun q=>q z),e,f⟩
def Z5h (t u:TS):TS:=fun D σ H=>∃ M:St→Hp→Prop,t { D with nx:=M } σ H∧∀ σ' H',M σ' H'→u D σ' H'
theorem Zi2 {X:Cx}{st:Stmt}{Zbb:List Stmt}{t u:TS} (h1:PS X st t) (h2:PSs X Zbb u):PSs X (st :: Zbb) (Z5h t u):=by
 intro pins s σ H D I h
 obtain ⟨M,h,hM⟩:=h
 refine wpAny_execs_cons (thn (h1 pins s σ H { D with nx:=M } I h) fun f s1 q=>?_)
 cases f with
 | next =>
  obtain ⟨σ',H',I',q⟩:=q
  exact h2 pins s1 σ' H' D I' (hM _ _ q)
 | ret v=>exact q
 | brk=>exact q
 | cont=>exact q
structure Def (K:W.Frag) (mg:Str→Option Value) (x:Str) (st:Stmt) (ps:List Str) (f:Addr) (fd:FuncData):Prop where
 fn:Fun K x x st f fd
 b:Zc9 K fd ps []
 m:mg x=some (.ref f)
theorem Zaf {X:Cx}{k:Nat}{f:Addr}{fd:FuncData}{ps:List Str}{sp:Sp}{x:Str}{st:Stmt}{p pos:Pos}{e:Expr}{es:List Expr}{t:TA}(d:Def X.K X.mg x st ps f fd) (F:Zaq X.prog X.w X.K X.mg X.base CX0 k f fd ps sp) (hr:Zb6 k X.A)
  (ha:PA X (e :: es) t) (hg:Gl X x:=by rfl) (hdb:(x == ("__debug__":Str))=false:=by decide) (he:starEach (e :: es) X.env=(false,eval e X.env):: starEach es X.env:=by rfl) (hpl:(backTo pos (starEach es X.env)).any (·.1)=false:=by rfl):
  PE X (.Call (.Name x p) (e :: es) [] pos) (Zvb sp [] E0 t):=Zdi F hr hg d.m d.fn.kp d.b .nil Zhh ha hdb he hpl
theorem sL {n:Nat}(h:n≤100000):n≤sizeLine:=by rw [sizeLine_eq];omega
end L2
namespace L2
open PySem PySem.Spec PyProof.Rows PySem.W
mutual
inductive Rep (K:W.Frag) (H:Hp):V→Dat→Prop
 | none:Rep K H .non .none
 | bool (b:Bool):Rep K H (.bl b) (.bool b)
 | int (i:Int):Rep K H (.int i) (.int i)
 | str (x:Str):Rep K H (.str x) (.str x)
 | tuple {a:Addr} {xs:List V} {ds:List Dat}:SqT K H a xs→Reps K H xs ds→Rep K H (.ref a) (.tuple ds)
 | list {a:Addr} {xs:List V} {ds:List Dat}:SqL K H a xs→Reps K H xs ds→Rep K H (.ref a) (.list ds)
inductive Reps (K:W.Frag) (H:Hp):List V→List Dat→Prop
 | nil:Reps K H [] []
 | cons {v:V} {vs:List V} {d:Dat} {ds:List Dat}:Rep K H v d→Reps K H vs ds→Reps K H (v :: vs) (d :: ds)
end
theorem Zag.tup {K:W.Frag}{H H':Hp}{a:Addr}{xs:List V}(e:Zag H H') (h:SqT K H a xs):SqT K H' a xs:=by
 rcases h with (h | ⟨o,h⟩) | h
 ·exact .inl (.inl (e _ _ h))
 ·exact .inl (.inr ⟨o,e _ _ h⟩)
 ·exact .inr h
mutual
theorem Rep.mono {K:W.Frag}{H H':Hp}(e:Zag H H'):∀ {v:V}{d:Dat},Rep K H v d→Rep K H' v d
 | _,_,.none=>.none
 | _,_,.bool b=>.bool b
 | _,_,.int i=>.int i
 | _,_,.str x=>.str x
 | _,_,.tuple h r=>.tuple (e.tup h) (Reps.mono e r)
 | _,_,.list h r=>.list (e.seq h) (Reps.mono e r)
theorem Reps.mono {K:W.Frag}{H H':Hp}(e:Zag H H'):∀ {vs:List V}{ds:List Dat},Reps K H vs ds→Reps K H' vs ds
 | _,_,.nil=>.nil
 | _,_,.cons h r=>.cons (Rep.mono e h) (Reps.mono e r)
end
section
variable {X:Cx} {pins:List (Addr×Obj)} {σ:St} {H:Hp} {s:Shared}
mutual
theorem Rep.reads (I:Inv X pins σ H s):∀ {v:V}{d:Dat}{u:Value},Rep X.K H v d→Zb7 v u→∃ as,Reads s.heap u (kqdP d) as
 | _,_,_,.none,r=>by cases (show _=Value.none from r);rw [kqdP];exact ⟨_,Reads.none⟩
 | _,_,_,.bool b,r=>by cases (show _=Value.bool b from r);rw [kqdP];exact ⟨_,Reads.bool b⟩
 | _,_,_,.int i,r=>by obtain ⟨t,e⟩:=(show ∃ t,_=Value.int i t from r);cases e;rw [kqdP];exact ⟨_,Reads.int i t⟩
 | _,_,_,.str x,r=>by obtain ⟨t,e⟩:=(show ∃ t,_=Value.str x t from r);cases e;rw [kqdP];exact ⟨_,Reads.str x t⟩
 | _,_,_,.tuple (a:=a) h q,r=>by
  cases (show _=Value.ref a from r)
  obtain ⟨its,rv,⟨o,e,c,n,d⟩,_⟩:=I.tuple h
  obtain ⟨as,p⟩:=Reps.reads I q rv
  rw [kqdP]
  exact ⟨as,reads_tuple_at e c d (by simpa using p)⟩
 | _,_,_,.list (a:=a) h q,r=>by
  cases (show _=Value.ref a from r)
  obtain ⟨its,rv,⟨o,n,e,c,_,d⟩,_⟩:=I.list h
  obtain ⟨as,p⟩:=Reps.reads I q rv
  rw [kqdP]
  exact ⟨_,reads_list_at e c d (by simpa using p)⟩
theorem Reps.reads (I:Inv X pins σ H s):∀ {vs:List V}{ds:List Dat}{us:List Value},Reps X.K H vs ds→Zbr vs us→∃ as,ReadsAll s.heap us (kqdPs ds) as
 | _,_,_,.nil,r=>by cases r;rw [kqdPs];exact ⟨_,ReadsAll.nil⟩
 | _,_,_,.cons h q,r=>by
  cases r with
  | cons r1 r2 =>
   obtain ⟨as,p⟩:=Rep.reads I h r1
   obtain ⟨bs,t⟩:=Reps.reads I q r2
   rw [kqdPs]
   exact ⟨_,ReadsAll.cons p t⟩
end
end
noncomputable def dEq (d e:Dat):Bool:=@decide (d=e) (Classical.propDecidable _)
theorem Zim (d:Dat):dEq d d=true:=by unfold dEq;exact @decide_eq_true _ (Classical.propDecidable _) rfl
theorem Zzn {d e:Dat}(h:d=e):dEq d e=true:=by rw [h];exact Zim e
theorem Zl0 {d e:Dat}(h:d≠e):dEq d e=false:=by unfold dEq;exact @decide_eq_false _ (Classical.propDecidable _) h
theorem Zox {d e:Dat}{n k:Nat} (h1:kqdOk n d=true) (h2:kqdOk k e=true):PyData.eqv (kqdP d) (kqdP e)=dEq d e:=by
 have q:=kqd_eqv n d e k h1 h2
 by_cases h:d=e
 ·rw [Zzn h];exact q.mpr h
 ·rw [Zl0 h];exact Bool.eq_false_iff.mpr fun x=>h (q.mp x)
theorem Zc2 {d:Dat}(h:kqdOk 9 d=true):SeqAt.shaped (kqdP d)=true:=by
 have l:=kqd_lay 9 d h
 unfold SeqAt.shaped
 rw [l.1,Bool.true_and]
 exact decide_eq_true (Nat.le_trans l.2 (by decide))
section
variable {X:Cx}
noncomputable def Z4k (K:W.Frag) (f:Bool→Bool):R2:=fun x y H Q=>∃ d e,Rep K H x d∧Rep K H y e∧kqdOk 9 d=true∧kqdOk 9 e=true∧Q (.bl (f (dEq d e))) H
theorem Z0t (hu:X.A.units + 64<cLine):OpR X (compareOp .NotEq) (Z4k X.K Bool.not):=by
 intro pins s σ H x y v u Q I rx ry h
 obtain ⟨d,e,h1,h2,k1,k2,q⟩:=h
 obtain ⟨as,ra⟩:=h1.reads I rx
 obtain ⟨bs,rb⟩:=h2.reads I ry
 exact ne_dataH ra rb (Zc2 k1) (Zc2 k2) hu (Zbf I q (by rw [Zox k1 k2]))
end
end L2
namespace L2
open PySem PySem.Spec PyProof.Rows
section
variable {X:Cx} {pins:List (Addr×Obj)} {σ:St} {H H':Hp} {s:Shared} {a:Addr} {kvs:List (Key×V)} {o:Obj}
theorem Inv.reH (I:Inv X pins σ H s) (base:Un X.fs X.ex X.H₀ H' X.s₀.heap s.heap) (hn:∀ b,H b=none→H' b=none) (hok:HOk X.prog X.w H' s.heap):Inv X pins σ H' s :=
 ⟨I.ok,I.os,I.bare,base,I.loc,I.cell,hn _ I.free,fun x c e=>hn _ (I.freeC x c e),fun p hp=>by
  obtain ⟨e,n,r⟩:=I.pin p hp
  exact ⟨e,hn _ n,r⟩,hok,I.len⟩
theorem Inv.reAt {u u':HO}(I:Inv X pins σ H s) (h:H a=some u) (nt:∀ xs,u≠.tup xs) (no:∀ y,u≠.own y) (nb:∀ ps,u≠.tbl ps) (nf:∀ o v,X.H₀ a≠some (.frz o v))
  (ok:Zbq X.prog X.w H s.heap a u→Zbq X.prog X.w (upd H a u') s.heap a u'):Inv X pins σ (upd H a u') s:=by
 have hn:∀ b,H b=none→upd H a u' b=none:=fun b e=>by
  rw [Zac]
  ·exact e
  ·rintro rfl;rw [h] at e;cases e
 refine I.reH ⟨I.base.keep,I.base.slot,fun b ob e n hx=>hn b (I.base.free b ob e n hx),I.base.there,fun b xs e=>?_,fun b ob v e=>?_,fun b ps e=>?_⟩ hn ?_
 ·have q:=I.base.tups b xs e
  rw [Zac]
  ·exact q
  ·rintro rfl;rw [h] at q;exact nt xs (Option.some.inj q)
 ·have q:=I.base.frzs b ob v e
  rw [Zac]
  ·exact q
  ·rintro rfl;exact nf ob v e
 ·obtain ⟨m,q⟩:=I.base.tbls b ps e
  refine ⟨m,?_⟩
  rw [Zac]
  ·exact q
  ·rintro rfl;rw [h] at q;exact nb _ (Option.some.inj q)
 ·intro b v e
  by_cases hb:b=a
  ·subst hb
   rw [uS] at e
   cases e
   exact ok (I.hok b u h)
  ·rw [Zac hb] at e
   refine (I.hok b v e).stay (fun _ _ _ q=>q) (fun c q=>?_) fun c xs q=>?_
   ·rw [Zac]
    ·exact q
    ·rintro rfl;rw [h] at q;exact no _ (Option.some.inj q)
   ·rw [Zac]
    ·exact q
    ·rintro rfl;rw [h] at q;exact nt _ (Option.some.inj q)
theorem Inv.freeze (I:Inv X pins σ H s) (h:H a=some (.dK kvs)) (ho:s.heap.get? a=some o):Inv X pins σ (upd H a (.frz o (.dK kvs))) s∧∀ o' v,X.H₀ a≠some (.frz o' v):=by
 have nf:∀ o' v,X.H₀ a≠some (.frz o' v):=fun o' v e=>by
  have q:=I.base.frzs a o' v e
  rw [h] at q
  cases q
 refine ⟨I.reAt h (fun _ z=>nomatch z) (fun _ z=>nomatch z) (fun _ z=>nomatch z) nf fun k=>⟨ho,k.stay (fun _ _ _ q=>q) (fun c q=>?_) fun c xs q=>?_⟩,nf⟩
 ·rw [Zac]
  ·exact q
  ·rintro rfl;rw [h] at q;cases q
 ·rw [Zac]
  ·exact q
  ·rintro rfl;rw [h] at q;cases q
theorem Zpq {P:Program}{w:World}{k:Key}{u:Value}(h:(Zbc P w).is k u=true):Zb7 (kV k) u:=by
 rcases Zbt (show Zos k u=true from h) with ⟨i,t,rfl,rfl⟩ | ⟨x,t,rfl,rfl⟩
 ·exact ⟨t,rfl⟩
 ·exact ⟨t,rfl⟩
end
def Itk (a:Addr) (o:Obj) (kvs:List (Key×V)):It :=
 ⟨fun i H=>i<kvs.length∧H a=some (.frz o (.dK kvs)),fun i H v H'=>H'=H∧∃ p,kvs[i]?=some p∧v=kV p.1,fun i H=>kvs.length≤i∧H a=some (.frz o (.dK kvs))⟩
def Itv (a:Addr) (o:Obj) (kvs:List (Key×V)):It :=
 ⟨fun i H=>i<kvs.length∧H a=some (.frz o (.dK kvs)),fun i H v H'=>H'=H∧∃ p,kvs[i]?=some p∧v=p.2,fun i H=>kvs.length≤i∧H a=some (.frz o (.dK kvs))⟩
theorem KV.get {κ:Type}:∀ {kvs:List (κ×V)}{vs:List (κ×Value)},KV kvs vs→∀ {i:Nat}{p:κ×V},kvs[i]?=some p→∃ u,vs[i]?=some (p.1,u)∧Zb7 p.2 u
 | _,_,.nil,i,p,h=>by simp at h
 | _,_,.cons r t,0,p,h=>by
  simp at h
  subst h
  exact ⟨_,by simp [r.1],r.2⟩
 | _,_,.cons r t,i + 1,p,h=>by
  obtain ⟨u,h1,h2⟩:=KV.get t (i:=i) (p:=p) (by simpa using h)
  exact ⟨u,by simpa using h1,h2⟩
theorem Zea {P:Program}{w:World}{H:Hp}{h:Heap}{a:Addr}{o:Obj}{kvs:List (Key×V)}{es:Array DictEntry}{ep:Nat}(ok:Zbq P w H h a (.frz o (.dK kvs))) (hd:o.data=.dict es ep):
  (a == sysModules)=false∧∃ vs,KV kvs vs∧h.DictAt (Zbc P w) a vs ep:=by
 obtain ⟨ho,z,hs,vs,r,o',es',ep',h1,h2,h3,h4,h5,h6⟩:=ok
 rw [ho] at h1
 cases h1
 rw [hd] at h3
 cases h3
 exact ⟨hs,vs,r,o,es,ho,h2,hd,h4,h5,h6⟩
theorem Zr7 {P:Program}{w:World}{K:W.Frag}{tg:Expr} (a it:Addr) (o:Obj) (kvs:List (Key×V)) (es:Array DictEntry) (ep:Nat) (hd:o.data=.dict es ep):
  Zrs P w K tg (Itk a o kvs) [it] it (fun i h=>h.IsKeyIter it a i kvs.length ep) where
 mem:=by simp
 obj:=fun i h st b hb=>by
  have e:b=it:=by simpa using hb
  subst e
  obtain ⟨o,e,c,d⟩:=st
  exact ⟨o,e,fun v z=>by rw [d] at z;cases z⟩
 keep:=fun i h h' st k=>by
  obtain ⟨o,ho,r⟩:=st
  exact ⟨o,k it (by simp) o ho,r⟩
 item:=by
  intro X hP hw hK hc i pins s σ H E I hf st hg
  subst hP hw hK
  obtain ⟨f0,f1,f2,f3,f4,f5⟩:=hf it (by simp)
  obtain ⟨hi,ha⟩:=hg
  obtain ⟨_,vs,r,dd⟩:=Zea (I.hok a _ ha) hd
  obtain ⟨p,hp⟩:∃ p,kvs[i]?=some p:=⟨kvs[i],by simp [hi]⟩
  obtain ⟨u,hu,ru⟩:=r.get hp
  have hl:kvs.length=vs.length:=Paired.length r
  rw [hl] at st
  refine wpAny_pyNext_dict_item st dd hu fun key h' hk st' sb=>?_
  have I1:Inv X pins σ H { s with heap:=h' }:=I.turned (t':=s.toks) (fun b o hb e=>(sb.2 b hb).trans e) f0 f1 f3 f4 f5
  obtain ⟨o',e,c,d⟩:=id st'
  rw [← hl] at st'
  exact ⟨key,rfl,Zrk (s:={ s with heap:=h' }) e c d (by decide) ⟨kV p.1,H,I1,Zpq hk,⟨rfl,p,hp,rfl⟩,st',fun b hb=>(hf b hb).1⟩⟩
 done:=by
  intro X hP hw hK hc i pins s σ H E I hf st hg
  subst hP hw hK
  obtain ⟨f0,f1,f2,f3,f4,f5⟩:=hf it (by simp)
  obtain ⟨hi,ha⟩:=hg
  obtain ⟨_,vs,r,dd⟩:=Zea (I.hok a _ ha) hd
  have hl:kvs.length=vs.length:=Paired.length r
  rw [hl] at st
  exact wpAny_pyNext_dict_end (I.ok.hd hc) st dd (by simp;omega) fun h' eb=>⟨rfl,I.turned (t':=s.toks) (fun b o hb e=>eb b o hb e) f0 f1 f3 f4 f5⟩
 self:=fun _ _ _ _ _ st h=>wpAny_pyIter_keyiter st h
theorem Zr6 {P:Program}{w:World}{K:W.Frag}{tg:Expr} (a it:Addr) (o:Obj) (kvs:List (Key×V)) (es:Array DictEntry) (ep:Nat) (hd:o.data=.dict es ep):
  Zrs P w K tg (Itv a o kvs) [it] it (fun i h=>h.IsValIter it a i kvs.length ep) where
 mem:=by simp
 obj:=fun i h st b hb=>by
  have e:b=it:=by simpa using hb
  subst e
  obtain ⟨o,e,c,d⟩:=st
  exact ⟨o,e,fun v z=>by rw [d] at z;cases z⟩
 keep:=fun i h h' st k=>by
  obtain ⟨o,ho,r⟩:=st
  exact ⟨o,k it (by simp) o ho,r⟩
 item:=by
  intro X hP hw hK hc i pins s σ H E I hf st hg
  subst hP hw hK
  obtain ⟨f0,f1,f2,f3,f4,f5⟩:=hf it (by simp)
  obtain ⟨hi,ha⟩:=hg
  obtain ⟨_,vs,r,dd⟩:=Zea (I.hok a _ ha) hd
  obtain ⟨p,hp⟩:∃ p,kvs[i]?=some p:=⟨kvs[i],by simp [hi]⟩
  obtain ⟨u,hu,ru⟩:=r.get hp
  have hl:kvs.length=vs.length:=Paired.length r
  rw [hl] at st
  refine wpAny_pyNext_values_item st dd hu fun h' st' sb=>?_
  have I1:Inv X pins σ H { s with heap:=h' }:=I.turned (t':=s.toks) (fun b o hb e=>(sb.2 b hb).trans e) f0 f1 f3 f4 f5
  obtain ⟨o',e,c,d⟩:=id st'
  rw [← hl] at st'
  exact ⟨u,rfl,Zrk (s:={ s with heap:=h' }) e c d (by decide) ⟨p.2,H,I1,ru,⟨rfl,p,hp,rfl⟩,st',fun b hb=>(hf b hb).1⟩⟩
 done:=by
  intro X hP hw hK hc i pins s σ H E I hf st hg
  subst hP hw hK
  obtain ⟨f0,f1,f2,f3,f4,f5⟩:=hf it (by simp)
  obtain ⟨hi,ha⟩:=hg
  obtain ⟨_,vs,r,dd⟩:=Zea (I.hok a _ ha) hd
  have hl:kvs.length=vs.length:=Paired.length r
  rw [hl] at st
  exact wpAny_pyNext_values_end (I.ok.hd hc) st dd (by simp;omega) fun h' eb=>⟨rfl,I.turned (t':=s.toks) (fun b o hb e=>eb b o hb e) f0 f1 f3 f4 f5⟩
 self:=fun _ _ _ _ _ st h=>wpAny_pyIter_valiter st h
def Z5d (t:TS):TS:=fun D σ H=>∃ a kvs,H a=some (.dK kvs)∧∀ o,t D σ (upd H a (.frz o (.dK kvs)))
theorem Zlf {X:Cx}{sts:List Stmt}{t:TS}(h:PSs X sts t):PSs X sts (Z5d t):=by
 intro pins s σ H D I q
 obtain ⟨a,kvs,ha,q⟩:=q
 obtain ⟨o,ho⟩:∃ o,s.heap.get? a=some o:=by
  obtain ⟨_,_,vs,_,o,_,_,e,_⟩:=I.hok a _ ha
  exact ⟨o,e⟩
 exact h pins s σ _ D (I.freeze ha ho).1 (q o)
theorem Zlw {P:Program}{w:World}{H:Hp}{h:Heap}{a:Addr}{o:Obj}{kvs:List (Key×V)}(ok:Zbq P w H h a (.frz o (.dK kvs))):∃ es ep,o.data=.dict es ep:=by
 obtain ⟨ho,z,hs,vs,r,o',es',ep',h1,h2,h3,_⟩:=ok
 rw [ho] at h1
 cases h1
 exact ⟨es',ep',h3⟩
theorem Zsv {a:Addr}{o:Obj}{kvs:List (Key×V)}:Zrv (Itk a o kvs) (kvs.map fun p=>kV p.1) (fun H=>H a=some (.frz o (.dK kvs))) where
 go:=fun i x H ok hx=>by
  have:=(List.getElem?_eq_some_iff.mp hx).1
  rw [List.length_map] at this
  exact ⟨this,ok⟩
 yld:=fun i x H y H' ok hx h=>by
  obtain ⟨e,p,hp,hy⟩:=h
  rw [List.getElem?_map,hp] at hx
  exact ⟨hy.trans (Option.some.inj hx),e⟩
 stop:=fun H ok=>⟨by rw [List.length_map];exact Nat.le_refl _,ok⟩
theorem Zmt {a:Addr}{o:Obj}{kvs:List (Key×V)}:Zrv (Itv a o kvs) (kvs.map fun p=>p.2) (fun H=>H a=some (.frz o (.dK kvs))) where
 go:=fun i x H ok hx=>by
  have:=(List.getElem?_eq_some_iff.mp hx).1
  rw [List.length_map] at this
  exact ⟨this,ok⟩
 yld:=fun i x H y H' ok hx h=>by
  obtain ⟨e,p,hp,hy⟩:=h
  rw [List.getElem?_map,hp] at hx
  exact ⟨hy.trans (Option.some.inj hx),e⟩
 stop:=fun H ok=>⟨by rw [List.length_map];exact Nat.le_refl _,ok⟩
section
variable {X:Cx} {tg:Expr}
def Z29 (tl:TE):TI:=fun σ H R=>tl σ H fun x H1=>∃ a o kvs,x=.ref a∧H1 a=some (.frz o (.dK kvs))∧R (Itk a o kvs) H1
theorem Zyj {l:Expr}{tl:TE}(hl:PE X l tl):PI X tg l (Z29 tl):=by
 intro pins s σ H R I h
 refine thn (hl pins s σ H _ I h) fun v s1 ⟨x,H1,I1,r1,q1⟩=>?_
 obtain ⟨a,o,kvs,e,ha,q⟩:=q1
 subst e
 cases r1
 obtain ⟨es,ep,hd⟩:=Zlw (I1.hok a _ ha)
 obtain ⟨hs,vs,r,dd⟩:=Zea (I1.hok a _ ha) hd
 have hl:kvs.length=vs.length:=Paired.length r
 refine wpAny_pyIter_dict hs dd ?_
 refine ⟨s1.heap.objs.size,[s1.heap.objs.size],_,_,H1,rfl,I1.kept (t':=s1.toks) fun b o e=>Heap.get?_push_of_some _ e,Zr7 a _ o kvs es ep hd,⟨_,Heap.get?_push_size _ rfl,rfl,by rw [hl];rfl⟩,fun b hb=>?_,q⟩
 have e:b=s1.heap.objs.size:=by simpa using hb
 subst e
 exact I1.fpOk (Nat.le_refl _) (I1.hok.fresh (Nat.le_refl _))
end
end L2
namespace L2
open PySem PySem.Spec PyProof.Rows
theorem Zn8:∀ {xs:List V}{us:List Value},xs.length=us.length→(∀ (i:Nat) (v:V) (u:Value),xs[i]?=some v→us[i]?=some u→Zb7 v u)→Zbr xs us
 | [],[],_,_=>.nil
 | [],_ :: _,h,_=>by simp at h
 | _ :: _,[],h,_=>by simp at h
 | x :: xs,u :: us,h,k=>.cons (k 0 x u rfl rfl) (Zn8 (by simpa using h) fun i v w hv hw=>k (i + 1) v w (by simpa using hv) (by simpa using hw))
theorem Zfk {J:It}{xs:List V}{Ok:Hp→Prop}(R:Zrv J xs Ok) {js:List Nat}{tt:TT}{te:TE}{σ:St}{Q:VK}{H1:Hp}(hz:xs.length≤sizeLine) (p:V→Bool) (F:Addr→V→V→Hp→Prop)
  (hF:∀ D x v H H',(∀ b o,b≠D→H b=some o→H' b=some o)→F D x v H→F D x v H')
  (hok:∀ H,Zag H1 H→Ok H)
  (ht:∀ x H (R:Bool→Hp→Prop),Zag H1 H→x∈xs→(∀ H',Zag H H'→R (p x) H')→tt (some x :: js.map fun j=>(σ[j]?).join) H R)
  (he:∀ D x H (R:V→Hp→Prop),Zag H1 H→(∃ ys,H D=some (.lst ys))→H1 D=none→x∈xs→p x=true→(∀ v H',Zag H H'→F D x v H'→R v H')→te (some x :: js.map fun j=>(σ[j]?).join) H R)
  (hd:∀ D H' ys,H1 D=none→Zag H1 H'→H' D=some (.lst ys)→Paired (fun x v=>F D x v H') (xs.filter p) ys→Q (.ref D) H'):
  compBody 1 js (Zh0 0) tt te σ Q J H1:=by
 refine Zjp R hz (fun D i ys σ' H=>H1 D=none∧Zag H1 H∧H D=some (.lst ys)∧Paired (fun x v=>F D x v H) ((xs.take i).filter p) ys∧∃ o,σ'=o :: js.map fun j=>(σ[j]?).join) ?_ ?_ ?_ ?_
 ·intro D hD
  exact ⟨hD,fun b o e=>by rw [Zac (nNo e hD)];exact e,uS,by simpa using Paired.nil,none,rfl⟩
 ·rintro D i ys σ' H hi ⟨hD,hs,hl,hp,_⟩
  refine ⟨hok H hs,?_⟩
  rw [← hp.length]
  exact Nat.le_trans (List.length_filter_le _ _) (by rw [List.length_take];omega)
 ·rintro D i x ys σ' H hD hx ⟨_,hs,hl,hp,o,rfl⟩
  show tt (some x :: js.map fun j=>(σ[j]?).join) H _
  have hm:x∈xs:=List.mem_of_getElem? hx
  refine ht x H _ hs hm fun H4 s4=>?_
  have hs4:Zag H1 H4:=hs.trans s4
  have mono:∀ {H H':Hp},(∀ b o,b≠D→H b=some o→H' b=some o)→Paired (fun x v=>F D x v H) ((xs.take i).filter p) ys→Paired (fun x v=>F D x v H') ((xs.take i).filter p) ys:=fun h q=>Paired.mapP q fun a b z=>hF D a b _ _ h z
  cases hpx:p x with
  | true =>
   rw [if_pos rfl]
   refine he D x H4 _ hs4 ⟨_,s4 _ _ hl⟩ hD hm hpx fun v H5 s5 f5=>⟨s5 _ _ (s4 _ _ hl),hD,fun b o e=>?_,uS,?_,_,rfl⟩
   ·rw [Zac (nNo e hD)]
    exact s5 _ _ (hs4 _ _ e)
   ·rw [take_succ_filter p xs i x hx,hpx,if_pos rfl]
    refine Paired.snoc (mono (fun b o hb e=>by rw [Zac hb];exact s5 _ _ (s4 _ _ e)) hp) (hF D _ _ _ _ (fun b o hb e=>by rw [Zac hb];exact e) f5)
  | false =>
   rw [if_neg Bool.false_ne_true]
   refine ⟨hD,hs4,s4 _ _ hl,?_,_,rfl⟩
   rw [take_succ_filter p xs i x hx,hpx,if_neg Bool.false_ne_true,List.append_nil]
   exact mono (fun b o _ e=>s4 _ _ e) hp
 ·rintro D ys σ' H hD ⟨_,hs,hl,hp,_⟩
  rw [List.take_length] at hp
  exact hd D H ys hD hs hl hp
section
variable {X:Cx}
end
end L2
namespace Graph
variable {α:Type} [DecidableEq α]
inductive Reach (ups:α→List α):α→α→Prop
 | refl (a:α):Reach ups a a
 | step {a b c:α}:b∈ups a→Reach ups b c→Reach ups a c
theorem Reach.trans {ups:α→List α}{a b c:α}(h:Reach ups a b) (k:Reach ups b c):Reach ups a c:=by
 induction h with
 | refl=>exact k
 | step m _ ih=>exact .step m (ih k)
theorem Reach.one {ups:α→List α}{a b:α}(h:b∈ups a):Reach ups a b:=.step h (.refl b)
theorem Reach.snoc {ups:α→List α}{a b c:α}(h:Reach ups a b) (k:c∈ups b):Reach ups a c:=h.trans (.one k)
theorem Reach.rank {ups:α→List α}{rk:α→Nat}(hr:∀ a b,b∈ups a→rk b<rk a) {a b:α}(h:Reach ups a b):rk b≤rk a:=by
 induction h with
 | refl=>exact Nat.le_refl _
 | step m _ ih=>have:=hr _ _ m;omega
theorem Reach.rank_lt {ups:α→List α}{rk:α→Nat}(hr:∀ a b,b∈ups a→rk b<rk a) {a b:α}(h:Reach ups a b) (hne:a≠b):rk b<rk a:=by
 cases h with
 | refl=>exact absurd rfl hne
 | step m k =>
  have h1:=hr _ _ m
  have h2:=Reach.rank hr k
  omega
def kept (ups:α→List α) (left:List α):List α:=left.filter fun w=>(ups w).any fun u=>decide (u∈left)
theorem kept_sub {ups:α→List α}{left:List α}{w:α}(h:w∈kept ups left):w∈left:=(List.mem_filter.mp h).1
theorem kept_le (ups:α→List α) (left:List α):(kept ups left).length≤left.length:=List.length_filter_le _ _
theorem filter_all {p:α→Bool}:∀ {l:List α},(l.filter p).length=l.length→l.filter p=l
 | [],_=>rfl
 | a :: r,h=>by
  have hle:=List.length_filter_le p r
  rw [List.filter_cons] at h ⊢
  cases hp:p a with
  | true =>
   rw [hp,if_pos rfl,List.length_cons,List.length_cons] at h
   rw [if_pos rfl,filter_all (by omega)]
  | false =>
   rw [hp,if_neg Bool.false_ne_true,List.length_cons] at h
   omega
theorem Zp6 (rk:α→Nat):∀ (l:List α),l≠[]→∃ m,m∈l∧∀ x∈l,rk m≤rk x
 | [],h=>absurd rfl h
 | a :: r,_=>by
  by_cases hr:r=[]
  ·subst hr
   exact ⟨a,by simp,fun x hx=>by simp at hx;subst hx;exact Nat.le_refl _⟩
  ·obtain ⟨m,hm,hx⟩:=Zp6 rk r hr
   by_cases hc:rk a≤rk m
   ·refine ⟨a,by simp,fun x hx'=>?_⟩
    rcases List.mem_cons.mp hx' with e | e
    ·subst e;exact Nat.le_refl _
    ·exact Nat.le_trans hc (hx x e)
   ·refine ⟨m,List.mem_cons_of_mem _ hm,fun x hx'=>?_⟩
    rcases List.mem_cons.mp hx' with e | e
    ·subst e;omega
    ·exact hx x e
theorem kept_nil {ups:α→List α}{left:List α}{rk:α→Nat}(hr:∀ a∈left,∀ b∈ups a,rk b<rk a) (h:(kept ups left).length=left.length):left=[]:=by
 refine Classical.byContradiction fun hne=>?_
 obtain ⟨m,hm,hx⟩:=Zp6 rk left hne
 have e:kept ups left=left:=filter_all h
 rw [← e] at hm
 obtain ⟨h1,h2⟩:=List.mem_filter.mp hm
 obtain ⟨u,hu,hd⟩:=List.any_eq_true.mp h2
 have hl:u∈left:=of_decide_eq_true hd
 have a:=hr m h1 u hu
 have b:=hx u hl
 omega
theorem nodup_le:∀ {l k:List α},l.Nodup→(∀ x∈l,x∈k)→l.length≤k.length
 | [],k,_,_=>Nat.zero_le _
 | a :: r,k,hn,hs=>by
  obtain ⟨h1,h2⟩:=List.nodup_cons.mp hn
  have ha:a∈k:=hs a (by simp)
  have:=nodup_le (k:=k.erase a) h2 fun x hx=>(List.mem_erase_of_ne (fun (e:x=a)=>h1 (by rw [← e];exact hx))).mpr (hs x (List.mem_cons_of_mem _ hx))
  rw [List.length_erase_of_mem ha] at this
  have hpos:0<k.length:=List.length_pos_of_mem ha
  rw [List.length_cons]
  omega
theorem closed_reach {ups:α→List α}{S:α→Prop}(hc:∀ x,S x→∀ y∈ups x,S y) {a b:α}(h:Reach ups a b) (ha:S a):S b:=by
 induction h with
 | refl=>exact ha
 | step m _ ih=>exact ih (hc _ ha _ m)
end Graph
namespace Md
open PySem L2
abbrev letters:Str:="abcdefghijklmnopqrstuvwxyz"
def Zji (c:Nat):Bool:=decide (97≤c∧c≤122)
def Za2 (x:Str):Bool:=decide (1≤x.length∧x.length≤8)&&x.cps.toList.all Zji
theorem Zgj:letters.cps.toList=[97,98,99,100,101,102,103,104,105,106,107,108,109,110,111,112,113,114,115,116,117,118,119,120,121,122]:=by decide +kernel
theorem Zrf {i:Nat}(h:i<26):letters.cps.toList[i]?=some (97 + i):=by
 rw [Zgj]
 have:∀ i:_root_.Fin 26,([97,98,99,100,101,102,103,104,105,106,107,108,109,110,111,112,113,114,115,116,117,118,119,120,121,122]:List Nat)[i.1]?=some (97 + i.1):=by decide
 exact this ⟨i,h⟩
theorem Zor:letters.cps.toList=(List.range 26).map (97 + ·):=by rw [Zgj];rfl
theorem Z1e (c:Nat):(!(Builtin.Str.occurrences letters ⟨#[c]⟩ 0 letters.length 1).isEmpty)=Zji c:=by
 rw [StrLaws.found_one,Zor]
 unfold Zji
 rw [decide_eq_decide,List.mem_map]
 constructor
 ·rintro ⟨a,ha,rfl⟩
  have:=List.mem_range.mp ha
  omega
 ·intro h
  exact ⟨c - 97,List.mem_range.mpr (by omega),by omega⟩
theorem Zfb (x:Str):x.cps.toList.length=x.length:=by simp [Str.length]
theorem Ztu (c:Nat):(⟨#[c]⟩:Str).length=1:=rfl
theorem Zwz (x y:Str):(x++y).cps.toList=x.cps.toList++y.cps.toList:=by
 show (x.cps++y.cps).toList=_
 rw [Array.toList_append]
theorem Zse {x y:Str}(h:x.cps.toList=y.cps.toList):x=y:=by
 cases x;cases y
 congr 1
 exact Array.ext' h
def Zt7:V→V
 | .str y=>.bl (!(Builtin.Str.occurrences letters y 0 letters.length 1).isEmpty)
 | _=>.non
theorem Zmr (x:Str):((Zfp x).filter fun _=>true).map Zt7=(x.cps.toList.map Zji).map V.bl:=by
 rw [List.filter_eq_self.mpr fun _ _=>rfl]
 unfold Zfp
 rw [List.map_map,List.map_map]
 refine List.map_congr_left fun c _=>?_
 show V.bl _=V.bl _
 rw [Z1e]
theorem Zhy (x:Str):Za2 x=true↔(1≤x.cps.toList.length∧x.cps.toList.length≤8)∧∀ c∈x.cps.toList,Zji c=true:=by
 unfold Za2
 rw [Bool.and_eq_true,decide_eq_true_eq,List.all_eq_true,Zfb]
theorem Zu5 {x:Str}(h:Za2 x=true):1≤x.length∧x.length≤8:=by
 have:=((Zhy x).mp h).1
 rwa [Zfb] at this
theorem Zip {x:Str}(h:Za2 x=true):PyData.strOk x=true:=by
 unfold PyData.strOk
 rw [Array.all_eq_true']
 intro c hc
 have:=((Zhy x).mp h).2 c (by simpa using hc)
 have:=of_decide_eq_true this
 exact decide_eq_true (by omega)
def Zbj (n:Nat):List Nat:=(97 + n % 26):: (if h:n / 26=0 then [] else Zbj (n / 26))
termination_by n
decreasing_by omega
theorem Zcx (n:Nat):Zbj n=(97 + n % 26):: (if n / 26=0 then [] else Zbj (n / 26)):=by
 rw [Zbj]
 by_cases h:n / 26=0
 ·rw [dif_pos h,if_pos h]
 ·rw [dif_neg h,if_neg h]
theorem Zfy:∀ (k n:Nat),n<26 ^ (k + 1)→(Zbj n).length≤k + 1
 | 0,n,h=>by
  rw [Zcx,if_pos (by have:n<26:=h;omega)]
  exact Nat.le_refl _
 | k + 1,n,h=>by
  rw [Zcx]
  by_cases h0:n / 26=0
  ·rw [if_pos h0];simp
  ·rw [if_neg h0,List.length_cons]
   have:=Zfy k (n / 26) (Nat.div_lt_of_lt_mul (by rw [Nat.pow_succ] at h;omega))
   omega
theorem Znj (n:Nat):∀ c∈Zbj n,Zji c=true:=by
 induction n using Nat.strongRecOn with
 | ind n ih =>
  rw [Zcx]
  intro c hc
  rcases List.mem_cons.mp hc with e | hc
  ·rw [e]
   exact decide_eq_true (by omega)
  ·by_cases h0:n / 26=0
   ·rw [if_pos h0] at hc;cases hc
   ·rw [if_neg h0] at hc
    exact ih (n / 26) (by omega) c hc
def Zz2:List Nat→Nat
 | []=>0
 | c :: r=>(c - 97) + 26 * Zz2 r
theorem Znh (n:Nat):Zz2 (Zbj n)=n:=by
 induction n using Nat.strongRecOn with
 | ind n ih =>
  rw [Zcx]
  unfold Zz2
  by_cases h0:n / 26=0
  ·rw [if_pos h0]
   unfold Zz2
   omega
  ·rw [if_neg h0,ih (n / 26) (by omega)]
   omega
def Zbp (n:Nat):Str:=⟨(Zbj n).toArray⟩
theorem Zd9 (n:Nat):(Zbp n).cps.toList=Zbj n:=by simp [Zbp]
theorem Zng {a b:Nat}(h:Zbp a=Zbp b):a=b:=by
 have:=congrArg (fun s:Str=>Zz2 s.cps.toList) h
 simpa [Zd9,Znh] using this
theorem Zni (n:Nat):1≤(Zbj n).length:=by rw [Zcx];simp
theorem Zls {n:Nat}(h:n<26 ^ 8):Za2 (Zbp n)=true:=by
 rw [Zhy,Zd9]
 exact ⟨⟨Zni n,Zfy 7 n h⟩,Znj n⟩
def Zn4 (o:HO):Prop:=∃ r b:Int,o=.lst [.int r,.int b]∧0≤r∧r<10 ^ 256∧0≤b∧b<2147483647
structure Drawn (p:Addr) (H H':Hp):Prop where
 keep:∀ b o,b≠p→H b=some o→H' b=some o
 pot:∃ o,H' p=some o∧Zn4 o
theorem Drawn.refl {p:Addr}{H:Hp}(h:∃ o,H p=some o∧Zn4 o):Drawn p H H:=⟨fun _ _ _ e=>e,h⟩
theorem Drawn.trans {p:Addr}{H H1 H2:Hp}(a:Drawn p H H1) (b:Drawn p H1 H2):Drawn p H H2:=⟨fun c o hc e=>b.keep c o hc (a.keep c o hc e),b.pot⟩
theorem Drawn.upd {p:Addr}{H:Hp}{o:HO}(h:Zn4 o):Drawn p H (L2.upd H p o):=⟨fun b u hb e=>by rw [Zac hb];exact e,_,uS,h⟩
theorem Drawn.new {p q:Addr}{H H':Hp}{o:HO}(d:Drawn p H H') (hq:H' q=none):Drawn p H (L2.upd H' q o):=
 ⟨fun b u hb e=>by rw [Zac (nNo (d.keep b u hb e) hq)];exact d.keep b u hb e,by
  obtain ⟨u,h1,h2⟩:=d.pot
  exact ⟨u,by rw [Zac (nNo h1 hq)];exact h1,h2⟩⟩
theorem Drawn.same {p:Addr}{H H1 H2:Hp}(d:Drawn p H H1) (s:Zag H1 H2):Drawn p H H2 :=
 ⟨fun b u hb e=>s _ _ (d.keep b u hb e),by obtain ⟨u,h1,h2⟩:=d.pot;exact ⟨u,s _ _ h1,h2⟩⟩
theorem Drawn.sub {p q:Addr}{H H1 H2:Hp}{o':HO}(d:Drawn p H H1) (k:∀ b o,b≠q→H1 b=some o→H2 b=some o) (hq:H q=none) (hp:p≠q):Drawn p H H2 :=
 ⟨fun b u hb e=>k _ _ (nNo e hq) (d.keep b u hb e),by obtain ⟨u,h1,h2⟩:=d.pot;exact ⟨u,k _ _ hp h1,h2⟩⟩
theorem Za7 {n:Nat}(h:n≤100000):n<sizeLine:=by rw [sizeLine_eq];omega
theorem Zdj (x:Str):∀ ws:List Str,inV (.str x) (ws.map V.str)=decide (x∈ws)
 | []=>rfl
 | w :: r=>by
  have ih:=Zdj x r
  unfold inV at ih ⊢
  rw [List.map_cons,List.any_cons,ih]
  show ((w == x) || decide (x∈r))=decide (x∈w :: r)
  rw [Bool.eq_iff_iff]
  simp only [Bool.or_eq_true,beq_iff_eq,decide_eq_true_eq,List.mem_cons]
  constructor
  ·rintro (h | h)
   ·exact .inl h.symm
   ·exact .inr h
  ·rintro (h | h)
   ·exact .inl h.symm
   ·exact .inr h
theorem Zcg (ws:List Str):(ws.map V.str).all Zly=true:=by
 rw [List.all_eq_true]
 intro v hv
 obtain ⟨w,_,e⟩:=List.mem_map.mp hv
 rw [← e]
 rfl
theorem Zhb {K:W.Frag}{H:Hp}:∀ ws:List Str,Reps K H (ws.map V.str) (ws.map W.Dat.str)
 | []=>.nil
 | w :: r=>.cons (.str w) (Zhb r)
end Md
namespace Md
open PySem L2
def Zrt (H:Hp) (r:Str×List Str) (v:V):Prop:=∃ t u,v=.ref t∧H t=some (.tup [.str r.1,.ref u])∧H u=some (.tup (r.2.map V.str))
def Zdw (H:Hp) (l:Addr) (rows:List (Str×List Str)):Prop:=∃ vs,H l=some (.lst vs)∧Paired (Zrt H) rows vs
structure Zb0 (rows:List (Str×List Str)):Prop where
 ne:1≤rows.length
 le:rows.length≤24
 word:∀ r∈rows,Za2 r.1=true
 nd:(rows.map (·.1)).Nodup
 few:∀ r∈rows,r.2.length≤8
 known:∀ r∈rows,∀ u∈r.2,u∈rows.map (·.1)
 upnd:∀ r∈rows,r.2.Nodup
 rank:∃ rk:Str→Nat,∀ r∈rows,∀ u∈r.2,rk u<rk r.1
end Md
namespace L2
open PySem PySem.Spec PyProof.Rows
section
variable {X:Cx} {tg:Expr}
def SqB (K:W.Frag) (b:Bool) (H:Hp) (a:Addr) (xs:List V):Prop:=if b=true then SqL K H a xs else SqT K H a xs
theorem SqB.mono {K:W.Frag}{b:Bool}{H H':Hp}{a:Addr}{xs:List V}(h:SqB K b H a xs) (s:Zag H H'):SqB K b H' a xs:=by
 cases b with
 | true=>exact s.seq (show SqL K H a xs from h)
 | false=>exact s.tup (show SqT K H a xs from h)
def Itq (K:W.Frag) (b:Bool) (a:Addr) (xs:List V):It:=⟨fun i H=>i<xs.length∧SqB K b H a xs,fun i H x H'=>H'=H∧xs[i]?=some x,fun i H=>xs.length≤i∧SqB K b H a xs⟩
theorem Zij {K:W.Frag}{b:Bool}{a:Addr}{xs:List V}:Zrv (Itq K b a xs) xs (fun H=>SqB K b H a xs) where
 go:=fun i x H ok hx=>⟨(List.getElem?_eq_some_iff.mp hx).1,ok⟩
 yld:=fun i x H y H' ok hx h=>by
  obtain ⟨e,h⟩:=h
  rw [hx] at h
  exact ⟨(Option.some.inj h).symm,e⟩
 stop:=fun H ok=>⟨Nat.le_refl _,ok⟩
theorem Zrs.imp {P:Program}{w:World}{K:W.Frag}{tg:Expr}{J J':It}{fp:List Addr}{it:Addr}{tn:Nat→Heap→Prop}(T:Zrs P w K tg J fp it tn) (hgo:∀ i H,J'.go i H→J.go i H)
  (hy:∀ i H x H',J'.go i H→J.yld i H x H'→J'.yld i H x H') (hs:∀ i H,J'.stop i H→J.stop i H):Zrs P w K tg J' fp it tn where
 mem:=T.mem
 obj:=T.obj
 keep:=T.keep
 item:=fun X h1 h2 h3 h4 i pins s σ H E I hf st g=>thn (T.item X h1 h2 h3 h4 i pins s σ H E I hf st (hgo i H g)) fun r s1 ⟨u,e,h⟩=>⟨u,e,thn h fun _ s2 ⟨x,H',I',r',y,t,f⟩=>⟨x,H',I',r',hy i H x H' g y,t,f⟩⟩
 done:=fun X h1 h2 h3 h4 i pins s σ H E I hf st g=>T.done X h1 h2 h3 h4 i pins s σ H E I hf st (hs i H g)
 self:=T.self
def Z6h (K:W.Frag) (tl:TE):TI:=fun σ H R=>tl σ H fun x H1=>∃ b a xs,x=.ref a∧SqB K b H1 a xs∧R (Itq K b a xs) H1
theorem Zpu {l:Expr}{tl:TE}(hl:PE X l tl):PI X tg l (Z6h X.K tl):=by
 intro pins s σ H R I h
 refine thn (hl pins s σ H _ I h) fun v s1 ⟨x,H1,I1,r1,q1⟩=>?_
 obtain ⟨b,a,xs,e,hq,q⟩:=q1
 subst e
 cases r1
 have fp:∀ b∈[s1.heap.objs.size],Zj2 X pins H1 b:=fun b hb=>by
  have e:b=s1.heap.objs.size:=by simpa using hb
  subst e
  exact I1.fpOk (Nat.le_refl _) (I1.hok.fresh (Nat.le_refl _))
 have get:∀ {i:Nat} {ys:List V},i<ys.length→∃ y,ys[i]?=some y:=fun {i ys} h=>⟨ys[i],by simp [h]⟩
 cases b with
 | true =>
  have hq:SqL X.K H1 a xs:=hq
  obtain ⟨its,rv,p,hz⟩:=I1.list hq
  refine wpAny_pyIter_list p.isList ?_
  refine ⟨s1.heap.objs.size,[s1.heap.objs.size],_,Itq X.K true a xs,H1,rfl,I1.kept (t':=s1.toks) fun b o e=>Heap.get?_push_of_some _ e,(Zmb a _).imp (fun i H g=>?_) (fun i H x H' g y=>⟨y.1,y.2 xs g.2⟩) (fun i H g=>⟨xs,g.2,g.1⟩),⟨_,Heap.get?_push_size _ rfl,rfl,rfl⟩,fp,q⟩
  obtain ⟨y,hy⟩:=get g.1
  exact ⟨xs,y,g.2,hy⟩
 | false =>
  have hq:SqT X.K H1 a xs:=hq
  obtain ⟨its,rv,p,hz⟩:=I1.tuple hq
  refine wpAny_pyIter_tuple (show s1.heap.IsTuple a its.toArray from p) ?_
  refine ⟨s1.heap.objs.size,[s1.heap.objs.size],_,Itq X.K false a xs,H1,rfl,I1.kept (t':=s1.toks) fun b o e=>Heap.get?_push_of_some _ e,(Zj6 a _).imp (fun i H g=>?_) (fun i H x H' g y=>⟨y.1,y.2 xs g.2⟩) (fun i H g=>⟨xs,g.2,g.1⟩),⟨_,Heap.get?_push_size _ rfl,rfl,rfl⟩,fp,q⟩
  obtain ⟨y,hy⟩:=get g.1
  exact ⟨xs,y,g.2,hy⟩
def Z26 (to:TE):TI:=fun σ H R=>to σ H fun x H1=>∃ a ob kvs,x=.ref a∧H1 a=some (.frz ob (.dK kvs))∧R (Itv a ob kvs) H1
theorem Zs5 {o:Expr}{to:TE}{apos cpos:Pos}(ho:PE X o to) (hbase:attributeBase o "values" X.env (eval o X.env)=eval o X.env:=by rfl) (hline:(apos.endLine == cpos.line)=true:=by rfl):
  PI X tg (.Call (.Attribute o "values" apos) [] [] cpos) (Z26 to):=by
 intro pins s σ H R I h
 refine wpAny_Call_method0_late hbase hline (thn (ho pins s σ H _ I h) fun v s1 ⟨x,H1,I1,r1,q1⟩=>?_)
 obtain ⟨a,ob,kvs,e,ha,q⟩:=q1
 subst e
 obtain rfl:v=Value.ref a:=r1
 obtain ⟨t1,t2,t3⟩:=Zt4 I1 (.inl ⟨kvs,.inr ⟨ob,ha⟩⟩)
 obtain ⟨es,ep,hd⟩:=Zlw (I1.hok a _ ha)
 obtain ⟨hs,vs,r,dd⟩:=Zea (I1.hok a _ ha) hd
 have hl:kvs.length=vs.length:=Paired.length r
 refine ⟨"dict","dict.values",PySem.F.plainAttrs_dict,PySem.F.slot_dict_values,PySem.F.type_dict_values,t1,t2,Calls.callWith_builtin rfl (PySem.evalArgs_none ?_)⟩
 refine call_meetsIn PySem.F.slot_dict_values t1 PySem.F.entry_dict_values (PySem.F.args_dict_values_1 _) (meets_dict_values (Zbc X.prog X.w) a t3) ⟨⟨vs,dd.dictOf⟩,?_⟩
 have I2:Inv X pins σ H1 { s1 with heap:=s1.heap.push { cls:=.type "dict_values",data:=.fields #[.ref a] } }:=I1.kept (t':=s1.toks) fun b o e=>Heap.get?_push_of_some _ e
 refine wpAny_pyIter_values (kvs:=vs) (ep:=ep) (knd:=Zbc X.prog X.w) ⟨_,Heap.get?_push_size _ rfl,rfl,rfl⟩ (dd.at' fun o e=>Heap.get?_push_of_some _ e) ?_
 refine ⟨_,[_],_,_,H1,rfl,I2.kept (t':=s1.toks) fun b o e=>Heap.get?_push_of_some _ e,Zr6 a _ ob kvs es ep hd,⟨_,Heap.get?_push_size _ rfl,rfl,by rw [hl];rfl⟩,fun b hb=>?_,q⟩
 have e:b=_:=List.mem_singleton.mp hb
 subst e
 exact I2.fpOk (Nat.le_refl _) (I2.hok.fresh (Nat.le_refl _))
theorem Ze4 (hc:X.calm=true):Zif X (.type "list") (fun xs H Q=>∃ a kvs,xs=[.ref a]∧Rd H a (.dK kvs)∧∀ l,H l=none→Q (.ref l) (upd H l (.lst (kvs.map fun p=>kV p.1)))):=by
 intro pins s σ H xs us Q I r h
 obtain ⟨a,kvs,rfl,ha,q⟩:=h
 obtain ⟨u,rfl,ru⟩:=Zkx r
 cases ru
 obtain ⟨hz,hs,vs,rv,o,es,ep,h1,h2,h3,h4,h5,h6⟩:=Zns I.hok ha
 have hl:kvs.length=vs.length:=Paired.length rv
 have dd:s.heap.DictAt (Zbc X.prog X.w) a vs ep:=⟨o,es,h1,h2,h3,h4,h5,h6⟩
 refine W.kdl_call (W.kdl_dict (knd:=Zbc X.prog X.w) (kvs:=vs) (ep:=ep) hs) (I.ok.hd hc) dd (by rw [← hl];exact hz) fun h' tk acc' c' hk hS' hacc=>?_
 obtain ⟨a1,a2⟩:=hacc
 refine ⟨.ref _,_,I.laid (o:=.lst (kvs.map fun p=>kV p.1)) hk (Nat.le_refl _) ⟨by rw [List.length_map];exact hz,acc'.toList,c',?_,by simpa using hS'⟩,rfl,q _ (I.hok.fresh (Nat.le_refl _))⟩
 refine Zn8 (by have z:acc'.toList.length=acc'.size:=Array.length_toList;rw [List.length_map];omega) fun i v u hv hu=>?_
 rw [List.getElem?_map] at hv
 obtain ⟨p,hp,e⟩:=Option.map_eq_some_iff.mp hv
 obtain ⟨w',hw,_⟩:=rv.get hp
 obtain ⟨k,x,hk1,hk2⟩:=a2 i u (by rw [← Array.getElem?_toList];exact hu)
 rw [hw] at hk1
 injection hk1 with hk1
 injection hk1 with hk1 _
 rw [← e,hk1]
 exact Zpq hk2
theorem Zf5.f {H:Hp}{a:Addr}{o:Obj}{kvs:List (Key×V)}{k:Key}(e:H a=some (.frz o (.dK kvs))):Zf5 H a (kV k) (Zga kvs k):=.inl ⟨kvs,k,.inr ⟨o,e⟩,rfl,rfl⟩
end
end L2
namespace Md
open PySem L2
def Zw2 (K:W.Frag) (H:Hp) (u:Addr) (us:List Str):Prop:=H u=some (.tup (us.map V.str))∨SqL K H u (us.map V.str)
theorem Zw2.sq {K:W.Frag}{H:Hp}{u:Addr}{us:List Str}(h:Zw2 K H u us):∃ b,SqB K b H u (us.map V.str):=by
 rcases h with h | h
 ·exact ⟨false,SqT.of h⟩
 ·exact ⟨true,h⟩
def Z1u (K:W.Frag) (H:Hp) (r:Str×List Str) (v:V):Prop:=∃ t u,v=.ref t∧SqT K H t [.str r.1,.ref u]∧Zw2 K H u r.2
def Zjv (K:W.Frag) (H:Hp) (l:Addr) (rows:List (Str×List Str)):Prop:=∃ b vs,SqB K b H l vs∧Paired (Z1u K H) rows vs
theorem Zw2.mono {K:W.Frag}{H H':Hp}{u:Addr}{us:List Str}(h:Zw2 K H u us) (s:Zag H H'):Zw2 K H' u us:=h.elim (fun x=>.inl (s _ _ x)) fun x=>.inr (s.seq x)
theorem Z1u.mono {K:W.Frag}{H H':Hp}{r:Str×List Str}{v:V}(h:Z1u K H r v) (s:Zag H H'):Z1u K H' r v:=let ⟨t,u,e,a,b⟩:=h;⟨t,u,e,s.tup a,b.mono s⟩
theorem Zjv.mono {K:W.Frag}{H H':Hp}{l:Addr}{rows:List (Str×List Str)}(h:Zjv K H l rows) (s:Zag H H'):Zjv K H' l rows:=let ⟨b,vs,a,p⟩:=h;⟨b,vs,a.mono s,Paired.mapP p fun _ _ z=>z.mono s⟩
theorem Zdw.g {K:W.Frag}{H:Hp}{l:Addr}{rows:List (Str×List Str)}(h:Zdw H l rows):Zjv K H l rows:=by
 obtain ⟨vs,a,p⟩:=h
 refine ⟨true,vs,SqL.of a,Paired.mapP p fun r v z=>?_⟩
 obtain ⟨t,u,e,h1,h2⟩:=z
 exact ⟨t,u,e,SqT.of h1,.inl h2⟩
theorem Zar {α β:Type}{F:α→β→Prop}:∀ {l:List α}{k:List β},Paired F l k→∀ {i:Nat}{b:β},k[i]?=some b→∃ a,l[i]?=some a∧F a b
 | _,_,.nil,i,b,h=>by simp at h
 | _,_,.cons r t,0,b,h=>by simp at h;subst h;exact ⟨_,rfl,r⟩
 | _,_,.cons r t,i + 1,b,h=>by
  obtain ⟨a,h1,h2⟩:=Zar t (i:=i) (b:=b) (by simpa using h)
  exact ⟨a,by simpa using h1,h2⟩
theorem Zbl {kvs:List (Key×V)}{k:Key}(h:k∉kvs.map (·.1)):Zga kvs k=none:=by
 cases e:Zga kvs k with
 | none=>rfl
 | some v=>exact absurd (Zr4 e) h
theorem Zfu {kvs:List (Key×V)}{k:Key}{v:V}(h:k∉kvs.map (·.1)):(Zfn kvs k v).map (·.1)=kvs.map (·.1)++[k]:=by
 rw [Zff v (Zbl h),List.map_append]
 rfl
theorem Zeb {rows:List (Str×List Str)}{i:Nat}{r:Str×List Str}(nd:(rows.map (·.1)).Nodup) (h:rows[i]?=some r):(Sum.inr r.1:Key)∉(rows.take i).map fun r=>(Sum.inr r.1:Key):=by
 intro m
 obtain ⟨q,hq,e⟩:=List.mem_map.mp m
 have e:q.1=r.1:=by injection e
 obtain ⟨j,hj,ej⟩:=List.mem_iff_getElem.mp hq
 rw [List.length_take] at hj
 have hj2:rows[j]?=some q:=by
  rw [List.getElem_take] at ej
  rw [List.getElem?_eq_getElem (by omega),ej]
 have a:(rows.map (·.1))[j]?=some r.1:=by rw [List.getElem?_map,hj2,← e];rfl
 have b:(rows.map (·.1))[i]?=some r.1:=by rw [List.getElem?_map,h];rfl
 have:=Zfh nd a b
 omega
def Zj1 (H:Hp) (rows:List (Str×List Str)) (kvs:List (Key×V)):Prop:=Paired (fun r (p:Key×V)=>p.1=Sum.inr r.1∧∃ t,p.2=.ref t∧H t=some (.tup (r.2.map V.str))) rows kvs
theorem Zj1.mono {H H':Hp}{rows:List (Str×List Str)}{kvs:List (Key×V)}(h:Zj1 H rows kvs) (s:∀ b xs,H b=some (.tup xs)→H' b=some (.tup xs)):Zj1 H' rows kvs :=
 Paired.mapP h fun _ _ z=>⟨z.1,let ⟨t,e,x⟩:=z.2;⟨t,e,s _ _ x⟩⟩
theorem Zj1.keys:∀ {H:Hp}{rows:List (Str×List Str)}{kvs:List (Key×V)},Zj1 H rows kvs→kvs.map (·.1)=rows.map fun r=>(Sum.inr r.1:Key)
 | _,_,_,.nil=>rfl
 | _,_,_,.cons r t=>by rw [List.map_cons,List.map_cons,r.1,Zj1.keys t]
def Zat (rows:List (Str×List Str)) (x:Str):List Str:=(rows.lookup x).getD []
theorem Zbv {rows:List (Str×List Str)}(nd:(rows.map (·.1)).Nodup) {r:Str×List Str}(h:r∈rows):Zat rows r.1=r.2:=by
 unfold Zat
 induction rows with
 | nil=>cases h
 | cons q rs ih =>
  have nd':(q.1 :: rs.map (·.1)).Nodup:=nd
  obtain ⟨n1,n2⟩:=List.nodup_cons.mp nd'
  obtain ⟨a,b⟩:=q
  rw [List.lookup_cons]
  rcases List.mem_cons.mp h with e | h
  ·subst e
   simp
  ·have ne:(r.1 == a)=false:=by
    rw [beq_eq_false_iff_ne]
    intro e
    exact n1 (List.mem_map.mpr ⟨r,h,e⟩)
   rw [ne]
   exact ih n2 h
theorem Zj1.val:∀ {H:Hp}{rows:List (Str×List Str)}{kvs:List (Key×V)},Zj1 H rows kvs→(rows.map (·.1)).Nodup→∀ {r:Str×List Str},r∈rows→∃ t,Zga kvs (Sum.inr r.1)=some (.ref t)∧H t=some (.tup (r.2.map V.str))
 | _,_,_,.nil,_,r,h=>nomatch h
 | _,q :: rs,p :: ps,.cons z t,nd,r,h=>by
  have nd':(q.1 :: rs.map (·.1)).Nodup:=nd
  obtain ⟨n1,n2⟩:=List.nodup_cons.mp nd'
  obtain ⟨z1,u,z2,z3⟩:=z
  rcases List.mem_cons.mp h with e | h
  ·subst e
   exact ⟨u,by rw [Zf7 z1,z2],z3⟩
  ·have ne:¬ p.1=(Sum.inr r.1:Key):=fun e=>n1 (by
    rw [z1] at e
    have e':q.1=r.1:=by injection e
    rw [e']
    exact List.mem_map.mpr ⟨r,h,rfl⟩)
   obtain ⟨u',h1,h2⟩:=Zj1.val t n2 h
   exact ⟨u',by rw [Zf8 ne];exact h1,h2⟩
theorem Zy7 {H:Hp}{rows:List (Str×List Str)}{kvs:List (Key×V)}(h:Zj1 H rows kvs):(kvs.map fun p=>kV p.1)=(rows.map (·.1)).map V.str:=by
 have e:(kvs.map fun p=>kV p.1)=(kvs.map (·.1)).map kV:=by rw [List.map_map];rfl
 rw [e,h.keys,List.map_map,List.map_map]
 rfl
end Md
namespace L2
open PySem PySem.Spec PyProof.Rows
section
variable {X:Cx} {pins:List (Addr×Obj)} {σ:St} {H H':Hp} {s:Shared} {h':Heap}
theorem Inv.laidMany {t':Nat}(I:Inv X pins σ H s) (k:∀ b u,s.heap.get? b=some u→h'.get? b=some u) (agree:∀ b,b<s.heap.objs.size→H' b=H b)
  (hok:∀ b o,s.heap.objs.size≤b→H' b=some o→Zbq X.prog X.w H' h' b o):Inv X pins σ H' { s with heap:=h',toks:=t' }:=by
 have low:∀ {b:Addr} {o:HO},H b=some o→H' b=some o:=fun {b o} e=>by rw [agree b (I.hok.lt e)];exact e
 refine I.un ⟨fun b o e _ _ _=>k b o e,fun b o e _ _ _=>⟨o.slots,k b o e⟩,fun b o e n _=>by rw [agree b (Heap.lt_size e)];exact n,fun b o e _=>⟨o,k b o e⟩,fun b xs e=>low e,fun b o u e=>low e,fun b ps e=>⟨#[],by rw [low e];simp⟩⟩ fun b o e=>?_
 by_cases hb:b<s.heap.objs.size
 ·have e':=e
  rw [agree b hb] at e'
  exact (I.hok b o e').stay (fun c v _ q=>k c v q) (fun c q=>low q) fun c xs q=>low q
 ·exact hok b o (Nat.le_of_not_lt hb) e
theorem Zkm {α β:Type} [BEq α] [LawfulBEq α]:∀ {as:List α}{ks:List β}{a:α}{i:Nat}{k:β},as.Nodup→as[i]?=some a→ks[i]?=some k→(as.zip ks).lookup a=some k
 | [],_,_,_,_,_,h,_=>by simp at h
 | _ :: _,[],_,_,_,_,_,h=>by simp at h
 | x :: as,y :: ks,a,0,k,_,h1,h2=>by
  simp at h1 h2
  subst h1;subst h2
  simp
 | x :: as,y :: ks,a,i + 1,k,nd,h1,h2=>by
  obtain ⟨n1,n2⟩:=List.nodup_cons.mp nd
  have h1':as[i]?=some a:=by simpa using h1
  have ne:(a == x)=false:=by
   rw [beq_eq_false_iff_ne]
   intro e
   exact n1 (e ▸ List.mem_of_getElem? h1')
  rw [List.zip_cons_cons,List.lookup_cons,ne]
  exact Zkm n2 h1' (by simpa using h2)
theorem Ze3 {α β:Type} [BEq α] [LawfulBEq α]:∀ {as:List α}{ks:List β}{a:α}{k:β},(as.zip ks).lookup a=some k→∃ i:Nat,as[i]?=some a∧ks[i]?=some k
 | [],_,_,_,h=>by simp at h
 | _ :: _,[],_,_,h=>by simp at h
 | x :: as,y :: ks,a,k,h=>by
  rw [List.zip_cons_cons,List.lookup_cons] at h
  cases e:(a == x) with
  | true =>
   rw [e] at h
   have e':a=x:=by simpa using e
   subst e'
   exact ⟨0,rfl,h⟩
  | false =>
   rw [e] at h
   obtain ⟨i,h1,h2⟩:=Ze3 h
   exact ⟨i + 1,by simpa using h1,by simpa using h2⟩
theorem Zhv {α β:Type}{F:α→β→Prop}:∀ {l:List α}{k:List β},l.length=k.length→(∀ (i:Nat) (a:α) (b:β),l[i]?=some a→k[i]?=some b→F a b)→Paired F l k
 | [],[],_,_=>.nil
 | [],_ :: _,h,_=>by simp at h
 | _ :: _,[],h,_=>by simp at h
 | a :: l,b :: k,h,f=>.cons (f 0 a b rfl rfl) (Zhv (by simpa using h) fun i x y hx hy=>f (i + 1) x y (by simpa using hx) (by simpa using hy))
theorem Zmy {o:Expr}{to:TE}{p1 apos cpos pos1:Pos}(hc:X.calm=true) (ho:PE X o to) (hg1:Gl X "list") (hm1:X.mg "list"=none)
  (hbase:attributeBase o "items" X.env (eval o X.env)=eval o X.env:=by rfl) (hline:(apos.endLine == cpos.line)=true:=by rfl)
  (hs2:starEach [.Call (.Attribute o "items" apos) [] [] cpos] X.env=[(false,eval (.Call (.Attribute o "items" apos) [] [] cpos) X.env)]:=by rfl):
  PE X (.Call (.Name "list" p1) [.Call (.Attribute o "items" apos) [] [] cpos] [] pos1) (fun σ H Q=>to σ H fun x H1=>∃ a kvs,x=.ref a∧Rd H1 a (.dK kvs) ∧
   ∀ l H' vs,H1 l=none→Zag H1 H'→H' l=some (.lst vs)→Paired (fun (kv:Key×V) v=>∃ t,v=.ref t∧H' t=some (.tup [kV kv.1,kv.2])) kvs vs→Q (.ref l) H'):=by
 intro pins s σ H Q I h
 refine wpAny_Call_Name_kw (Zjf I hg1 hm1 PyProof.Rows.boot_list ?_ (by decide) (by decide))
 refine PyProof.Rows.callWith_type1 ?_ hs2 rfl
 refine Calls.spliced_cons ?_
 refine wpAny_Call_method0_late hbase hline (thn (ho pins s σ H _ I h) fun v s1 ⟨x,H1,I1,r1,q1⟩=>?_)
 obtain ⟨a,kvs,e,ha,q⟩:=q1
 subst e
 obtain rfl:v=Value.ref a:=r1
 obtain ⟨t1,t2,t3⟩:=Zt4 I1 (.inl ⟨kvs,ha⟩)
 obtain ⟨hz,hs,us,rv,ob,es,ep,h1,h2,h3,h4,h5,h6⟩:=Zns I1.hok ha
 have hl:kvs.length=us.length:=Paired.length rv
 have dd:s1.heap.DictAt (Zbc X.prog X.w) a us ep:=⟨ob,es,h1,h2,h3,h4,h5,h6⟩
 refine ⟨"dict","dict.items",PySem.F.plainAttrs_dict,PySem.F.slot_dict_items,PySem.F.type_dict_items,t1,t2,Calls.callWith_builtin rfl (PySem.evalArgs_none ?_)⟩
 refine call_meetsIn PySem.F.slot_dict_items t1 PySem.F.entry_dict_items (PySem.F.args_dict_items_1 _) (meets_dict_items (Zbc X.prog X.w) a t3) ⟨⟨us,dd.dictOf⟩,Calls.spliced_nil ?_⟩
 have I2:Inv X pins σ H1 { s1 with heap:=s1.heap.push { cls:=.type "dict_items",data:=.fields #[.ref a] } }:=I1.kept (t':=s1.toks) fun b o e=>Heap.get?_push_of_some _ e
 refine W.kdx_call (knd:=Zbc X.prog X.w) (kvs:=us) (ep:=ep) (d:=a) (I1.ok.hd hc) ⟨_,Heap.get?_push_size _ rfl,rfl,rfl⟩ (dd.at' fun o e=>Heap.get?_push_of_some _ e) (by rw [← hl];exact hz) fun h' tk acc c as hk hS' hal hG hacc=>?_
 generalize hsz:(s1.heap.push { cls:=.type "dict_items",data:=.fields #[.ref a] }).objs.size=L at hS' hG
 have ndas:as.Nodup:=List.nodup_iff_pairwise_ne.mpr (hG.rise.imp fun h=>Nat.ne_of_lt h)
 have hH':∀ b,b<L→(fun b=>if b=L then some (HO.lst (as.map V.ref)) else match (as.zip kvs).lookup b with | some kv=>some (HO.tup [kV kv.1,kv.2]) | none=>H1 b:Hp) b=H1 b:=fun b hb=>by
  show (if b=L then _ else _)=_
  rw [if_neg (Nat.ne_of_lt hb)]
  cases e:(as.zip kvs).lookup b with
  | none=>rfl
  | some kv =>
   obtain ⟨i,h1,_⟩:=Ze3 e
   have:=hG.above b (List.mem_of_getElem? h1)
   exact absurd (Nat.lt_trans hb this) (Nat.lt_irrefl _)
 have at_:∀ (i:Nat) (b:Addr),as[i]?=some b→∃ kv:Key×V,kvs[i]?=some kv∧(fun b=>if b=L then some (HO.lst (as.map V.ref)) else match (as.zip kvs).lookup b with | some kv=>some (HO.tup [kV kv.1,kv.2]) | none=>H1 b:Hp) b=some (.tup [kV kv.1,kv.2]):=fun i b hi=>by
  have hlt:i<kvs.length:=by
   have:=(List.getElem?_eq_some_iff.mp hi).1
   omega
  refine ⟨kvs[i],by simp [hlt],?_⟩
  show (if b=L then _ else _)=_
  rw [if_neg (Nat.ne_of_gt (hG.above b (List.mem_of_getElem? hi))),Zkm ndas hi (show kvs[i]?=some kvs[i] by simp [hlt])]
 have I3:Inv X pins σ (fun b=>if b=L then some (HO.lst (as.map V.ref)) else match (as.zip kvs).lookup b with | some kv=>some (HO.tup [kV kv.1,kv.2]) | none=>H1 b:Hp) { s1 with heap:=h',toks:=tk }:=by
  refine I2.laidMany (t':=tk) hk (fun b hb=>hH' b (by rw [← hsz];exact hb)) fun b o hb e=>?_
  have e:(if b=L then some (HO.lst (as.map V.ref)) else match (as.zip kvs).lookup b with | some kv=>some (HO.tup [kV kv.1,kv.2]) | none=>H1 b)=some o:=e
  by_cases hbL:b=L
  ·rw [if_pos hbL] at e
   cases e
   refine ⟨by rw [List.length_map,hal,← hl];exact hz,acc.toList,c,?_,by rw [hbL];simpa using hS'⟩
   rw [hacc]
   exact Zn8 (by simp) fun i v u hv hu=>by
    rw [List.getElem?_map] at hv hu
    obtain ⟨y,hy,ey⟩:=Option.map_eq_some_iff.mp hv
    rw [hy] at hu
    rw [← ey]
    exact (Option.some.inj hu).symm
  ·rw [if_neg hbL] at e
   cases el:(as.zip kvs).lookup b with
   | none =>
    rw [el] at e
    have:=I2.hok.lt e
    exact absurd (Nat.lt_of_lt_of_le this hb) (Nat.lt_irrefl _)
   | some kv =>
    rw [el] at e
    cases e
    obtain ⟨i,hi1,hi2⟩:=Ze3 el
    obtain ⟨key,k,x,hu,hkey,hget⟩:=hG.pairs i b hi1
    obtain ⟨u,hu2,ru⟩:=rv.get hi2
    rw [hu] at hu2
    injection hu2 with hu2
    injection hu2 with hu3 hu4
    subst hu3 hu4
    exact ⟨sL (by show 2≤100000;decide),[key,x],.cons (Zpq hkey) (.cons ru .nil),⟨_,hget,rfl,_,rfl⟩⟩
 refine ⟨.ref L,_,I3,rfl,q L _ (as.map V.ref) ?_ (fun b o e=>?_) ?_ ?_⟩
 ·rw [← hsz];exact I2.hok.fresh (Nat.le_refl _)
 ·exact (hH' b (by rw [← hsz];exact I2.hok.lt e)).trans e
 ·show (if L=L then _ else _)=_
  rw [if_pos rfl]
 ·refine Zhv (by rw [List.length_map,hal,hl]) fun i kv v h1 h2=>?_
  rw [List.getElem?_map] at h2
  obtain ⟨b,hb,eb⟩:=Option.map_eq_some_iff.mp h2
  obtain ⟨kv',hk1,hk2⟩:=at_ i b hb
  rw [h1] at hk1
  cases hk1
  exact ⟨b,eb.symm,hk2⟩
end
end L2
namespace L2
open PySem PySem.Spec PyProof.Rows
section
variable {X:Cx}
def Zvj (K:W.Frag):R2:=fun x y H Q=>∃ a b xs ys,x=.ref a∧y=.ref b∧SqT K H a xs∧SqT K H b ys∧xs.length + ys.length≤sizeLine ∧
 (xs=[]→Q (.ref b) H)∧(xs≠[]→ys=[]→Q (.ref a) H)∧(xs≠[]→ys≠[]→∀ p,H p=none→Q (.ref p) (upd H p (.tup (xs++ys))))
theorem Zlj:OpR X (binaryOp .Add) (Zvj X.K):=by
 intro pins s σ H x y v u Q I rx ry h
 obtain ⟨a,b,xs,ys,rfl,rfl,ha,hb,hz,q0,q1,q2⟩:=h
 by_cases hx:xs=[]
 ·cases rx
  cases ry
  obtain ⟨its,r1,p1,_⟩:=I.tuple ha
  obtain ⟨its2,r2,p2,_⟩:=I.tuple hb
  have e:its=[]:=r1.nil_iff.mpr hx
  obtain ⟨⟨cls,dd,data,sl⟩,ho,hc,n,hd⟩:=id p1
  obtain ⟨⟨cls2,dd2,data2,sl2⟩,ho2,hc2,n2,hd2⟩:=id p2
  simp only at hc hd hc2 hd2
  subst hc hd hc2 hd2
  exact concat_meets ⟨_,ho,rfl⟩ ⟨_,ho2,rfl⟩ noFill_tuple_add seq_tuple_add PySem.F.slot_tuple_add PySem.F.entry_tuple_add (PySem.F.args_tuple_add_2 _ _)
   (tuple_addW0 a b its.toArray its2.toArray n n2 dd dd2 sl sl2 (by simp [e])) ⟨ho,ho2,⟨.ref b,H,I,rfl,q0 hx⟩⟩
 ·exact Zyo pins s σ H _ _ v u Q I rx ry ⟨a,b,xs,ys,rfl,rfl,ha,hb,hx,hz,q1 hx,q2 hx⟩
end
section
variable {X:Cx} {pins:List (Addr×Obj)} {σ:St} {H:Hp} {s:Shared} {h':Heap}
theorem Inv.turnedNew {t':Nat}{it a:Addr}{o:HO}(I:Inv X pins σ H s) (k:∀ b u,b≠it→s.heap.get? b=some u→h'.get? b=some u) (hn:H it=none) (hL:it≠X.env.locals)
  (h1:it∈X.ex∨X.s₀.heap.objs.size≤it) (h2:∀ x c,X.env.cells.lookup x=some c→c≠it) (h3:∀ p∈X.pn++pins,p.1≠it) (ha:s.heap.objs.size≤a) (new:Zbq X.prog X.w (upd H a o) h' a o):
  Inv X pins σ (upd H a o) { s with heap:=h',toks:=t' }:=by
 have nit:∀ b u,H b=some u→b≠it:=fun b u e z=>by rw [z,hn] at e;cases e
 have na:∀ b u,H b=some u→b≠a:=fun b u e=>Nat.ne_of_lt (Nat.lt_of_lt_of_le (I.hok.lt e) ha)
 have low:∀ {b u},H b=some u→(upd H a o) b=some u:=fun {b u} e=>by rw [Zac (na b u e)];exact e
 refine I.step (g':=s.gens) (d':=s.drawn) (ch:=[it]) (fun b hb=>?_) (fun b u _ _ hc e _=>k b u (fun z=>hc (by simp [z])) e) (fun b u _ _ hc e _=>⟨u.slots,k b u (fun z=>hc (by simp [z])) e⟩)
  (fun b u _ e n=>by rw [Zac (Nat.ne_of_lt (Nat.lt_of_lt_of_le (Heap.lt_size e) ha))];exact n)
  (fun b u hc e=>⟨u,k b u (fun z=>hc (by simp [z])) e⟩) (fun _ _ e=>low e) (fun _ _ _ e=>low e) (fun b ps e=>⟨#[],by rw [low e];simp⟩) (fun m hm=>?_) (fun b u e=>?_) I.bare
 ·have e:b=it:=by simpa using hb
  subst e
  exact ⟨h1,hL,h2,h3⟩
 ·obtain ⟨o',es,ep,ho,r⟩:=hm
  exact ⟨o',es,ep,k _ o' (Ne.symm hL) ho,r⟩
 ·by_cases hb:b=a
  ·subst hb
   rw [uS] at e
   cases e
   exact new
  ·rw [Zac hb] at e
   refine (I.hok b u e).stay (fun c v hc q=>k c v ?_ q) (fun _ q=>low q) fun _ _ q=>low q
   rcases hc with z | z
   ·rw [z];exact nit b u e
   ·exact nit c _ z
end
def Iti (a:Addr) (o:Obj) (kvs:List (Key×V)):It :=
 ⟨fun i H=>i<kvs.length∧H a=some (.frz o (.dK kvs)),fun i H v H'=>∃ t p,kvs[i]?=some p∧H t=none∧v=.ref t∧H'=upd H t (.tup [kV p.1,p.2]),fun i H=>kvs.length≤i∧H a=some (.frz o (.dK kvs))⟩
theorem Zqu {P:Program}{w:World}{K:W.Frag}{elts:List Expr}{x1}{pos:Pos} (a it:Addr) (o:Obj) (kvs:List (Key×V)) (es:Array DictEntry) (ep:Nat) (hd:o.data=.dict es ep):
  Zrs P w K (.Tuple elts x1 pos) (Iti a o kvs) [it] it (fun i h=>∃ ok ov,IsItemIter h it a i kvs.length ep ok ov) where
 mem:=by simp
 obj:=fun i h st b hb=>by
  have e:b=it:=by simpa using hb
  subst e
  obtain ⟨ok,ov,st⟩:=st
  exact ⟨_,st,fun v z=>by cases z⟩
 keep:=fun i h h' st k=>by
  obtain ⟨ok,ov,st⟩:=st
  exact ⟨ok,ov,k it (by simp) _ st⟩
 item:=by
  intro X hP hw hK hc i pins s σ H E I hf st hg
  subst hP hw hK
  obtain ⟨f0,f1,f2,f3,f4,f5⟩:=hf it (by simp)
  obtain ⟨hi,ha⟩:=hg
  obtain ⟨ok,ov,st⟩:=st
  obtain ⟨_,vs,r,dd⟩:=Zea (I.hok a _ ha) hd
  obtain ⟨p,hp⟩:∃ p,kvs[i]?=some p:=⟨kvs[i],by simp [hi]⟩
  obtain ⟨u,hu,ru⟩:=r.get hp
  have hl:kvs.length=vs.length:=Paired.length r
  rw [hl] at st
  refine wpAny_pyNext_items_item st dd hu fun key h' hk st' ht hz keep=>?_
  refine ⟨_,rfl,?_⟩
  refine wpAny_letOwnedTupleGo_items (s:={ s with heap:=h' }) st' fun h'' st'' sb=>?_
  have itlt:it<s.heap.objs.size:=Heap.lt_size st
  have tne:s.heap.objs.size≠it:=Nat.ne_of_gt itlt
  have ht2:h''.get? s.heap.objs.size=some { cls:=.type "tuple",data:=.seq #[key,u] }:=sb.extBut _ _ tne ht
  have I1:Inv X pins σ (upd H s.heap.objs.size (.tup [kV p.1,p.2])) { s with heap:=h'' }:=I.turnedNew (t':=s.toks) (fun b o hb e=>sb.extBut b o hb (keep b o hb e)) f0 f1 f3 f4 f5 (Nat.le_refl _)
   ⟨sL (by show 2≤100000;decide),[key,u],.cons (Zpq hk) (.cons ru .nil),⟨_,ht2,rfl,_,rfl⟩⟩
  refine ⟨.ref s.heap.objs.size,_,I1,rfl,⟨s.heap.objs.size,p,hp,I.hok.fresh (Nat.le_refl _),rfl,rfl⟩,⟨_,_,by rw [hl];exact st''⟩,fun b hb=>?_⟩
  have e:b=it:=by simpa using hb
  subst e
  rw [Zac (Ne.symm tne)]
  exact (hf b (by simp)).1
 done:=by
  intro X hP hw hK hc i pins s σ H E I hf st hg
  subst hP hw hK
  obtain ⟨f0,f1,f2,f3,f4,f5⟩:=hf it (by simp)
  obtain ⟨hi,ha⟩:=hg
  obtain ⟨ok,ov,st⟩:=st
  obtain ⟨_,vs,r,dd⟩:=Zea (I.hok a _ ha) hd
  have hl:kvs.length=vs.length:=Paired.length r
  rw [hl] at st
  exact wpAny_pyNext_items_end (I.ok.hd hc) st dd (by simp;omega) fun h' eb=>⟨rfl,I.turned (t':=s.toks) (fun b o hb e=>eb b o hb e) f0 f1 f3 f4 f5⟩
 self:=fun A i s Q E st h=>by
  obtain ⟨ok,ov,st⟩:=st
  exact W.kcp_self st h
end L2
namespace L2
open PySem PySem.Spec PyProof.Rows
section
variable {X:Cx}
def Z1l (to:TE):TI:=fun σ H R=>to σ H fun x H1=>∃ a ob kvs,x=.ref a∧H1 a=some (.frz ob (.dK kvs))∧R (Iti a ob kvs) H1
theorem Zvn {elts:List Expr}{x1}{tpos:Pos}{o:Expr}{to:TE}{apos cpos:Pos}(ho:PE X o to) (hbase:attributeBase o "items" X.env (eval o X.env)=eval o X.env:=by rfl) (hline:(apos.endLine == cpos.line)=true:=by rfl):
  PI X (.Tuple elts x1 tpos) (.Call (.Attribute o "items" apos) [] [] cpos) (Z1l to):=by
 intro pins s σ H R I h
 refine wpAny_Call_method0_late hbase hline (thn (ho pins s σ H _ I h) fun v s1 ⟨x,H1,I1,r1,q1⟩=>?_)
 obtain ⟨a,ob,kvs,e,ha,q⟩:=q1
 subst e
 obtain rfl:v=Value.ref a:=r1
 obtain ⟨t1,t2,t3⟩:=Zt4 I1 (.inl ⟨kvs,.inr ⟨ob,ha⟩⟩)
 obtain ⟨es,ep,hd⟩:=Zlw (I1.hok a _ ha)
 obtain ⟨hs,vs,r,dd⟩:=Zea (I1.hok a _ ha) hd
 have hl:kvs.length=vs.length:=Paired.length r
 refine ⟨"dict","dict.items",PySem.F.plainAttrs_dict,PySem.F.slot_dict_items,PySem.F.type_dict_items,t1,t2,Calls.callWith_builtin rfl (PySem.evalArgs_none ?_)⟩
 refine call_meetsIn PySem.F.slot_dict_items t1 PySem.F.entry_dict_items (PySem.F.args_dict_items_1 _) (meets_dict_items (Zbc X.prog X.w) a t3) ⟨⟨vs,dd.dictOf⟩,?_⟩
 have I2:Inv X pins σ H1 { s1 with heap:=s1.heap.push { cls:=.type "dict_items",data:=.fields #[.ref a] } }:=I1.kept (t':=s1.toks) fun b o e=>Heap.get?_push_of_some _ e
 refine wpAny_pyIter_items (kvs:=vs) (ep:=ep) (knd:=Zbc X.prog X.w) ⟨_,Heap.get?_push_size _ rfl,rfl,rfl⟩ (dd.at' fun o e=>Heap.get?_push_of_some _ e) ?_
 refine ⟨_,[_],_,_,H1,rfl,I2.kept (t':=s1.toks) fun b o e=>Heap.get?_push_of_some _ e,Zqu a _ ob kvs es ep hd,⟨.none,.none,?_⟩,fun b hb=>?_,q⟩
 ·rw [hl]
  exact Heap.get?_push_size _ rfl
 ·have e:b=_:=List.mem_singleton.mp hb
  subst e
  exact I2.fpOk (Nat.le_refl _) (I2.hok.fresh (Nat.le_refl _))
end
theorem Zuc {a:Addr}{o:Obj}{kvs:List (Key×V)}{g:TG}{tb:TS}{D:Zrx}{σ:St}{H:Hp}(Pv:Nat→St→Hp→Prop) (h0:Pv 0 σ H) (hl:∀ i σ H,i≤kvs.length→Pv i σ H→H a=some (.frz o (.dK kvs)))
  (hs:∀ i p t σ H,kvs[i]?=some p→Pv i σ H→H t=none→g (.ref t) σ (upd H t (.tup [kV p.1,p.2])) fun σ2 H2=>tb { D with nx:=Pv (i + 1),ct:=Pv (i + 1),bk:=D.nx } σ2 H2) (hd:∀ σ H,Pv kvs.length σ H→D.nx σ H):
  ∃ W:Nat→Nat→St→Hp→Prop,(∃ m,W 0 m σ H)∧∀ i m σ H,W i m σ H →
   ((Iti a o kvs).stop i H∧D.nx σ H)∨((Iti a o kvs).go i H∧∃ N:St→Hp→Prop,(∀ σ' H',N σ' H'→∃ m',m'<m∧W (i + 1) m' σ' H')∧∀ x H',(Iti a o kvs).yld i H x H'→g x σ H' fun σ2 H2=>tb { D with nx:=N,ct:=N,bk:=D.nx } σ2 H2):=by
 refine ⟨fun i m σ H=>m=kvs.length - i∧i≤kvs.length∧Pv i σ H,⟨kvs.length,by simp,Nat.zero_le _,h0⟩,?_⟩
 rintro i m σ H ⟨rfl,hi,p⟩
 have q:=hl i σ H hi p
 by_cases hlt:i<kvs.length
 ·refine .inr ⟨⟨hlt,q⟩,Pv (i + 1),fun σ' H' p'=>⟨kvs.length - (i + 1),by omega,rfl,hlt,p'⟩,fun x H' y=>?_⟩
  obtain ⟨t,pr,hp,ht,rfl,rfl⟩:=y
  exact hs i pr t σ H hp p ht
 ·have e:i=kvs.length:=by omega
  subst e
  exact .inl ⟨⟨Nat.le_refl _,q⟩,hd σ H p⟩
end L2
namespace L2
open PySem PySem.Spec PyProof.Rows
section
variable {X:Cx}
end
end L2
namespace L2
open PySem PySem.Spec PyProof.Rows
section
variable {prog:Program} {w:World} {A:Around} {E:Value→Shared→Prop} {s:Shared}
theorem Zex {p t:Addr}{k:Nat}{us:Array Value}{u:Value}{Q:Value→Shared→Prop}(hp:s.heap.IsTupleIter p t k) (ht:s.heap.IsTuple t us) (hu:us[k]?=some u)
  (q:∀ g,g.IsTupleIter p t (k + 1)→Heap.SameBut p s.heap g→Q u { s with heap:=g }):wpAny (model prog w) A (Builtin.SmallTypes.nextOf (.ref p)) Q E s:=by
 obtain ⟨ob,h1,h2,h3⟩:=id hp
 obtain ⟨ot,h4,_,nt,h5⟩:=ht
 unfold Builtin.SmallTypes.nextOf
 refine wpAny_bind (wpAny_callSpecial?_slot (name:=Str.ofString "__next__") hp.typeIs PySem.F.slot_tuple_iterator_next (wpAny_call_entry PySem.F.slot_tuple_iterator_next hp.typeIs PySem.F.entry_tuple_iterator_next ?_ (PySem.F.args_tuple_iterator_next_1 _)))
 show wpAny _ _ (field (.ref p) 0>>=_) _ _ s
 refine wpAny_bind (wpAny_field h1 h3 (x:=.ref t) rfl ?_)
 show wpAny _ _ (if (Value.ref t == Value.none)=true then _ else _) _ _ s
 rw [if_neg (show ¬ ((Value.ref t == Value.none)=true) from Bool.false_ne_true)]
 show wpAny _ _ (field (.ref p) 1>>=_) _ _ s
 refine wpAny_bind (wpAny_field h1 h3 (x:=.int k 0) rfl ?_)
 show wpAny _ _ (seqItems? (.ref t)>>=_) _ _ s
 refine wpAny_bind (wpAny_seqItems h4 h5 ?_)
 simp only [Int.toNat_natCast,hu]
 refine wpAny_bind (wpAny_setField h1 h3 (by simp) (wpAny_pure ⟨u,rfl,wpAny_pure (q _ ?_ (Heap.SameBut.update ..))⟩))
 exact ⟨_,Heap.get?_update_self _ h1 (Obj.isFreed_of_fields (Obj.data_mapFields h3 _)),(Obj.cls_mapFields ..).trans h2,by rw [Obj.data_mapFields h3];simp [rawInt]⟩
theorem Zey {p t:Addr}{k:Nat}{us:Array Value}{Q:Value→Shared→Prop}(hh:A.handled=none) (hp:s.heap.IsTupleIter p t k) (ht:s.heap.IsTuple t us) (hu:us[k]?=none)
  (q:∀ g e,Heap.ExtBut p s.heap g→(∃ o,g.get? e=some o∧o.cls=.type "StopIteration")→E (.ref e) { s with heap:=g }):wpAny (model prog w) A (Builtin.SmallTypes.nextOf (.ref p)) Q E s:=by
 obtain ⟨ob,h1,h2,h3⟩:=id hp
 obtain ⟨ot,h4,_,nt,h5⟩:=ht
 unfold Builtin.SmallTypes.nextOf
 refine wpAny_bind (wpAny_callSpecial?_slot (name:=Str.ofString "__next__") hp.typeIs PySem.F.slot_tuple_iterator_next (wpAny_call_entry PySem.F.slot_tuple_iterator_next hp.typeIs PySem.F.entry_tuple_iterator_next ?_ (PySem.F.args_tuple_iterator_next_1 _)))
 show wpAny _ _ (field (.ref p) 0>>=_) _ _ s
 refine wpAny_bind (wpAny_field h1 h3 (x:=.ref t) rfl ?_)
 show wpAny _ _ (if (Value.ref t == Value.none)=true then _ else _) _ _ s
 rw [if_neg (show ¬ ((Value.ref t == Value.none)=true) from Bool.false_ne_true)]
 show wpAny _ _ (field (.ref p) 1>>=_) _ _ s
 refine wpAny_bind (wpAny_field h1 h3 (x:=.int k 0) rfl ?_)
 show wpAny _ _ (seqItems? (.ref t)>>=_) _ _ s
 refine wpAny_bind (wpAny_seqItems h4 h5 ?_)
 simp only [Int.toNat_natCast,hu]
 refine wpAny_bind (wpAny_rule (wpAny_bind (wpAny_setField h1 h3 (by simp) ?_)))
 show wpAny _ _ (newExc (.type "StopIteration") []>>=_) _ _ _
 refine wpAny_bind ?_
 simp only [newExc,newTuple]
 refine wpAny_bind (wpAny_newObj_type ?_ (by size_fits))
 refine wpAny_bind (m:=firstArgMember _ _) (wpAny_of_eq (a:=Value.none) (by first | rfl | (simp only [firstArgMember];rfl)) ?_)
 refine wpAny_newObj_type ?_ (by size_fits)
 simp only [raiseNew]
 refine wpAny_bind (wpAny_handled ?_)
 first | rw [show A.in1.handled=none from hh] | rw [hh]
 refine wpAny_bind (wpAny_pure (wpAny_throw ?_))
 exact q _ _ (((Heap.SameBut.update ..).extBut.push _).push _) ⟨_,Heap.get?_push_size _ rfl,rfl⟩
structure ZAt (h:Heap) (z ti to i1 i2 l1 l2:Addr) (k:Nat) (f:Value):Prop where
 z:IsZip h z ti to f
 ti:IsPair h ti (.ref i1) (.ref i2)
 to:∃ a b,IsPair h to a b
 i1:h.IsTupleIter i1 l1 k
 i2:h.IsTupleIter i2 l2 k
theorem ZAt.at {h h':Heap}{z ti to i1 i2 l1 l2:Addr}{k:Nat}{f:Value}(x:ZAt h z ti to i1 i2 l1 l2 k f) (e:∀ b∈[z,ti,to,i1,i2],∀ o,h.get? b=some o→h'.get? b=some o):ZAt h' z ti to i1 i2 l1 l2 k f :=
 ⟨e z (by simp) _ x.z,e ti (by simp) _ x.ti,let ⟨a,b,y⟩:=x.to;⟨a,b,e to (by simp) _ y⟩,x.i1.at fun o q=>e i1 (by simp) o q,x.i2.at fun o q=>e i2 (by simp) o q⟩
theorem Zrz {z ti to i1 i2 l1 l2:Addr}{k:Nat}{xs ys:Array Value}{x y:Value}{Q:Value→Shared→Prop}(D:ZipApart z ti to i1 i2 l1 l2) (st:ZAt s.heap z ti to i1 i2 l1 l2 k .none)
  (t1:s.heap.IsTuple l1 xs) (t2:s.heap.IsTuple l2 ys) (hx:xs[k]?=some x) (hy:ys[k]?=some y)
  (q:∀ g,ZAt g z ti to i1 i2 l1 l2 (k + 1) (rawInt s.heap.objs.size)→IsPair g s.heap.objs.size x y→(∀ c o,c≠z→c≠to→c≠i1→c≠i2→s.heap.get? c=some o→g.get? c=some o)→Q (.ref s.heap.objs.size) { s with heap:=g }):
  wpAny (model prog w) A (Builtin.«zip.__next__» ⟨[.ref z],[]⟩) (fun fin s'=>∃ v,fin=.done (.ret v)∧Q v s') E s:=by
 obtain ⟨hz,hti,⟨a,b,hto⟩,hi1,hi2⟩:=st
 show wpAny _ _ (field (.ref z) 2>>=_) _ _ _
 refine wpAny_bind (wpAny_field hz rfl (x:=.bool false) rfl ?_)
 show wpAny _ _ (field (.ref z) 3>>=_) _ _ _
 refine wpAny_bind (wpAny_field hz rfl (x:=.ref ti) rfl (wpAny_bind (wpAny_seqItems hti rfl ?_)))
 show wpAny _ _ (Builtin.SmallTypes.ownedTupleIsFree (.ref z)>>=_) _ _ _
 refine wpAny_bind ?_
 unfold Builtin.SmallTypes.ownedTupleIsFree
 refine wpAny_bind (wpAny_field hz rfl (x:=.none) rfl (wpAny_pure ?_))
 simp only [if_true]
 refine wpAny_bind (wpAny_rule (wpAny_bind (wpAny_field hz rfl (x:=.ref to) rfl (wpAny_bind (wpAny_setField_rec hz (by simp) fun g1 z1 e1=>?_)))))
 replace z1:IsZip g1 z ti to .ellipsis:=z1
 refine wpAny_bind ?_
 simp only [List.zipIdx_cons,List.zipIdx_nil,List.forIn_cons,List.forIn_nil]
 refine wpAny_bind (wpAny_bind (wpAny_onRaise ?_))
 show wpAny _ _ (Builtin.SmallTypes.nextOf (.ref i1)>>=_) _ _ _
 refine wpAny_bind (Zex (hi1.extBut e1.extBut D.i1z) (t1.extBut e1.extBut D.l1z) hx fun g2 j1 e2=>wpAny_pure ?_)
 have to2:IsPair g2 to a b:=e2.extBut _ _ D.TOi1 (e1.extBut _ _ D.TOz hto)
 refine wpAny_bind (wpAny_seqItems to2 rfl (wpAny_bind (wpAny_updateSeq_pair to2 fun g3 to3 e3=>?_)))
 replace to3:IsPair g3 to x b:=to3
 refine wpAny_bind (wpAny_letGo (wpAny_pure (wpAny_bind (wpAny_bind (wpAny_onRaise ?_)))))
 show wpAny _ _ (Builtin.SmallTypes.nextOf (.ref i2)>>=_) _ _ _
 refine wpAny_bind (Zex (((hi2.extBut e1.extBut D.i2z).extBut e2.extBut D.i12.symm).extBut e3.extBut D.TOi2.symm) (((t2.extBut e1.extBut D.l2z).extBut e2.extBut D.l2i1).extBut e3.extBut D.l2TO) hy fun g4 j2 e4=>wpAny_pure ?_)
 have to4:IsPair g4 to x b:=e4.extBut _ _ D.TOi2 to3
 refine wpAny_bind (wpAny_seqItems to4 rfl (wpAny_bind (wpAny_updateSeq_pair to4 fun g5 to5 e5=>?_)))
 replace to5:IsPair g5 to x y:=to5
 refine wpAny_bind (wpAny_letGo (wpAny_pure (wpAny_pure (wpAny_bind (wpAny_seqItems to5 rfl (wpAny_bind (wpAny_newTuple ?_)))))))
 have sz:g5.objs.size=s.heap.objs.size:=by rw [e5.1,e4.1,e3.1,e2.1,e1.1]
 have z5:IsZip g5 z ti to .ellipsis:=e5.extBut _ _ D.TOz.symm (e4.extBut _ _ D.i2z.symm (e3.extBut _ _ D.TOz.symm (e2.extBut _ _ D.i1z.symm z1)))
 have k5:∀ c o,c≠z→c≠to→c≠i1→c≠i2→s.heap.get? c=some o→g5.get? c=some o:=fun c o c1 c2 c3 c4 e=>e5.extBut _ _ c2 (e4.extBut _ _ c4 (e3.extBut _ _ c2 (e2.extBut _ _ c3 (e1.extBut _ _ c1 e))))
 have j15:g5.IsTupleIter i1 l1 (k + 1):=((j1.extBut e3.extBut D.TOi1.symm).extBut e4.extBut D.i12).extBut e5.extBut D.TOi1.symm
 have j25:g5.IsTupleIter i2 l2 (k + 1):=j2.extBut e5.extBut D.TOi2.symm
 have zlt:z<g5.objs.size:=Heap.lt_size z5
 show wpAny _ _ (Builtin.SmallTypes.ownedTupleHandOut (.ref z) (.ref g5.objs.size)>>=_) _ _ _
 refine wpAny_bind ?_
 unfold Builtin.SmallTypes.ownedTupleHandOut
 have z6:IsZip (g5.push { cls:=.type "tuple",data:=.seq #[x,y] }) z ti to .ellipsis:=Heap.get?_push_of_some _ z5
 refine wpAny_bind (wpAny_setField_rec z6 (by simp) fun g7 z7 e7=>?_)
 replace z7:IsZip g7 z ti to (rawInt g5.objs.size):=z7
 refine wpAny_setField_rec z7 (by simp) fun g8 z8 e8=>?_
 replace z8:IsZip g8 z ti to (rawInt g5.objs.size):=z8
 have up:∀ c o,c≠z→g5.get? c=some o→g8.get? c=some o:=fun c o c1 e=>e8.extBut _ _ c1 (e7.extBut _ _ c1 (Heap.get?_push_of_some _ e))
 have p8:IsPair g8 g5.objs.size x y:=e8.extBut _ _ (Nat.ne_of_gt zlt) (e7.extBut _ _ (Nat.ne_of_gt zlt) (Heap.get?_push_size _ rfl))
 rw [sz] at z8 p8
 refine wpAny_pure ⟨_,rfl,?_⟩
 show Q (.ref g5.objs.size) _
 rw [sz]
 exact q g8 ⟨z8,up _ _ D.TIz (k5 _ _ D.TIz D.TITO D.TIi1 D.TIi2 hti),⟨x,y,up _ _ D.TOz to5⟩,j15.at fun o e=>up _ o D.i1z e,j25.at fun o e=>up _ o D.i2z e⟩ p8 fun c o c1 c2 c3 c4 e=>up c o c1 (k5 c o c1 c2 c3 c4 e)
theorem Zr0 {z ti to i1 i2 l1 l2:Addr}{k:Nat}{xs ys:Array Value}{Q:Fin→Shared→Prop}(hh:A.handled=none) (D:ZipApart z ti to i1 i2 l1 l2) (st:ZAt s.heap z ti to i1 i2 l1 l2 k .none)
  (t1:s.heap.IsTuple l1 xs) (t2:s.heap.IsTuple l2 ys) (hend:xs[k]?=none∨ys[k]?=none)
  (q:∀ g e,(∀ c o,c≠z→c≠to→c≠i1→c≠i2→s.heap.get? c=some o→g.get? c=some o)→(∃ o,g.get? e=some o∧o.cls=.type "StopIteration")→E (.ref e) { s with heap:=g }):
  wpAny (model prog w) A (Builtin.«zip.__next__» ⟨[.ref z],[]⟩) Q E s:=by
 obtain ⟨hz,hti,⟨a,b,hto⟩,hi1,hi2⟩:=st
 show wpAny _ _ (field (.ref z) 2>>=_) _ _ _
 refine wpAny_bind (wpAny_field hz rfl (x:=.bool false) rfl ?_)
 show wpAny _ _ (field (.ref z) 3>>=_) _ _ _
 refine wpAny_bind (wpAny_field hz rfl (x:=.ref ti) rfl (wpAny_bind (wpAny_seqItems hti rfl ?_)))
 show wpAny _ _ (Builtin.SmallTypes.ownedTupleIsFree (.ref z)>>=_) _ _ _
 refine wpAny_bind ?_
 unfold Builtin.SmallTypes.ownedTupleIsFree
 refine wpAny_bind (wpAny_field hz rfl (x:=.none) rfl (wpAny_pure ?_))
 simp only [if_true]
 refine wpAny_bind (wpAny_rule (wpAny_bind (wpAny_field hz rfl (x:=.ref to) rfl (wpAny_bind (wpAny_setField_rec hz (by simp) fun g1 z1 e1=>?_)))))
 replace z1:IsZip g1 z ti to .ellipsis:=z1
 refine wpAny_bind ?_
 simp only [List.zipIdx_cons,List.zipIdx_nil,List.forIn_cons,List.forIn_nil]
 refine wpAny_bind (wpAny_bind (wpAny_onRaise ?_))
 show wpAny _ _ (Builtin.SmallTypes.nextOf (.ref i1)>>=_) _ _ _
 cases hx:xs[k]? with
 | none =>
  refine wpAny_bind (Zey hh (hi1.extBut e1.extBut D.i1z) (t1.extBut e1.extBut D.l1z) hx fun g2 e e2 he=>?_)
  obtain ⟨oe,ho,hc⟩:=he
  have z2:IsZip g2 z ti to .ellipsis:=e2 _ _ D.i1z.symm z1
  have ez:e≠z:=fun x=>by subst x;rw [z2] at ho;cases ho;simp at hc
  exact wpAny_setField_rec z2 (by simp) fun g3 _ e3=>q g3 e (fun c o c1 _ c3 _ x=>e3.extBut _ _ c1 (e2 _ _ c3 (e1.extBut _ _ c1 x))) ⟨oe,e3.extBut _ _ ez ho,hc⟩
 | some x =>
  have hy:ys[k]?=none:=by rcases hend with h | h;rw [hx] at h;cases h;exact h
  refine wpAny_bind (Zex (hi1.extBut e1.extBut D.i1z) (t1.extBut e1.extBut D.l1z) hx fun g2 j1 e2=>wpAny_pure ?_)
  have to2:IsPair g2 to a b:=e2.extBut _ _ D.TOi1 (e1.extBut _ _ D.TOz hto)
  refine wpAny_bind (wpAny_seqItems to2 rfl (wpAny_bind (wpAny_updateSeq_pair to2 fun g3 to3 e3=>?_)))
  refine wpAny_bind (wpAny_letGo (wpAny_pure (wpAny_bind (wpAny_bind (wpAny_onRaise ?_)))))
  show wpAny _ _ (Builtin.SmallTypes.nextOf (.ref i2)>>=_) _ _ _
  refine wpAny_bind (Zey hh (((hi2.extBut e1.extBut D.i2z).extBut e2.extBut D.i12.symm).extBut e3.extBut D.TOi2.symm) (((t2.extBut e1.extBut D.l2z).extBut e2.extBut D.l2i1).extBut e3.extBut D.l2TO) hy fun g4 e e4 he=>?_)
  obtain ⟨oe,ho,hc⟩:=he
  have z4:IsZip g4 z ti to .ellipsis:=e4 _ _ D.i2z.symm (e3.extBut _ _ D.TOz.symm (e2.extBut _ _ D.i1z.symm z1))
  have ez:e≠z:=fun x=>by subst x;rw [z4] at ho;cases ho;simp at hc
  exact wpAny_setField_rec z4 (by simp) fun g5 _ e5=>q g5 e (fun c o c1 c2 c3 c4 x=>e5.extBut _ _ c1 (e4 _ _ c4 (e3.extBut _ _ c2 (e2.extBut _ _ c3 (e1.extBut _ _ c1 x))))) ⟨oe,e5.extBut _ _ ez ho,hc⟩
theorem Zlp {z ti to i1 i2 l1 l2:Addr}{k:Nat}{xs ys:Array Value}{x y:Value}{Q:Option Value→Shared→Prop}(D:ZipApart z ti to i1 i2 l1 l2) (st:ZAt s.heap z ti to i1 i2 l1 l2 k .none)
  (t1:s.heap.IsTuple l1 xs) (t2:s.heap.IsTuple l2 ys) (hx:xs[k]?=some x) (hy:ys[k]?=some y)
  (q:∀ g,ZAt g z ti to i1 i2 l1 l2 (k + 1) (rawInt s.heap.objs.size)→IsPair g s.heap.objs.size x y→(∀ c o,c≠z→c≠to→c≠i1→c≠i2→s.heap.get? c=some o→g.get? c=some o)→Q (some (.ref s.heap.objs.size)) { s with heap:=g }):
  wpAny (model prog w) A (pyNext (.ref z)) Q E s:=by
 have hT:s.TypeIs (.ref z) "zip":=⟨_,st.z,rfl⟩
 unfold pyNext
 exact wpAny_bind (wpAny_attempt (wpAny_callSpecial?_slot (name:=Str.ofString "__next__") hT PySem.F.slot_zip_next (wpAny_call_entry PySem.F.slot_zip_next hT PySem.F.entry_zip_next (Zrz D st t1 t2 hx hy fun g a1 a2 a3=>wpAny_pure (q g a1 a2 a3)) (PySem.F.args_zip_next_1 _))))
theorem Zlq {z ti to i1 i2 l1 l2:Addr}{k:Nat}{xs ys:Array Value}{Q:Option Value→Shared→Prop}(hh:A.handled=none) (D:ZipApart z ti to i1 i2 l1 l2) (st:ZAt s.heap z ti to i1 i2 l1 l2 k .none)
  (t1:s.heap.IsTuple l1 xs) (t2:s.heap.IsTuple l2 ys) (hend:xs[k]?=none∨ys[k]?=none)
  (q:∀ g,(∀ c o,c≠z→c≠to→c≠i1→c≠i2→s.heap.get? c=some o→g.get? c=some o)→Q none { s with heap:=g }):wpAny (model prog w) A (pyNext (.ref z)) Q E s:=by
 have hT:s.TypeIs (.ref z) "zip":=⟨_,st.z,rfl⟩
 unfold pyNext
 refine wpAny_bind (wpAny_attempt (wpAny_callSpecial?_slot (name:=Str.ofString "__next__") hT PySem.F.slot_zip_next (wpAny_call_entry PySem.F.slot_zip_next hT PySem.F.entry_zip_next (Zr0 hh D st t1 t2 hend fun g e hk he=>?_) (PySem.F.args_zip_next_1 _))))
 obtain ⟨o,ho,hc⟩:=he
 refine wpAny_bind (wpAny_isInstance (T:="StopIteration") (b:=true) ⟨o,ho,hc⟩ isSubtype_stop ?_)
 exact wpAny_pure (q _ hk)
end
end L2
namespace L2
open PySem PySem.Spec PyProof.Rows
def Itp (ps:List (V×V)) (Ok:Hp→Prop):It :=
 ⟨fun i H=>i<ps.length∧Ok H,fun i H v H'=>∃ t p,ps[i]?=some p∧H t=none∧v=.ref t∧H'=upd H t (.tup [p.1,p.2]),fun i H=>ps.length≤i∧Ok H⟩
section
variable {prog:Program} {w:World} {A:Around} {E:Value→Shared→Prop} {s:Shared}
abbrev zg1 (h:Heap) (l1:Addr):Heap:=h.push { cls:=.type "tuple_iterator",data:=.fields #[.ref l1,.int 0 0] }
abbrev zg2 (h:Heap) (l1 l2:Addr):Heap:=(zg1 h l1).push { cls:=.type "tuple_iterator",data:=.fields #[.ref l2,.int 0 0] }
abbrev zg3 (h:Heap) (l1 l2:Addr):Heap:=(zg2 h l1 l2).push { cls:=.type "tuple",data:=.seq #[.ref h.objs.size,.ref (zg1 h l1).objs.size] }
abbrev zg4 (h:Heap) (l1 l2:Addr):Heap:=(zg3 h l1 l2).push { cls:=.type "tuple",data:=.seq #[.none,.none] }
abbrev zg5 (h:Heap) (l1 l2:Addr):Heap:=(zg4 h l1 l2).push { cls:=.type "zip",data:=.fields #[.none,.bool false,.bool false,.ref (zg2 h l1 l2).objs.size,.ref (zg3 h l1 l2).objs.size] }
theorem Zra (l1 l2:Addr) (xs ys:Array Value):Meets (Builtin.«zip.__new__» ⟨[.type "zip",.ref l1,.ref l2],[]⟩) (fun _ R s=>s.heap.IsTuple l1 xs∧s.heap.IsTuple l2 ys ∧
   R (.ok (.ret (.ref (zg4 s.heap l1 l2).objs.size))) { s with heap:=zg5 s.heap l1 l2 }):=
 .of_wp fun prog w A R s h=>by
  obtain ⟨hp,g,d,tk,os⟩:=s
  obtain ⟨t1,t2,h⟩:=h
  have hsub:=sub_zip
  have T1:Heap.IsTuple (Shared.heap ⟨hp,g,d,tk,os⟩) l1 xs:=t1
  have T2:Heap.IsTuple (Shared.heap ⟨hp.push { cls:=.type "tuple_iterator",data:=.fields #[.ref l1,.int 0 0] },g,d,tk,os⟩) l2 ys:=Heap.IsTuple.push t2 _
  wp_walk using wpAny_pyIter_tuple T1,wpAny_pyIter_tuple T2
  exact ⟨_,rfl,h⟩
theorem Zuq {l1 l2:Addr}{xs ys:Array Value}{Q:Value→Shared→Prop} (t1:s.heap.IsTuple l1 xs) (t2:s.heap.IsTuple l2 ys)
  (q:∀ g,ZAt g (s.heap.objs.size + 4) (s.heap.objs.size + 2) (s.heap.objs.size + 3) s.heap.objs.size (s.heap.objs.size + 1) l1 l2 0 .none→(∀ c o,s.heap.get? c=some o→g.get? c=some o)→Q (.ref (s.heap.objs.size + 4)) { s with heap:=g }):
  wpAny (model prog w) A (call (.type "zip") [.ref l1,.ref l2]) Q E s:=by
 refine callType_new PySem.F.called_zip (by decide) (PySem.F.typeCall_zip_2 _ _) (PySem.F.newCall_zip_2 _ _) (fun obj=>PySem.F.args_object_init_3 obj _ _) PySem.F.entry_zip_new (Zra l1 l2 xs ys) ⟨t1,t2,?_⟩
 have n1:(zg1 s.heap l1).objs.size=s.heap.objs.size + 1:=Heap.size_push ..
 have n2:(zg2 s.heap l1 l2).objs.size=s.heap.objs.size + 2:=by rw [Heap.size_push,n1]
 have n3:(zg3 s.heap l1 l2).objs.size=s.heap.objs.size + 3:=by rw [Heap.size_push,n2]
 have n4:(zg4 s.heap l1 l2).objs.size=s.heap.objs.size + 4:=by rw [Heap.size_push,n3]
 have up:∀ {h:Heap} {a:Addr} {o:Obj} (x:Obj),h.get? a=some o→(h.push x).get? a=some o:=fun x e=>Heap.get?_push_of_some _ e
 have f5:(zg5 s.heap l1 l2).get? (zg4 s.heap l1 l2).objs.size=some _:=Heap.get?_push_size _ rfl
 have f4:(zg5 s.heap l1 l2).get? (zg3 s.heap l1 l2).objs.size=some _:=up _ (Heap.get?_push_size _ rfl)
 have f3:(zg5 s.heap l1 l2).get? (zg2 s.heap l1 l2).objs.size=some _:=up _ (up _ (Heap.get?_push_size _ rfl))
 have f2:(zg5 s.heap l1 l2).get? (zg1 s.heap l1).objs.size=some _:=up _ (up _ (up _ (Heap.get?_push_size _ rfl)))
 have f1:(zg5 s.heap l1 l2).get? s.heap.objs.size=some _:=up _ (up _ (up _ (up _ (Heap.get?_push_size _ rfl))))
 show _∧_
 rw [n2,n3,n4] at f5
 rw [n1,n2] at f3
 rw [n3] at f4
 rw [n1] at f2
 rw [n4]
 exact ⟨⟨_,f5,rfl⟩,q _ ⟨f5,f3,⟨_,_,f4⟩,⟨_,f1,rfl,rfl⟩,⟨_,f2,rfl,rfl⟩⟩ fun c o x=>up _ (up _ (up _ (up _ (up _ x))))⟩
end
theorem Zo7 {xs ys:List V}{i:Nat}{p:V×V}(h:(xs.zip ys)[i]?=some p):xs[i]?=some p.1∧ys[i]?=some p.2:=by
 rw [List.getElem?_zip_eq_some] at h
 exact h
theorem Inv.turnedNewL {X:Cx}{pins:List (Addr×Obj)}{σ:St}{H:Hp}{s:Shared}{h':Heap}{t':Nat}{its:List Addr}{a:Addr}{o:HO}(I:Inv X pins σ H s) (k:∀ b u,b∉its→s.heap.get? b=some u→h'.get? b=some u)
  (f:∀ b∈its,Zj2 X pins H b) (ha:s.heap.objs.size≤a) (new:Zbq X.prog X.w (upd H a o) h' a o):Inv X pins σ (upd H a o) { s with heap:=h',toks:=t' }:=by
 have nit:∀ b u,H b=some u→b∉its:=fun b u e z=>by have:=(f b z).1;rw [this] at e;cases e
 have na:∀ b u,H b=some u→b≠a:=fun b u e=>Nat.ne_of_lt (Nat.lt_of_lt_of_le (I.hok.lt e) ha)
 have low:∀ {b u},H b=some u→(upd H a o) b=some u:=fun {b u} e=>by rw [Zac (na b u e)];exact e
 refine I.step (g':=s.gens) (d':=s.drawn) (ch:=its) (fun b hb=>?_) (fun b u _ _ hc e _=>k b u hc e) (fun b u _ _ hc e _=>⟨u.slots,k b u hc e⟩)
  (fun b u _ e n=>by rw [Zac (Nat.ne_of_lt (Nat.lt_of_lt_of_le (Heap.lt_size e) ha))];exact n)
  (fun b u hc e=>⟨u,k b u hc e⟩) (fun _ _ e=>low e) (fun _ _ _ e=>low e) (fun b ps e=>⟨#[],by rw [low e];simp⟩) (fun m hm=>?_) (fun b u e=>?_) I.bare
 ·obtain ⟨f0,f1,f2,f3,f4,f5⟩:=f b hb
  exact ⟨f3,f1,f4,f5⟩
 ·obtain ⟨o',es,ep,ho,r⟩:=hm
  exact ⟨o',es,ep,k _ o' (fun z=>(f _ z).2.1 rfl) ho,r⟩
 ·by_cases hb:b=a
  ·subst hb
   rw [uS] at e
   cases e
   exact new
  ·rw [Zac hb] at e
   refine (I.hok b u e).stay (fun c v hc q=>k c v ?_ q) (fun _ q=>low q) fun _ _ q=>low q
   rcases hc with z | z
   ·rw [z];exact nit b u e
   ·exact nit c _ z
theorem Inv.turnedL {X:Cx}{pins:List (Addr×Obj)}{σ:St}{H:Hp}{s:Shared}{h':Heap}{t':Nat}{its:List Addr}(I:Inv X pins σ H s) (k:∀ b u,b∉its→s.heap.get? b=some u→h'.get? b=some u)
  (f:∀ b∈its,Zj2 X pins H b):Inv X pins σ H { s with heap:=h',toks:=t' }:=by
 have nit:∀ b u,H b=some u→b∉its:=fun b u e z=>by have:=(f b z).1;rw [this] at e;cases e
 refine I.step (g':=s.gens) (d':=s.drawn) (ch:=its) (fun b hb=>?_) (fun b u _ _ hc e _=>k b u hc e) (fun b u _ _ hc e _=>⟨u.slots,k b u hc e⟩)
  (fun b u _ e n=>n) (fun b u hc e=>⟨u,k b u hc e⟩) (fun _ _ e=>e) (fun _ _ _ e=>e) (fun b ps e=>⟨#[],by rw [e];simp⟩) (fun m hm=>?_) (fun b u e=>?_) I.bare
 ·obtain ⟨f0,f1,f2,f3,f4,f5⟩:=f b hb
  exact ⟨f3,f1,f4,f5⟩
 ·obtain ⟨o',es,ep,ho,r⟩:=hm
  exact ⟨o',es,ep,k _ o' (fun z=>(f _ z).2.1 rfl) ho,r⟩
 ·refine (I.hok b u e).stay (fun c v hc q=>k c v ?_ q) (fun _ q=>q) fun _ _ q=>q
  rcases hc with z | z
  ·rw [z];exact nit b u e
  ·exact nit c _ z
theorem Zu8 {P:Program}{w:World}{K:W.Frag}{elts:List Expr}{x1}{pos:Pos}{xs ys:List V} (a b z ti to i1 i2:Addr) (D:ZipApart z ti to i1 i2 a b):
  Zrs P w K (.Tuple elts x1 pos) (Itp (xs.zip ys) fun H=>SqT K H a xs∧SqT K H b ys) [z,ti,to,i1,i2] z (fun i h=>ZAt h z ti to i1 i2 a b i .none) where
 mem:=by simp
 obj:=fun i h st c hc=>by
  have hc':c=z∨c=ti∨c=to∨c=i1∨c=i2:=by simpa using hc
  obtain ⟨x,y,h3⟩:=st.to
  obtain ⟨o1,e1,_,d1⟩:=st.i1
  obtain ⟨o2,e2,_,d2⟩:=st.i2
  rcases hc' with rfl | rfl | rfl | rfl | rfl
  ·exact ⟨_,st.z,fun v q=>by cases q⟩
  ·exact ⟨_,st.ti,fun v q=>by cases q⟩
  ·exact ⟨_,h3,fun v q=>by cases q⟩
  ·exact ⟨_,e1,fun v q=>by rw [d1] at q;cases q⟩
  ·exact ⟨_,e2,fun v q=>by rw [d2] at q;cases q⟩
 keep:=fun i h h' st k=>st.at k
 item:=by
  intro X hP hw hK hc i pins s σ H E I hf st hg
  subst hP hw hK
  obtain ⟨hi,ha,hb⟩:=hg
  obtain ⟨p,hp⟩:∃ p,(xs.zip ys)[i]?=some p:=⟨(xs.zip ys)[i]'hi,List.getElem?_eq_getElem hi⟩
  obtain ⟨hx,hy⟩:=Zo7 hp
  obtain ⟨its,rv,pa,_⟩:=I.tuple ha
  obtain ⟨jts,rw',pb,_⟩:=I.tuple hb
  obtain ⟨u,hu,ru⟩:=rv.get hx
  obtain ⟨v,hv,rv'⟩:=rw'.get hy
  refine Zlp D st (show s.heap.IsTuple a its.toArray from pa) (show s.heap.IsTuple b jts.toArray from pb) (by simpa using hu) (by simpa using hv) fun g st' hpr hk=>?_
  refine ⟨_,rfl,?_⟩
  refine wpAny_letOwnedTupleGo_zip (s:={ s with heap:=g }) st'.z fun g' z' sb=>?_
  have zlt:z<s.heap.objs.size:=Heap.lt_size st.z
  have nz:s.heap.objs.size≠z:=Nat.ne_of_gt zlt
  have sb':Heap.ExtBut z g g':=sb.extBut
  have hT:IsPair g' s.heap.objs.size u v:=sb' _ _ nz hpr
  have I1:Inv X pins σ (upd H s.heap.objs.size (.tup [p.1,p.2])) { s with heap:=g' }:=I.turnedNewL (t':=s.toks) (its:=[z,ti,to,i1,i2]) (fun c o hc e=>sb' c o (fun q=>hc (by simp [q])) (hk c o (fun q=>hc (by simp [q])) (fun q=>hc (by simp [q])) (fun q=>hc (by simp [q])) (fun q=>hc (by simp [q])) e)) hf (Nat.le_refl _)
   ⟨sL (by show 2≤100000;decide),[u,v],.cons ru (.cons rv' .nil),⟨_,hT,rfl,_,rfl⟩⟩
  have st2:ZAt g' z ti to i1 i2 a b (i + 1) .none:=by
   obtain ⟨a1,a2,a3⟩:=st'.to
   exact ⟨z',sb' _ _ D.TIz st'.ti,⟨a1,a2,sb' _ _ D.TOz a3⟩,st'.i1.extBut sb' D.i1z,st'.i2.extBut sb' D.i2z⟩
  refine ⟨.ref s.heap.objs.size,_,I1,rfl,⟨s.heap.objs.size,p,hp,I.hok.fresh (Nat.le_refl _),rfl,rfl⟩,st2,fun c hc=>?_⟩
  have lt:∀ c∈[z,ti,to,i1,i2],c<s.heap.objs.size:=fun c hc=>by
   have hc':c=z∨c=ti∨c=to∨c=i1∨c=i2:=by simpa using hc
   obtain ⟨a1,a2,a3⟩:=st.to
   obtain ⟨o1,e1,_⟩:=st.i1
   obtain ⟨o2,e2,_⟩:=st.i2
   rcases hc' with rfl | rfl | rfl | rfl | rfl
   ·exact zlt
   ·exact Heap.lt_size st.ti
   ·exact Heap.lt_size a3
   ·exact Heap.lt_size e1
   ·exact Heap.lt_size e2
  rw [Zac (Nat.ne_of_lt (lt c hc))]
  exact (hf c hc).1
 done:=by
  intro X hP hw hK hc i pins s σ H E I hf st hg
  subst hP hw hK
  obtain ⟨hi,ha,hb⟩:=hg
  obtain ⟨its,rv,pa,_⟩:=I.tuple ha
  obtain ⟨jts,rw',pb,_⟩:=I.tuple hb
  have l1:=rv.length
  have l2:=rw'.length
  have hend:its.toArray[i]?=none∨jts.toArray[i]?=none:=by
   rw [List.length_zip] at hi
   rcases Nat.le_total xs.length ys.length with h | h
   ·rw [Nat.min_eq_left h] at hi
    exact .inl (by simp;omega)
   ·rw [Nat.min_eq_right h] at hi
    exact .inr (by simp;omega)
  exact Zlq (I.ok.hd hc) D st (show s.heap.IsTuple a its.toArray from pa) (show s.heap.IsTuple b jts.toArray from pb) hend fun g hk=>⟨rfl,I.turnedL (t':=s.toks) (its:=[z,ti,to,i1,i2]) (fun c o hc e=>hk c o (fun q=>hc (by simp [q])) (fun q=>hc (by simp [q])) (fun q=>hc (by simp [q])) (fun q=>hc (by simp [q])) e) hf⟩
 self:=fun A i s Q E st h=>wpAny_pyIter_zip st.z h
section
variable {X:Cx}
def Z6e (K:W.Frag) (ta:TA):TI:=fun σ H R=>ta σ H fun vs H1=>∃ (a b:Addr) (xs ys:List V),vs=[.ref a,.ref b]∧SqT K H1 a xs∧SqT K H1 b ys∧R (Itp (xs.zip ys) fun H=>SqT K H a xs∧SqT K H b ys) H1
theorem Z0o {elts:List Expr}{x1}{tpos:Pos}{a b:Expr}{ta:TA}{p pos:Pos}(hg:Gl X "zip") (hm:X.mg "zip"=none) (ha:PA X [a,b] ta) (hs:starEach [a,b] X.env=[(false,eval a X.env),(false,eval b X.env)]:=by rfl) (hs2:starEach [b] X.env=[(false,eval b X.env)]:=by rfl):
  PI X (.Tuple elts x1 tpos) (.Call (.Name "zip" p) [a,b] [] pos) (Z6e X.K ta):=by
 intro pins s σ H R I h
 refine Call_ (Zjf I hg hm boot_zip (PyProof.Rows.callWith_type1 (thn (ha pos pins s σ H _ I h) fun us s1 ⟨vs,H1,I1,r1,q1⟩=>?_) (by rw [hs,hs2]) (by rw [hs2];rfl)))
 obtain ⟨l1,l2,xs,ys,e,t1,t2,q⟩:=q1
 subst e
 cases r1 with
 | cons r rr =>
  cases rr with
  | cons r' rr =>
   cases rr
   obtain rfl:_=Value.ref l1:=r
   obtain rfl:_=Value.ref l2:=r'
   obtain ⟨its,rv,pa,_⟩:=I1.tuple t1
   obtain ⟨jts,rw',pb,_⟩:=I1.tuple t2
   have b1:s1.heap.IsTuple l1 its.toArray:=pa
   have b2:s1.heap.IsTuple l2 jts.toArray:=pb
   have lt1:l1<s1.heap.objs.size:=let ⟨_,e,_⟩:=b1;Heap.lt_size e
   have lt2:l2<s1.heap.objs.size:=let ⟨_,e,_⟩:=b2;Heap.lt_size e
   refine Zuq b1 b2 fun g st hk=>wpAny_pyIter_zip (s:={ s1 with heap:=g }) st.z ?_
   have D:ZipApart (s1.heap.objs.size + 4) (s1.heap.objs.size + 2) (s1.heap.objs.size + 3) s1.heap.objs.size (s1.heap.objs.size + 1) l1 l2:=W.ktu_apart _ _ _ lt1 lt2
   refine ⟨_,[s1.heap.objs.size + 4,s1.heap.objs.size + 2,s1.heap.objs.size + 3,s1.heap.objs.size,s1.heap.objs.size + 1],_,_,H1,rfl,I1.kept (t':=s1.toks) fun b o e=>hk b o e,Zu8 l1 l2 _ _ _ _ _ D,st,fun c hc=>?_,q⟩
   have hc':c=s1.heap.objs.size + 4∨c=s1.heap.objs.size + 2∨c=s1.heap.objs.size + 3∨c=s1.heap.objs.size∨c=s1.heap.objs.size + 1:=by simpa using hc
   have ge:s1.heap.objs.size≤c:=by
    rcases hc' with rfl | rfl | rfl | rfl | rfl
    ·exact Nat.le_add_right _ _
    ·exact Nat.le_add_right _ _
    ·exact Nat.le_add_right _ _
    ·exact Nat.le_refl _
    ·exact Nat.le_add_right _ _
   exact I1.fpOk ge (I1.hok.fresh ge)
end
end L2
namespace L2
open PySem PySem.Spec PyProof.Rows
theorem Zuh {prog:Program}{w:World}{A:Around}(hh:A.handled=none) (p t:Addr) (ne:t≠p) (us:Array Value):Draws prog w A p [p,t] us.size (fun i v=>us[i]?=some v) (fun i h=>h.IsTupleIter p t i∧h.IsTuple t us) where
 live:=fun _ _ st=>let ⟨o,ho,_⟩:=st.1;⟨o,ho⟩
 frame:=fun _ _ _ st hk=>⟨st.1.at fun o e=>hk p (by simp) o e,let ⟨o,ho,r⟩:=st.2;⟨o,hk t (by simp) o ho,r⟩⟩
 item:=fun i s Q E hi st q=>Zex st.1 st.2 (u:=us[i]) (by simp [hi]) fun g st' sb=>q _ g s.toks (by simp [hi]) ⟨st',st.2.extBut sb.extBut ne⟩ sb
 done:=fun s Q E st q=>Zey hh st.1 st.2 (by simp) q
def SIt (b:Bool) (h:Heap) (p a:Addr) (i:Nat):Prop:=if b=true then h.IsListIter p a i else h.IsTupleIter p a i
def SSq (b:Bool) (h:Heap) (a:Addr) (us:Array Value):Prop:=if b=true then h.IsList a us else h.IsTuple a us
theorem SIt.at {b:Bool}{h h':Heap}{p a:Addr}{i:Nat}(x:SIt b h p a i) (e:∀ o,h.get? p=some o→h'.get? p=some o):SIt b h' p a i:=by
 cases b with
 | true=>exact Heap.IsListIter.at (show h.IsListIter p a i from x) e
 | false=>exact Heap.IsTupleIter.at (show h.IsTupleIter p a i from x) e
theorem SIt.obj {b:Bool}{h:Heap}{p a:Addr}{i:Nat}(x:SIt b h p a i):∃ o,h.get? p=some o∧∀ v,o.data≠.cell v:=by
 cases b with
 | true =>
  obtain ⟨o,e,_,d⟩:=(show h.IsListIter p a i from x)
  exact ⟨o,e,fun v z=>by rw [d] at z;cases z⟩
 | false =>
  obtain ⟨o,e,_,d⟩:=(show h.IsTupleIter p a i from x)
  exact ⟨o,e,fun v z=>by rw [d] at z;cases z⟩
theorem Zui {prog:Program}{w:World}{A:Around}(b:Bool) (hh:A.handled=none) (p t:Addr) (ne:t≠p) (us:Array Value):Draws prog w A p [p,t] us.size (fun i v=>us[i]?=some v) (fun i h=>SIt b h p t i∧SSq b h t us):=by
 cases b with
 | true=>exact Draws.list hh p t ne us
 | false=>exact Zuh hh p t ne us
theorem Inv.sseq {X:Cx}{pins:List (Addr×Obj)}{σ:St}{H:Hp}{s:Shared}{b:Bool}{a:Addr}{xs:List V}(I:Inv X pins σ H s) (h:SqB X.K b H a xs):∃ its:List Value,Zbr xs its∧SSq b s.heap a its.toArray:=by
 cases b with
 | true =>
  obtain ⟨its,rv,p,_⟩:=I.list (show SqL X.K H a xs from h)
  exact ⟨its,rv,p.isList⟩
 | false =>
  obtain ⟨its,rv,p,_⟩:=I.tuple (show SqT X.K H a xs from h)
  exact ⟨its,rv,p⟩
def Zjn (xs:List V):List (V×V):=(Zft 0 xs.length).zip xs
theorem Zei (xs:List V):(Zjn xs).length=xs.length:=by
 unfold Zjn
 rw [List.length_zip,Zbm,Nat.min_self]
theorem Zf0 {xs:List V}{i:Nat}{p:V×V}(h:(Zjn xs)[i]?=some p):p.1=.int i∧xs[i]?=some p.2:=by
 obtain ⟨h1,h2⟩:=Zo7 h
 obtain ⟨_,e⟩:=Zc0 h1
 exact ⟨by rw [e,Int.zero_add],h2⟩
section
variable {prog:Program} {w:World} {A:Around} {E:Value→Shared→Prop} {s:Shared}
theorem Zoq (l:Addr) (us:Array Value):Meets (Builtin.«enumerate.__new__» ⟨[.type "enumerate",.ref l],[]⟩) (fun _ R s=>s.heap.IsTuple l us ∧
   R (.ok (.ret (.ref (s.heap.push { cls:=.type "tuple_iterator",data:=.fields #[.ref l,.int 0 0] }).objs.size)))
    { s with heap:=(s.heap.push { cls:=.type "tuple_iterator",data:=.fields #[.ref l,.int 0 0] }).push { cls:=.type "enumerate",data:=.fields #[.none,.bool false,.ref s.heap.objs.size,rawInt 0,.none,.none] } }):=
 .of_wp fun prog w A R s h=>by
  obtain ⟨hp,g,d,tk,os⟩:=s
  obtain ⟨ht,h⟩:=h
  have hsub:=sub_enumerate
  obtain ⟨⟨c,dct,dt,sl⟩,hl,hc,n,hd⟩:=id ht
  replace hc:c=.type "tuple":=hc
  replace hd:dt=.seq us n:=hd
  subst hc hd
  have hT:Heap.IsTuple (Shared.heap ⟨hp,g,d,tk,os⟩) l us:=ht
  wp_walk using AutoSeq1.wpAny_loadPart' hl
  refine wpAny_stack_any fun st=>wpAny_pure ?_
  split
  ·rename_i c _ _ _ _ _
   cases (c == Value.type "enumerate")
   ·wp_walk using AutoSeq1.wpAny_loadPart' hl,wpAny_pyIter_tuple hT
    exact ⟨_,rfl,h⟩
   ·wp_walk using AutoSeq1.wpAny_loadPart' hl,wpAny_pyIter_tuple hT
    exact ⟨_,rfl,h⟩
  ·wp_walk using AutoSeq1.wpAny_loadPart' hl,wpAny_pyIter_tuple hT
   exact ⟨_,rfl,h⟩
theorem Zur (b:Bool) {l:Addr}{us:Array Value}{Q:Value→Shared→Prop}(hl:SSq b s.heap l us)
  (q:∀ g,IsEnum g (s.heap.objs.size + 1) s.heap.objs.size 0 .none→SIt b g s.heap.objs.size l 0→(∀ c o,s.heap.get? c=some o→g.get? c=some o)→Q (.ref (s.heap.objs.size + 1)) { s with heap:=g }):
  wpAny (model prog w) A (call (.type "enumerate") [.ref l]) Q E s:=by
 cases b with
 | true=>exact call_enumerate_list (show s.heap.IsList l us from hl) fun g h1 h2 _ h4=>q g h1 h2 h4
 | false =>
  refine callType_new PySem.F.called_enumerate (by decide) (PySem.F.typeCall_enumerate_1 _) (PySem.F.newCall_enumerate_1 _) (fun obj=>PySem.F.args_object_init_2 obj _) PySem.F.entry_enumerate_new (Zoq l us) ⟨hl,?_⟩
  have n1:(zg1 s.heap l).objs.size=s.heap.objs.size + 1:=Heap.size_push ..
  show _∧_
  rw [n1]
  have he:IsEnum ((zg1 s.heap l).push { cls:=.type "enumerate",data:=.fields #[.none,.bool false,.ref s.heap.objs.size,rawInt 0,.none,.none] }) (s.heap.objs.size + 1) s.heap.objs.size 0 .none:=by
   have:=Heap.get?_push_size (zg1 s.heap l) (o:={ cls:=.type "enumerate",data:=.fields #[.none,.bool false,.ref s.heap.objs.size,rawInt 0,.none,.none] }) rfl
   rw [n1] at this
   exact this
  exact ⟨⟨_,he,rfl⟩,q _ he ⟨_,Heap.get?_push_of_some _ (Heap.get?_push_size _ rfl),rfl,rfl⟩ fun c o x=>Heap.get?_push_of_some _ (Heap.get?_push_of_some _ x)⟩
end
theorem Zug {prog:Program}{w:World}{A:Around}{E:Value→Shared→Prop}{s:Shared}{e p:Addr}{i:Int}{old:Value}{Q:Option Value→Shared→Prop}(hh:A.handled=none) (he:IsEnum s.heap e p i old)
  (nx:∀ (Q:Value→Shared→Prop) (E:Value→Shared→Prop),(∀ g e,Heap.ExtBut p s.heap g→(∃ o,g.get? e=some o∧o.cls=.type "StopIteration")→E (.ref e) { s with heap:=g })→wpAny (model prog w) A.in1 (Builtin.SmallTypes.nextOf (.ref p)) Q E s)
  (q:∀ g,Heap.ExtBut p s.heap g→Q none { s with heap:=g }):wpAny (model prog w) A (pyNext (.ref e)) Q E s:=by
 have hT:s.TypeIs (.ref e) "enumerate":=⟨_,he,rfl⟩
 unfold pyNext
 refine wpAny_bind (wpAny_attempt (wpAny_callSpecial?_slot (name:=Str.ofString "__next__") hT PySem.F.slot_enumerate_next (wpAny_call_entry PySem.F.slot_enumerate_next hT PySem.F.entry_enumerate_next ?_ (PySem.F.args_enumerate_next_1 _))))
 show wpAny _ _ (field (.ref e) 2>>=_) _ _ _
 refine wpAny_bind (wpAny_field he rfl (x:=.ref p) rfl (wpAny_bind (nx _ _ fun g x eb hx=>?_)))
 obtain ⟨o,ho,hc⟩:=hx
 refine wpAny_bind (wpAny_isInstance (T:="StopIteration") (b:=true) ⟨o,ho,hc⟩ isSubtype_stop ?_)
 exact wpAny_pure (q _ eb)
theorem Zr8 {P:Program}{w:World}{K:W.Frag}{elts:List Expr}{x1}{pos:Pos}{xs:List V}(b:Bool) (a e p:Addr) (ep:e≠p) (ea:e≠a) (ap:a≠p):
  Zrs P w K (.Tuple elts x1 pos) (Itp (Zjn xs) fun H=>SqB K b H a xs) [e,p] e (fun i h=>(∃ old,IsEnum h e p i old)∧SIt b h p a i) where
 mem:=by simp
 obj:=fun i h st c hc=>by
  have hc':c=e∨c=p:=by simpa using hc
  obtain ⟨⟨old,he⟩,si⟩:=st
  rcases hc' with rfl | rfl
  ·exact ⟨_,he,fun v q=>by cases q⟩
  ·exact si.obj
 keep:=fun i h h' st k=>by
  obtain ⟨⟨old,he⟩,si⟩:=st
  exact ⟨⟨old,k e (by simp) _ he⟩,si.at fun o q=>k p (by simp) o q⟩
 item:=by
  intro X hP hw hK hc i pins s σ H E I hf st hg
  subst hP hw hK
  obtain ⟨hi,ha⟩:=hg
  obtain ⟨⟨old,he⟩,si⟩:=st
  obtain ⟨pr,hp⟩:∃ p,(Zjn xs)[i]?=some p:=⟨(Zjn xs)[i]'hi,List.getElem?_eq_getElem hi⟩
  obtain ⟨e1,hx⟩:=Zf0 hp
  obtain ⟨its,rv,sq⟩:=I.sseq ha
  obtain ⟨u,hu,ru⟩:=rv.get hx
  have hil:i<its.toArray.size:=by rw [Zei] at hi;have:=rv.length;simp;omega
  have D:=Zui (prog:=X.prog) (w:=X.w) (A:=X.A.in1) b (I.ok.hd hc) p a ap its.toArray
  refine wpAny_pyNext_enum_itemD D he ⟨si,sq⟩ hil ep (by simp;exact ⟨ep,ea⟩) fun x g tk hPx ho hst hT _ hk=>?_
  have exu:x=u:=by
   have h1:its.toArray[i]?=some x:=hPx
   have h2:its.toArray[i]?=some u:=by simpa using hu
   rw [h1] at h2
   exact Option.some.inj h2
  subst exu
  refine ⟨_,rfl,?_⟩
  refine wpAny_letOwnedTupleGo_enum (s:={ s with heap:=g,toks:=tk + 1 }) ho fun g' he' sb=>?_
  have elt:e<s.heap.objs.size:=Heap.lt_size he
  have plt:p<s.heap.objs.size:=let ⟨o,q,_⟩:=si.obj;Heap.lt_size q
  have sb':Heap.ExtBut e g g':=sb.extBut
  have hT':IsPair g' s.heap.objs.size (.int i tk) x:=sb' _ _ (Nat.ne_of_gt elt) hT
  have I1:Inv X pins σ (upd H s.heap.objs.size (.tup [pr.1,pr.2])) { s with heap:=g',toks:=tk + 1 }:=I.turnedNewL (t':=tk + 1) (its:=[e,p]) (fun c o hc q=>sb' c o (fun z=>hc (by simp [z])) (hk c o (fun z=>hc (by simp [z])) (fun z=>hc (by simp [z])) q)) hf (Nat.le_refl _)
   ⟨sL (by show 2≤100000;decide),[.int i tk,x],.cons (by rw [e1];exact ⟨tk,rfl⟩) (.cons ru .nil),⟨_,hT',rfl,_,rfl⟩⟩
  refine ⟨.ref s.heap.objs.size,_,I1,rfl,⟨s.heap.objs.size,pr,hp,I.hok.fresh (Nat.le_refl _),rfl,rfl⟩,⟨⟨x,by simpa using he'⟩,hst.1.at fun o q=>sb' _ o (Ne.symm ep) q⟩,fun c hc=>?_⟩
  have hc':c=e∨c=p:=by simpa using hc
  have ne:c≠s.heap.objs.size:=by
   rcases hc' with rfl | rfl
   ·exact Nat.ne_of_lt elt
   ·exact Nat.ne_of_lt plt
  rw [Zac ne]
  exact (hf c hc).1
 done:=by
  intro X hP hw hK hc i pins s σ H E I hf st hg
  subst hP hw hK
  obtain ⟨hi,ha⟩:=hg
  obtain ⟨⟨old,he⟩,si⟩:=st
  obtain ⟨its,rv,sq⟩:=I.sseq ha
  have hl:=rv.length
  rw [Zei] at hi
  cases b with
  | true =>
   have si:s.heap.IsListIter p a i:=si
   have sq:s.heap.IsList a its.toArray:=sq
   refine Zug (I.ok.hd hc) he (fun Q E hE=>wpAny_nextOf_list_end (I.ok.hd hc) si sq (by simp;omega) hE) fun g eb=>⟨rfl,I.turnedL (t':=s.toks) (its:=[e,p]) (fun c o hc q=>eb c o (fun z=>hc (by simp [z])) q) hf⟩
  | false =>
   have si:s.heap.IsTupleIter p a i:=si
   have sq:s.heap.IsTuple a its.toArray:=sq
   refine Zug (I.ok.hd hc) he (fun Q E hE=>Zey (I.ok.hd hc) si sq (by simp;omega) hE) fun g eb=>⟨rfl,I.turnedL (t':=s.toks) (its:=[e,p]) (fun c o hc q=>eb c o (fun z=>hc (by simp [z])) q) hf⟩
 self:=fun A i s Q E st h=>let ⟨⟨_,he⟩,_⟩:=st;wpAny_pyIter_enum he h
section
variable {X:Cx}
def Z3a (K:W.Frag) (ta:TA):TI:=fun σ H R=>ta σ H fun vs H1=>∃ (b:Bool) (a:Addr) (xs:List V),vs=[.ref a]∧SqB K b H1 a xs∧R (Itp (Zjn xs) fun H=>SqB K b H a xs) H1
theorem Zog {elts:List Expr}{x1}{tpos:Pos}{a:Expr}{ta:TA}{p pos:Pos}(hg:Gl X "enumerate") (hm:X.mg "enumerate"=none) (ha:PA X [a] ta) (hs:starEach [a] X.env=[(false,eval a X.env)]:=by rfl):
  PI X (.Tuple elts x1 tpos) (.Call (.Name "enumerate" p) [a] [] pos) (Z3a X.K ta):=by
 intro pins s σ H R I h
 refine Call_ (Zjf I hg hm boot_enumerate (PyProof.Rows.callWith_type1 (thn (ha pos pins s σ H _ I h) fun us s1 ⟨vs,H1,I1,r1,q1⟩=>?_) hs rfl))
 obtain ⟨b,l,xs,e,t1,q⟩:=q1
 subst e
 cases r1 with
 | cons r rr =>
  cases rr
  obtain rfl:_=Value.ref l:=r
  obtain ⟨its,rv,sq⟩:=I1.sseq t1
  have lt1:l<s1.heap.objs.size:=by
   cases b with
   | true=>obtain ⟨_,e,_⟩:=(show s1.heap.IsList l its.toArray from sq);exact Heap.lt_size e
   | false=>obtain ⟨_,e,_⟩:=(show s1.heap.IsTuple l its.toArray from sq);exact Heap.lt_size e
  refine Zur b sq fun g he si hk=>wpAny_pyIter_enum (s:={ s1 with heap:=g }) he ?_
  refine ⟨_,[s1.heap.objs.size + 1,s1.heap.objs.size],_,_,H1,rfl,I1.kept (t':=s1.toks) fun b o e=>hk b o e,Zr8 b l _ _ (Nat.succ_ne_self _) (Nat.ne_of_gt (Nat.lt_succ_of_lt lt1)) (Nat.ne_of_lt lt1),⟨⟨_,he⟩,si⟩,fun c hc=>?_,q⟩
  have hc':c=s1.heap.objs.size + 1∨c=s1.heap.objs.size:=by simpa using hc
  have ge:s1.heap.objs.size≤c:=by
   rcases hc' with rfl | rfl
   ·exact Nat.le_add_right _ _
   ·exact Nat.le_refl _
  exact I1.fpOk ge (I1.hok.fresh ge)
end
end L2
namespace L2
open PySem PySem.Spec PyProof.Rows PySem.W
theorem Z13 {A:Around}{k:Nat}(hr:Zb6 k A):A.units + 65<cLine:=by have:=hr.un;omega
theorem Zhq {κ:Type} [DecidableEq κ] {kvs:List (κ×V)}{k:κ}(h:k∉kvs.map (·.1)):Zga kvs k=none:=by
 cases e:Zga kvs k with
 | none=>rfl
 | some v=>exact absurd (Zr4 e) h
theorem Zke {κ:Type} [DecidableEq κ] {kvs:List (κ×V)}{k:κ}{v:V}(h:k∉kvs.map (·.1)):(Zfn kvs k v).map (·.1)=kvs.map (·.1)++[k]:=by
 rw [Zff v (Zhq h),List.map_append]
 rfl
theorem Zto {α:Type}{l:List α}(nd:l.Nodup) {i:Nat}{x:α}(h:l[i]?=some x):x∉l.take i:=by
 intro m
 have hi:=(List.getElem?_eq_some_iff.mp h).1
 have e:=(List.getElem?_eq_some_iff.mp h).2
 have sp:l=l.take i++l.drop i:=(List.take_append_drop i l).symm
 rw [sp] at nd
 have q:=(List.nodup_append.mp nd).2.2 x m
 refine q x ?_ rfl
 rw [List.drop_eq_getElem_cons hi,e]
 exact List.mem_cons_self
theorem Zjl {ps:List (V×V)}{Ok:Hp→Prop}{g:TG}{tb:TS}{D:Zrx}{σ:St}{H:Hp}(Pv:Nat→St→Hp→Prop) (h0:Pv 0 σ H) (hl:∀ i σ H,i≤ps.length→Pv i σ H→Ok H)
  (hs:∀ i p t σ H,ps[i]?=some p→Pv i σ H→H t=none→g (.ref t) σ (upd H t (.tup [p.1,p.2])) fun σ2 H2=>tb { D with nx:=Pv (i + 1),ct:=Pv (i + 1),bk:=D.nx } σ2 H2) (hd:∀ σ H,Pv ps.length σ H→D.nx σ H):
  ∃ W:Nat→Nat→St→Hp→Prop,(∃ m,W 0 m σ H)∧∀ i m σ H,W i m σ H →
   ((Itp ps Ok).stop i H∧D.nx σ H)∨((Itp ps Ok).go i H∧∃ N:St→Hp→Prop,(∀ σ' H',N σ' H'→∃ m',m'<m∧W (i + 1) m' σ' H')∧∀ x H',(Itp ps Ok).yld i H x H'→g x σ H' fun σ2 H2=>tb { D with nx:=N,ct:=N,bk:=D.nx } σ2 H2):=by
 refine ⟨fun i m σ H=>m=ps.length - i∧i≤ps.length∧Pv i σ H,⟨ps.length,by simp,Nat.zero_le _,h0⟩,?_⟩
 rintro i m σ H ⟨rfl,hi,p⟩
 have q:=hl i σ H hi p
 by_cases hlt:i<ps.length
 ·refine .inr ⟨⟨hlt,q⟩,Pv (i + 1),fun σ' H' p'=>⟨ps.length - (i + 1),by omega,rfl,hlt,p'⟩,fun x H' y=>?_⟩
  obtain ⟨t,pr,hp,ht,rfl,rfl⟩:=y
  exact hs i pr t σ H hp p ht
 ·have e:i=ps.length:=by omega
  subst e
  exact .inl ⟨⟨Nat.le_refl _,q⟩,hd σ H p⟩
abbrev g2 (K:W.Frag) (i j:Nat):TG:=Z4s K 2 (Zze (Zh0 i) (Zze (Zh0 j) Z4t))
theorem Z3b {K:W.Frag}{i j:Nat}{t:Addr}{x y:V}{σ:St}{H:Hp}{R:St→Hp→Prop}(h:SqT K H t [x,y]) (q:R ((σ.set i (some x)).set j (some y)) H):g2 K i j (.ref t) σ H R :=
 ⟨t,[x,y],rfl,h,rfl,x,[y],rfl,y,[],rfl,rfl,q⟩
theorem Zqc {K:W.Frag}{i j:Nat}{t:Addr}{x y:V}{σ:St}{H:Hp}{R:St→Hp→Prop}(q:R ((σ.set i (some x)).set j (some y)) (upd H t (.tup [x,y]))):g2 K i j (.ref t) σ (upd H t (.tup [x,y])) R :=
 Z3b (SqT.of uS) q
theorem Z0p {X:Cx}{K:W.Frag}{i j:Nat}{x y:Str}{p q pos:Pos}{c:Nat}(hK:X.K=K) (hc:X.calm=true) (hN:X.N.Nodup) (hi:X.N[i]?=some x) (hj:X.N[j]?=some y) (hx:Loc X.env.scope x) (hy:Loc X.env.scope y)
  (fx:X.fn x=true∨X.env.scope.names.lookup x=some .local) (fy:X.fn y=true∨X.env.scope.names.lookup y=some .local):PG X (.Tuple [.Name x p,.Name y q] c pos) (g2 K i j):=by
 subst hK
 exact Zfl hc (gC (Zai (i:=i) hN hi hx fx) (gC (Zai (i:=j) hN hj hy fy) Zdz))
theorem Zej {H:Hp}{t:Addr}{o:HO}(h:H t=none):Zag H (upd H t o):=fun b u e=>by rw [Zac (nNo e h)];exact e
theorem Ziq {α:Type}(p:α→Bool):∀ (xs:List α) (i:Nat) (x:α),xs[i]?=some x→(xs.take (i + 1)).filter p=(xs.take i).filter p++if p x=true then [x] else []:=by
 intro xs i x h
 rw [List.take_add_one,h,List.filter_append]
 congr 1
 cases e:p x <;> simp [List.filter,e]
theorem Zup {K:W.Frag}{ps:List (V×V)}{Ok:Hp→Prop}{js:List Nat}{tt:TT}{te:TE}{σ:St}{Q:VK}{H1:Hp}(hz:ps.length≤sizeLine) (p:V×V→Bool) (F:Addr→V×V→V→Hp→Prop)
  (hF:∀ D x v H H',(∀ b o,b≠D→H b=some o→H' b=some o)→F D x v H→F D x v H')
  (hok:∀ H,Zag H1 H→Ok H)
  (ht:∀ x H (R:Bool→Hp→Prop),Zag H1 H→x∈ps→(∀ H',Zag H H'→R (p x) H')→tt (some x.1 :: some x.2 :: js.map fun j=>(σ[j]?).join) H R)
  (he:∀ D x H (R:V→Hp→Prop),Zag H1 H→(∃ ys,H D=some (.lst ys))→H1 D=none→x∈ps→p x=true→(∀ v H',Zag H H'→F D x v H'→R v H')→te (some x.1 :: some x.2 :: js.map fun j=>(σ[j]?).join) H R)
  (hd:∀ D H' ys,H1 D=none→Zag H1 H'→H' D=some (.lst ys)→Paired (fun x v=>F D x v H') (ps.filter p) ys→Q (.ref D) H'):
  compBody 2 js (g2 K 0 1) tt te σ Q (Itp ps Ok) H1:=by
 intro D hD
 refine ⟨fun i m ys σ' H=>m=ps.length - i∧i≤ps.length∧Zag H1 H∧H D=some (.lst ys)∧Paired (fun x v=>F D x v H) ((ps.take i).filter p) ys∧∃ o u,σ'=o :: u :: js.map fun j=>(σ[j]?).join,
  ⟨ps.length,by simp,Nat.zero_le _,Zej hD,uS,by simpa using Paired.nil,none,none,rfl⟩,?_⟩
 rintro i m ys σ' H ⟨rfl,hi,hs,hl,hp,o,u,rfl⟩
 have mono:∀ {H H':Hp},(∀ b o,b≠D→H b=some o→H' b=some o)→Paired (fun x v=>F D x v H) ((ps.take i).filter p) ys→Paired (fun x v=>F D x v H') ((ps.take i).filter p) ys:=fun h q=>Paired.mapP q fun a b z=>hF D a b _ _ h z
 by_cases hlt:i<ps.length
 ·have yl:ys.length<sizeLine:=by
   rw [← hp.length]
   refine Nat.lt_of_le_of_lt (List.length_filter_le _ _) ?_
   rw [List.length_take]
   omega
  refine .inr ⟨⟨hlt,hok H hs⟩,yl,fun ys3 σ3 H3=>Zag H1 H3∧H3 D=some (.lst ys3)∧Paired (fun x v=>F D x v H3) ((ps.take (i + 1)).filter p) ys3∧∃ o u,σ3=o :: u :: js.map fun j=>(σ[j]?).join,
   fun ys3 σ3 H3 z=>⟨ps.length - (i + 1),by omega,rfl,hlt,z⟩,fun x H2 y=>?_⟩
  obtain ⟨t,x,hx,ht0,rfl,rfl⟩:=y
  refine Zqc ?_
  show tt (some x.1 :: some x.2 :: js.map fun j=>(σ[j]?).join) (upd H t (.tup [x.1,x.2])) _
  have hm:x∈ps:=List.mem_of_getElem? hx
  have st:Zag H (upd H t (.tup [x.1,x.2])):=Zej ht0
  refine ht x _ _ (hs.trans st) hm fun H4 s4=>?_
  have s04:Zag H H4:=st.trans s4
  have hs4:Zag H1 H4:=hs.trans s04
  cases hpx:p x with
  | true =>
   rw [if_pos rfl]
   refine he D x H4 _ hs4 ⟨_,s04 _ _ hl⟩ hD hm hpx fun v H5 s5 f5=>⟨s5 _ _ (s04 _ _ hl),fun b o e=>?_,uS,?_,_,_,rfl⟩
   ·rw [Zac (nNo e hD)]
    exact s5 _ _ (hs4 _ _ e)
   ·rw [Ziq p ps i x hx,hpx,if_pos rfl]
    refine Paired.snoc (mono (fun b o hb e=>by rw [Zac hb];exact s5 _ _ (s04 _ _ e)) hp) (hF D _ _ _ _ (fun b o hb e=>by rw [Zac hb];exact e) f5)
  | false =>
   rw [if_neg Bool.false_ne_true]
   refine ⟨hs4,s04 _ _ hl,?_,_,_,rfl⟩
   rw [Ziq p ps i x hx,hpx,if_neg Bool.false_ne_true,List.append_nil]
   exact mono (fun b o _ e=>s04 _ _ e) hp
 ·have e:i=ps.length:=by omega
  subst e
  rw [List.take_length] at hp
  exact .inl ⟨⟨Nat.le_refl _,hok H hs⟩,hd D H ys hD hs hl hp⟩
theorem Zi7 {α:Type}{f:α→V}:∀ {xs:List α}{ys:List V},Paired (fun x v=>v=f x) xs ys→ys=xs.map f
 | _,_,.nil=>rfl
 | _,_,.cons r t=>by rw [List.map_cons,r,Zi7 t]
theorem Zuo {K:W.Frag}{ps:List (V×V)}{Ok:Hp→Prop}{js:List Nat}{tt:TT}{te:TE}{σ:St}{Q:VK}{H1:Hp}(hz:ps.length≤sizeLine) (p:V×V→Bool) (f:V×V→V)
  (hok:∀ H,Zag H1 H→Ok H)
  (ht:∀ x H (R:Bool→Hp→Prop),Zag H1 H→x∈ps→(∀ H',Zag H H'→R (p x) H')→tt (some x.1 :: some x.2 :: js.map fun j=>(σ[j]?).join) H R)
  (he:∀ x H (R:V→Hp→Prop),Zag H1 H→x∈ps→p x=true→(∀ H',Zag H H'→R (f x) H')→te (some x.1 :: some x.2 :: js.map fun j=>(σ[j]?).join) H R)
  (hd:∀ D H',H1 D=none→Zag H1 H'→H' D=some (.lst ((ps.filter p).map f))→Q (.ref D) H'):
  compBody 2 js (g2 K 0 1) tt te σ Q (Itp ps Ok) H1 :=
 Zup hz p (fun _ x v _=>v=f x) (fun _ _ _ _ _ _ z=>z) hok ht (fun D x H R hs _ _ hx hp k=>he x H R hs hx hp fun H' s'=>k _ _ s' rfl)
  fun D H' ys hD hs hl hp=>hd D H' hD hs (by rw [hl,Zi7 hp])
theorem Ze0 {J:It}{xs:List V}{Ok:Hp→Prop}(R:Zrv J xs Ok) {js:List Nat}{tt:TT}{te:TE}{σ:St}{Q:VK}{H1:Hp}(hz:xs.length≤sizeLine) (p:V→Bool) (f:V→V)
  (hok:∀ H,Zag H1 H→Ok H)
  (ht:∀ x H (R:Bool→Hp→Prop),Zag H1 H→x∈xs→(∀ H',Zag H H'→R (p x) H')→tt (some x :: js.map fun j=>(σ[j]?).join) H R)
  (he:∀ x H (R:V→Hp→Prop),Zag H1 H→x∈xs→p x=true→(∀ H',Zag H H'→R (f x) H')→te (some x :: js.map fun j=>(σ[j]?).join) H R)
  (hd:∀ D H',H1 D=none→Zag H1 H'→H' D=some (.lst ((xs.filter p).map f))→Q (.ref D) H'):
  compBody 1 js (Zh0 0) tt te σ Q J H1 :=
 Zfk R hz p (fun _ x v _=>v=f x) (fun _ _ _ _ _ _ z=>z) hok ht (fun D x H R hs _ _ hx hp k=>he x H R hs hx hp fun H' s'=>k _ _ s' rfl)
  fun D H' ys hD hs hl hp=>hd D H' hD hs (by rw [hl,Zi7 hp])
section
variable {X:Cx}
theorem Zo4 {d:Dat}{n:Nat} (h2:kqdOk n d=true):∀ {ds:List Dat},ds.all (kqdOk 8)=true→((kqdPs ds).any fun y=>PyData.eqv y (kqdP d))=ds.any fun e=>dEq e d
 | [],_=>by rw [kqdPs];rfl
 | e :: ds,h=>by
  rw [List.all_cons,Bool.and_eq_true] at h
  rw [kqdPs,List.any_cons,List.any_cons,Zox h.1 h2,Zo4 h2 h.2]
noncomputable def Z4j (K:W.Frag) (f:Bool→Bool):R2:=fun x y H Q=>∃ d ds,Rep K H x d∧Rep K H y (.list ds)∧kqdOk 9 d=true∧ds.all (kqdOk 8)=true∧Q (.bl (f (ds.any fun e=>dEq e d))) H
theorem Zlc {ds:List Dat}(h:ds.all (kqdOk 8)=true):SeqAt.shaped (PyData.list (kqdPs ds))=true:=by
 have:=Zc2 (d:=.list ds) (by rw [kqdOk];exact h)
 rw [kqdP] at this
 exact this
theorem Z0u (hu:X.A.units + 65<cLine):OpR X (compareOp .In) (Z4j X.K id):=by
 intro pins s σ H x y v u Q I rx ry h
 obtain ⟨d,ds,h1,h2,k1,k2,q⟩:=h
 obtain ⟨as,ra⟩:=h1.reads I rx
 obtain ⟨bs,rb⟩:=h2.reads I ry
 rw [kqdP] at rb
 exact SeqAt.in_list_reads rb ra (SeqAt.canLay_of_shaped (Zlc k2)) (SeqAt.canLay_of_shaped (Zc2 k1)) (room_in_shaped (Zc2 k1) hu) (Zbf I q (by rw [Zo4 k1 k2];rfl))
theorem Zs9 (hu:X.A.units + 65<cLine):OpR X (compareOp .NotIn) (Z4j X.K Bool.not):=by
 intro pins s σ H x y v u Q I rx ry h
 obtain ⟨d,ds,h1,h2,k1,k2,q⟩:=h
 obtain ⟨as,ra⟩:=h1.reads I rx
 obtain ⟨bs,rb⟩:=h2.reads I ry
 rw [kqdP] at rb
 exact SeqAt.notIn_list_reads rb ra (SeqAt.canLay_of_shaped (Zlc k2)) (SeqAt.canLay_of_shaped (Zc2 k1)) (room_in_shaped (Zc2 k1) hu) (Zbf I q (by rw [Zo4 k1 k2]))
end
end L2
namespace L2
open PySem PySem.Spec PyProof.Rows PySem.W
def Zkl (i:Nat):V:=.int (i:Nat)
def Z1c (i:Nat):Dat:=.int (i:Nat)
end L2
namespace L2
open PySem PySem.Spec PyProof.Rows
section
variable {X:Cx}
end
end L2
namespace L2
open PySem PySem.W PySem.Spec PyProof.Rows
theorem Zp7:∀ {ds:List Dat}{m:Nat}{e:Dat},ds[m]?=some e→(kqdPs ds)[m]?=some (kqdP e)
 | [],_,_,h=>by simp at h
 | a :: r,0,e,h=>by
  rw [kqdPs]
  have:a=e:=by simpa using h
  rw [this]
  rfl
 | a :: r,m + 1,e,h=>by
  rw [kqdPs,List.getElem?_cons_succ]
  exact Zp7 (by simpa using h)
theorem Znl:∀ ds:List Dat,(kqdPs ds).length=ds.length
 | []=>by rw [kqdPs];rfl
 | a :: r=>by rw [kqdPs,List.length_cons,List.length_cons,Znl r]
section
variable {X:Cx}
noncomputable def Zye (K:W.Frag):V→List V→Hp→VK→Prop:=fun x vs H Q=>∃ y d ds j e,vs=[y]∧Rep K H x (.list ds)∧Rep K H y d∧ds.all (kqdOk 8)=true∧kqdOk 9 d=true∧ds.length≤100000∧ds[j]?=some e∧dEq e d=true∧(∀ m e,m<j→ds[m]?=some e→dEq e d=false)∧Q (.int (j:Nat)) H
theorem Zna (hu:X.A.units + 65<cLine):MtM X "list.index" (Zye X.K):=by
 intro pins s σ H x vs v us Q I rx rv h
 obtain ⟨y,d,ds,j,e,rfl,h1,h2,k1,k2,hz,he,hd,hno,q⟩:=h
 obtain ⟨u,rfl,ru⟩:=rv.one
 obtain ⟨as,ra⟩:=h1.reads I rx
 obtain ⟨bs,rb⟩:=h2.reads I ru
 rw [kqdP] at ra
 have hxs:=SeqAt.canLay_of_shaped (Zlc k1)
 have hdl:=SeqAt.canLay_of_shaped (Zc2 k2)
 cases ra with
 | @list l ob its n _ _ a1 a2 a3 a4 =>
  obtain ⟨cls,dd,data,sl⟩:=ob
  simp only at a2 a3
  subst a2 a3
  have hm:=SeqAt.readsAll_map _ _ _ hxs a4
  have hml:its.size=ds.length:=by
   have:=congrArg List.length hm
   rw [List.length_map,Znl] at this
   simpa using this
  have all8:∀ m (e:Dat),ds[m]?=some e→kqdOk 8 e=true:=fun m e h=>List.all_eq_true.mp k1 e (List.mem_of_getElem? h)
  have val:∀ m (e:Dat) (hm':m<its.size),ds[m]?=some e→PyData.eqv (SeqAt.readOf s.heap its[m]) (kqdP d)=dEq e d:=fun m e hm' h=>by
   have e1:=Zp7 h
   rw [← hm,List.getElem?_map] at e1
   have e2:its.toList[m]?=some its[m]:=by simp [hm']
   rw [e2] at e1
   have e1:SeqAt.readOf s.heap its[m]=kqdP e:=Option.some.inj e1
   rw [e1]
   exact Zox (all8 m e h) k2
  have hj:j<its.size:=by have:=(List.getElem?_eq_some_iff.mp he).1;omega
  refine call_meets PySem.F.slot_list_index ⟨_,a1,rfl⟩ PySem.F.entry_list_index (PySem.F.args_list_index_2 _ _)
   (SeqAt.list_indexAt l its n dd sl u (fun y=>PyData.eqv (SeqAt.readOf s.heap y) (kqdP d)) j hj (by omega) ?_ ?_) ⟨a1,SeqAt.items_eqAt a4 rb hxs hdl (room_in_shaped (Zc2 k2) hu),?_⟩
  ·show PyData.eqv (SeqAt.readOf s.heap its[j]) (kqdP d)=true
   rw [val j e hj he]
   exact hd
  ·intro m hm' hlt
   show PyData.eqv (SeqAt.readOf s.heap its[m]) (kqdP d)=false
   have h0:ds[m]?=some (ds[m]'(by omega)):=List.getElem?_eq_getElem (by omega)
   rw [val m _ hm' h0]
   exact hno m _ hlt h0
  ·exact ⟨.int j,H,I.tok _,⟨_,rfl⟩,q⟩
end
end L2
namespace L2
open PySem PySem.Spec PyProof.Rows
section
variable {prog:Program} {w:World} {A:Around} {E:Value→Shared→Prop} {s:Shared} {d it:Addr} {es:Array DictEntry} {ep i:Nat}
end
end L2
namespace L2
open PySem PySem.Spec PyProof.Rows
section
variable {X:Cx} {pins:List (Addr×Obj)} {σ:St} {H H':Hp} {s:Shared} {a:Addr} {kvs:List (List Key×V)} {o:Obj}
end
section
variable {X:Cx} {tg:Expr}
end
end L2
namespace L2
open PySem PySem.Spec PyProof.Rows
end L2
namespace L2
open PySem PySem.Spec PyProof.Rows
end L2
namespace L2
open PySem PySem.Spec PyProof.Rows
end L2
namespace L2
open PySem PySem.Spec PyProof.Rows
structure Air (h:Heap) (e T:Addr) (cls:Value) (dx:Option Addr) (fl:Value):Prop where
 ne:T≠e
 obj:∃ oe vs,h.get? e=some oe∧oe.cls=cls∧oe.dict=dx∧oe.data=.fields vs∧vs[1]?=some (.ref T)
 tb:∃ oT ts,h.get? T=some oT∧oT.data=.fields ts∧ts[3]?=some fl
structure Chg (S R:List Addr) (h h':Heap):Prop where
 sz:h.objs.size≤h'.objs.size
 keep:∀ b o,h.get? b=some o→b∉S→b∉R→h'.get? b=some o
 slot:∀ b o,h.get? b=some o→b∉R→∃ sl,h'.get? b=some { o with slots:=sl }
 there:∀ b o,h.get? b=some o→∃ o',h'.get? b=some o'
theorem Chg.mono {S S' R R':List Addr}{h h':Heap}(c:Chg S R h h') (hs:∀ b∈S,b∈S') (hr:∀ b∈R,b∈R'):Chg S' R' h h' :=
 ⟨c.sz,fun b o e n1 n2=>c.keep b o e (fun z=>n1 (hs b z)) fun z=>n2 (hr b z),fun b o e n=>c.slot b o e fun z=>n (hr b z),c.there⟩
theorem Chg.trans {S R:List Addr}{h h1 h2:Heap}(a:Chg S R h h1) (b:Chg S R h1 h2):Chg S R h h2 :=
 ⟨Nat.le_trans a.sz b.sz,fun c o e n1 n2=>b.keep c o (a.keep c o e n1 n2) n1 n2,fun c o e n=>by
  obtain ⟨sl,e1⟩:=a.slot c o e n
  obtain ⟨sl',e2⟩:=b.slot c _ e1 n
  exact ⟨sl',e2⟩,fun c o e=>by
  obtain ⟨o1,e1⟩:=a.there c o e
  exact b.there c o1 e1⟩
theorem Chg.drop {S R:List Addr}{h h':Heap}{t:Addr}(c:Chg S (t :: R) h h') (ht:h.objs.size≤t):Chg S R h h' :=
 ⟨c.sz,fun b o e n1 n2=>c.keep b o e n1 fun z=>(List.mem_cons.mp z).elim (fun q=>absurd (Heap.lt_size e) (by rw [q];exact Nat.not_lt.mpr ht)) n2,
  fun b o e n=>c.slot b o e fun z=>(List.mem_cons.mp z).elim (fun q=>absurd (Heap.lt_size e) (by rw [q];exact Nat.not_lt.mpr ht)) n,c.there⟩
theorem Zj0 (f:Array Value→Array Value) (o:Obj):(Obj.mapFields f o).dict=o.dict:=by
 obtain ⟨c,d,dt,sl⟩:=o
 cases dt <;> rfl
theorem Chg.setF {h:Heap}{T:Addr}{oT:Obj}{ts:Array Value}{f:Array Value→Array Value}(hT:h.get? T=some oT) (hd:oT.data=.fields ts):Chg [] [T] h (h.update T (Obj.mapFields f)):=by
 have other:∀ b,b≠T→(h.update T (Obj.mapFields f)).get? b=h.get? b:=fun b hb=>Heap.get?_update_other _ _ (Ne.symm hb)
 refine ⟨Nat.le_of_eq (Heap.size_after_update ..).symm,fun b o e _ n=>(other b fun z=>n (by simp [z])).trans e,fun b o e n=>⟨o.slots,(other b fun z=>n (by simp [z])).trans e⟩,fun b o e=>?_⟩
 by_cases hb:b=T
 ·subst hb
  exact ⟨_,Heap.get?_update_self _ hT (Obj.isFreed_of_fields (Obj.data_mapFields hd _))⟩
 ·exact ⟨o,(other b hb).trans e⟩
theorem Chg.entry {S:List Addr}{h g:Heap}{e:Addr}{oe nb:Obj}{vs ts:Array Value}{fl:Value}(sl:Heap.SlotsOnly S h g) (ns:e∉S) (he:h.get? e=some oe) (hd:oe.data=.fields vs) (hsz:1<vs.size) (hnb:nb.data=.fields ts) (h3:ts[3]?=some fl):
  Air ((g.push nb).update e (Obj.mapFields fun r=>r.setIfInBounds 1 (.ref g.objs.size))) e g.objs.size oe.cls oe.dict fl∧Chg S [e] h ((g.push nb).update e (Obj.mapFields fun r=>r.setIfInBounds 1 (.ref g.objs.size))):=by
 have ge:g.get? e=some oe:=(sl.2.1 e ns).trans he
 have apart:g.objs.size≠e:=Nat.ne_of_gt (Heap.lt_size ge)
 have pe:(g.push nb).get? e=some oe:=Heap.get?_push_of_some nb ge
 have data:=Obj.data_mapFields hd fun r=>r.setIfInBounds 1 (Value.ref g.objs.size)
 have self:=Heap.get?_update_self (Obj.mapFields fun r=>r.setIfInBounds 1 (Value.ref g.objs.size)) pe (Obj.isFreed_of_fields data)
 have Zbb:∀ b o,b≠e→g.get? b=some o→((g.push nb).update e (Obj.mapFields fun r=>r.setIfInBounds 1 (.ref g.objs.size))).get? b=some o:=fun b o n q =>
  (Heap.get?_update_other _ _ fun z=>n z.symm).trans (Heap.get?_push_of_some nb q)
 have tnew:(g.push nb).get? g.objs.size=some nb:=Heap.get?_push_size g (Obj.isFreed_of_fields hnb)
 refine ⟨⟨apart,⟨_,_,self,Obj.cls_mapFields _ _,Zj0 _ _,data,by simp [hsz]⟩,⟨nb,ts,(Heap.get?_update_other _ _ fun z=>apart z.symm).trans tnew,hnb,h3⟩⟩,⟨?_,fun b o q n1 n2=>?_,fun b o q n=>?_,fun b o q=>?_⟩⟩
 ·rw [Heap.size_after_update,Heap.size_push,sl.1]
  omega
 ·exact Zbb b o (fun z=>n2 (z ▸ List.mem_cons_self)) ((sl.2.1 b n1).trans q)
 ·obtain ⟨k,r⟩:=sl.2.2 b o q
  exact ⟨k,Zbb b _ (fun z=>n (z ▸ List.mem_cons_self)) r⟩
 ·obtain ⟨k,r⟩:=sl.2.2 b o q
  by_cases z:b=e
  ·subst z;exact ⟨_,self⟩
  ·exact ⟨_,Zbb b _ z r⟩
section
variable {M:Model} {A:Around} {E:Value→Shared→Prop} {s:Shared}
theorem Zp1 {base:Heap}{env:Env}{outer:List Env}{L e:Addr}{oe:Obj}{vs:Array Value}{head:Value}{hadNext:Bool}{Q:Unit→Shared→Prop}
  (hfr:A.frames=some (env :: outer)) (hl:s.heap.FunFrames base (env :: outer)) (hf:env.frame=some L) (he:s.heap.get? e=some oe) (hd:oe.data=.fields vs) (hsz:1<vs.size)
  (h:∀ h' T,s.heap.objs.size≤T→Air h' e T oe.cls oe.dict (rawInt L)→Chg (frs (env :: outer)) [e] s.heap h'→Q () { s with heap:=h' }):
  wpAny M A (frameOf env>>=fun a=>entryPlaceOf L hadNext>>=fun pl=>EntryCells.newEntry head a .none (rawInt L) .none pl>>=fun b=>setField (.ref e) 1 b) Q E s:=by
 have nf:e∉frs (env :: outer):=fun m=>by
  have q:=(hl.mem m).2
  rw [he] at q
  obtain ⟨_,r1,r2⟩:=q
  cases r1
  exact r2 vs hd
 apply wpAny_bind
 refine wpAny_frameOf_fun hfr hl hf fun g1 sl1=>wpAny_bind (wpAny_entryPlaceOf fun pl place=>wpAny_bind ?_)
 have three:∀ xs:List Value,IsPlace xs→([head,Value.ref L,.none,rawInt L,.none]++(if xs.isEmpty then List.replicate 6 Value.none else xs)).toArray[3]?=some (rawInt L):=fun xs _=>by simp
 have laid:=Chg.entry (nb:={ cls:=.type "traceback",data:=.fields ([head,.ref L,.none,rawInt L,.none]++(if pl.isEmpty then List.replicate 6 Value.none else pl)).toArray }) sl1 nf he hd hsz rfl (three pl place)
 refine wpAny_newObj_type (wpAny_setField (Heap.get?_push_of_some _ ((sl1.2.1 e nf).trans he)) hd hsz ?_) (place.sizeOk5 _ _ _ _ _)
 exact h _ _ (Nat.le_of_eq sl1.1.symm) laid.1 laid.2
theorem Zhn {e T:Addr}{cls fl:Value}{dx:Option Addr}{Q:Unit→Shared→Prop}(a:Air s.heap e T cls dx fl)
  (h:∀ h',Air h' e T cls dx .none→Chg [] [T] s.heap h'→Q () { s with heap:=h' }):wpAny M A (setFlight (.ref e) none) Q E s:=by
 obtain ⟨ne,⟨oe,vs,he,hc,hdx,hd,h1⟩,⟨oT,ts,hT,hdT,h3⟩⟩:=a
 obtain ⟨hsz3,_⟩:=Array.getElem?_eq_some_iff.mp h3
 have some_:(Value.ref T != Value.none)=true:=by simp
 unfold setFlight
 apply wpAny_bind
 apply wpAny_field he hd h1
 rw [if_pos some_]
 refine wpAny_setField hT hdT hsz3 (h _ ⟨ne,⟨oe,vs,(Heap.get?_update_other _ _ ne).trans he,hc,hdx,hd,h1⟩,⟨_,_,Heap.get?_update_self _ hT (Obj.isFreed_of_fields (Obj.data_mapFields hdT _)),Obj.data_mapFields hdT _,by simp [hsz3]⟩⟩ (Chg.setF hT hdT))
theorem Zn2 {base:Heap}{env:Env}{outer:List Env}{L e T:Addr}{cls:Value}{dx:Option Addr}{Q:Unit→Shared→Prop}
  (hfr:A.frames=some (env :: outer)) (hl:s.heap.FunFrames base (env :: outer)) (hf:env.frame=some L) (a:Air s.heap e T cls dx .none)
  (h:∀ h' T',s.heap.objs.size≤T'→Air h' e T' cls dx (rawInt L)→Chg (frs (env :: outer)) [e,T] s.heap h'→Q () { s with heap:=h' }):wpAny M A (noteFrame (.ref e) env) Q E s:=by
 obtain ⟨ne,⟨oe,vs,he,hc,hdx,hd,h1⟩,⟨oT,ts,hT,hdT,h3⟩⟩:=a
 subst hc hdx
 have some_:(Value.ref T != Value.none)=true:=by simp
 have apart:¬ (Value.none == rawInt L)=true:=by simp [rawInt]
 have c1:Chg [] [T] s.heap (s.heap.update T (Obj.mapFields fun r=>r.setIfInBounds 3 Value.none)):=Chg.setF hT hdT
 have kept:∀ b o,s.heap.get? b=some o→b≠T→(s.heap.update T (Obj.mapFields fun r=>r.setIfInBounds 3 Value.none)).get? b=some o:=fun b o q n=>c1.keep b o q (fun z=>nomatch z) fun z=>n (List.mem_singleton.mp z)
 unfold noteFrame
 simp only [hf]
 apply wpAny_bind
 apply wpAny_field he hd h1
 rw [if_pos some_]
 apply wpAny_bind
 apply wpAny_field hT hdT h3
 rw [if_neg apart]
 apply wpAny_bind
 refine wpAny_setField hT hdT (Array.getElem?_eq_some_iff.mp h3).1 ?_
 refine Zp1 hfr (hl.of_keeps fun b o q nf=>⟨o,kept b o q fun z=>by subst z;rw [hT] at q;cases q;exact nf ts hdT,rfl⟩) hf (kept e oe he fun z=>ne z.symm) hd (Array.getElem?_eq_some_iff.mp h1).1 fun h' T' hT' a' c'=>?_
 exact h h' T' (Nat.le_trans c1.sz hT') a' ((c1.mono (fun b z=>nomatch z) fun b z=>by simp at z;simp [z]).trans (c'.mono (fun b z=>z) fun b z=>by simp at z;simp [z]))
theorem Zuu {base:Heap}{env:Env}{outer:List Env}{L e:Addr}{oe:Obj}{vs:Array Value}{Q:Unit→Shared→Prop}
  (hfr:A.frames=some (env :: outer)) (hl:s.heap.FunFrames base (env :: outer)) (hf:env.frame=some L) (he:s.heap.get? e=some oe) (hd:oe.data=.fields vs) (h1:vs[1]?=some .none)
  (h:∀ h' T,s.heap.objs.size≤T→Air h' e T oe.cls oe.dict .none→Chg (frs (env :: outer)) [e] s.heap h'→Q () { s with heap:=h' }):wpAny M A (leaving env (.ref e)) Q E s:=by
 unfold leaving noteFrame
 simp only [hf]
 apply wpAny_bind
 apply wpAny_bind
 apply wpAny_field he hd h1
 rw [if_neg (by decide)]
 refine Zp1 hfr hl hf he hd (Array.getElem?_eq_some_iff.mp h1).1 fun h' T hT a c=>?_
 refine Zhn a fun h2 a2 c2=>h h2 T hT a2 ?_
 have c3:Chg (frs (env :: outer)) [T,e] s.heap h2:=(c.mono (fun b z=>z) fun b z=>by simp at z;simp [z]).trans (c2.mono (fun b z=>nomatch z) fun b z=>by simp at z;simp [z])
 exact c3.drop hT
theorem Zw1 {base:Heap}{env:Env}{outer:List Env}{L e T:Addr}{cls:Value}{dx:Option Addr}{Q:Unit→Shared→Prop}
  (hfr:A.frames=some (env :: outer)) (hl:s.heap.FunFrames base (env :: outer)) (hf:env.frame=some L) (a:Air s.heap e T cls dx .none)
  (h:∀ h' T',s.heap.objs.size≤T'→Air h' e T' cls dx .none→Chg (frs (env :: outer)) [e,T] s.heap h'→Q () { s with heap:=h' }):wpAny M A (leaving env (.ref e)) Q E s:=by
 unfold leaving
 refine wpAny_bind (Zn2 hfr hl hf a fun h' T' hT a' c=>?_)
 refine Zhn a' fun h2 a2 c2=>h h2 T' hT a2 ?_
 have c3:Chg (frs (env :: outer)) [T',e,T] s.heap h2:=(c.mono (fun b z=>z) fun b z=>by simp at z;rcases z with z | z <;> simp [z]).trans (c2.mono (fun b z=>nomatch z) fun b z=>by simp at z;simp [z])
 exact c3.drop hT
end
theorem HOk.chg {P:Program}{w:World}{H:Hp}{h h':Heap}{S R:List Addr}(x:HOk P w H h) (c:Chg S R h h') (hS:∀ b∈S,H b=none) (hR:∀ b∈R,H b=none):HOk P w H h':=fun a o e =>
 (x a o e).stay (fun b u hb q=>by
  have hn:H b≠none:=by
   rcases hb with z | z
   ·rw [z,e];simp
   ·rw [z];simp
  exact c.keep b u q (fun z=>hn (hS b z)) fun z=>hn (hR b z)) (fun _ q=>q) fun _ _ q=>q
theorem Un.chg {fs ex S R:List Addr}{H:Hp}{h h':Heap}(c:Chg S R h h') (hS:∀ b∈S,b∈fs) (hR:∀ b∈R,b∈ex):Un fs ex H H h h' :=
 ⟨fun b o e n hb hx=>c.keep b o e (fun z=>hb (hS b z)) fun z=>hx (hR b z),fun b o e n hb hx=>c.slot b o e fun z=>hx (hR b z),fun _ _ _ n _=>n,fun b o e _=>c.there b o e,fun _ _ q=>q,fun _ _ _ q=>q,fun _ ps q=>⟨#[],by rw [q];simp⟩⟩
def CX1 (P:Program) (w:World):CXT:=fun outer H s E ev s'=>∃ (e T:Addr) (cls:Value) (dx:Option Addr) (H':Hp),ev=.ref e∧s'.os=s.os∧AllBare s'.gens∧Un (frs outer) [] H H' s.heap s'.heap∧HOk P w H' s'.heap ∧
 H' e=none∧H' T=none∧s.heap.objs.size≤e∧s.heap.objs.size≤T∧Air s'.heap e T cls dx .none∧E cls dx H'
structure Fns (X:Cx) (E:XK):Prop where
 xe:X.xe=fun e s'=>wpAny (model X.prog X.w) X.A (leaving X.env e) (fun _ s''=>CX1 X.prog X.w X.outer X.H₀ X.s₀ E e s'') (fun e' s''=>CX1 X.prog X.w X.outer X.H₀ X.s₀ E e' s'') s'
 stk:X.stack=X.env :: X.outer
 fr:X.env.frame=some X.env.locals
 ex:X.ex=[]
theorem Fns.of {P:Program}{w:World}{K:W.Frag}{mg:Str→Option Value}{base:Heap}{N:List Str}{qual:Str}{scope:Scope}{f:Addr}{cd:Value}{A:Around}{outer:List Env}{s:Shared}{H:Hp}{E:XK} :
  Fns (Zxt (CX1 P w) P w K mg base N qual scope f cd A outer s H E) E:=⟨rfl,rfl,rfl,rfl⟩
section
variable {X:Cx} {pins:List (Addr×Obj)} {σ:St} {H:Hp} {s:Shared} {E:XK} {e T:Addr} {cls:Value} {dx:Option Addr}
theorem Fns.old (F:Fns X E) (f:Zj2 X pins H e):X.s₀.heap.objs.size≤e:=by
 rcases f.2.2.2.1 with z | z
 ·rw [F.ex] at z;cases z
 ·exact z
theorem Fns.un {h':Heap}{R:List Addr}(F:Fns X E) (I:Inv X pins σ H s) (c:Chg (frs X.stack) R s.heap h') (hR:∀ b∈R,X.s₀.heap.objs.size≤b):Un X.fs [] X.H₀ H X.s₀.heap h':=by
 have B:=I.base
 have hx:∀ b,b∉X.ex:=fun b z=>by rw [F.ex] at z;cases z
 have ns:∀ b o,X.s₀.heap.get? b=some o→b∉X.fs→b∉frs X.stack:=fun b o q n z=>by
  rcases List.mem_cons.mp (I.stkSub b z) with r | r
  ·exact absurd (Nat.lt_of_lt_of_le (Heap.lt_size q) (by rw [r];exact I.ok.above)) (Nat.lt_irrefl _)
  ·exact n r
 have nr:∀ b o,X.s₀.heap.get? b=some o→b∉R:=fun b o q z=>absurd (Nat.lt_of_lt_of_le (Heap.lt_size q) (hR b z)) (Nat.lt_irrefl _)
 refine ⟨fun b o q n hb _=>c.keep b o (B.keep b o q n hb (hx b)) (ns b o q hb) (nr b o q),fun b o q n hb _=>?_,fun b o q n _=>B.free b o q n (hx b),fun b o q _=>?_,B.tups,B.frzs,B.tbls⟩
 ·obtain ⟨sl,e1⟩:=B.slot b o q n hb (hx b)
  obtain ⟨sl',e2⟩:=c.slot b _ e1 (nr b o q)
  exact ⟨sl',e2⟩
 ·obtain ⟨o1,e1⟩:=B.there b o q (hx b)
  exact c.there b o1 e1
theorem Fns.leave (F:Fns X E) (I:Inv X pins σ H s) (fe:Zj2 X pins H e) (fT:Zj2 X pins H T) (a:Air s.heap e T cls dx .none) (h:E cls dx H):X.xe (.ref e) s:=by
 rw [F.xe]
 have hfr:X.A.frames=some (X.env :: X.outer):=by rw [← F.stk];exact I.ok.frames
 have hl:s.heap.FunFrames X.base (X.env :: X.outer):=by rw [← F.stk];exact I.stack
 refine Zw1 hfr hl F.fr a fun h' T' hT' a' c=>?_
 rw [← F.stk] at c
 exact ⟨e,T',cls,dx,H,rfl,I.os,I.bare,F.un I c fun b z=>by simp at z;rcases z with z | z <;> rw [z];exact F.old fe;exact F.old fT,
  I.hok.chg c I.stkFree (fun b z=>by simp at z;rcases z with z | z <;> rw [z];exact fe.1;exact fT.1),fe.1,I.hok.fresh hT',F.old fe,Nat.le_trans I.sz hT',a',h⟩
theorem Fns.raised {oe:Obj}{vs:Array Value}(F:Fns X E) (I:Inv X pins σ H s) (fe:Zj2 X pins H e) (he:s.heap.get? e=some oe) (hd:oe.data=.fields vs) (h1:vs[1]?=some .none) (h:E oe.cls oe.dict H):X.xe (.ref e) s:=by
 rw [F.xe]
 have hfr:X.A.frames=some (X.env :: X.outer):=by rw [← F.stk];exact I.ok.frames
 have hl:s.heap.FunFrames X.base (X.env :: X.outer):=by rw [← F.stk];exact I.stack
 refine Zuu hfr hl F.fr he hd h1 fun h' T' hT' a' c=>?_
 rw [← F.stk] at c
 exact ⟨e,T',oe.cls,oe.dict,H,rfl,I.os,I.bare,F.un I c fun b z=>by simp at z;rw [z];exact F.old fe,
  I.hok.chg c I.stkFree (fun b z=>by simp at z;rw [z];exact fe.1),fe.1,I.hok.fresh hT',F.old fe,Nat.le_trans I.sz hT',a',h⟩
theorem Zcb (F:Fns X E):Zia (CX1 X.prog X.w) X E:=by
 rintro pins σ H s ev s' I ⟨e,T,cls,dx,H',rfl,os,bare,un,hok,he,hT,se,sT,a,h⟩
 have I':Inv X pins σ H' s':=I.call' (ch:=[]) os un hok bare fun b z=>nomatch z
 exact F.leave I' (I.fpOk se he) (I.fpOk sT hT) a h
end
theorem Zaq.any {P:Program}{w:World}{K:W.Frag}{mg:Str→Option Value}{base:Heap}{CX:CXT}{k:Nat}{f:Addr}{fd:FuncData}{ps:List Str}{sp:Sp}(F:Zaq P w K mg base CX0 k f fd ps sp):Zaq P w K mg base CX k f fd ps sp :=
 ⟨F.len,fun A outer s H args us vs Q E hr he hb hv hs=>codeAny_mono (F.run A outer s H args us vs Q E hr he hb hv hs) fun r s' hq=>by
  cases r with
  | error e=>exact False.elim hq
  | ok fl=>cases fl <;> exact hq⟩
theorem Fun.ok1 {P:Program}{w:World}{K:W.Frag}{mg:Str→Option Value}{base:Heap}{x qual:Str}{st:Stmt}{f:Addr}{fd:FuncData}{N ps:List Str}{k:Nat}{sp:Sp}(F:Fun K x qual st f fd) (S:Zak N ps (Zad st)) (len:∀ vs H Q E,sp vs H Q E→vs.length=ps.length)
  (hbody:∀ (cdv:Value) (A:Around) (outer:List Env) (s:Shared) (H:Hp) (vs:List V) (Q:VK) (E:XK),Zb6 k (A.deeper (envOfC qual (Zad st) s.heap.objs.size f cdv))→sp vs H Q E →
   ∃ t,PSs (Zxt (CX1 P w) P w K mg base N qual (Zad st) f cdv A outer s H E) (Zco st) t∧t { nx:=fun _ H'=>Q .non H',rt:=Q } (start N vs) H):Zaq P w K mg base (CX1 P w) (k + 1) f fd ps sp:=by
 obtain ⟨oc,od,kV,doc,pm,an,cdv,ct,osl,rfl,lk,hcd⟩:=F.ex
 refine Z1o lk hcd S len fun A outer s H vs Q E hr hsp=>?_
 exact hbody cdv A outer s H vs Q E hr hsp
end L2
namespace L2
open PySem PySem.Spec
structure ExC (K:W.Frag) (C:Addr):Prop where
 obj:∃ nm q N bs bm hdct sn sub ab col dd k0 k1 k2 k3 k5,K.lookup C=some (excClassObj nm q C N bs bm hdct sn sub ab col dd k0 k1 k2 k3 k5 "ValueError.__new__")
 val:W.subIn K (.ref C) (.type "ValueError")=some true
 bas:W.subIn K (.ref C) (.type "BaseException")=some true
 att:W.subIn K (.ref C) (.type "AttributeError")=some false
 nam:W.subIn K (.ref C) (.type "NameError")=some false
 kp:W.keepIn K (.ref C)=true
abbrev Zby (C t:Addr):Obj:={ cls:=.ref C,data:=.fields #[.ref t,.none,.none,.none,.bool false,.none] }
abbrev Zdm (us:List Value):Obj:={ cls:=.type "tuple",data:=.seq us.toArray }
section
variable {K:W.Frag} {prog:Program} {w:World} {A:Around} {E:Value→Shared→Prop} {h:Heap} {g:Array GenState} {d:Drawn} {t:Nat} {os:OsState} {C:Addr}
theorem Zfa {nm q:Str}{N:Addr}{bs bm:List Value}{hdct:Bool}{sn:List Str}{sub:List Value}{ab:Bool}{col:Option Bool}{dd:Option Addr}{k0 k1 k2 k3 k5:Option Value}{nid:String}{x:Value}{b:Bool}
  (l:K.lookup C=some (excClassObj nm q C N bs bm hdct sn sub ab col dd k0 k1 k2 k3 k5 nid)) (e:W.subIn K (.ref C) x=some b):(Value.ref C :: bm).contains x=b:=by
 have e2:((W.clsIn K C).bind fun cd=>if cd.mro.isEmpty=true then none else some (cd.mro.contains x))=some b:=e
 have e3:W.clsIn K C=some { name:=nm,bases:=bs,mro:=.ref C :: bm,ns:=N,qualname:=q,hasDict:=hdct,slotNames:=sn,subclasses:=sub,abstract:=ab,collection:=col,hasDel:=false }:=by
  unfold W.clsIn
  rw [l]
 rw [e3] at e2
 exact Option.some.inj e2
theorem Zzj {Zbb:List Value}{R:Result→Shared→Prop}(X:K.In h) (c:ExC K C) (hrest:Zbb.length≤sizeLine)
  (hq:R (.ok (.ret (.ref (h.objs.size + 1)))) ⟨(h.push (Zdm Zbb)).push (Zby C h.objs.size),g,d,t,os⟩):
  codeAny (model prog w) A (.builtin "ValueError.__new__" ⟨.ref C :: Zbb,[]⟩) R ⟨h,g,d,t,os⟩:=by
 obtain ⟨nm,q,N,bs,bm,hdct,sn,sub,ab,col,dd,k0,k1,k2,k3,k5,lk⟩:=c.obj
 have Fv:=PySem.F.excBase_ValueError
 have cV:=Zfa lk c.val
 have cA:=Zfa lk c.att
 have cN:=Zfa lk c.nam
 have hC:=X _ _ lk
 have hends:=Fv.ends
 refine codeAny_builtinAt Fv.entry ?_
 unfold Builtin.«BaseException.__new__»
 apply PySem.wpAt_bind
 show PySem.wpAt _ _ _ (stack>>=_) _ _ _
 apply PySem.wpAt_bind
 refine PySem.wpAt_stack fun p below=>PySem.wpAt_of_wpAny ?_
 wp_walk
 apply PySem.wpAt_of_wpAny
 rw [Fv.owner]
 repeat (first | with_reducible refine wpAny_madeHere_exc Fv.canon hC ?_ | with_reducible refine wpAny_loadPart_at hC ?_ | (with_reducible refine wpAny_isSubtype_exc hC ?_;first | rw [cV] | rw [cA] | rw [cN]) | wp_step)
 show R _ _
 rw [Heap.size_push]
 exact hq
theorem Zlz {Zbb:List Value}{i:Value}{Q:Value→Shared→Prop}(X:K.In h) (c:ExC K C) (hi:W.findIn K (.ref C) "__init__"=some (some i))
  (hb:∀ self,W.Looks (model prog w) ((h.push (Zdm Zbb)).push (Zby C h.objs.size)) (bindSpecial i self) (i,[self])) (hrest:Zbb.length≤sizeLine)
  (hq:codeAny (model prog w) (A.under (.builtin "type.__call__" ⟨.ref C :: Zbb,[]⟩)) (.call i ⟨.ref (h.objs.size + 1):: Zbb,[]⟩)
   (fun r s'=>match r with | .ok (.ret v)=>v=.none∧Q (.ref (h.objs.size + 1)) s' | .ok _=>False | .error e=>E e s') ⟨(h.push (Zdm Zbb)).push (Zby C h.objs.size),g,d,t,os⟩):
  wpAny (model prog w) A (call (.ref C) Zbb) Q E ⟨h,g,d,t,os⟩:=by
 obtain ⟨nm,q,N,bs,bm,hdct,sn,sub,ab,col,dd,k0,k1,k2,k3,k5,lk⟩:=c.obj
 have Fv:=PySem.F.excBase_ValueError
 have cV:=Zfa lk c.val
 have cS:(Value.ref C :: bm).contains (.ref C)=true:=by simp
 have hC:=X _ _ lk
 have up:∀ b o,h.get? b=some o→((h.push (Zdm Zbb)).push (Zby C h.objs.size)).get? b=some o:=fun b o e=>Heap.get?_push_of_some _ (Heap.get?_push_of_some _ e)
 have X1:K.In ((h.push (Zdm Zbb)).push (Zby C h.objs.size)):=X.keeps up
 have hC1:=X1 _ _ lk
 have got:((h.push (Zdm Zbb)).push (Zby C h.objs.size)).get? (h.objs.size + 1)=some (Zby C h.objs.size):=Heap.get?_push_at (by rw [Heap.size_push]) rfl
 have f1:=tc_lookup
 have f2:=tc_bind (.ref C)
 have hT:(⟨h,g,d,t,os⟩:Shared).TypeIs (.ref C) "type":=⟨_,hC,rfl⟩
 have hstar:=Fv.noStar
 apply wpAny_call
 apply codeAny_of_tree
 show wpAny _ _ (callAny (.ref C) _) _ _ _
 repeat (any_goals (first | assumption | with_reducible refine wpAny_loadPart_at hC ?_ | wp_step))
 constructor
 ·rfl
 apply codeAny_call_builtin_at (Code.quiet_builtin _ (by decide +kernel)) entry_typeCall
 apply wpAny_check_type_call_sub hC
 repeat (first | with_reducible refine wpAny_loadPart_at hC ?_ | with_reducible refine wpAny_madeBy_exc hC ?_ | wp_step)
 apply codeAny_call_builtin_code (Code.quiet_builtin _ Fv.quiet)
 simp only [checkBuiltinCall,Fv.newKind,Fv.newSplit,Fv.newRow]
 repeat (first | refine wpAny_loadPart_at hC ?_ | (refine wpAny_isSubtype_exc hC ?_;rw [cV]) | refine wpAny_staticBase_exc hC ?_ | refine wpAny_madeBy_exc hC ?_ | simp only [bne_self_eq_false,Bool.false_eq_true,if_false] | wp_step)
 apply Zzj X c hrest
 show wpAny _ _ _ _ _ _
 apply wpAny_bind
 unfold isInstance
 repeat (first | with_reducible refine wpAny_loadPart_at got ?_ | (with_reducible refine wpAny_isSubtype_exc hC1 ?_;rw [cS]) | wp_step)
 refine (W.looks_findIn (M:=model prog w) X1 hi).here ?_
 apply wpAny_holding
 apply wpAny_bind
 refine (hb (.ref (h.objs.size + 1))).here ?_
 apply wpAny_bind
 apply wpAny_call
 refine codeAny_mono hq fun r s' q=>?_
 cases r with
 | error e=>exact q
 | ok f =>
  cases f with
  | ret v =>
   obtain ⟨rfl,q⟩:=q
   apply wpAny_pure
   show wpAny _ _ (ret (.ref (h.objs.size + 1))) _ _ _
   exact wpAny_pure q
  | next=>exact q.elim
  | brk=>exact q.elim
  | cont=>exact q.elim
theorem Znr {Zbb:List Value}{R:Result→Shared→Prop}{e t0:Addr}(X:K.In h) (c:ExC K C) (he:h.get? e=some (Zby C t0)) (hrest:Zbb.length≤sizeLine)
  (hq:R (.ok (.ret .none)) ⟨(h.push (Zdm Zbb)).update e (Obj.mapFields (·.setIfInBounds 0 (.ref h.objs.size))),g,d,t,os⟩):
  codeAny (model prog w) A (.call (.builtin "ValueError.__init__") ⟨.ref e :: Zbb,[]⟩) R ⟨h,g,d,t,os⟩:=by
 obtain ⟨nm,q,N,bs,bm,hdct,sn,sub,ab,col,dd,k0,k1,k2,k3,k5,lk⟩:=c.obj
 have Fv:=PySem.F.excBase_ValueError
 have cV:=Zfa lk c.val
 have hC:=X _ _ lk
 have hshort:=Fv.noStar
 have chk:∀ (a b:String) (n:Nat),Bind.check ⟨.positional,"*","ValueError",.self,[⟨"args",.varPos,false⟩]⟩ a b n (List.map (fun x=>x.fst) ({ pos:=Value.ref e :: Zbb }:Args).kw)=pure ():=fun a b n=>check_star_args _ _ _ _ _ _
 have he1:(h.push (Zdm Zbb)).get? e=some (Zby C t0):=Heap.get?_push_of_some _ he
 apply codeAny_call_builtin Fv.init.plain Fv.initEntry
 simp only [checkBuiltinCall,Fv.initKind,Fv.initSplit,Fv.initRow]
 repeat (first | with_reducible refine wpAny_loadPart_at he ?_ | with_reducible refine wpAny_loadPart_at hC ?_ | (with_reducible refine wpAny_isSubtype_exc hC ?_;rw [cV]) | wp_step)
 apply wpAny_onRaise
 rw [chk]
 apply wpAny_pure
 wp_walk
 exact hq
theorem Zhs {env:Env}{x:Str}{np cpos pos:Pos}{args:List Expr}{s:Shared}{Q:Flow→Shared→Prop}(c:ExC K C) (hh:A.handled=none)
  (h1:wpAny (model prog w) A (eval (.Call (.Name x np) args [] cpos) env) (fun v s₁=>∃ e t0 dx sl,v=.ref e∧K.In s₁.heap ∧
   s₁.heap.get? e=some ⟨.ref C,dx,.fields #[.ref t0,.none,.none,.none,.bool false,.none],sl⟩∧E (.ref e) s₁) E s):
  wpAny (model prog w) A (exec (.Raise (some (.Call (.Name x np) args [] cpos)) none pos) env) Q E s:=by
 obtain ⟨nm,q,N,bs,bm,hdct,sn,sub,ab,col,dd,k0,k1,k2,k3,k5,lk⟩:=c.obj
 have cB:=Zfa lk c.bas
 rw [arm_exec_Raise]
 apply wpAny_bind
 apply wpAny_standAt
 unfold raiseStmt
 apply wpAny_bind
 show wpAny _ _ (do let v ← eval (.Call (.Name x np) args [] cpos) env;standAt pos;pure v) _ _ _
 apply wpAny_bind
 refine wpAny_mono h1 (fun v s₁ h₁=>?_) fun _ _ z=>z
 apply wpAny_bind
 apply wpAny_standAt
 apply wpAny_pure
 obtain ⟨e,t0,dx,sl,rfl,X,he,hE⟩:=h₁
 obtain ⟨hp,g,d,tk,os⟩:=s₁
 have hC:=X _ _ lk
 repeat (first | with_reducible refine wpAny_loadPart_at he ?_ | with_reducible refine wpAny_loadPart_at hC ?_ | (with_reducible refine wpAny_isSubtype_exc hC ?_;rw [cB]) | wp_step)
 exact wpAny_raiseNew_none hh hE
end
end L2
namespace L2
open PySem PySem.Spec PySem.Builtin PySem.Builtin.ObjectAttr PySem.W
structure ExA (K:W.Frag) (C:Addr):Prop extends ExC K C where
 ga:W.findIn K (.ref C) "__getattribute__"=some (some (.builtin "BaseException.__getattribute__"))
 gt:W.findIn K (.ref C) "__getattr__"=some none
 ca:W.findIn K (.ref C) "__class__"=some (some (.builtin "object.__class__"))
 cg:W.specialIn K (.builtin "object.__class__") "__get__"=some (some (.builtin "getset_descriptor.__get__"))
 ct:W.takesIn K (.builtin "object.__class__")=some true
 ob:W.mroIn K C (.type "object")=some true
section
variable {K:W.Frag} {prog:Program} {w:World} {A:Around} {E:Value→Shared→Prop} {h:Heap} {g:Array GenState} {d:Drawn} {t:Nat} {os:OsState} {x C:Addr} {ox:Obj} {od:Option Obj} {name:Str}
theorem Zuf {nameV:Value}{M:Model}{Q:Unit→Shared→Prop}(X:K.In h) (c:ExC K C) (I:W.InstAt h x ox C od) (hq:Q () ⟨h,g,d,t,os⟩):
  wpAny M A (checkBuiltinCall "BaseException.__getattribute__" ⟨[.ref x,nameV],[]⟩) Q E ⟨h,g,d,t,os⟩:=by
 have hk:builtinKind "BaseException.__getattribute__"=some .slot:=by decide +kernel
 have hs:splitId "BaseException.__getattribute__"=some ("BaseException","__getattribute__"):=by decide +kernel
 have ha:=PySem.F.args_bexc_ga (.ref x) nameV
 have hi:W.Looks M h (isInstance (.ref x) (.type "BaseException")) true:=I.type.andThen (W.looks_subIn X c.bas)
 simp only [checkBuiltinCall,hk,hs]
 apply wpAny_bind
 apply hi.at
 simp only [Bool.not_true,Bool.false_eq_true,if_false]
 exact wpAny_of_eq ha hq
theorem Zue {tk:Tok}{Q:Fin→Shared→Prop}{f:Found}(X:K.In h) (I:W.InstAt h x ox C od) (hf:W.Looks (model prog w) h (find (.ref x) (.ref C) name) f)
  (hq:wpAny (model prog w) A (match f with | .value v=>ret v | .bind g a=>bindTo g a (.ref x) (.ref C) | .missing=>unsupported "") Q E ⟨h,g,d,t,os⟩) (hm:f≠.missing):
  wpAny (model prog w) A (Builtin.«object.__getattribute__» ⟨[.ref x,.str name tk],[]⟩) Q E ⟨h,g,d,t,os⟩:=by
 have L0:=I.type (M:=model prog w)
 unfold Builtin.«object.__getattribute__»
 apply wpAny_bind
 apply wpAny_pure
 apply wpAny_bind
 apply wpAny_pure
 apply wpAny_bind
 apply L0.at
 apply wpAny_bind
 apply hf.at
 cases f with
 | value v=>exact hq
 | bind a b=>exact hq
 | missing=>exact absurd rfl hm
theorem Zxp {tk:Tok}{fill expr:Bool}{Q:Value→Shared→Prop}{f:Found}{v:Value}(X:K.In h) (c:ExA K C) (I:W.InstAt h x ox C od) (hf:W.Looks (model prog w) h (find (.ref x) (.ref C) name) f) (hm:f≠.missing)
  (hq:∀ {A:Around} {E:Value→Shared→Prop} {Q:Fin→Shared→Prop},Q (.done (.ret v)) ⟨h,g,d,t,os⟩→wpAny (model prog w) A (match f with | .value v=>ret v | .bind g a=>bindTo g a (.ref x) (.ref C) | .missing=>unsupported "") Q E ⟨h,g,d,t,os⟩)
  (hh:handedIn v=true) (hv:Q v ⟨h,g,d,t,os⟩):wpAny (model prog w) A (getAttrBy (.ref x) (.str name tk) fill expr) Q E ⟨h,g,d,t,os⟩:=by
 have L0:=I.type (M:=model prog w)
 have L1:=looks_findIn (M:=model prog w) X c.ga
 have L2:=looks_findIn (M:=model prog w) X c.gt
 have hx0:(expr&&onTheHeap (Value.builtin "BaseException.__getattribute__"))=false:=by cases expr <;> rfl
 have apart:(onTheHeap (Value.ref C)&&Value.builtin "BaseException.__getattribute__" == Value.builtin "object.__getattribute__")=false:=by
  rw [show (Value.builtin "BaseException.__getattribute__" == Value.builtin "object.__getattribute__")=false from by decide +kernel];rfl
 have f3:=PySem.F.attrBase_ValueError.ga.bind (.ref x)
 have body:∀ {A:Around} {R:Result→Shared→Prop},R (.ok (.ret v)) ⟨h,g,d,t,os⟩→codeAny (model prog w) A (.call (.builtin "BaseException.__getattribute__") ⟨[.ref x,.str name tk],[]⟩) R ⟨h,g,d,t,os⟩:=fun {A R} r =>
  codeAny_call_builtin PySem.F.attrBase_ValueError.ga.plain PySem.F.entry_bexc_ga (Zuf X c.toExC I (Zue X I hf (hq r) hm))
 unfold getAttrBy
 apply wpAny_holding
 apply wpAny_bind
 apply L0.at
 apply wpAny_bind
 apply L1.at
 show wpAny _ _ (if (onTheHeap (Value.ref C)&&Value.builtin "BaseException.__getattribute__" == Value.builtin "object.__getattribute__")=true then _ else getAttrByItsOwn (.ref x) (.str name tk) (.ref C) (.builtin "BaseException.__getattribute__") fill expr) _ _ _
 rw [if_neg (by rw [apart];exact Bool.false_ne_true)]
 unfold getAttrByItsOwn
 apply wpAny_bind
 show wpAny _ _ (typeLookup (.ref C) "__getattr__") _ _ _
 apply L2.at
 apply wpAny_bind
 apply wpAny_attempt
 apply wpAny_holding
 unfold callGetattribute
 rw [if_neg (by rw [hx0];exact Bool.false_ne_true)]
 unfold boundAndCalled
 apply wpAny_bind
 refine wpAny_of_eq f3 ?_
 refine wpAny_call (body ?_)
 show wpAny _ _ (handedOut v) _ _ _
 rw [handedOut_of hh]
 exact wpAny_pure hv
theorem Zzk (c:ExA K C):KitX K (.ref x) (.ref C) (fun h=>InstAt h x ox C od) where
 ty:=fun _ _ _ I=>I.type
 it:=fun _ _ X _=>by
  obtain ⟨nm,q,N,bs,bm,hdct,sn,sub,ab,col,dd,k0,k1,k2,k3,k5,lk⟩:=c.obj
  intro A' Q' E' s' k q
  unfold isType loadHead
  apply wpAny_bind
  apply wpAny_loadPart (k _ _ (X _ _ lk))
  exact wpAny_pure q
 ne:=fun h tp dd its n sl X e=>by
  obtain ⟨nm,q,N,bs,bm,hdct,sn,sub,ab,col,dd,k0,k1,k2,k3,k5,lk⟩:=c.obj
  have hC:=X _ _ lk
  refine Bool.eq_false_iff.mpr fun z=>?_
  have z:C=tp:=Value.ref.inj (beq_iff_eq.mp z)
  rw [z,e] at hC
  have q1:Value.type "tuple"=Value.type "type":=congrArg (fun o=>Option.elim o Value.none Obj.cls) hC
  exact absurd q1 (by decide)
 ca:=fun {prog w A E Q s} X I q=>by
  obtain ⟨hh,g,d,t,os⟩:=s
  have hcls:∃ cd,clsIn K C=some cd:=by
   obtain ⟨nm,q,N,bs,bm,hdct,sn,sub,ab,col,dd,k0,k1,k2,k3,k5,lk⟩:=c.obj
   unfold clsIn
   rw [lk]
   exact ⟨_,rfl⟩
  obtain ⟨cd,hcd⟩:=hcls
  have hf:findObj K C od "__class__"=some (.bind (.builtin "getset_descriptor.__get__") (.builtin "object.__class__")):=by
   unfold findObj
   rw [hcd,c.ca]
   dsimp only [Option.bind]
   rw [c.cg]
   dsimp only
   rw [c.ct]
  unfold getAttr? getAttrBy?
  apply wpAny_bind
  apply wpAny_mkText
  apply wpAny_bind
  apply wpAny_attempt
  refine Zxp X c I (looks_find X I hf) (fun z=>nomatch z) (fun {A E Q} r=>?_) rfl (wpAny_pure q)
  show wpAny _ _ (bindTo (.builtin "getset_descriptor.__get__") (.builtin "object.__class__") (.ref x) (.ref C)) _ _ _
  unfold bindTo
  show wpAny _ _ (holding [.builtin "object.__class__"] (call (.builtin "getset_descriptor.__get__") [.builtin "object.__class__",.ref x,.ref C])>>=ret) _ _ _
  apply wpAny_bind
  apply wpAny_holding
  exact wpAny_call (class_get (ox:=ox) (od:=od) X I c.ob (wpAny_pure r))
end
end L2
namespace L2
open PySem PySem.Spec PyProof.Rows
def XO (e C:Addr) (dx:Option Addr):HO:=.ext fun h=>∃ o,h.get? e=some o∧o.cls=.ref C∧o.dict=dx∧W.notCls o=true
abbrev TF:=St→Hp→(Hp→Prop)→Prop
def PF (X:Cx) (e:Expr) (t:TF):Prop:=∀ (pins:List (Addr×Obj)) (s:Shared) (σ:St) (H:Hp) (Q:Hp→Prop),Inv X pins σ H s→t σ H Q →
 wpAny (model X.prog X.w) X.A (eval e X.env) (fun u s'=>∃ y tk H',u=.str y tk∧y.length≤100000∧Inv X pins σ H' s'∧Q H') X.xe s
def PFs (X:Cx) (es:List Expr) (t:TF):Prop:=∀ (pins:List (Addr×Obj)) (s:Shared) (σ:St) (H:Hp) (Q:Hp→Prop) (acc:Str) (j:Nat),Inv X pins σ H s→acc.length≤100000 * j→j + es.length≤100→t σ H Q →
 Joins (model X.prog X.w) X.A X.xe (evalEach es X.env) acc (fun out s'=>∃ H',out.length≤10000000∧Inv X pins σ H' s'∧Q H') s
section
variable {X:Cx} {e:Expr} {es:List Expr} {te:TE} {t u:TF} {pos:Pos}
def Z6n (x:Str):TF:=fun _ H Q=>x.length≤100000∧Q H
theorem Zdr {x j}:PF X (.Constant (.str x) j pos) (Z6n x):=fun _ _ _ H _ I h=>Calls.Constant_str ⟨x,_,H,rfl,h.1,I.tok _,h.2⟩
def Z6m (te:TE):TF:=fun σ H Q=>te σ H fun v H1=>∃ i:Int,v=.int i∧i.natAbs<2 ^ 64∧Q H1
theorem Zt6 {i:Int}(h:i.natAbs<2 ^ 64):i.natAbs.log2<1920:=by
 by_cases z:i.natAbs=0
 ·rw [z];decide
 ·exact Nat.lt_trans ((Nat.log2_lt z).mpr h) (by decide)
theorem Zzc {i:Int}(h:i.natAbs<2 ^ 64):(Str.ofString (toString i)).length≤100000:=by
 have e:=PySem.int_text_length_le (k:=1920) (by decide) (Zt6 h)
 rw [PySem.ofString_length]
 omega
theorem Zi4 (he:PE X e te):PF X (.FormattedValue e (-1) none pos) (Z6m te):=by
 intro pins s σ H Q I h
 refine wpAny_FormattedValue_plain (thn (he pins s σ H _ I h) fun v s1 ⟨x,H1,I1,r1,i,ex,hi,q⟩=>?_)
 subst ex
 obtain ⟨t,rfl⟩:=r1
 exact wpAny_formatField_int (Zt6 hi) ⟨_,_,H1,rfl,Zzc hi,I1.tok _,q⟩
def Z3d (te:TE):TF:=fun σ H Q=>te σ H fun v H1=>∃ x:Str,v=.str x∧x.length≤1000∧(∀ c∈x.cps.toList,c<16 ^ 8)∧Q H1
theorem Zs7 (he:PE X e te):PF X (.FormattedValue e 114 none pos) (Z3d te):=by
 intro pins s σ H Q I h
 refine wpAny_FormattedValue_repr (thn (he pins s σ H _ I h) fun v s1 ⟨x,H1,I1,r1,y,ex,hl,hc,q⟩=>?_)
 subst ex
 obtain ⟨t,rfl⟩:=r1
 have b:=StrLaws.reprText_len y hc
 have b1:(reprText y).length≤100000:=by omega
 have b2:(reprText y).length≤sizeLine:=Nat.le_trans b1 (by decide)
 refine pyReprObj_str (wpAny_formatField_str ?_ ?_ b2) b2
 ·exact ⟨_,_,H1,rfl,b1,I1.tok _,q⟩
 ·exact ⟨_,_,H1,rfl,b1,I1.tok _,q⟩
def Z6l:TF:=fun _ H Q=>Q H
def Z6k (t u:TF):TF:=fun σ H Q=>t σ H fun H1=>u σ H1 Q
theorem Ze1:PFs X [] Z6l:=fun pins s σ H Q acc j I ha hj h=>⟨H,by simp at hj;exact Nat.le_trans ha (Nat.le_trans (Nat.mul_le_mul_left _ hj) (by decide)),I,h⟩
theorem Zax (h1:PF X e t) (h2:PFs X es u):PFs X (e :: es) (Z6k t u):=by
 intro pins s σ H Q acc j I ha hj h
 show wpAny _ _ (eval e X.env) _ _ s
 refine thn (h1 pins s σ H _ I h) fun v s1 ⟨y,tk,H1,ev,hy,I1,q⟩=>?_
 have hl:(acc++y).length≤100000 * (j + 1):=by rw [strLen_append];omega
 have hj':j + 1 + es.length≤100:=by simp at hj;omega
 refine ⟨y,tk,ev,Nat.le_trans hl (Nat.le_trans (Nat.mul_le_mul_left _ (show j + 1≤100 by omega)) (by decide)),?_⟩
 exact h2 pins s1 σ H1 Q _ (j + 1) I1 hl hj' q
def tFs (t:TF):TE:=fun σ H Q=>t σ H fun H1=>∀ x:Str,Q (.str x) H1
theorem Ze2 {v1 v2:Expr}{Zbb:List Expr}(h:PFs X (v1 :: v2 :: Zbb) t) (hl:(v1 :: v2 :: Zbb).length≤100:=by decide):PE X (.JoinedStr (v1 :: v2 :: Zbb) pos) (tFs t):=by
 intro pins s σ H Q I hq
 apply wpAny_JoinedStr
 have z:=h pins s σ H _ Str.empty 0 I (Nat.zero_le _) (by simpa using hl) hq
 have mono:∀ (l:List (Sem Value)) (acc:Str) (P P':Str→Shared→Prop) (s:Shared),(∀ o s',P o s'→P' o s')→Joins (model X.prog X.w) X.A X.xe l acc P s→Joins (model X.prog X.w) X.A X.xe l acc P' s:=by
  intro l
  induction l with
  | nil=>intro acc P P' s f q;exact f _ _ q
  | cons a r ih =>
   intro acc P P' s f q
   exact thn (show wpAny _ _ a _ _ s from q) fun v s1 ⟨y,tk,e1,e2,e3⟩=>⟨y,tk,e1,e2,ih _ P P' s1 f e3⟩
 exact mono _ _ _ _ _ (fun o s' ⟨H',l,I',q'⟩=>⟨Nat.le_trans l (by decide),⟨.str o,H',I'.tok _,⟨_,rfl⟩,q' o⟩⟩) z
end
section
variable {X:Cx} {E:XK} {C:Addr} {x:Str} {np cpos pos:Pos} {e:Expr} {es:List Expr} {t:TA}
def tRz (E:XK) (C:Addr) (t:TA):TS:=fun _ σ H=>t σ H fun vs H1=>vs.length≤sizeLine∧E (.ref C) none H1
theorem Zwv {K:W.Frag}{prog:Program}{w:World}{A:Around}{E:Value→Shared→Prop}{s:Shared}{us:List Value}{Q:Value→Shared→Prop}(X:K.In s.heap) (c:ExC K C) (hi:W.findIn K (.ref C) "__init__"=some (some (.builtin "ValueError.__init__"))) (hl:us.length≤sizeLine)
  (h:∀ h' t0,(∀ b o,s.heap.get? b=some o→h'.get? b=some o)→h'.get? (s.heap.objs.size + 1)=some (Zby C t0)→Q (.ref (s.heap.objs.size + 1)) { s with heap:=h' }):
  wpAny (model prog w) A (call (.ref C) us) Q E s:=by
 obtain ⟨hp,g,d,tk,os⟩:=s
 dsimp only at X h ⊢
 refine Zlz X c hi (fun self=>W.Looks.of_pure (PySem.F.excBase_ValueError.init.bind self)) hl ?_
 have up:∀ b o,hp.get? b=some o→((hp.push (Zdm us)).push (Zby C hp.objs.size)).get? b=some o:=fun b o q=>Heap.get?_push_of_some _ (Heap.get?_push_of_some _ q)
 have got:((hp.push (Zdm us)).push (Zby C hp.objs.size)).get? (hp.objs.size + 1)=some (Zby C hp.objs.size):=Heap.get?_push_at (by rw [Heap.size_push]) rfl
 refine Znr (t0:=hp.objs.size) (X.keeps up) c got hl ⟨rfl,h _ ((hp.push (Zdm us)).push (Zby C hp.objs.size)).objs.size (fun b o q=>?_) ?_⟩
 ·have nb:b≠hp.objs.size + 1:=Nat.ne_of_lt (Nat.lt_succ_of_lt (Heap.lt_size q))
  rw [Heap.get?_update_other _ _ (Ne.symm nb)]
  exact Heap.get?_push_of_some _ (up b o q)
 ·rw [Heap.get?_update_self _ (Heap.get?_push_of_some _ got) rfl]
  rfl
theorem Zhd (F:Fns X E) (hh:X.A.handled=none) (c:ExC X.K C) (hi:W.findIn X.K (.ref C) "__init__"=some (some (.builtin "ValueError.__init__"))) (hg:Gl X x) (hm:X.mg x=some (.ref C)) (ha:PA X (e :: es) t)
  (hdb:(x == ("__debug__":Str))=false:=by decide) (he:starEach (e :: es) X.env=(false,eval e X.env):: starEach es X.env:=by rfl) (hpl:(backTo cpos (starEach es X.env)).any (·.1)=false:=by rfl):
  PS X (.Raise (some (.Call (.Name x np) (e :: es) [] cpos)) none pos) (tRz E C t):=by
 intro pins s σ H D I h
 refine Zhs c hh (wpAny_Call_Name_kw (Zfi I hg hm ?_ hdb))
 refine W.callWith_K (h₀:=X.base) I.ok.mod.kin c.kp (thn (ha cpos pins s σ H _ I h) fun us s1 ⟨vs,H1,I1,r,hl,q⟩=>⟨I1.kIn,?_⟩) he hpl
 refine Zwv I1.kIn c hi (by rw [List.nil_append,← r.length];exact hl) fun h' t0 k got=>?_
 have I2:Inv X pins σ H1 { s1 with heap:=h' }:=I1.kept (t':=s1.toks) k
 refine ⟨_,t0,none,#[],rfl,I2.kIn,got,?_⟩
 exact F.raised I2 (I1.fpOk (Nat.le_succ _) (I1.hok.fresh (Nat.le_succ _))) got rfl rfl q
end
section
variable {X:Cx} {pins:List (Addr×Obj)} {σ:St} {H:Hp} {s:Shared} {A:Around} {E:Value→Shared→Prop} {Q:Value→Shared→Prop} {e C:Addr} {dx:Option Addr} {cv:Value} {b:Bool}
def Zrq (H:Hp) (dx:Option Addr):Prop:=dx=none∨∃ a fs,dx=some a∧H a=some (.xd fs)
theorem Zxx (I:Inv X pins σ H s) (hx:H e=some (XO e C dx)) (hd:Zrq H dx):∃ ox od,W.InstAt s.heap e ox C od:=by
 have q:Zbq X.prog X.w H s.heap e (XO e C dx):=I.hok e _ hx
 obtain ⟨⟨o,h1,h2,h3,h4⟩,_⟩:=q
 rcases hd with hd | ⟨a,fs,hd,ha⟩
 ·exact ⟨o,none,⟨h1,h2,h4,by rw [h3,hd];trivial⟩⟩
 ·have q:Zbq X.prog X.w H s.heap a (.xd fs):=I.hok a _ ha
  obtain ⟨mA,⟨oa,es,ep,e1,_⟩,_⟩:=q
  exact ⟨o,some oa,⟨h1,h2,h4,by rw [h3,hd];exact e1⟩⟩
theorem Zri (I:Inv X pins σ H s) (hx:H e=some (XO e C dx)) (hd:Zrq H dx) (c:ExA X.K C) (k:W.kitOne X.K (.ref C) cv=some b) (h:∀ tk,Q (.bool b) { s with toks:=tk }):
  wpAny (model X.prog X.w) A (call (.builtin "isinstance") [.ref e,cv]) Q E s:=by
 obtain ⟨ox,od,J⟩:=Zxx I hx hd
 exact W.kia_one (Zzk (ox:=ox) (od:=od) c) I.kIn J k (fun z=>nomatch z) h
end
abbrev XKs:=Value→Option Addr→St→Hp→Prop
abbrev TSx:=Zrx→XKs→St→Hp→Prop
abbrev TEx:=St→Hp→VK→XK→Prop
def XP (X:Cx) (pins:List (Addr×Obj)) (E:XKs) (ev:Value) (s':Shared):Prop:=∃ (e T:Addr) (cls:Value) (dx:Option Addr) (σ':St) (H':Hp),ev=.ref e∧Inv X pins σ' H' s'∧Zj2 X pins H' e∧Zj2 X pins H' T∧Air s'.heap e T cls dx .none∧E cls dx σ' H'
def PEx (X:Cx) (e:Expr) (t:TEx):Prop:=∀ (pins:List (Addr×Obj)) (s:Shared) (σ:St) (H:Hp) (Q:VK) (E:XK),Inv X pins σ H s→t σ H Q E →
 wpAny (model X.prog X.w) X.A (eval e X.env) (EP X pins σ Q) (XP X pins fun c d σ' H'=>σ'=σ∧E c d H') s
def PSx (X:Cx) (st:Stmt) (t:TSx):Prop:=∀ (pins:List (Addr×Obj)) (s:Shared) (σ:St) (H:Hp) (D:Zrx) (E:XKs),Inv X pins σ H s→t D E σ H→wpAny (model X.prog X.w) X.A (exec st X.env) (SP X pins D) (XP X pins E) s
def Z4y (X:Cx) (st:List Stmt) (t:TSx):Prop:=∀ (pins:List (Addr×Obj)) (s:Shared) (σ:St) (H:Hp) (D:Zrx) (E:XKs),Inv X pins σ H s→t D E σ H→wpAny (model X.prog X.w) X.A (execs st X.env) (SP X pins D) (XP X pins E) s
section
variable {X:Cx} {st:Stmt} {Zbb:List Stmt} {t u:TSx} {e:Expr} {te:TEx} {pos:Pos}
theorem Zvl (h1:PSx X st t):Z4y X [st] t:=by
 intro pins s σ H D E I h
 refine wpAny_execs_cons (thn (h1 pins s σ H D E I h) fun f s1 q=>?_)
 cases f with
 | next=>exact wpAny_execs_nil q
 | ret v=>exact q
 | brk=>exact q
 | cont=>exact q
def Z15 (te:TEx):TSx:=fun D E σ H=>te σ H (fun _ H1=>D.nx σ H1) fun c d H1=>E c d σ H1
theorem Zxw {pins:List (Addr×Obj)}{E E':XKs}(f:∀ c d σ H,E c d σ H→E' c d σ H) {ev:Value}{s':Shared}(h:XP X pins E ev s'):XP X pins E' ev s':=by
 obtain ⟨e,T,cls,dx,σ',H',r,I,fe,fT,a,q⟩:=h
 exact ⟨e,T,cls,dx,σ',H',r,I,fe,fT,a,f _ _ _ _ q⟩
theorem Zvk (he:PEx X e te) (hs:swapsWith e none pos.line X.env=pure false:=by rfl):PSx X (.Expr e pos) (Z15 te):=by
 intro pins s σ H D E I h
 refine wpAny_Expr_any (wpAny_mono (he pins s σ H _ _ I h) (fun v s1 ⟨x,H1,I1,r1,q1⟩=>⟨σ,H1,I1,q1⟩) fun ev s1 z=>Zxw (fun c d σ' H' q=>?_) z) I.quiet hs
 obtain ⟨rfl,q⟩:=q
 exact q
end
section
variable {X:Cx} {k:Nat} {f C:Addr} {fd:FuncData} {ps:List Str} {sp:Sp} {dvs:List V} {ds:List Value} {x m:Str} {p pos apos:Pos} {e o:Expr} {es:List Expr} {ta:TE} {t:TA}
theorem Zx9 {pins:List (Addr×Obj)}{σ:St}{H:Hp}{s:Shared}{Q:VK}{E:XK}{us:List Value}{vs:List V}(F:Zaq X.prog X.w X.K X.mg X.base (CX1 X.prog X.w) k f fd ps sp) (hr:Zb6 k X.A) (hb:Zc9 X.K fd ps [])
  (I:Inv X pins σ H s) (r:Zbr vs us) (h:sp vs H Q E):wpAny (model X.prog X.w) X.A (call (.ref f) us) (EP X pins σ Q) (XP X pins fun c d σ' H'=>σ'=σ∧E c d H') s:=by
 have hl:(us++[]).length=ps.length:=by rw [List.append_nil,← r.length];exact F.len _ _ _ _ h
 have b:=hb s us I.kIn hl
 rw [List.append_nil] at b
 refine wpAny_call (codeAny_mono (F.run X.A X.stack s H ⟨us,[]⟩ us vs Q E hr I.env0 b r h) fun r s' hq=>?_)
 cases r with
 | error e =>
  obtain ⟨e,T,cls,dx,H',rfl,os,bare,un,hok,he,hT,se,sT,a,q⟩:=hq
  exact ⟨e,T,cls,dx,σ,H',rfl,I.call' (ch:=[]) os un hok bare (fun b z=>nomatch z),I.fpOk se he,I.fpOk sT hT,a,rfl,q⟩
 | ok fl =>
  cases fl with
  | ret u=>exact I.after hq
  | next=>exact False.elim hq
  | brk=>exact False.elim hq
  | cont=>exact False.elim hq
def Z16 (sp:Sp) (t:TA):TEx:=fun σ H Q E=>t σ H fun vs H1=>sp vs H1 Q E
theorem Zym {pins:List (Addr×Obj)}{s:Shared}{σ:St}{H:Hp}{Q:List V→Hp→Prop}{E:Value→Shared→Prop}(ha:PA X.nox es t) (I:Inv X pins σ H s) (h:t σ H Q):
  wpAny (model X.prog X.w) X.A (spliced (backTo pos (starEach es X.env))) (AP X pins σ Q) E s :=
 wpAny_mono (ha pos pins s σ H Q (I.wish _) h) (fun _ _ ⟨vs,H',I',r,q⟩=>⟨vs,H',I'.unwish,r,q⟩) fun _ _ z=>False.elim z
theorem Zvo {st:Stmt}(d:Def X.K X.mg x st ps f fd) (F:Zaq X.prog X.w X.K X.mg X.base (CX1 X.prog X.w) k f fd ps sp) (hr:Zb6 k X.A) (hg:Gl X x) (ha:PA X.nox (e :: es) t) (hdb:(x == ("__debug__":Str))=false:=by decide)
  (he:starEach (e :: es) X.env=(false,eval e X.env):: starEach es X.env:=by rfl) (hpl:(backTo pos (starEach es X.env)).any (·.1)=false:=by rfl):PEx X (.Call (.Name x p) (e :: es) [] pos) (Z16 sp t):=by
 intro pins s σ H Q E I h
 refine wpAny_Call_Name_kw (Zfi I hg d.m ?_ hdb)
 refine W.callWith_K (h₀:=X.base) I.ok.mod.kin d.fn.kp (thn (Zym ha I h) fun us s1 ⟨vs,H1,I1,r,q⟩=>⟨I1.kIn,?_⟩) he hpl
 exact Zx9 F hr d.b I1 r q
end
end L2
namespace L2
open PySem PySem.Spec PyProof.Rows
section
variable {K:W.Frag} {M:Model} {A:Around} {E:Value→Shared→Prop} {h:Heap} {g:Array GenState} {d:Drawn} {t:Nat} {os:OsState} {e C D:Addr}
theorem Zov {oe:Obj}{Q:Bool→Shared→Prop}(X:K.In h) (cD:ExC K D) (he:h.get? e=some oe) (hcls:oe.cls=.ref C) (cC:ExC K C) (hs:W.subIn K (.ref C) (.ref D)=some true) (hq:Q true ⟨h,g,d,t,os⟩):
  wpAny M A (excMatches (.ref e) (.ref D)) Q E ⟨h,g,d,t,os⟩:=by
 obtain ⟨nm,q,N,bs,bm,hdct,sn,sub,ab,col,dd,k0,k1,k2,k3,k5,lk⟩:=cD.obj
 obtain ⟨nm',q',N',bs',bm',hdct',sn',sub',ab',col',dd',k0',k1',k2',k3',k5',lk'⟩:=cC.obj
 have cB:=Zfa lk cD.bas
 have cS:=Zfa lk' hs
 have hD:=X _ _ lk
 have hC:=X _ _ lk'
 have f:=tc_notTuple
 unfold excMatches
 repeat (first | (with_reducible refine wpAny_loadPart_at he ?_;rw [hcls]) | with_reducible refine wpAny_loadPart_at hD ?_ | (with_reducible refine wpAny_isSubtype_exc hD ?_;rw [cB]) | (with_reducible refine wpAny_isSubtype_exc hC ?_;rw [cS]) | wp_step)
 exact hq
end
section
variable {X:Cx} {pins:List (Addr×Obj)} {σ:St} {H:Hp} {s:Shared}
theorem Inv.track {a:Addr}{o:HO}(I:Inv X pins σ H s) (f:Zj2 X pins H a) (ok:Zbq X.prog X.w (upd H a o) s.heap a o):Inv X pins σ (upd H a o) s:=by
 obtain ⟨f0,f1,f2,f3,f4,f5⟩:=f
 have ne:∀ b u,H b=some u→b≠a:=fun b u q z=>by rw [z,f0] at q;cases q
 have old:∀ b u,X.s₀.heap.get? b=some u→b∉X.ex→b≠a:=fun b u q n z=>by
  rcases f3 with r | r
  ·rw [z] at n;exact n r
  ·exact absurd (Nat.lt_of_lt_of_le (Heap.lt_size q) (by rw [z];exact r)) (Nat.lt_irrefl _)
 refine ⟨I.ok,I.os,I.bare,⟨I.base.keep,I.base.slot,fun b u q n hx=>by rw [Zac (old b u q hx)];exact I.base.free b u q n hx,I.base.there,fun b xs q=>by have z:=I.base.tups b xs q;rw [Zac (ne b _ z)];exact z,
  fun b u xs q=>by have z:=I.base.frzs b u xs q;rw [Zac (ne b _ z)];exact z,fun b ps q=>by obtain ⟨m,z⟩:=I.base.tbls b ps q;exact ⟨m,by rw [Zac (ne b _ z)];exact z⟩⟩,
  I.loc,I.cell,by rw [Zac (Ne.symm f1)];exact I.free,fun x c q=>by rw [Zac (f4 x c q)];exact I.freeC x c q,fun p hp=>?_,fun b u q=>?_,I.len⟩
 ·obtain ⟨p1,p2,p3,p4,p5⟩:=I.pin p hp
  exact ⟨p1,by rw [Zac (f5 p hp)];exact p2,p3,p4,p5⟩
 ·by_cases hb:b=a
  ·subst hb;rw [uS] at q;cases q;exact ok
  ·rw [Zac hb] at q
   exact (I.hok b u q).stay (fun _ _ _ z=>z) (fun c z=>by rw [Zac (ne c _ z)];exact z) fun c xs z=>by rw [Zac (ne c _ z)];exact z
theorem Inv.gone {i:Nat}{x:Str}{m:Str→Option Value}{v:Option Value}{h':Heap}{tk:Nat}(I:Inv X pins σ H s) (hN:X.N.Nodup) (hi:X.N[i]?=some x) (hx:X.env.scope.names.lookup x=some .local)
  (hm:s.heap.Ns X.env.locals m) (hn:h'.Ns X.env.locals fun y=>if y=x then v else m y) (hs:Heap.SameBut X.env.locals s.heap h'):Inv X pins (σ.set i none) H { s with heap:=h',toks:=tk }:=by
 obtain ⟨m0,hm0,hl⟩:=id I.loc
 have hmm:m0=m:=by
  obtain ⟨o1,es1,ep1,a1,a2,_,a3⟩:=hm0
  obtain ⟨o2,es2,ep2,b1,b2,_,b3⟩:=hm
  rw [a1] at b1
  cases b1
  rw [a2] at b2
  cases b2
  funext y
  rw [← a3,← b3]
 subst hmm
 have cne:=I.cne
 obtain ⟨oL,_,_,hoL,_⟩:=id hm
 refine ⟨I.ok,I.os,I.bare,⟨fun b o e n hb hx=>?_,fun b o e n hb hx=>?_,I.base.free,fun b o e hx=>?_,I.base.tups,I.base.frzs,I.base.tbls⟩,⟨_,hn,fun j y v' e1 e2 e3=>?_⟩,fun y c e=>?_,I.free,I.freeC,fun p hp=>?_,fun b ob e=>?_,by simpa using I.len⟩
 ·exact (hs.2 b (Nat.ne_of_lt (Nat.lt_of_lt_of_le (Heap.lt_size e) I.ok.above))).trans (I.base.keep b o e n hb hx)
 ·obtain ⟨sl,e1⟩:=I.base.slot b o e n hb hx
  exact ⟨sl,(hs.2 b (Nat.ne_of_lt (Nat.lt_of_lt_of_le (Heap.lt_size e) I.ok.above))).trans e1⟩
 ·obtain ⟨o',e1⟩:=I.base.there b o e hx
  exact ⟨o',(hs.2 b (Nat.ne_of_lt (Nat.lt_of_lt_of_le (Heap.lt_size e) I.ok.above))).trans e1⟩
 ·have hj:j≠i:=fun z=>by
   subst z
   by_cases hb:j<σ.length
   ·rw [List.getElem?_set_self hb] at e2;cases e2
   ·rw [List.getElem?_eq_none (by simpa using hb)] at e2;cases e2
  rw [List.getElem?_set_ne (Ne.symm hj)] at e2
  obtain ⟨u',r',q⟩:=hl j y v' e1 e2 e3
  refine ⟨u',r',?_⟩
  rcases q with ⟨k,e⟩ | ⟨k,c,e,z⟩
  ·refine .inl ⟨k,?_⟩
   have:y≠x:=fun e=>hj (Zfh hN e1 (e ▸ hi))
   simp [this,e]
  ·exact .inr ⟨k,c,e,z.sameBut hs (cne y c e)⟩
 ·obtain ⟨w',z⟩:=I.cell y c e
  exact ⟨w',z.sameBut hs (cne y c e)⟩
 ·obtain ⟨e,n,ne,nf,d⟩:=I.pin p hp
  exact ⟨(hs.2 p.1 ne).trans e,n,ne,nf,d⟩
 ·refine (I.hok b ob e).stay (fun c w' hc q=>(hs.2 c ?_).trans q) (fun _ q=>q) fun _ _ q=>q
  rintro rfl
  rcases hc with rfl | hc
  ·rw [I.free] at e;cases e
  ·rw [I.free] at hc;cases hc
abbrev Cx.marked (X:Cx) (v:Value):Cx:={ X with A:=X.A.mark (some v),calm:=false,xe:=fun _ _=>False }
theorem Inv.mark (I:Inv X pins σ H s) (v:Value):Inv (X.marked v) pins σ H s :=
 ⟨⟨I.ok.mod,I.ok.kind,I.ok.glob,I.ok.blt,I.ok.above,I.ok.inj,I.ok.has,I.ok.cab,fun z=>absurd z Bool.false_ne_true,I.ok.frames,I.ok.stk,I.ok.exf,I.ok.bs,I.ok.bsz,I.ok.noex,I.ok.exfs,I.ok.funs,I.ok.frf⟩,
  I.os,I.bare,I.base,I.loc,I.cell,I.free,I.freeC,I.pin,I.hok,I.len⟩
theorem Inv.unmark {v:Value}(J:Inv (X.marked v) pins σ H s) (ok:X.Ok):Inv X pins σ H s :=
 ⟨ok,J.os,J.bare,J.base,J.loc,J.cell,J.free,J.freeC,J.pin,J.hok,J.len⟩
end
section
variable {X:Cx} {D:Addr} {body:List Stmt} {t:TSx} {x n dn:Str} {np xp ep ap hp pos:Pos} {i j:Nat}
def Z45 (K:W.Frag) (D:Addr) (i j:Nat) (t:TSx):TS:=fun B σ H=>t B (fun cls dx σ' H'=>∃ C,cls=.ref C∧ExC K C∧W.subIn K (.ref C) (.ref D)=some true ∧
 ∀ e,H' e=none→B.nx (((σ'.set j (some (.ref e))).set i (some (.ref e))).set j none) (upd H' e (XO e C dx))) σ H
theorem Z0m (hst:X.stack=X.env :: X.outer) (hf:X.env.frame=some X.env.locals) (cD:ExC X.K D) (hN:X.N.Nodup) (hg:Gl X dn) (hm:X.mg dn=some (.ref D)) (hi:X.N[i]?=some x) (hx:Loc X.env.scope x) (hj:X.N[j]?=some n)
  (hn:X.env.scope.names.lookup n=some .local) (hb:Z4y X body t) (hfx:X.fn x=true∨X.env.scope.names.lookup x=some .local:=by first | exact .inl rfl | exact .inr rfl | assumption) (hdb:(dn == ("__debug__":Str))=false:=by decide)
  (hd2:(n == ("__debug__":Str))=false:=by decide) (hd3:(n == ("__classdict__":Str))=false:=by decide) (hs:∀ v,swapsWith (.Name n ep) (some (.Name x xp)) ap.line (X.marked v).env=pure false:=by intro;rfl):
  PS X (.Try body [.ExceptHandler (some (.Name dn np)) (some n) [.Assign [.Name x xp] (.Name n ep) ap] hp] [] [] pos) (Z45 X.K D i j t):=by
 intro pins s σ H B I h
 refine wpAny_Try_except (wpAny_mono (hb pins s σ H B _ I h) (fun f s1 q=>?_) fun ev s1 z=>?_)
 ·cases f with
  | next=>exact wpAny_execs_nil q
  | ret v=>exact q
  | brk=>exact q
  | cont=>exact q
 ·obtain ⟨e,T,cls,dx,σ',H',rfl,I1,fe,fT,a,C,rfl,cC,csub,q⟩:=z
  have hfr:X.A.frames=some (X.env :: X.outer):=by rw [← hst];exact I1.ok.frames
  have hl:s1.heap.FunFrames X.base (X.env :: X.outer):=by rw [← hst];exact I1.stack
  refine Zn2 hfr hl hf a fun h1 T1 hT1 a1 c1=>?_
  refine Zhn a1 fun h2 a2 c2=>?_
  rw [← hst] at c1
  have c3:Chg (frs X.stack) [T1,e,T] s1.heap h2:=(c1.mono (fun b z=>z) fun b z=>by simp at z;rcases z with z | z <;> simp [z]).trans (c2.mono (fun b z=>nomatch z) fun b z=>by simp at z;simp [z])
  have I2:Inv X pins σ' H' { s1 with heap:=h2 }:=I1.call (ch:=[e,T]) (t':=s1.toks) (d':=s1.drawn) (g':=s1.gens) (Un.chg (c3.drop hT1) (fun b z=>z) fun b z=>z) (I1.hok.chg (c3.drop hT1) I1.stkFree fun b z=>by
   simp at z;rcases z with z | z <;> rw [z];exact fe.1;exact fT.1) I1.bare fun b z=>by
   simp at z;rcases z with z | z <;> rw [z];exact ⟨fe.2.2.2.1,fe.2.1,fe.2.2.2.2.1,fe.2.2.2.2.2⟩;exact ⟨fT.2.2.2.1,fT.2.1,fT.2.2.2.2.1,fT.2.2.2.2.2⟩
  have fT1:Zj2 X pins H' T1:=I1.fpOk hT1 (I1.hok.fresh hT1)
  have M2:=I2.mark (.ref e)
  refine wpAny_handleBy_cons (codeAny_handlers_test (Zfi (X:=X.marked (.ref e)) M2 hg hm ?_ hdb)) (by intro q;cases q)
  obtain ⟨oe,vs,he,hc,hdx,hd,hv1⟩:=a2.obj
  refine Zov I2.kIn cD he hc cC csub (codeAny_handlers_suite_as ?_)
  refine Zhn a2 fun h3 a3 c4=>?_
  have c5:Chg (frs X.stack) [T1] h2 h3:=c4.mono (fun b z=>nomatch z) fun b z=>z
  have I3:Inv X pins σ' H' { s1 with heap:=h3 }:=I2.call (s:={ s1 with heap:=h2 }) (h':=h3) (ch:=[T1]) (t':=s1.toks) (d':=s1.drawn) (g':=s1.gens) (Un.chg c5 (fun b z=>z) fun b z=>z) (I2.hok.chg c4 (fun b z=>(nomatch z:H' b=none)) fun b z=>by simp at z;rw [z];exact fT1.1) I2.bare fun b z=>by
   simp at z;rw [z];exact ⟨fT1.2.2.2.1,fT1.2.1,fT1.2.2.2.2.1,fT1.2.2.2.2.2⟩
  obtain ⟨oe3,vs3,he3,hc3,hdx3,hd3',hv3⟩:=a3.obj
  have I4:Inv X pins σ' (upd H' e (XO e C dx)) { s1 with heap:=h3 }:=I3.track fe ⟨⟨oe3,he3,hc3,hdx3,by unfold W.notCls;rw [hd3']⟩,⟨oe3,he3⟩,fun h1 h2 ⟨o,q1,q2⟩ k=>⟨o,k o q1,q2⟩⟩
  have M4:=I4.mark (.ref e)
  refine Zk1 (X:=X.marked (.ref e)) (i:=j) M4 hN hj (.inl hn) (v:=.ref e) rfl (fun s5 M5=>?_) (.inr hn)
  have L5:(σ'.set j (some (.ref e)))[j]?=some (some (.ref e)):=by
   have:j<σ'.length:=by rw [I3.len];exact (List.getElem?_eq_some_iff.mp hj).1
   rw [List.getElem?_set_self this]
  have R:=(Zab (Zal (X:=X.marked (.ref e)) (i:=i) (pos:=ap) (pos':=xp) hN hi hx (Zxg (X:=X.marked (.ref e)) (pos:=ep) hj (.inl hn) hd2 hd3) (hs _) hfx)) pins s5 _ _
   { nx:=fun σ6 H6=>σ6=(σ'.set j (some (.ref e))).set i (some (.ref e))∧H6=upd H' e (XO e C dx),rt:=fun _ _=>False } M5 ⟨_,L5,rfl,rfl⟩
  refine wpAny_mono R (fun f s6 q6=>?_) fun _ _ z=>False.elim z
  cases f with
  | ret v=>obtain ⟨_,_,_,_,_,z⟩:=q6;exact z.elim
  | brk=>obtain ⟨_,_,_,z⟩:=q6;exact z.elim
  | cont=>obtain ⟨_,_,_,z⟩:=q6;exact z.elim
  | next =>
   obtain ⟨σ6,H6,M6,rfl,rfl⟩:=q6
   have I6:=M6.unmark I.ok
   obtain ⟨m,hm6,_⟩:=id I6.loc
   refine wpAny_nameGoes_keeps hn hm6 (by rw [I.ok.kind];rfl) fun h7 v hn7 hs7=>?_
   exact ⟨_,_,I6.gone hN hj hn hm6 hn7 hs7,q e fe.1⟩
end
section
variable {X:Cx} {k:Nat} {f C:Addr} {fd:FuncData} {ps:List Str} {sp:Sp} {x m:Str} {p pos apos:Pos} {e o:Expr} {es:List Expr} {ta:TE} {t:TA}
end
end L2
namespace L2
open PySem PySem.Spec PyProof.Rows
theorem Znv:∀ {bs:List Bool}{us:List Value},Zbr (bs.map V.bl) us→us=bs.map Value.bool
 | [],_,h=>by cases h;rfl
 | b :: r,_,h=>by
  cases h with
  | cons a t=>rw [Znv t];cases a;rfl
theorem Zjr (h:Heap):∀ bs:List Bool,ReadsAll h (bs.map Value.bool) (bs.map PyData.bool) []
 | []=>.nil
 | b :: r=>by have:=ReadsAll.cons (Reads.bool (h:=h) b) (Zjr h r);exact this
theorem Zjs (k:Bool):∀ bs:List Bool,countIn (.bool k) (bs.map PyData.bool)=((bs.countP (· == k):Nat):Int)
 | []=>rfl
 | b :: r=>by
  rw [List.map_cons,countIn,Zjs k r,List.countP_cons]
  cases b <;> cases k <;> simp [same] <;> omega
theorem Ztt {X:Cx}:MtM X "list.count" (fun x vs H Q=>∃ (l:Addr) (bs:List Bool) (k:Bool),x=.ref l∧vs=[.bl k]∧H l=some (.lst (bs.map V.bl))∧Q (.int ((bs.countP (· == k):Nat):Int)) H):=by
 intro pins s σ H x vs v us Q I rx rv h
 obtain ⟨l,bs,k,rfl,rfl,hH,q⟩:=h
 cases rx
 obtain ⟨u,rfl,ru⟩:=rv.one
 cases ru
 obtain ⟨z,its,n,r,hl,e⟩:=I.lstM hH
 have hb:=Znv r
 subst hb
 refine count_list_bools (xs:=bs.map PyData.bool) (hp:=s.heap) ⟨_,e,rfl,_,rfl⟩ (Zjr _ _) ?_ ?_
 ·rw [List.all_map,List.all_eq_true]
  intro b _
  rfl
 ·rw [Zjs]
  exact ⟨.int _,H,I.tok _,⟨_,rfl⟩,q⟩
theorem Zp8 {K:W.Frag}{C D:Addr}{b:Bool} (h1:W.isClsIn K D=true) (h2:W.typeIn K (.ref D)=some (.type "type")) (c:ExC K C) (h:W.subIn K (.ref C) (.ref D)=some b):W.kitOne K (.ref C) (.ref D)=some b:=by
 unfold W.kitOne
 by_cases z:C=D
 ·subst z
  obtain ⟨nm,q,N,bs,bm,hdct,sn,sub,ab,col,dd,k0,k1,k2,k3,k5,lk⟩:=c.obj
  have:=Zfa lk h
  rw [if_pos (by simp)]
  rw [← this]
  simp
 ·rw [if_neg (by simpa using z)]
  unfold W.kitCls
  have h1':(W.clsIn K D).isSome=true:=h1
  show (if ((W.clsIn K D).isSome&&W.typeIn K (.ref D) == some (.type "type"))=true then W.subIn K (.ref C) (.ref D) else none)=some b
  rw [if_pos (by rw [h1',h2];rfl)]
  exact h
theorem Ztw {K:W.Frag}{C:Addr}(c:ExC K C):W.kitOne K (.ref C) (.type "ValueError")=some true:=by
 unfold W.kitOne
 rw [if_neg (by simp)]
 unfold W.kitCls
 show (if W.kitMeta "ValueError"=true then W.subIn K (.ref C) (.type "ValueError") else none)=some true
 rw [if_pos (by decide +kernel)]
 exact c.val
def Z2n (K:W.Frag):List V→Hp→VK→Prop:=fun xs H Q=>∃ (e C:Addr) (dx:Option Addr) (y:V) (cv:Value) (b:Bool),xs=[.ref e,y]∧Zb7 y cv∧(∀ u,Zb7 y u→u=cv)∧H e=some (XO e C dx)∧Zrq H dx∧ExA K C∧W.kitOne K (.ref C) cv=some b∧Q (.bl b) H
theorem Zbg {X:Cx}:Zif X (.builtin "isinstance") (Z2n X.K):=by
 intro pins s σ H xs us Q I r h
 obtain ⟨e,C,dx,y,cv,b,rfl,ry,hy,hx,hd,c,k,q⟩:=h
 obtain ⟨u,w',rfl,r1,r2⟩:=Zz1 r
 cases r1
 rw [hy w' r2]
 exact Zri I hx hd c k fun tk=>⟨.bl b,H,I.tok _,rfl,q⟩
theorem Zag.xdict {H H':Hp}{dx:Option Addr}(h:Zrq H dx) (s:Zag H H'):Zrq H' dx:=h.elim .inl fun ⟨a,fs,e,x⟩=>.inr ⟨a,fs,e,s _ _ x⟩
end L2
namespace L2
open PySem PySem.Spec PyProof.Rows
def Z4q:Expr→Option Int
 | .Constant (.int i) _ _=>some i
 | _=>none
section
variable {X:Cx}
end
end L2
namespace L2
open PySem PySem.Spec PyProof.Rows
end L2
namespace L2
open PySem PySem.Spec PyProof.Rows
end L2
namespace L2
open PySem PySem.W PySem.Spec PyProof.Rows
theorem Zyb {K:W.Frag}{H:Hp}:∀ xs:List Str,Reps K H (xs.map V.str) (xs.map Dat.str)
 | []=>.nil
 | x :: r=>.cons (.str x) (Zyb r)
theorem Zhx:∀ xs:List Str,kqdPs (xs.map Dat.str)=xs.map PyData.str
 | []=>by rw [List.map_nil,kqdPs];rfl
 | x :: r=>by rw [List.map_cons,kqdPs,Zhx r,kqdP];rfl
theorem Zh1:∀ xs:List Str,PyData.depthAll (xs.map PyData.str)=0
 | []=>by rw [List.map_nil,PyData.depthAll]
 | x :: r=>by rw [List.map_cons,PyData.depthAll,Zh1 r,PyData.depth];rfl
theorem Zgv:∀ xs:List Str,PyData.hasDictAll (xs.map PyData.str)=false
 | []=>by rw [List.map_nil,PyData.hasDictAll]
 | x :: r=>by rw [List.map_cons,PyData.hasDictAll,Zgv r,PyData.hasDict];rfl
theorem Zpc:∀ {xs:List Str},(∀ x∈xs,x.length≤50∧∀ c∈x.cps.toList,c<16 ^ 8)→((xs.map reprText).map (·.length)).sum≤502 * xs.length
 | [],_=>by simp
 | x :: r,h=>by
  have ih:=Zpc (xs:=r) fun y hy=>h y (by simp [hy])
  obtain ⟨h1,h2⟩:=h x (by simp)
  have b:=StrLaws.reprText_len x h2
  rw [List.map_cons,List.map_cons,List.sum_cons,List.length_cons]
  omega
theorem Zt1 {xs:List Str}(h:∀ x∈xs,x.length≤50∧∀ c∈x.cps.toList,c<16 ^ 8) (hl:xs.length≤100):(Str.join ", " (xs.map reprText)).length≤60000:=by
 cases xs with
 | nil=>decide
 | cons a r =>
  have s:=Zpc h
  rw [List.map_cons,len_join_cons ", " (reprText a) (r.map reprText),← List.map_cons,List.length_map]
  have e:(Str.ofString ", ").length=2:=by decide
  rw [e]
  simp only [List.length_cons] at hl s
  omega
section
variable {X:Cx} {e:Expr} {te:TE} {pos:Pos} {k:Nat}
def Zda (x:Str):Prop:=x.length≤50∧∀ c∈x.cps.toList,c<16 ^ 8
def Z3c (K:W.Frag) (te:TE):TF:=fun σ H Q=>te σ H fun v H1=>∃ (t:Addr) (xs:List Str),v=.ref t∧(SqT K H1 t (xs.map V.str)∨SqL K H1 t (xs.map V.str))∧xs.length≤100∧(∀ x∈xs,Zda x)∧Q H1
theorem Zyk (hr:Zb6 k X.A) (he:PE X e te):PF X (.FormattedValue e 114 none pos) (Z3c X.K te):=by
 intro pins s σ H Q I h
 refine wpAny_FormattedValue_repr (thn (he pins s σ H _ I h) fun v s1 ⟨y,H1,I1,r1,t,xs,ey,ht,hl,hx,q⟩=>?_)
 subst ey
 obtain rfl:v=Value.ref t:=r1
 have hu:=hr.units
 have hj:=Zt1 hx hl
 have fin:∀ z:Str,z.length≤100000→∀ h' u tk,(∀ b o,s1.heap.get? b=some o→h'.get? b=some o)→wpAny (model X.prog X.w) X.A (formatField (.str z u) Str.empty) (fun u s'=>∃ y tk H',u=.str y tk∧y.length≤100000∧Inv X pins σ H' s'∧Q H') X.xe { s1 with heap:=h',toks:=tk }:=fun z hz h' u tk kp=>by
  have I2:Inv X pins σ H1 { s1 with heap:=h',toks:=tk }:=I1.kept kp
  exact wpAny_formatField_str ⟨_,_,H1,rfl,hz,I2,q⟩ ⟨_,_,H1,rfl,hz,I2.tok _,q⟩ (Nat.le_trans hz (by decide))
 rcases ht with ht | ht
 ·obtain ⟨as,ra⟩:=(Rep.tuple ht (Zyb xs)).reads I1 rfl
  rw [kqdP,Zhx] at ra
  have sh:(PyData.tuple (xs.map PyData.str)).shown.length≤100000:=by
   rw [PyData.shown_tuple,PyData.shownAll_strs,strLen_append,strLen_append]
   have e1:(Str.ofString "(").length=1:=by decide
   have e2:(Str.ofString (if (xs.map PyData.str).length == 1 then ",)" else ")")).length≤2:=by split <;> decide
   omega
  refine pyReprObj_of_reads ra ?_ ?_ hr.gd ?_ (fun _ _ z=>z) (fun h' u tk kp=>fin _ sh h' u tk kp) (Nat.le_trans sh (by decide))
  ·rw [PyData.showable,PyData.showableAll_strs]
  ·rw [PyData.hasDict,Zgv]
   intro z;cases z
  ·rw [PyData.depth,Zh1]
   omega
 ·obtain ⟨as,ra⟩:=(Rep.list ht (Zyb xs)).reads I1 rfl
  rw [kqdP,Zhx] at ra
  have sh:(PyData.list (xs.map PyData.str)).shown.length≤100000:=by
   rw [PyData.shown_list,PyData.shownAll_strs,strLen_append,strLen_append]
   have e1:(Str.ofString "[").length=1:=by decide
   have e2:(Str.ofString "]").length=1:=by decide
   omega
  refine pyReprObj_of_reads ra ?_ ?_ hr.gd ?_ (fun _ _ z=>z) (fun h' u tk kp=>fin _ sh h' u tk kp) (Nat.le_trans sh (by decide))
  ·rw [PyData.showable,PyData.showableAll_strs]
  ·rw [PyData.hasDict,Zgv]
   intro z;cases z
  ·rw [PyData.depth,Zh1]
   omega
end
theorem Zaq.or {P:Program}{w:World}{K:W.Frag}{mg:Str→Option Value}{base:Heap}{CX:CXT}{k:Nat}{f:Addr}{fd:FuncData}{ps:List Str}{sp sp':Sp}(F:Zaq P w K mg base CX k f fd ps sp) (G:Zaq P w K mg base CX k f fd ps sp'):
  Zaq P w K mg base CX k f fd ps (fun vs H Q E=>sp vs H Q E∨sp' vs H Q E):=
 ⟨fun vs H Q E h=>h.elim (F.len vs H Q E) (G.len vs H Q E),fun A outer s H args us vs Q E hr he hb hv hs=>hs.elim (F.run A outer s H args us vs Q E hr he hb hv) (G.run A outer s H args us vs Q E hr he hb hv)⟩
end L2
namespace L2
open PySem PySem.Spec PyProof.Rows HT
section
variable {prog:Program} {w:World} {A:Around} {E:Value→Shared→Prop} {s:Shared}
end
theorem Zvi {K:W.Frag}{H:Hp}{a b:Addr}{xs ys:List V}{Q:VK}(hx:H a=some (.tup xs)) (hy:H b=some (.tup ys)) (hz:xs.length + ys.length≤sizeLine) (q:∀ p H',Zag H H'→H' p=some (.tup (xs++ys))→Q (.ref p) H'):Zvj K (.ref a) (.ref b) H Q :=
 ⟨a,b,xs,ys,rfl,rfl,SqT.of hx,SqT.of hy,hz,fun e=>q b H (Zag.refl _) (by rw [e];exact hy),fun _ e=>q a H (Zag.refl _) (by rw [e,List.append_nil];exact hx),fun _ _ p hp=>q p _ (fun c o e=>by rw [Zac (nNo e hp)];exact e) uS⟩
end L2
namespace L2
open PySem PySem.Spec PyProof.Rows
section
variable {X:Cx}
end
end L2
namespace L2
open PySem PySem.Spec PySem.Builtin PySem.Builtin.ObjectAttr PySem.W
structure ExI (K:W.Frag) (C D:Addr) (a:Str):Prop extends ExA K C where
 lk:∃ nm q N bs sn sub ab col dd k0 k1 k2 k3 k5,K.lookup C=some (excClassObj nm q C N bs [.ref D,.type "ValueError",.type "Exception",.type "BaseException",.type "object"] true sn sub ab col dd k0 k1 k2 k3 k5 "ValueError.__new__")
 sa:W.findIn K (.ref C) "__setattr__"=some (some (.builtin "object.__setattr__"))
 na:W.findIn K (.ref C) a=some none
abbrev Zow (C t:Addr) (dx:Option Addr):Obj:={ cls:=.ref C,dict:=dx,data:=.fields #[.ref t,.none,.none,.none,.bool false,.none] }
section
variable {K:W.Frag} {prog:Program} {w:World} {A:Around} {E:Value→Shared→Prop} {s:Shared} {C D e t0:Addr} {a:Str} {v:Value}
theorem Zzi {tk:Tok}{R:Result→Shared→Prop}(X:K.In s.heap) (c:ExI K C D a) (he:s.heap.get? e=some (Zby C t0))
  (h:∀ h' dx,s.heap.objs.size≤dx→h'.get? e=some (Zow C t0 (some dx))→h'.Ns1 dx (fun y=>if y=a then some v else none)→(∀ b o,b≠e→s.heap.get? b=some o→h'.get? b=some o)→R (.ok (.ret .none)) { s with heap:=h',toks:=s.toks + 1 }):
  codeAny (model prog w) A (.call (.builtin "object.__setattr__") ⟨[.ref e,.str a tk,v],[]⟩) R s:=by
 obtain ⟨nm,q,N,bs,sn,sub,ab,col,dd,k0,k1,k2,k3,k5,lk⟩:=c.lk
 have SF:=PySem.F.store_object
 have I:InstAt s.heap e (Zby C t0) C none:=⟨he,rfl,rfl,trivial⟩
 have hcd:clsIn K C=some { name:=nm,bases:=bs,mro:=.ref C :: [.ref D,.type "ValueError",.type "Exception",.type "BaseException",.type "object"],ns:=N,qualname:=q,hasDict:=true,slotNames:=sn,subclasses:=sub,abstract:=ab,collection:=col,hasDel:=false }:=by
  unfold W.clsIn
  rw [lk]
 have sb:Looks (model prog w) s.heap (isInstance (.ref e) (.type "object")) true:=I.type.andThen (looks_mroIn X c.ob)
 refine codeAny_call_builtin SF.slot.plain SF.entry (@check_slot (model prog w) _ _ s "object.__setattr__" "object" "__setattr__" (.ref e) [.str a tk,v] [] _ SF.kind SF.split sb (SF.args (.ref e) (.str a tk) v) ?_)
 have hm:Looks (model prog w) s.heap (mroOf (.ref C)) (.ref C :: [.ref D,.type "ValueError",.type "Exception",.type "BaseException",.type "object"]):=(looks_clsIn X hcd).andThen .now
 rw [osa_eq,refuse_eq]
 refine wpAny_bind (wpAny_bind (I.type.here (wpAny_bind (hm.here ?_))))
 rw [refuseLoop_ref,refuseLoop_ref,PySem.F.store_ValueError.passes]
 refine wpAny_pure (wpAny_bind (I.type.here (wpAny_bind ((looks_findIn X c.na).here (wpAny_bind (wpAny_pure ?_))))))
 show wpAny _ _ (storeInOwnDict (.ref e) (.ref C) (.str a tk) a v false) _ _ _
 refine wpAny_bind (wpAny_pure (wpAny_bind (wpAny_bind (wpAny_loadPart he (wpAny_bind ((looks_clsIn X hcd).here ?_))))))
 have hes:e≠s.heap.objs.size:=Nat.ne_of_lt (Heap.lt_size he)
 have he1:(s.heap.push { cls:=.type "dict",data:=.dict #[] }).get? e=some (Zby C t0):=Heap.get?_push_of_some _ he
 obtain ⟨hh,g,d,t,os⟩:=s
 dsimp only at he he1 hes h ⊢
 refine wpAny_bind (wpAny_alloc' (wpAny_bind (wpAny_update' he1 (wpAny_pure ?_))))
 have hgd:((hh.push { cls:=.type "dict",data:=.dict #[] }).update e fun o=>{ cls:=o.cls,dict:=some hh.objs.size,data:=o.data,slots:=o.slots }).get? hh.objs.size=some { cls:=.type "dict",data:=.dict #[] } :=
  (Heap.get?_update_ne _ _ _ _ hes.symm).trans (Heap.get?_push_at rfl rfl)
 have hnd:((hh.push { cls:=.type "dict",data:=.dict #[] }).update e fun o=>{ cls:=o.cls,dict:=some hh.objs.size,data:=o.data,slots:=o.slots }).Ns hh.objs.size (fun _=>none):=
  ⟨_,#[],_,hgd,rfl,fun e he=>absurd he (by simp),fun _=>rfl⟩
 show wpAny _ _ (storeInDict hh.objs.size (.str a tk) a v) _ _ _
 unfold storeInDict newKeyGuard
 refine wpAny_bind (wpAny_pure (wpAny_bind (wpAny_nsSet1 (Heap.Ns1.of_empty hnd) fun h' hn' hs=>?_)))
 obtain ⟨oD,esD,epD,hoD,hdD,hcD⟩:=hn'.count (Within.cons a v Within.nil)
 refine wpAny_bind (wpAny_lookBehind hoD (by rw [hdD];exact pastItsLine_dict (Nat.le_trans hcD (by rw [List.length_cons,List.length_nil,sizeLine_eq];omega))) ?_)
 refine wpAny_pure (h h' hh.objs.size (Nat.le_refl _) ?_ hn' fun b o hb q=>?_)
 ·exact (hs.2 e hes).trans (Heap.get?_update_self _ he1 rfl)
 ·exact (hs.2 b (Nat.ne_of_lt (Heap.lt_size q))).trans ((Heap.get?_update_ne _ _ _ _ hb).trans (Heap.get?_push_of_some _ q))
theorem Zzh {Q:Unit→Shared→Prop}(X:K.In s.heap) (c:ExI K C D a) (he:s.heap.get? e=some (Zby C t0))
  (h:∀ h' dx,s.heap.objs.size≤dx→h'.get? e=some (Zow C t0 (some dx))→h'.Ns1 dx (fun y=>if y=a then some v else none)→(∀ b o,b≠e→s.heap.get? b=some o→h'.get? b=some o)→Q () { s with heap:=h',toks:=s.toks + 2 }):
  wpAny (model prog w) A (setAttr (.ref e) a v) Q E s :=
 set_plain X (⟨he,rfl,rfl,trivial⟩:InstAt s.heap e (Zby C t0) C none) c.sa (Zzi (s:={ s with toks:=s.toks + 1 }) X c he fun h' dx a1 a2 a3 a4=>h h' dx a1 a2 a3 a4)
theorem Zzl {ox od:Obj}{Q:Value→Shared→Prop}{expr:Bool}(X:K.In s.heap) (c:ExI K C D a) (I:InstAt s.heap e ox C (some od)) (hl:lookIn a od=some (some v)) (hv:handedIn v=true) (h:Q v { s with toks:=s.toks + 1 }):
  wpAny (model prog w) A (getAttr (.ref e) a expr) Q E s:=by
 obtain ⟨nm,q,N,bs,sn,sub,ab,col,dd,k0,k1,k2,k3,k5,lk⟩:=c.lk
 have hd:hasDictIn K C=true:=by
  unfold hasDictIn clsIn
  rw [lk]
  rfl
 obtain ⟨hh,g,d,t,os⟩:=s
 unfold getAttr
 refine wpAny_bind (wpAny_mkText ?_)
 exact Zxp X c.toExA I (looks_find X I (findObj_own hd c.na rfl hl)) (fun z=>nomatch z) (fun {A E Q} r=>wpAny_pure r) hv h
end
end L2
namespace L2
open PySem PySem.Spec PyProof.Rows
def XN (e C:Addr):HO:=.ext fun h=>∃ t0,h.get? e=some (Zby C t0)
def XM (e C dx:Addr):HO:=.ext fun h=>∃ t0,h.get? e=some (Zow C t0 (some dx))
def del (H:Hp) (a:Addr):Hp:=fun b=>if b=a then none else H b
theorem Zhl {H:Hp}{a:Addr}:del H a a=none:=by unfold del;rw [if_pos rfl]
theorem Zh8 {H:Hp}{a b:Addr}(h:b≠a):del H a b=H b:=by unfold del;rw [if_neg h]
structure DIn (K:W.Frag) (D:Addr):Prop where
 ga:W.specialIn K (.ref D) "__getattribute__"=some (some (.builtin "type.__getattribute__"))
 rd:W.readsIn K D (.type "type")=true
 fi:W.findCls K (.ref D) (.type "type") "__init__"=some (.val (.builtin "ValueError.__init__"))
section
variable {X:Cx} {pins:List (Addr×Obj)} {σ:St} {H:Hp} {s:Shared} {a:Addr} {φ:Heap→Prop}
theorem Inv.untrack (I:Inv X pins σ H s) (ha:H a=some (.ext φ)) (f:X.s₀.heap.objs.size≤a):Inv X pins σ (del H a) s:=by
 have ne:∀ b u,H b=some u→(∀ ψ,u≠.ext ψ)→b≠a:=fun b u q n z=>by rw [z,ha] at q;cases q;exact n _ rfl
 have none':∀ b,H b=none→del H a b=none:=fun b q=>by
  unfold del
  split
  ·rfl
  ·exact q
 refine ⟨I.ok,I.os,I.bare,⟨I.base.keep,I.base.slot,fun b u q n hx=>none' b (I.base.free b u q n hx),I.base.there,fun b xs q=>?_,fun b u xs q=>?_,fun b ps q=>?_⟩,
  I.loc,I.cell,none' _ I.free,fun x c q=>none' _ (I.freeC x c q),fun p hp=>?_,fun b u q=>?_,I.len⟩
 ·have z:=I.base.tups b xs q;rw [Zh8 (ne b _ z fun _ q=>nomatch q)];exact z
 ·have z:=I.base.frzs b u xs q;rw [Zh8 (ne b _ z fun _ q=>nomatch q)];exact z
 ·obtain ⟨m,z⟩:=I.base.tbls b ps q;exact ⟨m,by rw [Zh8 (ne b _ z fun _ q=>nomatch q)];exact z⟩
 ·obtain ⟨p1,p2,p3,p4,p5⟩:=I.pin p hp
  exact ⟨p1,none' _ p2,p3,p4,p5⟩
 ·have hb:b≠a:=fun z=>by rw [z,Zhl] at q;cases q
  rw [Zh8 hb] at q
  exact (I.hok b u q).stay (fun _ _ _ z=>z) (fun c z=>by rw [Zh8 (ne c _ z fun _ q=>nomatch q)];exact z) fun c xs z=>by rw [Zh8 (ne c _ z fun _ q=>nomatch q)];exact z
end
section
variable {X:Cx} {C D f:Addr} {fd:FuncData} {k:Nat} {x dn a:Str} {np cpos pos apos pos':Pos} {e o value:Expr} {es:List Expr} {t:TA} {ta tv:TE} {ps:List Str}
def tDI (K:W.Frag) (t:TA):TE:=fun σ H Q=>t σ H fun vs H1=>∃ x C ws,vs=.ref x :: ws∧ws.length≤100∧ExC K C∧H1 x=some (XN x C)∧Q .non H1
theorem Zhg {pl:Sem Bool}(d:DIn X.K D) (hg:Gl X dn) (hm:X.mg dn=some (.ref D)) (ha:PA X (e :: es) t) (hdb:(dn == ("__debug__":Str))=false:=by decide)
  (hst:starEach (e :: es) X.env=(false,eval e X.env):: starEach es X.env:=by rfl) (hpl:(backTo cpos (starEach es X.env)).any (·.1)=false:=by rfl)
  (ht:eval (.Call (.Attribute (.Name dn np) "__init__" apos) (e :: es) [] cpos) X.env=(eval (.Name dn np) X.env>>=fun ov=>standAt apos.atName>>=fun _=>holding [ov] (getMethod ov "__init__" pl)>>=fun r=>callWith cpos r.1 r.2 (backTo cpos (starEach (e :: es) X.env)) (backToKw cpos (keywordEach [] X.env))):=by rfl):
  PE X (.Call (.Attribute (.Name dn np) "__init__" apos) (e :: es) [] cpos) (tDI X.K t):=by
 intro pins s σ H Q I h
 refine W.methodCall_KW (pl:=pl) (Zfi I hg hm ?_ hdb) ht
 refine W.method_cls I.kIn d.ga (W.cls_value I.kIn d.rd d.fi rfl ?_)
 have I0:Inv X pins σ H { s with toks:=s.toks + 1 }:=I.tok _
 refine PyProof.Rows.callWith_builtin1 (thn (ha cpos pins _ σ H _ I0 h) fun us s1 ⟨vs,H1,I1,r,x,C,ws,ev,hl,c,hx,q⟩=>?_) hst hpl
 subst ev
 obtain ⟨u,us',eu,r1,r2⟩:∃ u us',us=u :: us'∧Zb7 (.ref x) u∧Zbr ws us':=by cases r with | cons a b=>exact ⟨_,_,rfl,a,b⟩
 subst eu
 obtain rfl:u=Value.ref x:=r1
 ·skip
  have ok:Zbq X.prog X.w H1 s1.heap x (XN x C):=I1.hok x _ hx
  obtain ⟨⟨t0,he⟩,_,_⟩:=ok
  obtain ⟨hp,g,dr,tk,os⟩:=s1
  dsimp only at he
  refine wpAny_call (Znr (t0:=t0) I1.kIn c he (by rw [← r2.length,sizeLine_eq];omega) ?_)
  refine ⟨.non,H1,?_,rfl,q⟩
  have hs:x≠hp.objs.size:=Nat.ne_of_lt (Heap.lt_size he)
  have he1:(hp.push (Zdm us')).get? x=some (Zby C t0):=Heap.get?_push_of_some _ he
  have up:upd H1 x (XN x C)=H1:=by
   funext b
   unfold upd
   split
   ·rename_i z;rw [z];exact hx.symm
   ·rfl
  have W:=I1.write (x:=x) (e:=x) (o:=XN x C) (t':=tk) (h':=(hp.push (Zdm us')).update x (Obj.mapFields (·.setIfInBounds 0 (.ref hp.objs.size)))) (by rw [hx];exact True.intro) (.inl rfl)
   (fun b u hb z=>(Heap.get?_update_other _ _ (Ne.symm hb)).trans (Heap.get?_push_of_some _ z)) ⟨_,Heap.get?_update_self _ he1 rfl⟩
   ⟨⟨hp.objs.size,Heap.get?_update_self _ he1 rfl⟩,⟨_,Heap.get?_update_self _ he1 rfl⟩,fun h1 h2 ⟨t1,q1⟩ k=>⟨t1,k _ q1⟩⟩
  rw [up] at W
  exact W
def sXF (K:W.Frag) (D:Addr) (ta tv:TE) (a:Str):TS:=fun B σ H=>tv σ H fun y H1=>ta σ H1 fun x H2=>∃ e C,x=.ref e∧H2 e=some (XN e C)∧ExI K C D a ∧
 ∀ dx,H2 dx=none→B.nx σ (upd (upd H2 e (XM e C dx)) dx (.xd [(a,y)]))
theorem Zi3 (ha:PE X o ta) (hv:PE X value tv) (hs:swapsWith value (some (.Attribute o a pos')) pos.line X.env=pure false:=by rfl):PS X (.Assign [.Attribute o a pos'] value pos) (sXF X.K D ta tv a):=by
 intro pins s σ H B I h
 refine plainObj_wpAny_Assign_Attribute (thn (hv pins s σ H _ I h) fun u s1 ⟨y,H1,I1,ry,q⟩=>thn (ha pins s1 σ H1 _ I1 q) fun ov s2 ⟨x,H2,I2,rx,e,C,ex,hx,c,q2⟩=>?_) hs
 subst ex
 obtain rfl:ov=Value.ref e:=rx
 have ok:Zbq X.prog X.w H2 s2.heap e (XN e C):=I2.hok e _ hx
 obtain ⟨⟨t0,he⟩,_,_⟩:=ok
 refine Zzh I2.kIn c he fun h' dx hdx he' hn k=>?_
 have hd0:H2 dx=none:=I2.hok.fresh hdx
 have hde:dx≠e:=Nat.ne_of_gt (Nat.lt_of_lt_of_le (Heap.lt_size he) hdx)
 refine ⟨σ,_,?_,q2 dx hd0⟩
 have W:=I2.write (x:=e) (e:=e) (o:=XM e C dx) (t':=s2.toks + 2) (h':=h') (by rw [hx];exact True.intro) (.inl rfl) (fun b u hb z=>k b u hb z) ⟨_,he'⟩ ⟨⟨t0,he'⟩,⟨_,he'⟩,fun h1 h2 ⟨t1,q1⟩ k=>⟨t1,k _ q1⟩⟩
 refine W.track ?_ ⟨_,hn,fun f=>?_⟩
 ·refine I2.fpOk hdx ?_
  rw [Zac hde];exact hd0
 ·by_cases q:f=a
  ·subst q
   simp only [List.lookup,beq_self_eq_true,if_true]
   exact ry
  ·have hb:(f == a)=false:=beq_eq_false_iff_ne.mpr q
   simp only [List.lookup,hb,if_neg q]
   exact True.intro
def Zn5 (C:Addr) (a:Str) (ok:V→Hp→Prop):Sp:=fun vs H Q _=>∃ x y,vs=[.ref x,y]∧ok y H∧H x=some (XN x C)∧∀ dx,H dx=none→Q .non (upd (upd H x (XM x C dx)) dx (.xd [(a,y)]))
def Z47 (E:XK) (C:Addr) (a:Str) (ok:V→Hp→Prop) (t:TA):TS:=fun _ σ H=>t σ H fun vs H1=>∃ y,vs=[y]∧(∀ x,H1 x=none→ok y (upd H1 x (XN x C)))∧∀ dx,H1 dx=none→E (.ref C) (some dx) (upd H1 dx (.xd [(a,y)]))
theorem Zef {E:XK}{ok:V→Hp→Prop}(Fx:Fns X E) (hh:X.A.handled=none) (c:ExC X.K C) (hi:W.findIn X.K (.ref C) "__init__"=some (some (.ref f))) (hf:W.typeIn X.K (.ref f)=some (.type "function"))
  (F:Zaq X.prog X.w X.K X.mg X.base CX0 k f fd ps (Zn5 C a ok)) (hr:Zb6 (k + 1) X.A) (hb:Zc9 X.K fd ps []) (hg:Gl X x) (hm:X.mg x=some (.ref C)) (ha:PA X (e :: es) t)
  (hdb:(x == ("__debug__":Str))=false:=by decide) (he:starEach (e :: es) X.env=(false,eval e X.env):: starEach es X.env:=by rfl) (hpl:(backTo cpos (starEach es X.env)).any (·.1)=false:=by rfl):
  PS X (.Raise (some (.Call (.Name x np) (e :: es) [] cpos)) none pos) (Z47 E C a ok t):=by
 intro pins s σ H B I h
 refine Zhs c hh (wpAny_Call_Name_kw (Zfi I hg hm ?_ hdb))
 refine W.callWith_K (h₀:=X.base) I.ok.mod.kin c.kp (thn (ha cpos pins s σ H _ I h) fun us s1 ⟨vs,H1,I1,r,y,ev,hy,q⟩=>⟨I1.kIn,?_⟩) he hpl
 subst ev
 rw [List.nil_append]
 have rl:us.length=1:=r.length.symm
 obtain ⟨hp,g,dr,tk,os⟩:=s1
 refine Zlz I1.kIn c hi (fun self=>W.bind_fn (I1.kIn.keeps fun b o q=>Heap.get?_push_of_some _ (Heap.get?_push_of_some _ q)) self hf) (by rw [rl,sizeLine_eq];decide) ?_
 have got:((hp.push (Zdm us)).push (Zby C hp.objs.size)).get? (hp.objs.size + 1)=some (Zby C hp.objs.size):=Heap.get?_push_at (by rw [Heap.size_push]) rfl
 have n0:H1 (hp.objs.size + 1)=none:=I1.hok.fresh (Nat.le_succ _)
 have I2:Inv X pins σ (upd H1 (hp.objs.size + 1) (XN (hp.objs.size + 1) C)) ⟨(hp.push (Zdm us)).push (Zby C hp.objs.size),g,dr,tk,os⟩ :=
  I1.laid (t':=tk) (fun b u q=>Heap.get?_push_of_some _ (Heap.get?_push_of_some _ q)) (Nat.le_succ _) ⟨⟨_,got⟩,⟨_,got⟩,fun h1 h2 ⟨t1,q1⟩ k=>⟨t1,k _ q1⟩⟩
 have r2:Zbr [V.ref (hp.objs.size + 1),y] (Value.ref (hp.objs.size + 1):: us):=.cons rfl r
 have hq:Zn5 C a ok [V.ref (hp.objs.size + 1),y] (upd H1 (hp.objs.size + 1) (XN (hp.objs.size + 1) C)) (fun v H2=>v=.non∧∃ dx,H1 dx=none∧dx≠hp.objs.size + 1∧H2=upd (upd (upd H1 (hp.objs.size + 1) (XN (hp.objs.size + 1) C)) (hp.objs.size + 1) (XM (hp.objs.size + 1) C dx)) dx (.xd [(a,y)])) (fun _ _ _=>False):=by
  refine ⟨_,y,rfl,hy _ n0,uS,fun dx hd=>⟨rfl,dx,?_,?_,rfl⟩⟩
  ·by_cases z:dx=hp.objs.size + 1
   ·rw [z];exact n0
   ·rw [Zac z] at hd;exact hd
  ·intro z;rw [z,uS] at hd;cases hd
 have hl:(Value.ref (hp.objs.size + 1):: us++[]).length=ps.length:=by rw [List.append_nil,← r2.length];exact F.len _ _ _ _ hq
 have b:=hb _ (Value.ref (hp.objs.size + 1):: us) I2.kIn hl
 rw [List.append_nil] at b
 refine codeAny_mono (F.run _ X.stack _ _ ⟨Value.ref (hp.objs.size + 1):: us,[]⟩ (Value.ref (hp.objs.size + 1):: us) _ _ (fun _ _ _=>False) (hr.make C us []) (I2.env0.make C us []) b r2 hq) fun r s' hq'=>?_
 cases r with
 | error ev=>exact False.elim hq'
 | ok fl =>
  cases fl with
  | ret u =>
   obtain ⟨v,H',I3,rv,ev,dx,d1,d2,eH⟩:=I2.after hq'
   subst ev
   have hx:H' (hp.objs.size + 1)=some (XM (hp.objs.size + 1) C dx):=by rw [eH,Zac (Ne.symm d2),uS]
   have ok3:Zbq X.prog X.w H' s'.heap _ (XM (hp.objs.size + 1) C dx):=I3.hok _ _ hx
   obtain ⟨⟨t0,g0⟩,_,_⟩:=ok3
   have eq:del H' (hp.objs.size + 1)=upd H1 dx (.xd [(a,y)]):=by
    funext b
    by_cases z:b=hp.objs.size + 1
    ·rw [z,Zhl,Zac (Ne.symm d2),n0]
    ·rw [Zh8 z,eH]
     by_cases z':b=dx
     ·rw [z',uS,uS]
     ·rw [Zac z',Zac z',Zac z,Zac z]
   have I4:=I3.untrack hx (Nat.le_trans I1.sz (Nat.le_succ _))
   refine ⟨rv,hp.objs.size + 1,t0,some dx,#[],rfl,I4.kIn,g0,?_⟩
   exact Fx.raised I4 (I1.fpOk (Nat.le_succ _) Zhl) g0 rfl rfl (by rw [eq];exact q dx d1)
  | next=>exact False.elim hq'
  | brk=>exact False.elim hq'
  | cont=>exact False.elim hq'
def tXF (K:W.Frag) (D:Addr) (ta:TE) (a:Str):TE:=fun σ H Q=>ta σ H fun x H1=>∃ e C dx fs v,x=.ref e∧H1 e=some (XO e C (some dx))∧H1 dx=some (.xd fs)∧ExI K C D a∧fs.lookup a=some v∧Q v H1
theorem Zoh (ha:PE X o ta) (hb:attributeBase o a X.env (eval o X.env)=eval o X.env:=by rfl):PE X (.Attribute o a pos) (tXF X.K D ta a):=by
 intro pins s σ H Q I h
 refine Zut hb (thn (ha pins s σ H _ I h) fun u s1 ⟨x,H1,I1,rx,e,C,dx,fs,v,ex,hx,hd,c,l,q⟩=>?_)
 subst ex
 obtain rfl:u=Value.ref e:=rx
 have ok:Zbq X.prog X.w H1 s1.heap e (XO e C (some dx)):=I1.hok e _ hx
 obtain ⟨⟨oe,h1,h2,h3,h4⟩,_,_⟩:=ok
 have okd:Zbq X.prog X.w H1 s1.heap dx (.xd fs):=I1.hok dx _ hd
 obtain ⟨mA,n,r⟩:=okd
 obtain ⟨od,ho,hl⟩:=Zne n
 obtain ⟨u,hu,ru⟩:=Zn3.some_of (v:=v) (o:=mA a) (by rw [← l];exact r a)
 exact Zzl (ox:=oe) (od:=od) I1.kIn c ⟨h1,h2,h4,by rw [h3];exact ho⟩ (by rw [hl,hu]) (Zno ru) ⟨v,H1,I1.tok _,ru,q⟩
end
end L2
namespace L2
open PySem PySem.Spec PyProof.Rows
structure Z3r (X:Cx) (scope:Scope) (own frees:List Str) (js:List Nat):Prop where
 calm:X.calm=true
 kind:scope.kind=.function
 cells:∀ y∈scope.names,y.2=.cell→scope.names.lookup y.1=some .cell
 locals:∀ y∈scope.names,y.2=.local→scope.names.lookup y.1=some .local
 fr:∀ y∈scope.names,y.2=.free→X.env.scope.names.lookup y.1=some .cell∨X.env.scope.names.lookup y.1=some .free
 fre:∀ x∈frees,scope.names.lookup x=some .free
 slots:js.map (fun j=>X.N[j]?)=frees.map some
section
variable {X:Cx} {pins:List (Addr×Obj)} {σ:St} {scope:Scope} {own frees:List Str} {js:List Nat}
end
section
variable {X:Cx} {scope:Scope} {own frees:List Str} {js:List Nat} {tg iter elt:Expr} {ifs:List Expr} {wi:TI} {g:TG} {tt:TT} {te:TE} {pos:Pos}
end
end L2
namespace L2
open PySem PySem.Spec PyProof.Rows
section
variable {prog:Program} {w:World} {A:Around} {E:Value→Shared→Prop} {s:Shared} {r:Addr}
end
section
variable {X:Cx}
end
end L2
namespace L2
open PySem PySem.Spec PyProof.Rows
structure Z6w (K:W.Frag) (D:Addr):Prop where
 ha:W.findIn K (.ref D) "__class__"=some (some (.builtin "object.__class__"))
 hn:W.specialIn K (.builtin "object.__class__") "__get__"=some (some (.builtin "getset_descriptor.__get__"))
 ht:W.takesIn K (.builtin "object.__class__")=some true
 hm:W.mroIn K D (.type "object")=some true
 ki:W.kitOne K (.ref D) (.ref D)=some true
end L2
namespace L2
open PySem PySem.Spec PyProof.Rows
section
variable {prog:Program} {w:World} {A:Around}
end
section
variable {X:Cx}
end
end L2
namespace L2
open PySem PySem.Spec PyProof.Rows
section
variable {X:Cx} {pins:List (Addr×Obj)} {σ:St} {H:Hp} {s:Shared} {a:Addr} {o:Obj} {kvs:List (List Key×V)}
end
end L2
namespace L2
open PySem PySem.Spec PySem.Builtin
section
variable {X:Cx}
end
end L2
namespace L2
open PySem PySem.Spec PyProof.Rows
section
variable {X:Cx} {C D f:Addr} {fd:FuncData} {k:Nat} {x dn a:Str} {np cpos pos apos pos':Pos} {e o value:Expr} {es:List Expr} {t:TA} {ta tv:TE} {ps:List Str}
def Z0d (C:Addr) (a:Str):Sp:=fun vs H Q _=>∃ (x r:Addr) (ys:List Str),vs=[.ref x,.ref r]∧H r=some (.lst (ys.map V.str))∧ys.length≤100∧(∀ y∈ys,Zda y)∧H x=some (XN x C) ∧
 ∀ l dx,H l=none→(upd H l (.lst (ys.map V.str))) dx=none→Q .non (upd (upd (upd H l (.lst (ys.map V.str))) x (XM x C dx)) dx (.xd [(a,.ref l)]))
def Z46 (E:XK) (C:Addr) (a:Str) (t:TA):TS:=fun _ σ H=>t σ H fun vs H1=>∃ (r:Addr) (ys:List Str),vs=[.ref r]∧H1 r=some (.lst (ys.map V.str))∧ys.length≤100∧(∀ y∈ys,Zda y)∧∀ l dx,H1 l=none→H1 dx=none→l≠dx→E (.ref C) (some dx) (upd (upd H1 l (.lst (ys.map V.str))) dx (.xd [(a,.ref l)]))
theorem Zs3 {E:XK}(Fx:Fns X E) (hh:X.A.handled=none) (c:ExC X.K C) (hi:W.findIn X.K (.ref C) "__init__"=some (some (.ref f))) (hf:W.typeIn X.K (.ref f)=some (.type "function"))
  (F:Zaq X.prog X.w X.K X.mg X.base CX0 k f fd ps (Z0d C a)) (hr:Zb6 (k + 1) X.A) (hb:Zc9 X.K fd ps []) (hg:Gl X x) (hm:X.mg x=some (.ref C)) (ha:PA X (e :: es) t)
  (hdb:(x == ("__debug__":Str))=false:=by decide) (he:starEach (e :: es) X.env=(false,eval e X.env):: starEach es X.env:=by rfl) (hpl:(backTo cpos (starEach es X.env)).any (·.1)=false:=by rfl):
  PS X (.Raise (some (.Call (.Name x np) (e :: es) [] cpos)) none pos) (Z46 E C a t):=by
 intro pins s σ H B I h
 refine Zhs c hh (wpAny_Call_Name_kw (Zfi I hg hm ?_ hdb))
 refine W.callWith_K (h₀:=X.base) I.ok.mod.kin c.kp (thn (ha cpos pins s σ H _ I h) fun us s1 ⟨vs,H1,I1,r,ra,ys,ev,hra,hl0,hsh,q⟩=>⟨I1.kIn,?_⟩) he hpl
 subst ev
 rw [List.nil_append]
 have rl:us.length=1:=r.length.symm
 obtain ⟨hp,g,dr,tk,os⟩:=s1
 refine Zlz I1.kIn c hi (fun self=>W.bind_fn (I1.kIn.keeps fun b o q=>Heap.get?_push_of_some _ (Heap.get?_push_of_some _ q)) self hf) (by rw [rl,sizeLine_eq];decide) ?_
 have got:((hp.push (Zdm us)).push (Zby C hp.objs.size)).get? (hp.objs.size + 1)=some (Zby C hp.objs.size):=Heap.get?_push_at (by rw [Heap.size_push]) rfl
 have n0:H1 (hp.objs.size + 1)=none:=I1.hok.fresh (Nat.le_succ _)
 have I2:Inv X pins σ (upd H1 (hp.objs.size + 1) (XN (hp.objs.size + 1) C)) ⟨(hp.push (Zdm us)).push (Zby C hp.objs.size),g,dr,tk,os⟩ :=
  I1.laid (t':=tk) (fun b u q=>Heap.get?_push_of_some _ (Heap.get?_push_of_some _ q)) (Nat.le_succ _) ⟨⟨_,got⟩,⟨_,got⟩,fun h1 h2 ⟨t1,q1⟩ k=>⟨t1,k _ q1⟩⟩
 have r2:Zbr [V.ref (hp.objs.size + 1),V.ref ra] (Value.ref (hp.objs.size + 1):: us):=.cons rfl r
 have nr:ra≠hp.objs.size + 1:=nNo hra n0
 have hq:Z0d C a [V.ref (hp.objs.size + 1),V.ref ra] (upd H1 (hp.objs.size + 1) (XN (hp.objs.size + 1) C)) (fun v H2=>v=.non∧∃ l dx,H1 l=none∧H1 dx=none∧l≠hp.objs.size + 1∧dx≠hp.objs.size + 1∧l≠dx∧H2=upd (upd (upd (upd H1 (hp.objs.size + 1) (XN (hp.objs.size + 1) C)) l (.lst (ys.map V.str))) (hp.objs.size + 1) (XM (hp.objs.size + 1) C dx)) dx (.xd [(a,.ref l)])) (fun _ _ _=>False):=by
  refine ⟨_,ra,ys,rfl,by rw [Zac nr];exact hra,hl0,hsh,uS,fun l dx hl' hd=>?_⟩
  have l1:l≠hp.objs.size + 1:=fun z=>by rw [z,uS] at hl';cases hl'
  have l2:l≠dx:=fun z=>by rw [z,uS] at hd;cases hd
  rw [Zac l1] at hl'
  rw [Zac (Ne.symm l2)] at hd
  have d1:dx≠hp.objs.size + 1:=fun z=>by rw [z,uS] at hd;cases hd
  rw [Zac d1] at hd
  exact ⟨rfl,l,dx,hl',hd,l1,d1,l2,rfl⟩
 have hl:(Value.ref (hp.objs.size + 1):: us++[]).length=ps.length:=by rw [List.append_nil,← r2.length];exact F.len _ _ _ _ hq
 have b:=hb _ (Value.ref (hp.objs.size + 1):: us) I2.kIn hl
 rw [List.append_nil] at b
 refine codeAny_mono (F.run _ X.stack _ _ ⟨Value.ref (hp.objs.size + 1):: us,[]⟩ (Value.ref (hp.objs.size + 1):: us) _ _ (fun _ _ _=>False) (hr.make C us []) (I2.env0.make C us []) b r2 hq) fun r s' hq'=>?_
 cases r with
 | error ev=>exact False.elim hq'
 | ok fl =>
  cases fl with
  | ret u =>
   obtain ⟨v,H',I3,rv,ev,l,dx,q1,d1,l1,d2,l2,eH⟩:=I2.after hq'
   subst ev
   have hx:H' (hp.objs.size + 1)=some (XM (hp.objs.size + 1) C dx):=by rw [eH,Zac (Ne.symm d2),uS]
   have ok3:Zbq X.prog X.w H' s'.heap _ (XM (hp.objs.size + 1) C dx):=I3.hok _ _ hx
   obtain ⟨⟨t0,g0⟩,_,_⟩:=ok3
   have eq:del H' (hp.objs.size + 1)=upd (upd H1 l (.lst (ys.map V.str))) dx (.xd [(a,.ref l)]):=by
    funext b
    by_cases z:b=hp.objs.size + 1
    ·rw [z,Zhl,Zac (Ne.symm d2),Zac (Ne.symm l1),n0]
    ·rw [Zh8 z,eH]
     by_cases z':b=dx
     ·rw [z',uS,uS]
     ·rw [Zac z',Zac z',Zac z]
      by_cases z2:b=l
      ·rw [z2,uS,uS]
      ·rw [Zac z2,Zac z2,Zac z]
   have I4:=I3.untrack hx (Nat.le_trans I1.sz (Nat.le_succ _))
   refine ⟨rv,hp.objs.size + 1,t0,some dx,#[],rfl,I4.kIn,g0,?_⟩
   exact Fx.raised I4 (I1.fpOk (Nat.le_succ _) Zhl) g0 rfl rfl (by rw [eq];exact q l dx q1 d1 l2)
  | next=>exact False.elim hq'
  | brk=>exact False.elim hq'
  | cont=>exact False.elim hq'
end
end L2
namespace L2
open PySem PySem.Spec
theorem Zs0 (a:Array Nat):∀ (k:Nat) (b:Array Nat),((List.replicate k a).foldl (·++·) b).toList=b.toList++(List.replicate k a.toList).flatten
 | 0,b=>by simp
 | k + 1,b=>by
  rw [List.replicate_succ,List.foldl_cons,Zs0 a k,Array.toList_append,List.replicate_succ,List.flatten_cons,List.append_assoc]
def Zxe (i:Str) (k:Nat):Str:=⟨(List.replicate k i.cps).foldl (·++·) #[]⟩
theorem Zpp (i:Str) (k:Nat):(Zxe i k).cps.toList=(List.replicate k i.cps.toList).flatten:=by
 unfold Zxe
 rw [Zs0]
 rfl
theorem Zpo (i:Str) (k:Nat):(Zxe i k).length=k * i.length:=by
 have:=congrArg List.length (Zpp i k)
 rw [List.length_flatten,List.map_replicate,List.sum_replicate_nat] at this
 simpa [Str.length] using this
section
variable {X:Cx}
theorem Zyn:OpR X (binaryOp .Mult) (fun x y H Q=>∃ (i:Str) (k:Nat),x=.str i∧y=.int (k:Int)∧2≤k∧k≤100∧1≤i.length∧i.length≤100∧Q (.str (Zxe i k)) H):=by
 intro pins s σ H x y v u Q I rx ry h
 obtain ⟨i,k,rfl,rfl,k2,k100,i1,i100,q⟩:=h
 obtain ⟨t,rfl⟩:=rx
 obtain ⟨t',rfl⟩:=ry
 have hne:((k:Int) == 1 || i.length == 0)=false:=by
  rw [Bool.or_eq_false_iff]
  exact ⟨by simp;omega,by simp;omega⟩
 have hbig:i.length * k≤10000:=Nat.le_trans (Nat.mul_le_mul i100 k100) (by decide)
 refine P.mul_str (by rw [decide_eq_false (by omega),decide_eq_false (by omega)];rfl) (fun _ _=>?_) (fun _ _=>?_) ?_
 ·have h1:(92233720368547758:Int)≤(2 ^ 63 - 1) / (k:Int):=by
   rw [Int.le_ediv_iff_mul_le (by omega)]
   omega
  omega
 ·rw [Int.toNat_natCast]
  unfold Builtin.Str.tooLong
  have:¬ (i.length * k > sizeLine):=by rw [sizeLine_eq];omega
  simpa using this
 ·rw [if_neg (by omega),hne]
  show Made.post (Made.str _) _ _
  refine ⟨?_,⟨.str (Zxe i k),H,I.tok _,⟨_,rfl⟩,q⟩⟩
  have hl:(Zxe i k).length≤sizeLine:=by
   rw [Zpo,Nat.mul_comm,sizeLine_eq];omega
  exact hl
end
end L2
namespace L2
open PySem PySem.Spec
def Zwl:List Expr→Option (List Int)
 | []=>some []
 | e :: es=>match Z4q e,Zwl es with
  | some i,some l=>some (i :: l)
  | _,_=>none
def Z17:Expr→Option (List Int)
 | .Tuple es _ _=>Zwl es
 | _=>none
def Z0a (l:List Int):TE:=fun _ H Q=>∀ p,H p=none→Q (.ref p) (upd H p (.tup (l.map V.int)))
section
variable {X:Cx}
theorem Zpw:∀ {es:List Expr}{l:List Int},Zwl es=some l→PA X es (fun _ H Q=>Q (l.map V.int) H)
 | [],l,h=>by
  cases h
  exact Zaa
 | e :: es,l,h=>by
  unfold Zwl at h
  split at h
  ·rename_i i l' h1 h2
   cases h
   obtain ⟨k,pos,rfl⟩:∃ k pos,e=.Constant (.int i) k pos:=by
    unfold Z4q at h1
    split at h1
    ·cases h1
     exact ⟨_,_,rfl⟩
    ·cases h1
   exact pC Zae (Zpw h2)
  ·cases h
theorem Zvp {e:Expr}(l:List Int) (h:Z17 e=some l) (hl:l.length≤100000):PE X e (Z0a l):=by
 unfold Z17 at h
 split at h
 ·intro pins s σ H Q I q
  exact Zav (Zpw h) pins s σ H Q I ⟨sL (by rw [List.length_map];exact hl),q⟩
 ·cases h
theorem Zpr {i:Nat}{x:Str}{e b:Expr}{tb:TE}{p0 p1 p2:Pos}(l:List Int) (h:Z17 e=some l) (hl:l.length≤100000) (hN:X.N.Nodup) (hi:X.N[i]?=some x) (hx:Loc X.env.scope x) (hb:PE X b tb) (hp:Zuv b)
  (hf:X.fn x=true∨X.env.scope.names.lookup x=some .local:=by first | exact .inl rfl | exact .inr rfl | assumption):PS X (.Assign [.Name x p0] (.Subscript e b p1) p2) (Z1x (tOp (Zib X.K) (Z0a l) tb) (Zh0 i)):=
 Zal hN hi hx (Zbd Zb9 (Zvp l h hl) hb hp) rfl hf
end
end L2
namespace L2
open PySem PySem.Spec PyProof.Rows
structure Tp (K:W.Frag) (x:Str) (st:Stmt) (f:Addr) (fd:FuncData):Prop where
 a:W.nsIn K mainGlobals x=some (some (.ref f))
 fn:Fun K x x st f fd
structure Mp (K:W.Frag) (C:Addr) (x q:Str) (st:Stmt) (f:Addr) (fd:FuncData):Prop where
 a:W.findIn K (.ref C) x=some (some (.ref f))
 i:W.isFn K (.ref f)=true
 fn:Fun K x q st f fd
structure Cp (K:W.Frag) (x:Str) (C:Addr):Prop where
 a:W.nsIn K mainGlobals x=some (some (.ref C))
 pg:W.plainGet K C Str.empty=true
 hd:W.hasDictIn K C=true
 po:W.plainOver K C=true
 sa:W.findIn K (.ref C) "__setattr__"=some (some (.builtin "object.__setattr__"))
 mx:W.makesIn K C=true
 kc:W.keepIn K (.ref C)=true
section
variable {K:W.Frag} {x q:Str} {st:Stmt} {f C:Addr} {oc:Value} {od an:Option Addr} {osl:Array (Option Value)} {kV doc pm cdv ct:Value}
theorem tp (a:W.nsIn K mainGlobals x=some (some (.ref f))) (l:K.lookup f=some ⟨oc,od,.func (W.fnOf x x (Zc7 st) (Zco st) (Zad st) .none kV doc pm an cdv ct),osl⟩) (c:W.codeIn K cdv x=true) (k:W.keepIn K (.ref f)=true):
  Tp K x st f (W.fnOf x x (Zc7 st) (Zco st) (Zad st) .none kV doc pm an cdv ct):=⟨a,Zxo l c k⟩
theorem mp (a:W.findIn K (.ref C) x=some (some (.ref f))) (i:W.isFn K (.ref f)=true) (l:K.lookup f=some ⟨oc,od,.func (W.fnOf x q (Zc7 st) (Zco st) (Zad st) .none kV doc pm an cdv ct),osl⟩) (c:W.codeIn K cdv q=true) (k:W.keepIn K (.ref f)=true):
  Mp K C x q st f (W.fnOf x q (Zc7 st) (Zco st) (Zad st) .none kV doc pm an cdv ct):=⟨a,i,Zxo l c k⟩
end
section
variable {K:W.Frag} {mg:Str→Option Value} {x q:Str} {st:Stmt} {f:Addr} {fd:FuncData} {h:Heap}
theorem ln1 {us:List Value}(h:us.length=1):∃ a,us=[a]:=List.length_eq_one_iff.mp h
theorem ln2 {us:List Value}(h:us.length=2):∃ a b,us=[a,b]:=by
 cases us with
 | nil=>cases h
 | cons a r=>obtain ⟨_,rfl⟩:=ln1 (Nat.succ.inj h);exact ⟨_,_,rfl⟩
theorem ln3 {us:List Value}(h:us.length=3):∃ a b c,us=[a,b,c]:=by
 cases us with
 | nil=>cases h
 | cons a r=>obtain ⟨_,_,rfl⟩:=ln2 (Nat.succ.inj h);exact ⟨_,_,_,rfl⟩
theorem ln4 {us:List Value}(h:us.length=4):∃ a b c d,us=[a,b,c,d]:=by
 cases us with
 | nil=>cases h
 | cons a r=>obtain ⟨_,_,_,rfl⟩:=ln3 (Nat.succ.inj h);exact ⟨_,_,_,_,rfl⟩
theorem ln5 {us:List Value}(h:us.length=5):∃ a b c d e,us=[a,b,c,d,e]:=by
 cases us with
 | nil=>cases h
 | cons a r=>obtain ⟨_,_,_,_,rfl⟩:=ln4 (Nat.succ.inj h);exact ⟨_,_,_,_,_,rfl⟩
theorem bn1 (a:Str) (F:Fun K x q st f fd) (e:∀ (kV doc pm:Value) (an:Option Addr) (cdv ct u:Value),bindArgs (W.fnOf x q (Zc7 st) (Zco st) (Zad st) .none kV doc pm an cdv ct) ⟨[u],[]⟩=pure ([a].zip [u]):=by intros;rfl):Zc9 K fd [a] [] :=
 F.binds fun _ _ _ _ _ _ us hl=>by
 obtain ⟨_,rfl⟩:=ln1 hl
 exact e ..
theorem bn2 (a b:Str) (F:Fun K x q st f fd) (e:∀ (kV doc pm:Value) (an:Option Addr) (cdv ct u v:Value),bindArgs (W.fnOf x q (Zc7 st) (Zco st) (Zad st) .none kV doc pm an cdv ct) ⟨[u,v],[]⟩=pure ([a,b].zip [u,v]):=by intros;rfl):Zc9 K fd [a,b] [] :=
 F.binds fun _ _ _ _ _ _ us hl=>by
 obtain ⟨_,_,rfl⟩:=ln2 hl
 exact e ..
theorem bn3 (a b c:Str) (F:Fun K x q st f fd) (e:∀ (kV doc pm:Value) (an:Option Addr) (cdv ct u v w:Value),bindArgs (W.fnOf x q (Zc7 st) (Zco st) (Zad st) .none kV doc pm an cdv ct) ⟨[u,v,w],[]⟩=pure ([a,b,c].zip [u,v,w]):=by intros;rfl):Zc9 K fd [a,b,c] [] :=
 F.binds fun _ _ _ _ _ _ us hl=>by
 obtain ⟨_,_,_,rfl⟩:=ln3 hl
 exact e ..
theorem bn4 (a b c d:Str) (F:Fun K x q st f fd) (e:∀ (kV doc pm:Value) (an:Option Addr) (cdv ct u v w y:Value),bindArgs (W.fnOf x q (Zc7 st) (Zco st) (Zad st) .none kV doc pm an cdv ct) ⟨[u,v,w,y],[]⟩=pure ([a,b,c,d].zip [u,v,w,y]):=by intros;rfl):Zc9 K fd [a,b,c,d] [] :=
 F.binds fun _ _ _ _ _ _ us hl=>by
 obtain ⟨_,_,_,_,rfl⟩:=ln4 hl
 exact e ..
theorem bn5 (a b c d g:Str) (F:Fun K x q st f fd) (e:∀ (kV doc pm:Value) (an:Option Addr) (cdv ct u v w y z:Value),bindArgs (W.fnOf x q (Zc7 st) (Zco st) (Zad st) .none kV doc pm an cdv ct) ⟨[u,v,w,y,z],[]⟩=pure ([a,b,c,d,g].zip [u,v,w,y,z]):=by intros;rfl):Zc9 K fd [a,b,c,d,g] [] :=
 F.binds fun _ _ _ _ _ _ us hl=>by
 obtain ⟨_,_,_,_,_,rfl⟩:=ln5 hl
 exact e ..
theorem df {ps:List Str}(X:K.In h) (G:h.Ns mainGlobals mg) (T:Tp K x st f fd) (b:Zc9 K fd ps []):Def K mg x st ps f fd:=⟨T.fn,b,W.mg_of X G T.a⟩
theorem Tp.ex {x q:Str}(F:Fun K x q st f fd):∃ (kV doc pm:Value) (an:Option Addr) (cdv ct:Value),fd=W.fnOf x q (Zc7 st) (Zco st) (Zad st) .none kV doc pm an cdv ct:=by
 obtain ⟨oc,od,kV,doc,pm,an,cdv,ct,osl,e,_⟩:=F.ex
 exact ⟨kV,doc,pm,an,cdv,ct,e⟩
end
end L2
namespace K54
open PySem L2
def top (i:Nat):Stmt:=PySem.Challenge.pw_manydeeds_k54_changes_refused.main.body.getD i (.Pass ⟨0,0,0,0⟩)
abbrev Zdf:Stmt:=Zbu (top 3) 0
abbrev Zdx:Stmt:=Zbu (top 4) 0
abbrev Zee:Stmt:=Zbu (top 6) 0
abbrev Zdg:Stmt:=Zbu (top 7) 0
abbrev Zed:Stmt:=Zbu (top 8) 0
abbrev Zcp:Stmt:=top 22
abbrev Zc3:Stmt:=top 23
abbrev Zci:Stmt:=top 24
abbrev Zcv:Stmt:=Zbu (top 25) 0
abbrev Zd3:Stmt:=Zbu (top 25) 1
abbrev Zdl:Stmt:=Zbu (top 25) 2
abbrev Zd4:Stmt:=Zbu (top 25) 3
abbrev Zd5:Stmt:=Zbu (top 25) 4
abbrev Zb8:Stmt:=Zbu (top 25) 5
abbrev Zeu:Stmt:=Zbu (top 25) 6
abbrev Zet:Stmt:=Zbu (top 25) 7
abbrev Zel:Stmt:=top 27
abbrev Zfc:Stmt:=top 28
abbrev Zfq:Stmt:=top 29
abbrev Zb5:Stmt:=top 30
abbrev Zc4:Stmt:=top 31
abbrev Zg8:Stmt:=top 32
abbrev Zg7:Stmt:=top 33
abbrev Zms:Stmt:=top 34
abbrev Zbh:Stmt:=top 36
abbrev Zec:Stmt:=top 37
abbrev Zfs:Stmt:=top 38
abbrev Zfr:Stmt:=top 39
abbrev Zg9:Stmt:=top 40
abbrev Zdn:Stmt:=top 46
abbrev Zcy:Stmt:=top 47
abbrev Zde:Stmt:=top 48
abbrev Zbi:Stmt:=top 49
abbrev Zcq:Stmt:=top 50
abbrev Zdd:Stmt:=top 51
abbrev Zfd:Stmt:=top 52
abbrev Zcu:Stmt:=Zbu (top 53) 0
abbrev Zfe:Stmt:=Zbu (top 53) 1
abbrev Zcj:Stmt:=Zbu (top 53) 2
abbrev Zd1:Stmt:=Zbu (top 53) 3
abbrev Zer:Stmt:=Zbu (top 53) 4
abbrev Zd2:Stmt:=Zbu (top 53) 6
abbrev Zes:Stmt:=Zbu (top 53) 10
abbrev Zdq:Stmt:=Zbu (top 53) 11
abbrev Zgc:Stmt:=top 55
abbrev Zcw:Stmt:=top 56
abbrev Zdk:Stmt:=top 57
abbrev Zeq:Stmt:=top 58
abbrev Zdp:Stmt:=top 59
abbrev Zep:Stmt:=top 60
abbrev Zem:Stmt:=top 61
abbrev Zcd:Stmt:=top 62
abbrev Zdo:Stmt:=top 63
abbrev Zbx:Stmt:=top 64
abbrev Zcc:Stmt:=top 65
abbrev Zcr:Stmt:=top 66
abbrev Zc5:Stmt:=top 67
abbrev Zcs:Stmt:=top 68
abbrev Zeo:Stmt:=top 69
abbrev Zgd:Stmt:=top 70
abbrev Zen:Stmt:=top 71
abbrev Zve:Stmt:=top 72
end K54
namespace K54
open PySem L2 Md
structure Z3p (K:W.Frag) (mg:Str→Option Value) (D:Addr):Prop where
 m:mg "DeedError"=some (.ref D)
 ex:ExC K D
 cl:W.isClsIn K D=true
 ty:W.typeIn K (.ref D)=some (.type "type")
structure Zuz (K:W.Frag) (mg:Str→Option Value) (Ds:Nat→Addr):Prop where
 m0:mg "NoKind"=some (.ref (Ds 0))
 m1:mg "Twice"=some (.ref (Ds 1))
 m2:mg "NoName"=some (.ref (Ds 2))
 m3:mg "Ring"=some (.ref (Ds 3))
 m4:mg "NoDeed"=some (.ref (Ds 4))
 m5:mg "Same"=some (.ref (Ds 5))
 m6:mg "NoText"=some (.ref (Ds 6))
 m7:mg "TooMany"=some (.ref (Ds 7))
 m8:mg "NoBoard"=some (.ref (Ds 8))
 m9:mg "NoCall"=some (.ref (Ds 9))
 m10:mg "NoLine"=some (.ref (Ds 10))
 m11:mg "NoPlace"=some (.ref (Ds 11))
 m12:mg "NoWeights"=some (.ref (Ds 12))
 m13:mg "NoTerm"=some (.ref (Ds 13))
 m14:mg "NoRow"=some (.ref (Ds 14))
 cl:∀ k,k<15→W.isClsIn K (Ds k)=true
 ty:∀ k,k<15→W.typeIn K (.ref (Ds k))=some (.type "type")
structure Zg0 (K:W.Frag) (D:Addr) (Ds:Nat→Addr) (i:Nat):Prop where
 ex:ExA K (Ds i)
 sub:W.subIn K (.ref (Ds i)) (.ref D)=some true
 one:∀ k,k<15→W.subIn K (.ref (Ds i)) (.ref (Ds k))=some (decide (k=i))
theorem Zl5 {P:Nat→Prop} (h0:P 0) (h1:P 1) (h2:P 2) (h3:P 3) (h4:P 4) (h5:P 5) (h6:P 6) (h7:P 7) (h8:P 8) (h9:P 9) (h10:P 10) (h11:P 11) (h12:P 12) (h13:P 13) (h14:P 14):∀ k,k<15→P k:=fun k h=>by
 rcases k with _ | _ | _ | _ | _ | _ | _ | _ | _ | _ | _ | _ | _ | _ | _ | k
 ·exact h0
 ·exact h1
 ·exact h2
 ·exact h3
 ·exact h4
 ·exact h5
 ·exact h6
 ·exact h7
 ·exact h8
 ·exact h9
 ·exact h10
 ·exact h11
 ·exact h12
 ·exact h13
 ·exact h14
 ·omega
def fif (a0 a1 a2 a3 a4 a5 a6 a7 a8 a9 a10 a11 a12 a13 a14:Addr):Nat→Addr
 | 0=>a0 | 1=>a1 | 2=>a2 | 3=>a3 | 4=>a4 | 5=>a5 | 6=>a6 | 7=>a7 | 8=>a8 | 9=>a9 | 10=>a10 | 11=>a11 | 12=>a12 | 13=>a13 | _=>a14
abbrev Zwr (i:Nat):List Bool:=(List.range 15).map fun k=>decide (k=i)
theorem Zud:∀ i,i<15→(Zwr i).countP (· == true)=1:=by decide +kernel
theorem Zwq {i p:Nat}(hp:p<15):((Zwr i).map V.bl)[p]?=some (.bl (decide (p=i))):=by
 rw [List.getElem?_map,List.getElem?_map,List.getElem?_range hp]
 rfl
def Zsr (K:W.Frag) (D:Addr) (Ds:Nat→Addr):Sp:=fun vs H Q _=>∃ (e:Addr) (i p:Nat) (dx:Option Addr),vs=[.ref e,.int p]∧H e=some (XO e (Ds i) dx)∧Zrq H dx∧Zg0 K D Ds i∧i<15∧p<15∧∀ H',Zag H H'→Q (.bl (decide (p=i))) H'
section
variable {P:Program} {w:World} {K:W.Frag} {mg:Str→Option Value} {base:Heap}
abbrev nAl:List Str:=["e","place","some"]
theorem Z4i:Zak nAl ["e","place"] (Zad Zep):=⟨rfl,rfl,rfl,by decide +kernel,rfl,by decide +kernel,by decide +kernel⟩
theorem Zv7 {f D:Addr}{Ds:Nat→Addr}{fd:FuncData}(F:Def K mg "_law_alone" Zep ["e","place"] f fd) (TD:Z3p K mg D) (TF:Zuz K mg Ds) (isi:mg "isinstance"=none) (vr:mg "ValueError"=none):Zaq P w K mg base CX0 1 f fd ["e","place"] (Zsr K D Ds):=by
 refine F.fn.ok Z4i (fun vs H Q E h=>?_) (fun cdv A outer s H vs Q E hr h=>?_)
 ·obtain ⟨e,i,p,dx,rfl,_⟩:=h
  rfl
 ·obtain ⟨e,i,p,dx,rfl,hx,hd,O,i15,p15,q⟩:=h
  have nd:=Z4i.nd
  have one:∀ k,k<15→W.kitOne K (.ref (Ds i)) (.ref (Ds k))=some (decide (k=i)):=fun k hk=>Zp8 (TF.cl k hk) (TF.ty k hk) O.ex.toExC (O.one k hk)
  refine' ⟨_,pS (Zal (i:=2) nd rfl (Or.inl rfl) (Zd0 (pC ?a0 (pC ?a1 (pC ?a2 (pC ?a3 (pC ?a4 (pC ?a5 (pC ?a6 (pC ?a7 (pC ?a8 (pC ?a9 (pC ?a10 (pC ?a11 (pC ?a12 (pC ?a13 (pC ?a14 Zaa)))))))))))))))))
   (pS (Zau (PW.pt (Zof (Zb4 (Zce ?b1)) (Zkd (Zb4 (Zce ?b2))))) (Zab (Zam Ze8)) Zah) (Zab (Zam (Zkh ?c1 (Zi5 ?c2))))),?_⟩
  case a0=>exact Zaj Zbg (by rfl) isi PyProof.Rows.boot_isinstance (pC (pv 0) (pC (Za0 (v:=.ref (Ds 0)) (by rfl) TF.m0 rfl) Zaa))
  case a1=>exact Zaj Zbg (by rfl) isi PyProof.Rows.boot_isinstance (pC (pv 0) (pC (Za0 (v:=.ref (Ds 1)) (by rfl) TF.m1 rfl) Zaa))
  case a2=>exact Zaj Zbg (by rfl) isi PyProof.Rows.boot_isinstance (pC (pv 0) (pC (Za0 (v:=.ref (Ds 2)) (by rfl) TF.m2 rfl) Zaa))
  case a3=>exact Zaj Zbg (by rfl) isi PyProof.Rows.boot_isinstance (pC (pv 0) (pC (Za0 (v:=.ref (Ds 3)) (by rfl) TF.m3 rfl) Zaa))
  case a4=>exact Zaj Zbg (by rfl) isi PyProof.Rows.boot_isinstance (pC (pv 0) (pC (Za0 (v:=.ref (Ds 4)) (by rfl) TF.m4 rfl) Zaa))
  case a5=>exact Zaj Zbg (by rfl) isi PyProof.Rows.boot_isinstance (pC (pv 0) (pC (Za0 (v:=.ref (Ds 5)) (by rfl) TF.m5 rfl) Zaa))
  case a6=>exact Zaj Zbg (by rfl) isi PyProof.Rows.boot_isinstance (pC (pv 0) (pC (Za0 (v:=.ref (Ds 6)) (by rfl) TF.m6 rfl) Zaa))
  case a7=>exact Zaj Zbg (by rfl) isi PyProof.Rows.boot_isinstance (pC (pv 0) (pC (Za0 (v:=.ref (Ds 7)) (by rfl) TF.m7 rfl) Zaa))
  case a8=>exact Zaj Zbg (by rfl) isi PyProof.Rows.boot_isinstance (pC (pv 0) (pC (Za0 (v:=.ref (Ds 8)) (by rfl) TF.m8 rfl) Zaa))
  case a9=>exact Zaj Zbg (by rfl) isi PyProof.Rows.boot_isinstance (pC (pv 0) (pC (Za0 (v:=.ref (Ds 9)) (by rfl) TF.m9 rfl) Zaa))
  case a10=>exact Zaj Zbg (by rfl) isi PyProof.Rows.boot_isinstance (pC (pv 0) (pC (Za0 (v:=.ref (Ds 10)) (by rfl) TF.m10 rfl) Zaa))
  case a11=>exact Zaj Zbg (by rfl) isi PyProof.Rows.boot_isinstance (pC (pv 0) (pC (Za0 (v:=.ref (Ds 11)) (by rfl) TF.m11 rfl) Zaa))
  case a12=>exact Zaj Zbg (by rfl) isi PyProof.Rows.boot_isinstance (pC (pv 0) (pC (Za0 (v:=.ref (Ds 12)) (by rfl) TF.m12 rfl) Zaa))
  case a13=>exact Zaj Zbg (by rfl) isi PyProof.Rows.boot_isinstance (pC (pv 0) (pC (Za0 (v:=.ref (Ds 13)) (by rfl) TF.m13 rfl) Zaa))
  case a14=>exact Zaj Zbg (by rfl) isi PyProof.Rows.boot_isinstance (pC (pv 0) (pC (Za0 (v:=.ref (Ds 14)) (by rfl) TF.m14 rfl) Zaa))
  case b1=>exact Zaj Zbg (by rfl) isi PyProof.Rows.boot_isinstance (pC (pv 0) (pC (Za0 (v:=.ref D) (by rfl) TD.m rfl) Zaa))
  case b2=>exact Zaj Zbg (by rfl) isi PyProof.Rows.boot_isinstance (pC (pv 0) (pC (Zoi (v:=.ty "ValueError") (by rfl) vr (by decide +kernel) rfl) Zaa))
  case c1=>exact Zeg Ze9 (Zic PySem.F.plainAttrs_list PySem.F.slot_list_count PySem.F.type_list_count Ztt (pv 2) (pC Ze8 Zaa)) Zae (Zaz _)
  case c2=>exact Zbd Za9 (pv 2) (pv 1) (fun _ _=>rfl)
  refine ⟨_,rfl,e,Ds i,dx,_,_,_,rfl,rfl,fun u z=>z,hx,hd,O.ex,one 0 (by decide),?_⟩
  refine ⟨_,rfl,e,Ds i,dx,_,_,_,rfl,rfl,fun u z=>z,hx,hd,O.ex,one 1 (by decide),?_⟩
  refine ⟨_,rfl,e,Ds i,dx,_,_,_,rfl,rfl,fun u z=>z,hx,hd,O.ex,one 2 (by decide),?_⟩
  refine ⟨_,rfl,e,Ds i,dx,_,_,_,rfl,rfl,fun u z=>z,hx,hd,O.ex,one 3 (by decide),?_⟩
  refine ⟨_,rfl,e,Ds i,dx,_,_,_,rfl,rfl,fun u z=>z,hx,hd,O.ex,one 4 (by decide),?_⟩
  refine ⟨_,rfl,e,Ds i,dx,_,_,_,rfl,rfl,fun u z=>z,hx,hd,O.ex,one 5 (by decide),?_⟩
  refine ⟨_,rfl,e,Ds i,dx,_,_,_,rfl,rfl,fun u z=>z,hx,hd,O.ex,one 6 (by decide),?_⟩
  refine ⟨_,rfl,e,Ds i,dx,_,_,_,rfl,rfl,fun u z=>z,hx,hd,O.ex,one 7 (by decide),?_⟩
  refine ⟨_,rfl,e,Ds i,dx,_,_,_,rfl,rfl,fun u z=>z,hx,hd,O.ex,one 8 (by decide),?_⟩
  refine ⟨_,rfl,e,Ds i,dx,_,_,_,rfl,rfl,fun u z=>z,hx,hd,O.ex,one 9 (by decide),?_⟩
  refine ⟨_,rfl,e,Ds i,dx,_,_,_,rfl,rfl,fun u z=>z,hx,hd,O.ex,one 10 (by decide),?_⟩
  refine ⟨_,rfl,e,Ds i,dx,_,_,_,rfl,rfl,fun u z=>z,hx,hd,O.ex,one 11 (by decide),?_⟩
  refine ⟨_,rfl,e,Ds i,dx,_,_,_,rfl,rfl,fun u z=>z,hx,hd,O.ex,one 12 (by decide),?_⟩
  refine ⟨_,rfl,e,Ds i,dx,_,_,_,rfl,rfl,fun u z=>z,hx,hd,O.ex,one 13 (by decide),?_⟩
  refine ⟨_,rfl,e,Ds i,dx,_,_,_,rfl,rfl,fun u z=>z,hx,hd,O.ex,one 14 (by decide),?_⟩
  refine ⟨sL (by show 15≤100000;decide),fun l hl=>?_⟩
  have s1:Zag H (upd H l (.lst ((Zwr i).map V.bl))):=Zej hl
  have hx1:=s1 _ _ hx
  have hd1:=Zag.xdict hd s1
  refine ⟨_,rfl,e,Ds i,dx,_,_,_,rfl,rfl,fun u z=>z,hx1,hd1,O.ex,Zp8 TD.cl TD.ty O.ex.toExC O.sub,_,rfl,?_⟩
  refine Zbz ⟨_,rfl,e,Ds i,dx,_,_,_,rfl,rfl,fun u z=>z,hx1,hd1,O.ex,Ztw O.ex.toExC,_,rfl,Zbz ?_⟩
  refine ⟨_,rfl,.inl ⟨rfl,_,SqL.of uS⟩,l,Zwr i,true,rfl,rfl,uS,rfl,_,rfl,?_⟩
  rw [Zud i i15]
  exact Ze5 ⟨_,rfl,_,rfl,l,_,p,.bl (decide (p=i)),rfl,rfl,SqL.of uS,Zch (Zwq p15),q _ s1⟩
end
end K54
namespace K54
open PySem L2 Md
def Z0e (K:W.Frag):Sp:=fun vs H Q _=>∃ (a:Addr) (k:Int) (ns:List Int),vs=[.ref a,.int k]∧SqL K H a (ns.map V.int)∧ns.length≤100∧0≤k∧k≤1000∧∀ p o,H p=none→Zn4 o→Q (.ref p) (upd H p o)
def Zmf:Sp:=fun vs H Q _=>∃ (p:Addr) (m:Int) (o:HO),vs=[.ref p,.int m]∧H p=some o∧Zn4 o∧0<m∧m<4611686018427387904∧∀ (v:Int) o',0≤v→v<m→Zn4 o'→Q (.int v) (upd H p o')
def Zmj:Sp:=fun vs H Q _=>∃ n:Nat,vs=[.int n]∧n<26 ^ 8∧Q (.str (Zbp n)) H
section
variable {P:Program} {w:World} {K:W.Frag} {mg:Str→Option Value} {base:Heap}
theorem Zsu:Zak ["script","k","cell","rest"] ["script","k"] (Zad Zgc):=⟨rfl,rfl,rfl,by decide +kernel,rfl,by decide +kernel,by decide +kernel⟩
theorem Zus:(10:Int) ^ (64:Int).toNat * 10 ^ (64:Int).toNat * 10 ^ (64:Int).toNat * 10 ^ (64:Int).toNat=10 ^ 256:=by decide +kernel
theorem Z01 {f:Addr}{fd:FuncData}(F:Def K mg "_law_pot" Zgc ["script","k"] f fd) (len:mg "len"=none):Zaq P w K mg base CX0 1 f fd ["script","k"] (Z0e K):=by
 refine F.fn.ok Zsu (fun vs H Q E h=>?_) (fun cdv A outer s H vs Q E hr h=>?_)
 ·obtain ⟨a,k,ns,rfl,_⟩:=h
  rfl
 ·obtain ⟨a,k,ns,rfl,hS,hl,hk0,hk1,q⟩:=h
  refine ⟨_,pS (Zal (i:=2) Zsu.nd rfl (Or.inl rfl) Zae)
   (Zi2 (Zau (Zap Zta (pv 1) (Zaj Zca (by rfl) len PySem.boot_len (pC (pv 0) Zaa)) (Zaz _))
    (Zab (Zal (i:=2) Zsu.nd rfl (Or.inl rfl) (Zbs Zh7 (Zbd Za9 (pv 0) (pv 1) (fun _ _=>rfl))
     (Zbs Zoj (Zbs Zoj (Zbs Zoj (Zbs Zmz Zae Zae) (Zbs Zmz Zae Zae)) (Zbs Zmz Zae Zae)) (Zbs Zmz Zae Zae))))) Zah)
   (pS (Zal (i:=3) Zsu.nd rfl (Or.inl rfl) Zae)
   (Zi2 (Zau (Zap Zvs (pv 2) (Zbs Zmz Zae Zae) (Zaz _)) (Zab (Zal (i:=3) Zsu.nd rfl (Or.inl rfl) (pv 2))) Zah)
   (Zab (Zam (Zd0 (pC (pv 3) (pC (Zbs Zh7 (Zbs Zki (Zbs Zkj (Zbs Zkj (Zbs Zh7 (pv 2) Zae) (Zbs Zki Zae (pv 1))) Zae) Zae) Zae) Zaa)))))))),?_⟩
  refine ⟨fun σ' H'=>H'=H∧∃ c:Int,0≤c∧c<10 ^ 256∧σ'=[some (.ref a),some (.int k),some (.int c),none],?_,?_⟩
  ·refine ⟨_,rfl,_,rfl,_,_,rfl,.inl ⟨_,hS,rfl⟩,_,_,rfl,rfl,_,rfl,?_⟩
   refine Zek (fun h1=>?_) (fun h1=>?_)
   ·have h1:k<((ns.map V.int).length:Int):=of_decide_eq_true h1
    rw [List.length_map] at h1
    have hi:k.toNat<ns.length:=by omega
    have hat:atI (ns.map V.int) k=some (V.int ns[k.toNat]):=by
     have e:(ns.map V.int)[k.toNat]?=some (V.int ns[k.toNat]):=by rw [List.getElem?_map,List.getElem?_eq_getElem hi];rfl
     have:=Zch e
     rwa [Int.toNat_of_nonneg hk0] at this
    refine ⟨_,rfl,_,rfl,_,_,_,_,rfl,rfl,hS,hat,_,_,rfl,rfl,⟨by decide,by decide,by decide +kernel⟩,_,_,rfl,rfl,⟨by decide,by decide,by decide +kernel⟩,_,_,rfl,rfl,⟨by decide +kernel,by decide +kernel⟩,
     _,_,rfl,rfl,⟨by decide,by decide,by decide +kernel⟩,_,_,rfl,rfl,⟨by decide +kernel,by decide +kernel⟩,_,_,rfl,rfl,⟨by decide,by decide,by decide +kernel⟩,_,_,rfl,rfl,⟨by decide +kernel,by decide +kernel⟩,_,_,rfl,rfl,?_,rfl,_,?_,?_,rfl⟩
    ·show (0:Int)<_
     rw [Zus];decide +kernel
    ·rw [Zus];exact Int.emod_nonneg _ (by decide +kernel)
    ·rw [Zus];exact Int.emod_lt_of_pos _ (by decide +kernel)
   ·exact ⟨rfl,0,by decide,by decide +kernel,rfl⟩
  ·rintro σ' H' ⟨rfl,c,hc0,hc1,rfl⟩
   refine ⟨fun σ2 H2=>H2=H'∧∃ r:Int,0≤r∧r<10 ^ 256∧σ2=[some (.ref a),some (.int k),some (.int c),some (.int r)],?_,?_⟩
   ·refine ⟨_,rfl,_,_,rfl,rfl,⟨by decide,by decide,by decide +kernel⟩,_,_,rfl,rfl,_,rfl,?_⟩
    refine Zek (fun h1=>?_) (fun h1=>?_)
    ·exact ⟨_,rfl,rfl,c,hc0,hc1,rfl⟩
    ·exact ⟨rfl,0,by decide,by decide +kernel,rfl⟩
   ·rintro σ2 H2 ⟨rfl,r,hr0,hr1,rfl⟩
    have m0:=Int.emod_nonneg c (b:=2147483629) (by decide)
    have m1:=Int.emod_lt_of_pos c (b:=2147483629) (by decide)
    refine ⟨_,rfl,_,rfl,_,_,rfl,rfl,(by show (0:Int)<2147483629;decide),_,rfl,_,_,rfl,rfl,.inl ⟨by decide,by decide⟩,_,_,rfl,rfl,_,_,rfl,rfl,_,_,rfl,rfl,.inr ⟨by decide,by decide⟩,_,_,rfl,rfl,(by show (0:Int)<2147483647;decide),sL (by show 2≤100000;decide),fun p hp=>?_⟩
    refine q p _ hp ⟨r,_,rfl,hr0,hr1,Int.emod_nonneg _ (by decide),Int.emod_lt_of_pos _ (by decide)⟩
theorem Zxd:Zak ["pot","many","found"] ["pot","many"] (Zad Zcw):=⟨rfl,rfl,rfl,by decide +kernel,rfl,by decide +kernel,by decide +kernel⟩
theorem Zyq {f:Addr}{fd:FuncData}(F:Def K mg "_law_take" Zcw ["pot","many"] f fd):Zaq P w K mg base CX0 1 f fd ["pot","many"] Zmf:=by
 refine F.fn.ok Zxd (fun vs H Q E h=>?_) (fun cdv A outer s H vs Q E hr h=>?_)
 ·obtain ⟨p,m,o,rfl,_⟩:=h
  rfl
 ·obtain ⟨p,m,o,rfl,hp,⟨r,b,rfl,hr0,hr1,hb0,hb1⟩,hm0,hm1,q⟩:=h
  refine ⟨_,pS (Zau (Zap Zi9 (Zbd Za9 (pv 0) Zae (fun _ _=>rfl)) Zae (Zaz _))
    (pS (Zal (i:=2) Zxd.nd rfl (Or.inl rfl) (Zbs Zh7 (Zbd Za9 (pv 0) Zae (fun _ _=>rfl)) (pv 1)))
    (pS (Zps (Zbs Zvt (Zbd Za9 (pv 0) Zae (fun _ _=>rfl)) (pv 1)) (Zs6 (pv 0) Zae Zld)) (Zab (Zam (pv 2))))) Zah)
   (pS (Zps (Zbs Zh7 (Zbs Zkj (Zbs Zki (Zbd Za9 (pv 0) Zae (fun _ _=>rfl)) Zae) Zae) Zae) (Zs6 (pv 0) Zae Zld))
   (Zab (Zam (Zbs Zh7 (Zbs Ztb (Zbs Zh7 (Zbs Zki (Zbd Za9 (pv 0) Zae (fun _ _=>rfl)) (Zbd Za9 (pv 0) Zae (fun _ _=>rfl))) Zae) Zae) (pv 1))))),?_⟩
  refine ⟨_,rfl,p,_,_,_,rfl,rfl,SqL.of hp,rfl,_,_,rfl,rfl,_,rfl,?_⟩
  refine Zek (fun h1=>?_) (fun h1=>?_)
  ·refine ⟨_,rfl,p,_,_,_,rfl,rfl,SqL.of hp,rfl,_,rfl,_,_,rfl,rfl,hm0,?_⟩
   refine ⟨_,rfl,p,_,_,_,rfl,rfl,SqL.of hp,rfl,_,rfl,_,_,rfl,rfl,⟨hm0,hm1⟩,?_⟩
   refine ⟨_,rfl,p,_,_,0,rfl,rfl,hp,rfl,_,rfl,?_⟩
   have h1:0<r:=of_decide_eq_true h1
   exact q _ _ (Int.emod_nonneg _ (by omega)) (Int.emod_lt_of_pos _ hm0) ⟨r / m,b,rfl,Int.ediv_nonneg hr0 (by omega),Int.lt_of_le_of_lt (Int.ediv_le_self _ hr0) hr1,hb0,hb1⟩
  ·refine ⟨_,rfl,p,_,_,_,rfl,rfl,SqL.of hp,rfl,_,_,rfl,rfl,.inr ⟨by decide,by decide⟩,_,_,rfl,rfl,_,_,rfl,rfl,(by show (0:Int)<2147483647;decide),?_⟩
   refine ⟨_,rfl,p,_,_,1,rfl,rfl,hp,rfl,?_⟩
   have m0:=Int.emod_nonneg (b * 69621 + 12345) (b:=2147483647) (by decide)
   have m1:=Int.emod_lt_of_pos (b * 69621 + 12345) (b:=2147483647) (by decide)
   refine ⟨_,rfl,p,_,_,_,rfl,rfl,SqL.of uS,rfl,_,rfl,p,_,_,_,rfl,rfl,SqL.of uS,rfl,_,_,rfl,rfl,.inl ⟨by omega,by omega⟩,_,_,rfl,rfl,(by show (0:Int)<2147483629;decide),_,_,rfl,rfl,⟨by decide,by decide⟩,_,rfl,_,_,rfl,rfl,hm0,?_⟩
   exact q _ _ (Int.emod_nonneg _ (by omega)) (Int.emod_lt_of_pos _ hm0) ⟨r,_,rfl,hr0,hr1,m0,m1⟩
theorem Z0i:Zak ["number","word"] ["number"] (Zad Zdk):=⟨rfl,rfl,rfl,by decide +kernel,rfl,by decide +kernel,by decide +kernel⟩
theorem Zq3 {f:Addr}{fd:FuncData}(F:Def K mg "_law_letters" Zdk ["number"] f fd):Zaq P w K mg base CX0 1 f fd ["number"] Zmj:=by
 refine F.fn.ok Z0i (fun vs H Q E h=>?_) (fun cdv A outer s H vs Q E hr h=>?_)
 ·obtain ⟨n,rfl,_⟩:=h
  rfl
 ·obtain ⟨n,rfl,hn,q⟩:=h
  have nd:=Z0i.nd
  refine ⟨_,pS (Zal (i:=1) nd rfl (Or.inl rfl) Zev)
   (pS (Zgf PassesOwn.never (Zof (Zap Ze9 (pv 1) Zev (Zaz _)) (Zkd (Zap Zi9 (pv 0) Zae (Zaz _)))).pt
    (pS (Zal (i:=1) nd rfl (Or.inl rfl) (Zbs Zqy (pv 1) (Zbd Z1k Zev (Zbs Zh7 (pv 0) Zae) (fun _ _=>rfl))))
    (Zab (Zal (i:=0) nd rfl (Or.inl rfl) (Zbs Ztb (pv 0) Zae)))))
   (Zab (Zam (pv 1)))),?_⟩
  have e0:("":Str).cps.toList=[]:=by decide +kernel
  have hlen:(Zbj n).length≤8:=Zfy 7 n hn
  refine ⟨fun m σ H2=>H2=H∧∃ (x:Str) (k:Nat),σ=[some (.int k),some (.str x)]∧m=k + (if x.cps.toList=[] then 1 else 0) ∧
   ((x.cps.toList=[]∧k=n)∨(x.cps.toList≠[]∧k=0∧x.cps.toList=Zbj n)∨(x.cps.toList≠[]∧0<k∧x.cps.toList++Zbj k=Zbj n)),⟨_,rfl,_,n,rfl,rfl,.inl ⟨e0,rfl⟩⟩,?_⟩
  rintro m σ H2 ⟨rfl,x,k,rfl,rfl,inv⟩
  have more:(x.cps.toList=[]∨0<k)→∃ N:St→Hp→Prop,(∀ σ' H',N σ' H'→∃ m',m'<k + (if x.cps.toList=[] then 1 else 0)∧(H'=H2∧∃ (y:Str) (j:Nat),σ'=[some (.int j),some (.str y)]∧m'=j + (if y.cps.toList=[] then 1 else 0) ∧
    ((y.cps.toList=[]∧j=n)∨(y.cps.toList≠[]∧j=0∧y.cps.toList=Zbj n)∨(y.cps.toList≠[]∧0<j∧y.cps.toList++Zbj j=Zbj n)))) ∧
    N [some (.int ((k:Int) / 26)),some (.str (x++⟨#[97 + k % 26]⟩))] H2:=fun hk=>by
   refine ⟨fun σ' H'=>σ'=[some (.int ((k:Int) / 26)),some (.str (x++⟨#[97 + k % 26]⟩))]∧H'=H2,?_,rfl,rfl⟩
   rintro σ' H' ⟨rfl,rfl⟩
   have el:(x++⟨#[97 + k % 26]⟩:Str).cps.toList=x.cps.toList++[97 + k % 26]:=Zwz _ _
   have ne:(x++⟨#[97 + k % 26]⟩:Str).cps.toList≠[]:=by rw [el];simp
   have kd:((k:Int) / 26)=((k / 26:Nat):Int):=by omega
   have whole:(x.cps.toList++[97 + k % 26])++(if k / 26=0 then [] else Zbj (k / 26))=Zbj n:=by
    rw [List.append_assoc,List.singleton_append,← Zcx]
    rcases inv with ⟨h1,h2⟩ | ⟨h1,h2,_⟩ | ⟨_,_,h3⟩
    ·rw [h1,h2];rfl
    ·rcases hk with z | z
     ·exact absurd z h1
     ·omega
    ·exact h3
   refine ⟨k / 26,?_,rfl,_,k / 26,by rw [kd],by rw [if_neg ne];rfl,?_⟩
   ·rcases hk with z | z
    ·rw [if_pos z];omega
    ·have:k / 26<k:=by omega
     omega
   ·right
    rw [el]
    by_cases z:k / 26=0
    ·rw [if_pos z,List.append_nil] at whole
     exact .inl ⟨by simp,z,whole⟩
    ·rw [if_neg z] at whole
     exact .inr ⟨by simp,by omega,whole⟩
  have xlen:x.length≤8:=by
   rw [← Zfb]
   rcases inv with ⟨h1,_⟩ | ⟨_,_,h3⟩ | ⟨_,_,h3⟩
   ·rw [h1];simp
   ·rw [h3];exact hlen
   ·have:=congrArg List.length h3
    rw [List.length_append] at this
    omega
  have at1:atI letters.cps.toList ((k:Int) % 26)=some (97 + k % 26):=by
   have:=Zch (Zrf (i:=k % 26) (by omega))
   have e:((k % 26:Nat):Int)=(k:Int) % 26:=by omega
   rwa [e] at this
  refine ⟨_,rfl,rfl,_,rfl,?_⟩
  refine Zek (fun h1=>?_) (fun h1=>?_)
  ·have hx:x.cps.toList=[]:=by
    have:=of_decide_eq_true h1
    injection this with this
    rw [this];exact e0
   obtain ⟨N,hN,n0⟩:=more (.inl hx)
   refine Ze5 ⟨N,hN,?_⟩
   exact ⟨_,rfl,_,rfl,_,_,rfl,rfl,(by show (0:Int)<26;decide),_,_,_,rfl,rfl,sL (by rw [← Zfb,Zgj];decide),at1,_,_,rfl,rfl,sL (by rw [Ztu];omega),_,rfl,_,_,rfl,rfl,⟨by decide,by decide⟩,n0⟩
  ·have hx:x.cps.toList≠[]:=fun z=>h1 (decide_eq_true (by rw [Zse (z.trans e0.symm)]))
   refine ⟨_,rfl,_,_,rfl,rfl,_,rfl,?_⟩
   refine Zek (fun h2=>?_) (fun h2=>?_)
   ·have hk:0<k:=by have:(0:Int)<(k:Int):=of_decide_eq_true h2;omega
    obtain ⟨N,hN,n0⟩:=more (.inr hk)
    refine ⟨N,hN,?_⟩
    exact ⟨_,rfl,_,rfl,_,_,rfl,rfl,(by show (0:Int)<26;decide),_,_,_,rfl,rfl,sL (by rw [← Zfb,Zgj];decide),at1,_,_,rfl,rfl,sL (by rw [Ztu];omega),_,rfl,_,_,rfl,rfl,⟨by decide,by decide⟩,n0⟩
   ·have hk:k=0:=by
     have:¬ (0:Int)<(k:Int):=fun z=>h2 (decide_eq_true z)
     omega
    have hf:x=Zbp n:=by
     refine Zse ?_
     rw [Zd9]
     rcases inv with ⟨h1,_⟩ | ⟨_,_,h3⟩ | ⟨_,h2,_⟩
     ·exact absurd h1 hx
     ·exact h3
     ·omega
    rw [hf]
    exact ⟨_,rfl,q⟩
end
end K54
namespace K54
open PySem L2 Md
def Zg4:Sp:=fun vs H Q _=>∃ x:Str,vs=[.str x]∧x.length≤1000∧∀ H',Zag H H'→Q (.bl (Za2 x)) H'
def Ziw (K:W.Frag):Sp:=fun vs H Q _=>∃ (l:Addr) (rows:List (Str×List Str)),vs=[.ref l]∧Zjv K H l rows∧Zb0 rows∧∀ H',Zag H H'→Q .non H'
structure Zhp (H:Hp) (d:Addr) (o:Obj) (rows:List (Str×List Str)) (kvs:List (Key×V)):Prop where
 at_:H d=some (.frz o (.dK kvs))
 ups:Zj1 H rows kvs
theorem Zhp.mono {H H':Hp}{d:Addr}{o:Obj}{rows:List (Str×List Str)}{kvs:List (Key×V)}(b:Zhp H d o rows kvs) (s:Zag H H'):Zhp H' d o rows kvs:=⟨s _ _ b.at_,b.ups.mono fun _ _ e=>s _ _ e⟩
def Zkb:Sp:=fun vs H Q _=>∃ (d:Addr) (o:Obj) (rows:List (Str×List Str)) (kvs:List (Key×V)),vs=[.ref d]∧Zhp H d o rows kvs∧Zb0 rows∧∀ H',Zag H H'→Q .non H'
def Zfz (us left:List Str):V:=match us.find? (fun x=>decide (x∈left)) with | some x=>.str x | none=>.non
def Zk4 (K:W.Frag):Sp:=fun vs H Q _=>∃ (a b:Addr) (us left:List Str),vs=[.ref a,.ref b]∧SqT K H a (us.map V.str)∧SqL K H b (left.map V.str)∧Q (Zfz us left) H
def Zml:Sp:=fun vs H Q _=>∃ (d:Addr) (o:Obj) (rows:List (Str×List Str)) (kvs:List (Key×V)),vs=[.ref d]∧Zhp H d o rows kvs∧Zb0 rows∧∀ l H',Zag H H'→H' l=some (.lst [])→Q (.ref l) H'
def Zw9:Sp:=fun vs H Q _=>∃ (d:Addr) (o:Obj) (rows:List (Str×List Str)) (kvs:List (Key×V)),vs=[.ref d]∧Zhp H d o rows kvs∧Zb0 rows∧∀ H',Zag H H'→Q .non H'
structure Zu3 (mg:Str→Option Value):Prop where
 letters:∃ t,mg "LETTERS"=some (.str letters t)
 most:∃ t,mg "MOST_LETTERS"=some (.int 8 t)
 kinds:∃ t,mg "MOST_KINDS"=some (.int 24 t)
 ups:∃ t,mg "MOST_UPS"=some (.int 8 t)
 len:mg "len"=none
 all:mg "all"=none
 list:mg "list"=none
 tuple:mg "tuple"=none
section
variable {P:Program} {w:World} {K:W.Frag} {mg:Str→Option Value} {base:Heap}
theorem scW:Zak ["text"] ["text"] (Zad Zdn):=⟨rfl,rfl,rfl,by decide +kernel,rfl,by decide +kernel,by decide +kernel⟩
theorem Zyy:(["sign"]:List Str).Nodup:=by decide +kernel
theorem Zm3 {f:Addr}{fd:FuncData}(F:Def K mg "is_word" Zdn ["text"] f fd) (T:Zu3 mg):Zaq P w K mg base CX0 1 f fd ["text"] Zg4:=by
 refine F.fn.ok scW (fun vs H Q E h=>?_) (fun cdv A outer s H vs Q E hr h=>?_)
 ·obtain ⟨x,rfl,_⟩:=h
  rfl
 ·obtain ⟨x,rfl,hx,k⟩:=h
  obtain ⟨t1,hl⟩:=T.letters
  obtain ⟨t2,hm⟩:=T.most
  refine ⟨_,pS (Zau (Zb4 (Zhc Zid Zid Zae (Zaj Zca (by rfl) T.len PySem.boot_len (pC (pv 0) Zaa)) (Za0 (v:=.int 8) (by rfl) hm ⟨_,rfl⟩))) (Zab (Zam Ze8)) Zah)
   (Zab (Zam (Zaj (Zin rfl) (by rfl) T.all PyProof.Rows.boot_all (pC
    (Zb3 ["sign"] [] [] (fun _=>Za5 (osc:=Zad Zdn) (on:=["text"]) (by decide +kernel) rfl rfl rfl) (Zxf (pv 0)) (fun C s H fp=>Zai (i:=0) Zyy rfl (Or.inl rfl) (Or.inr rfl)) (fun C s H fp=>Zcm)
     (fun C s H fp=>Zeg Zm0 (pv 0) (Za0 (v:=.str letters) (by rfl) hl ⟨_,rfl⟩) (by with_unfolding_all rfl))) Zaa)))),?_⟩
  refine ⟨_,rfl,_,_,rfl,⟨sL (by omega),rfl⟩,_,_,rfl,rfl,_,rfl,?_⟩
  have no:¬ (1≤x.length∧x.length≤8)→Za2 x=false:=fun h=>by unfold Za2;rw [decide_eq_false h];rfl
  have same:Zag H H:=Zag.refl H
  refine Zek (fun h1=>?_) (fun h1=>?_)
  ·have h1:(1:Int)≤(x.length:Int):=of_decide_eq_true h1
   refine ⟨_,_,rfl,rfl,_,rfl,?_⟩
   refine Zek (fun h2=>?_) (fun h2=>?_)
   ·have h2:¬ ((x.length:Int)≤8):=by simpa using h2
    have q:=k H same
    rw [no (by omega)] at q
    exact q
   ·have h2:((x.length:Int)≤8):=by simpa using h2
    refine ⟨_,rfl,_,rfl,Zf2 Zpm (by unfold Zfp;rw [List.length_map,Zfb];exact sL (by omega)) (fun _=>true) Zt7 (fun _ _ _=>trivial) ?_ ?_ ?_⟩
    ·intro D ys v R _ _ hR
     exact hR
    ·intro D ys v R _ hv _ hR
     obtain ⟨c,_,e⟩:=List.mem_map.mp hv
     subst e
     exact ⟨_,rfl,_,_,rfl,rfl,hR⟩
    ·intro D hD
     refine ⟨D,x.cps.toList.map Zji,rfl,SqL.of (by rw [← Zmr];exact uS),?_⟩
     have e:(x.cps.toList.map Zji).all id=Za2 x:=by
      unfold Za2
      rw [decide_eq_true (by omega),Bool.true_and,List.all_map]
      rfl
     have q:=k (upd H D (.lst (((Zfp x).filter fun _=>true).map Zt7))) fun b o hb=>by rw [Zac (nNo hb hD)];exact hb
     rw [← e] at q
     exact q
  ·have h1:¬ ((1:Int)≤(x.length:Int)):=fun z=>h1 (decide_eq_true z)
   refine ⟨_,rfl,?_⟩
   refine Ze5 ?_
   have q:=k H same
   rw [no (by omega)] at q
   exact q
theorem Zgx {b:Bool}{H:Hp}{a:Addr}{xs:List V}(h:SqB K b H a xs):Z41 K (.ref a) H xs.length:=by
 cases b with
 | true=>exact .inl ⟨xs,h,rfl⟩
 | false=>exact .inr ⟨xs,h,rfl⟩
theorem Z1z:Zak ["rows","seen","word","ups"] ["rows"] (Zad Zcy):=⟨rfl,rfl,rfl,by decide +kernel,rfl,by decide +kernel,by decide +kernel⟩
theorem Zln {f fW:Addr}{fd fdW:FuncData}(F:Def K mg "check_rows" Zcy ["rows"] f fd) (DW:Def K mg "is_word" Zdn ["text"] fW fdW) (T:Zu3 mg):Zaq P w K mg base CX0 2 f fd ["rows"] (Ziw K):=by
 have GW:Zaq P w K mg base CX0 1 fW fdW ["text"] Zg4:=Zm3 DW T
 refine F.fn.ok Z1z (fun vs H Q E h=>?_) (fun cdv A outer s H vs Q E hr h=>?_)
 ·obtain ⟨l,rows,rfl,_⟩:=h
  rfl
 ·obtain ⟨l,rows,rfl,⟨b,vs,hl,hp⟩,g,q⟩:=h
  obtain ⟨t1,hK⟩:=T.kinds
  obtain ⟨t2,hU⟩:=T.ups
  have nd:=Z1z.nd
  have hu:=Zgn hr
  refine ⟨_,pS (Zau (Zb4 (Zhc Zid Zid Zae (Zaj Zca (by rfl) T.len PySem.boot_len (pC (pv 0) Zaa)) (Za0 (v:=.int 24) (by rfl) hK ⟨_,rfl⟩))) Zbe Zah)
   (pS (Zal (i:=1) nd rfl (Or.inl rfl) Zd8)
   (Zab (Zbn PassesOwn.never rfl (Zpu (pv 0)) (Zfl rfl (gC (Zai (i:=2) nd rfl (Or.inl rfl)) (gC (Zai (i:=3) nd rfl (Or.inl rfl)) Zdz)))
    (pS (Zau (Zb4 (Zce (Zaf DW GW hr (pC (pv 2) Zaa)))) Zbe Zah)
    (pS (Zau (Ze6 (Zh6 hu (pv 2) (pv 1))) Zbe Zah)
    (pS (Zau (Zap Zi9 (Zaj Zca (by rfl) T.len PySem.boot_len (pC (pv 3) Zaa)) (Za0 (v:=.int 8) (by rfl) hU ⟨_,rfl⟩) (Zaz _)) Zbe Zah)
    (Zab (Zdy hu (pv 1) (pv 2) Ze8 rfl)))))))),?_⟩
  have hvl:=hp.length
  have g1:=g.ne
  have g2:=g.le
  refine ⟨_,rfl,_,_,rfl,Zgx hl,_,_,rfl,rfl,_,rfl,?_⟩
  rw [show decide ((1:Int)≤(vs.length:Int))=true from decide_eq_true (by omega)]
  refine Ze5 ⟨_,_,rfl,rfl,_,rfl,?_⟩
  rw [show (decide ((vs.length:Int)≤24))=true from decide_eq_true (by omega)]
  refine Zbz ?_
  intro d hd
  have s0:Zag H (upd H d (.dK [])):=fun b o e=>by rw [Zac (nNo e hd)];exact e
  refine ⟨_,rfl,b,l,vs,rfl,hl.mono s0,Za1 Zij (fun i σ H'=>∃ (kvs:List (Key×V)) (a c:Option V),σ=[some (.ref l),some (.ref d),a,c]∧Zag H H'∧H' d=some (.dK kvs)∧kvs.map (·.1)=(rows.take i).map fun r=>(Sum.inr r.1:Key))
   ⟨[],none,none,rfl,s0,uS,by simp⟩ (fun i σ H' _ ⟨_,_,_,_,s,_⟩=>hl.mono s) ?_ ?_⟩
  ·rintro i v σ H' hi ⟨kvs,a,c,rfl,s,hdk,hk⟩
   obtain ⟨r,hr',t,u,rfl,ht,hug⟩:=Zar hp hi
   obtain ⟨b',hu'⟩:=hug.sq
   have hmem:r∈rows:=List.mem_of_getElem? hr'
   have hw:=g.word r hmem
   have hwl:=Zu5 hw
   refine ⟨t,_,rfl,s.tup ht,rfl,_,_,rfl,_,_,rfl,rfl,?_⟩
   refine ⟨_,rfl,r.1,rfl,by omega,fun H2 s2=>⟨_,rfl,?_⟩⟩
   rw [hw]
   refine Zbz ?_
   have hd2:H2 d=some (.dK kvs):=s2 _ _ hdk
   refine ⟨_,rfl,_,rfl,d,_,rfl,Zf5.k (k:=Sum.inr r.1) hd2,_,rfl,?_⟩
   have hnew:(Sum.inr r.1:Key)∉kvs.map (·.1):=by rw [hk];exact Zeb g.nd hr'
   rw [Zbl hnew]
   refine Zbz ?_
   refine ⟨_,rfl,_,_,rfl,Zgx (hu'.mono (s.trans s2)),_,_,rfl,rfl,_,rfl,?_⟩
   rw [show decide ((8:Int)<((r.2.map V.str).length:Int))=false from decide_eq_false (by rw [List.length_map];have:=g.few r hmem;omega)]
   refine Zbz ?_
   have hkl:kvs.length=(rows.take i).length:=by have:=congrArg List.length hk;simpa using this
   have hil:(rows.take i).length≤24:=by rw [List.length_take];omega
   refine ⟨_,rfl,_,rfl,d,_,rfl,Zkw.k (k:=Sum.inr r.1) hd2 (Za7 (by omega)),?_⟩
   refine ⟨_,_,_,rfl,fun b o e=>?_,uS,?_⟩
   ·rw [Zac (nNo e hd)];exact s2 _ _ (s _ _ e)
   ·rw [Zfu hnew,hk,List.take_add_one,hr',List.map_append]
    rfl
  ·rintro σ H' ⟨kvs,a,c,rfl,s,hdk,hk⟩
   exact q H' s
theorem Z1y:Zak ["ups_of","ups","seen","up"] ["ups_of"] (Zad Zde):=⟨rfl,rfl,rfl,by decide +kernel,rfl,by decide +kernel,by decide +kernel⟩
theorem Zis {us:List Str}{i:Nat}{v:V}(h:(us.map V.str)[i]?=some v):∃ x,us[i]?=some x∧v=.str x:=by
 rw [List.getElem?_map] at h
 obtain ⟨x,hx,e⟩:=Option.map_eq_some_iff.mp h
 exact ⟨x,hx,e.symm⟩
theorem Zmc {us:List Str}{i:Nat}{x:Str}(nd:us.Nodup) (h:us[i]?=some x):(Sum.inr x:Key)∉(us.take i).map fun y=>(Sum.inr y:Key):=by
 intro m
 obtain ⟨y,hy,e⟩:=List.mem_map.mp m
 have e:y=x:=by injection e
 subst e
 obtain ⟨j,hj,ej⟩:=List.mem_iff_getElem.mp hy
 rw [List.length_take] at hj
 rw [List.getElem_take] at ej
 have a:us[j]?=some y:=by rw [List.getElem?_eq_getElem (by omega),ej]
 have:=Zfh nd a h
 omega
theorem Zm5 {f:Addr}{fd:FuncData}(F:Def K mg "check_ups" Zde ["ups_of"] f fd):Zaq P w K mg base CX0 1 f fd ["ups_of"] Zkb:=by
 refine F.fn.ok Z1y (fun vs H Q E h=>?_) (fun cdv A outer s H vs Q E hr h=>?_)
 ·obtain ⟨d,o,rows,kvs,rfl,_⟩:=h
  rfl
 ·obtain ⟨d,o,rows,kvs,rfl,bk,g,q⟩:=h
  have nd:=Z1y.nd
  have hu:=Zgn hr
  refine ⟨_,Zab (Zbn PassesOwn.never rfl (Zs5 (pv 0)) (Zai (i:=1) nd rfl (Or.inl rfl))
    (pS (Zal (i:=2) nd rfl (Or.inl rfl) Zd8)
    (Zab (Zbn PassesOwn.never rfl (Zhe (pv 1)) (Zai (i:=3) nd rfl (Or.inl rfl))
     (pS (Zau (Ze6 (Zi6 hu (pv 3) (pv 0))) Zbe Zah)
     (pS (Zau (Ze6 (Zh6 hu (pv 3) (pv 2))) Zbe Zah)
     (Zab (Zdy hu (pv 2) (pv 3) Ze8 rfl)))))))),?_⟩
  refine ⟨_,rfl,d,o,kvs,rfl,bk.at_,Za1 Zmt (fun i σ H'=>∃ (a b c:Option V),σ=[some (.ref d),a,b,c]∧Zag H H') ⟨none,none,none,rfl,Zag.refl H⟩ (fun i σ H' _ ⟨_,_,_,_,s⟩=>s _ _ bk.at_) ?_ ?_⟩
  ·rintro i v σ H' hi ⟨a,b,c,rfl,s⟩
   rw [List.getElem?_map] at hi
   obtain ⟨p,hp,e⟩:=Option.map_eq_some_iff.mp hi
   obtain ⟨r,hr',hk,t,ht,htup⟩:=Zar bk.ups hp
   have hmem:r∈rows:=List.mem_of_getElem? hr'
   subst e
   show Zh0 1 p.2 _ _ _
   rw [ht]
   intro sd hsd
   have s1:Zag H (upd H' sd (.dK [])):=fun b o e=>by rw [Zac (nNo (s _ _ e) hsd)];exact s _ _ e
   have t1:(upd H' sd (.dK [])) t=some (.tup (r.2.map V.str)):=s1 _ _ htup
   refine ⟨_,rfl,t,rfl,⟨_,SqT.of t1⟩,Za1 (Zd6 (xs:=r.2.map V.str)) (fun j σ H2=>∃ (kvs':List (Key×V)) (c:Option V),σ=[some (.ref d),some (.ref t),some (.ref sd),c]∧Zag H H2∧H2 sd=some (.dK kvs')∧kvs'.map (·.1)=(r.2.take j).map fun y=>(Sum.inr y:Key))
    ⟨[],_,rfl,s1,uS,by simp⟩ (fun j σ H2 _ ⟨_,_,_,s,_⟩=>SqT.of (s _ _ htup)) ?_ ?_⟩
   ·rintro j v σ H2 hj ⟨kvs',c,rfl,s2,hsd2,hk'⟩
    obtain ⟨x,hx,rfl⟩:=Zis hj
    have xm:x∈r.2:=List.mem_of_getElem? hx
    have known:=g.known r hmem x xm
    refine ⟨_,rfl,_,rfl,d,_,rfl,Zf5.f (k:=Sum.inr x) (s2 _ _ bk.at_),_,rfl,?_⟩
    obtain ⟨r2,hr2,er2⟩:=List.mem_map.mp known
    obtain ⟨t2,hv2,_⟩:=bk.ups.val g.nd hr2
    rw [← er2,hv2,er2]
    refine Zbz ?_
    have hnew:(Sum.inr x:Key)∉kvs'.map (·.1):=by rw [hk'];exact Zmc (g.upnd r hmem) hx
    refine ⟨_,rfl,_,rfl,sd,_,rfl,Zf5.k (k:=Sum.inr x) hsd2,_,rfl,?_⟩
    rw [Zbl hnew]
    refine Zbz ?_
    have hkl:kvs'.length=(r.2.take j).length:=by have:=congrArg List.length hk';simpa using this
    have hjl:(r.2.take j).length≤8:=by rw [List.length_take];have:=g.few r hmem;omega
    have hsH:H sd=none:=s.free hsd
    refine ⟨_,rfl,_,rfl,sd,_,rfl,Zkw.k (k:=Sum.inr x) hsd2 (Za7 (by omega)),_,_,rfl,fun b o e=>?_,uS,?_⟩
    ·rw [Zac (nNo e hsH)];exact s2 _ _ e
    ·rw [Zfu hnew,hk',List.take_add_one,hx,List.map_append]
     rfl
   ·rintro σ H2 ⟨kvs',c,rfl,s2,hsd2,hk'⟩
    exact ⟨_,_,_,rfl,s2⟩
  ·rintro σ H' ⟨a,b,c,rfl,s⟩
   exact q H' s
theorem Z38:Zak ["words","others","word"] ["words","others"] (Zad Zbi):=⟨rfl,rfl,rfl,by decide +kernel,rfl,by decide +kernel,by decide +kernel⟩
theorem Zll {f:Addr}{fd:FuncData}(F:Def K mg "first_among" Zbi ["words","others"] f fd):Zaq P w K mg base CX0 1 f fd ["words","others"] (Zk4 K):=by
 refine F.fn.ok Z38 (fun vs H Q E h=>?_) (fun cdv A outer s H vs Q E hr h=>?_)
 ·obtain ⟨a,b,us,left,rfl,_⟩:=h
  rfl
 ·obtain ⟨a,b,us,left,rfl,ha,hb,q⟩:=h
  have nd:=Z38.nd
  refine ⟨_,pS (Zbn PassesOwn.never rfl (Zhe (pv 0)) (Zai (i:=2) nd rfl (Or.inl rfl)) (Zab (Zau (Zap Zdt (pv 2) (pv 1) (by with_unfolding_all rfl)) (Zab (Zam (pv 2))) Zah)))
   (Zab (Zam Zkg)),?_⟩
  refine ⟨_,rfl,a,rfl,⟨_,ha⟩,Za1 (Zd6 (xs:=us.map V.str)) (fun i σ H'=>H'=H∧(∃ c:Option V,σ=[some (.ref a),some (.ref b),c])∧(us.take i).find? (fun x=>decide (x∈left))=none) ⟨rfl,⟨none,rfl⟩,by simp⟩ (fun i σ H' _ ⟨e,_⟩=>by rw [e];exact ha) ?_ ?_⟩
  ·rintro i v σ H' hi ⟨rfl,⟨c,rfl⟩,hf⟩
   obtain ⟨x,hx,rfl⟩:=Zis hi
   refine ⟨_,rfl,_,rfl,b,_,rfl,.inl hb,rfl,Zcg left,_,rfl,?_⟩
   show if inV (.str x) (left.map V.str)=true then _ else _
   rw [Zdj]
   have split:us=us.take i++x :: us.drop (i + 1):=by
    have hlt:=(List.getElem?_eq_some_iff.mp hx).1
    have e:us[i]=x:=(List.getElem?_eq_some_iff.mp hx).2
    rw [← e,List.getElem_cons_drop hlt,List.take_append_drop]
   refine Zek (fun h=>?_) (fun h=>?_)
   ·have fv:Zfz us left=.str x:=by
     unfold Zfz
     rw [split,List.find?_append,hf,List.find?_cons]
     simp only [h]
     rfl
    rw [fv] at q
    exact ⟨_,rfl,q⟩
   ·refine ⟨rfl,⟨_,rfl⟩,?_⟩
    rw [List.take_add_one,hx,List.find?_append,hf]
    have h':decide (x∈left)=false:=by simpa using h
    simp [h']
  ·rintro σ H' ⟨rfl,⟨c,rfl⟩,hf⟩
   rw [List.length_map,List.take_length] at hf
   have fv:Zfz us left=.non:=by unfold Zfz;rw [hf]
   rw [fv] at q
   exact q
end
end K54
namespace K54
open PySem L2 Md
def Ztz (rows:List (Str×List Str)) (ls:List Str):V→Bool
 | .str x=>(Zat rows x).any fun u=>decide (u∈ls)
 | _=>false
theorem Zqa (rows:List (Str×List Str)) (ls:List Str):((ls.map V.str).filter (Ztz rows ls)).map (fun v=>v)=(Graph.kept (Zat rows) ls).map V.str:=by
 rw [List.map_id',List.filter_map]
 rfl
theorem Zqd (us ls:List Str):(!decide (Zfz us ls=V.non))=us.any fun u=>decide (u∈ls):=by
 unfold Zfz
 cases e:us.find? fun x=>decide (x∈ls) with
 | none =>
  have:∀ x∈us,¬ decide (x∈ls)=true:=List.find?_eq_none.mp e
  rw [Bool.eq_iff_iff]
  constructor
  ·intro h;simp at h
  ·intro h
   obtain ⟨x,hx,h1⟩:=List.any_eq_true.mp h
   exact absurd h1 (this x hx)
 | some x =>
  have h1:=List.find?_some e
  have h2:=List.mem_of_find?_eq_some e
  rw [Bool.eq_iff_iff]
  constructor
  ·intro _;exact List.any_eq_true.mpr ⟨x,h2,h1⟩
  ·intro _;rfl
section
variable {P:Program} {w:World} {K:W.Frag} {mg:Str→Option Value} {base:Heap}
abbrev Z24:List Str:=["ups_of","left","kept"]
theorem scE:Zak Z24 ["ups_of"] (Zad Zcq):=⟨rfl,rfl,rfl,by decide +kernel,rfl,by decide +kernel,by decide +kernel⟩
theorem Zxl:(["word","ups_of","left"]:List Str).Nodup:=by decide +kernel
theorem Zct {rows:List (Str×List Str)}{x:Str}(h:x∈rows.map (·.1)):∃ r∈rows,r.1=x:=by
 obtain ⟨r,hr,e⟩:=List.mem_map.mp h
 exact ⟨r,hr,e⟩
theorem Zq5 {f fF:Addr}{fd fdF:FuncData}(F:Def K mg "endless" Zcq ["ups_of"] f fd) (DF:Def K mg "first_among" Zbi ["words","others"] fF fdF) (T:Zu3 mg):Zaq P w K mg base CX0 2 f fd ["ups_of"] Zml:=by
 have GF:Zaq P w K mg base CX0 1 fF fdF ["words","others"] (Zk4 K):=Zll DF
 refine F.fn.ok scE (fun vs H Q E h=>?_) (fun cdv A outer s H vs Q E hr h=>?_)
 ·obtain ⟨d,o,rows,kvs,rfl,_⟩:=h
  rfl
 ·obtain ⟨d,o,rows,kvs,rfl,bk,g,q⟩:=h
  have nd:=scE.nd
  have hu:=Zgn hr
  refine ⟨_,pS (Zal (i:=1) nd rfl (Or.inr rfl) (Zbo (Ze4 rfl) (by rfl) T.list PyProof.Rows.boot_list (pC (pv 0) Zaa)))
   (Zab (Zgf PassesOwn.never (Zce Ze8)
    (pS (Ze7 (k:=2) ["word"] ["ups_of","left"] [0,1] nd rfl rfl (fun _=>Za5 (osc:=Zad Zcq) (on:=Z24) (by decide +kernel) rfl rfl rfl) (Zb1 (pv 1)) (fun C s H fp=>Zai (i:=0) Zxl rfl (Or.inl rfl) (Or.inr rfl))
     (fun C s H fp=>Zfv (Ze6 (Zli (Zaf DF GF hr (pC (Zgu hu (pv 1) (pv 0) (fun _ _=>rfl)) (pC (pv 2) Zaa)))))) (fun C s H fp=>pv 0))
    (pS (Zau (Zap Ze9 (Zaj Zca (by rfl) T.len PySem.boot_len (pC (pv 2) Zaa)) (Zaj Zca (by rfl) T.len PySem.boot_len (pC (pv 1) Zaa)) (Zaz _)) (Zab (Zam (pv 2))) Zah)
    (Zab (Zal (i:=1) nd rfl (Or.inr rfl) (pv 2))))))),?_⟩
  have wl:(rows.map (·.1)).length≤24:=by rw [List.length_map];exact g.le
  refine ⟨_,rfl,d,kvs,rfl,.inr ⟨o,bk.at_⟩,fun l0 hl0=>?_⟩
  refine ⟨fun m σ H'=>∃ (ll:Addr) (ls:List Str) (c:Option V),σ=[some (.ref d),some (.ref ll),c]∧Zag H H'∧H' ll=some (.lst (ls.map V.str))∧(∀ x∈ls,x∈rows.map (·.1))∧ls.length≤24∧m=ls.length,
   ⟨_,l0,rows.map (·.1),none,rfl,fun b o e=>by rw [Zac (nNo e hl0)];exact e,by rw [uS,Zy7 bk.ups],fun x h=>h,wl,rfl⟩,?_⟩
  rintro m σ H' ⟨ll,ls,c,rfl,s1,hll,hsub,h24,rfl⟩
  refine ⟨true,rfl,?_⟩
  refine Ze5 ⟨fun σ' H2=>∃ m',m'<ls.length∧∃ (ll:Addr) (ls:List Str) (c:Option V),σ'=[some (.ref d),some (.ref ll),c]∧Zag H H2∧H2 ll=some (.lst (ls.map V.str))∧(∀ x∈ls,x∈rows.map (·.1))∧ls.length≤24∧m'=ls.length,fun _ _ h=>h,?_⟩
  refine ⟨_,rfl,ll,rfl,⟨_,SqL.of hll⟩,Zf2 (Za8 (xs:=ls.map V.str)) (sL (by rw [List.length_map];omega)) (Ztz rows ls) (fun v=>v) (fun D ys hD=>SqL.of (by rw [Zac (nNo hll hD)];exact hll)) ?_ ?_ ?_⟩
  ·intro D ys v R hD hv hR
   obtain ⟨x,hx,rfl⟩:=List.mem_map.mp hv
   obtain ⟨r,hr',rfl⟩:=Zct (hsub x hx)
   obtain ⟨t,hvt,ht⟩:=bk.ups.val g.nd hr'
   have kp:∀ b o,H b=some o→(upd H' D (.lst ys)) b=some o:=fun b o e=>by rw [Zac (nNo (s1 _ _ e) hD)];exact s1 _ _ e
   refine ⟨_,rfl,_,rfl,d,_,rfl,(by rw [← hvt];exact Zf5.f (k:=Sum.inr r.1) (kp _ _ bk.at_)),_,rfl,t,ll,r.2,ls,rfl,SqT.of (kp _ _ ht),SqL.of (by rw [Zac (nNo hll hD)];exact hll),_,rfl,?_⟩
   have e:(!decide (Zfz r.2 ls=V.non))=Ztz rows ls (V.str r.1):=by
    rw [Zqd]
    show _=(Zat rows r.1).any _
    rw [Zbv g.nd hr']
   rw [e]
   exact hR
  ·intro D ys v R hD hv _ hR
   exact ⟨_,rfl,hR⟩
  ·intro D hD
   rw [Zqa]
   have hDl:(upd H' D (.lst ((Graph.kept (Zat rows) ls).map V.str))) ll=some (.lst (ls.map V.str)):=by rw [Zac (nNo hll hD)];exact hll
   have s2:Zag H (upd H' D (.lst ((Graph.kept (Zat rows) ls).map V.str))):=fun b o e=>by rw [Zac (nNo (s1 _ _ e) hD)];exact s1 _ _ e
   refine ⟨_,rfl,_,_,rfl,.inl ⟨_,SqL.of uS,rfl⟩,_,rfl,_,_,rfl,.inl ⟨_,SqL.of hDl,rfl⟩,rfl,_,rfl,?_⟩
   have kle:=Graph.kept_le (Zat rows) ls
   refine Zek (fun h=>?_) (fun h=>?_)
   ·have h:(Graph.kept (Zat rows) ls).length=ls.length:=by
     have:=of_decide_eq_true h
     injection this with this
     rw [List.length_map,List.length_map] at this
     omega
    obtain ⟨rk,hrk⟩:=g.rank
    have nil:ls=[]:=Graph.kept_nil (rk:=rk) (fun a ha b hb=>by
     obtain ⟨r,hr',rfl⟩:=Zct (hsub a ha)
     rw [Zbv g.nd hr'] at hb
     exact hrk r hr' b hb) h
    have kn:Graph.kept (Zat rows) ls=[]:=by rw [nil];rfl
    refine ⟨_,rfl,q D _ s2 ?_⟩
    rw [uS,kn]
    rfl
   ·have h:(Graph.kept (Zat rows) ls).length≠ls.length:=fun z=>h (decide_eq_true (by rw [List.length_map,List.length_map,z]))
    exact ⟨_,rfl,_,by omega,D,_,_,rfl,s2,uS,fun x hx=>hsub x (Graph.kept_sub hx),by omega,rfl⟩
theorem scR:Zak ["ups_of","left","way","here"] ["ups_of"] (Zad Zdd):=⟨rfl,rfl,rfl,by decide +kernel,rfl,by decide +kernel,by decide +kernel⟩
theorem Zyr {f fE fF:Addr}{fd fdE fdF:FuncData}(F:Def K mg "find_ring" Zdd ["ups_of"] f fd) (DE:Def K mg "endless" Zcq ["ups_of"] fE fdE) (DF:Def K mg "first_among" Zbi ["words","others"] fF fdF) (T:Zu3 mg):Zaq P w K mg base CX0 3 f fd ["ups_of"] Zw9:=by
 have GE:Zaq P w K mg base CX0 2 fE fdE ["ups_of"] Zml:=Zq5 DE DF T
 refine F.fn.ok scR (fun vs H Q E h=>?_) (fun cdv A outer s H vs Q E hr h=>?_)
 ·obtain ⟨d,o,rows,kvs,rfl,_⟩:=h
  rfl
 ·obtain ⟨d,o,rows,kvs,rfl,bk,g,q⟩:=h
  have nd:=scR.nd
  refine ⟨_,pS (Zal (i:=1) nd rfl (Or.inl rfl) (Zaf DE GE hr (pC (pv 0) Zaa)))
   (pS (Zau (Zb4 (Zik (pv 1) (fun _=>rfl))) (Zab (Zam Zkg)) Zah) Zbe),?_⟩
  refine ⟨_,rfl,d,o,rows,kvs,rfl,bk,g,fun l H' s1 hl=>?_⟩
  exact ⟨_,rfl,false,.inl ⟨[],SqL.of hl,rfl⟩,Ze5 (q H' s1)⟩
def inK (x:Str):Key:=Sum.inr x
def Zss:Sp:=fun vs H Q _=>∃ (d:Addr) (o:Obj) (rows:List (Str×List Str)) (kvs:List (Key×V)) (x:Str),vs=[.ref d,.str x]∧Zhp H d o rows kvs∧Zb0 rows∧x∈rows.map (·.1) ∧
 ∀ a o' fk H',H a=none→Zag H H'→H' a=some (.frz o' (.dK fk))→(∀ y,(Sum.inr y:Key)∈fk.map (·.1)↔Graph.Reach (Zat rows) x y)→Q (.ref a) H'
structure Zzt (rows:List (Str×List Str)) (x:Str) (fs ws:List Str):Prop where
 start:x∈fs
 sub:∀ y∈ws,y∈fs
 known:∀ y∈fs,y∈rows.map (·.1)
 nd:fs.Nodup
 reach:∀ y∈fs,Graph.Reach (Zat rows) x y
 closed:∀ y∈fs,y∉ws→∀ u∈Zat rows y,u∈fs
 few:ws.length≤fs.length
theorem scA:Zak ["ups_of","word","found","waiting","here","up"] ["ups_of","word"] (Zad Zfd):=⟨rfl,rfl,rfl,by decide +kernel,rfl,by decide +kernel,by decide +kernel⟩
theorem Zjg {fk:List (Key×V)}{fs:List Str}(h:fk.map (·.1)=fs.map inK) (y:Str):(Sum.inr y:Key)∈fk.map (·.1)↔y∈fs:=by
 rw [h]
 constructor
 ·intro m
  obtain ⟨z,hz,e⟩:=List.mem_map.mp m
  have e:z=y:=by
   unfold inK at e
   injection e
  rw [← e];exact hz
 ·intro m
  exact List.mem_map.mpr ⟨y,m,rfl⟩
theorem Zgo {fk:List (Key×V)}{k:Key}(h:k∈fk.map (·.1)):(Zga fk k).isSome=true:=by
 cases e:Zga fk k with
 | none=>exact absurd h (Zo8 e)
 | some v=>rfl
theorem Zv8 {f:Addr}{fd:FuncData}(F:Def K mg "all_above" Zfd ["ups_of","word"] f fd):Zaq P w K mg base CX0 1 f fd ["ups_of","word"] Zss:=by
 refine F.fn.ok scA (fun vs H Q E h=>?_) (fun cdv A outer s H vs Q E hr h=>?_)
 ·obtain ⟨d,o,rows,kvs,x,rfl,_⟩:=h
  rfl
 ·obtain ⟨d,o,rows,kvs,x,rfl,bk,g,hx,q⟩:=h
  have nd:=scA.nd
  have hu:=Zgn hr
  refine ⟨_,pS (Zal (i:=2) nd rfl (Or.inl rfl) (Zyl (Zvm (pv 1) Ze8 Zyi) rfl rfl (by simp) (by show 1≤15;decide)))
   (pS (Zal (i:=3) nd rfl (Or.inl rfl) (Zd0 (pC (pv 1) Zaa)))
   (pS (Zgf PassesOwn.never (Zik (pv 3) (fun _=>rfl))
    (pS (Zal (i:=4) nd rfl (Or.inl rfl) (Z0r PySem.F.plainAttrs_list PySem.F.slot_list_pop PySem.F.type_list_pop Z1d (pv 3)))
    (Zab (Zbn PassesOwn.never rfl (Zhe (Zgu hu (pv 0) (pv 4) (fun _ _=>rfl))) (Zai (i:=5) nd rfl (Or.inl rfl))
     (Zab (Zau (Ze6 (Zi6 hu (pv 5) (pv 2))) (pS (Zdy hu (pv 2) (pv 5) Ze8 rfl)
      (Zab (Za3 (Zic PySem.F.plainAttrs_list PySem.F.slot_list_append PySem.F.type_list_append Zdu (pv 3) (pC (pv 5) Zaa))))) Zah))))))
   (Zlf (Zab (Zam (pv 2)))))),?_⟩
  intro fa hfa
  refine ⟨_,rfl,uS,[(Sum.inr x,.bl true)],rfl,(by show 1≤15;decide),?_⟩
  rw [Zky]
  refine ⟨_,rfl,sL (by show 1≤100000;decide),fun wa hwa=>?_⟩
  have fw:fa≠wa:=nNo uS hwa
  have hwaH:H wa=none:=by
   cases e:H wa with
   | none=>rfl
   | some u=>rw [Zac (Ne.symm fw),e] at hwa;cases hwa
  have bound:∀ {fs ws:List Str},Zzt rows x fs ws→fs.length≤rows.length:=fun {fs ws} h=>by
   have:=Graph.nodup_le h.nd h.known
   rwa [List.length_map] at this
  have gle:=g.le
  refine ⟨fun m σ H'=>∃ (fs ws:List Str) (fk:List (Key×V)) (a b:Option V),σ=[some (.ref d),some (.str x),some (.ref fa),some (.ref wa),a,b]∧Zag H H'∧H' fa=some (.dK fk)∧fk.map (·.1)=fs.map inK∧H' wa=some (.lst (ws.map V.str))∧Zzt rows x fs ws∧m + 2 * fs.length=2 * rows.length + ws.length,
   ⟨2 * rows.length - 1,[x],[x],[(Sum.inr x,.bl true)],none,none,rfl,fun b o e=>by rw [Zac (nNo e hwaH),Zac (nNo e hfa)];exact e,by rw [Zac fw];exact uS,rfl,uS,
    ⟨by simp,fun y h=>h,fun y h=>by rw [List.mem_singleton.mp h];exact hx,by simp,fun y h=>by rw [List.mem_singleton.mp h];exact .refl x,fun y h n=>absurd h n,Nat.le_refl _⟩,by have:=g.ne;simp;omega⟩,?_⟩
  rintro m σ H' ⟨fs,ws,fk,a,b,rfl,s1,hf,hk,hw,go,hm⟩
  have flen:=bound go
  refine ⟨_,rfl,_,.inl ⟨_,SqL.of hw,rfl⟩,?_⟩
  refine Zek (fun hne=>?_) (fun hne=>?_)
  ·-- here=waiting.pop()
   have wne:ws≠[]:=by
    intro z
    rw [z] at hne
    cases hne
   have hpos:0<ws.length:=List.length_pos_iff.mpr wne
   have split:ws=ws.dropLast++[ws.getLast wne]:=(List.dropLast_concat_getLast wne).symm
   generalize hhere:ws.getLast wne=here at split
   have hmem:here∈ws:=by rw [split];simp
   have hfs:here∈fs:=go.sub here hmem
   obtain ⟨r,hr',er⟩:=Zct (go.known here hfs)
   obtain ⟨t,hvt,ht⟩:=bk.ups.val g.nd hr'
   have last:(ws.map V.str)[(ws.map V.str).length - 1]?=some (V.str here):=by
    rw [List.getElem?_map,List.length_map]
    have:ws[ws.length - 1]?=some here:=by
     rw [← hhere,List.getLast_eq_getElem,List.getElem?_eq_getElem (by omega)]
    rw [this]
    rfl
   refine ⟨fun σ' H2=>∃ m',m'<m∧∃ (fs ws:List Str) (fk:List (Key×V)) (a b:Option V),σ'=[some (.ref d),some (.str x),some (.ref fa),some (.ref wa),a,b]∧Zag H H2∧H2 fa=some (.dK fk)∧fk.map (·.1)=fs.map inK∧H2 wa=some (.lst (ws.map V.str))∧Zzt rows x fs ws∧m' + 2 * fs.length=2 * rows.length + ws.length,fun _ _ h=>h,?_⟩
   refine ⟨_,rfl,.inl ⟨rfl,_,SqL.of hw⟩,wa,_,_,rfl,rfl,hw,last,?_⟩
   have s2:Zag H (upd H' wa (.lst (ws.map V.str).dropLast)):=fun b o e=>by rw [Zac (nNo e hwaH)];exact s1 _ _ e
   refine ⟨_,rfl,_,rfl,d,_,rfl,(by rw [← hvt,er];exact Zf5.f (k:=Sum.inr here) (s2 _ _ bk.at_)),t,rfl,⟨_,SqT.of (s2 _ _ ht)⟩,?_⟩
   have uo:Zat rows here=r.2:=by rw [← er];exact Zbv g.nd hr'
   refine Za1 (Zd6 (xs:=r.2.map V.str)) (fun j σ H2=>∃ (fs' ws':List Str) (fk':List (Key×V)) (b:Option V),σ=[some (.ref d),some (.str x),some (.ref fa),some (.ref wa),some (.str here),b]∧Zag H H2∧H2 fa=some (.dK fk')∧fk'.map (·.1)=fs'.map inK∧H2 wa=some (.lst (ws'.map V.str)) ∧
    (∀ y∈fs,y∈fs')∧(∀ y∈ws.dropLast,y∈ws')∧(∀ y∈ws',y∈fs')∧(∀ y∈fs',y∈rows.map (·.1))∧fs'.Nodup∧(∀ y∈fs',Graph.Reach (Zat rows) x y)∧(∀ y∈fs',y∈fs∨y∈ws')∧(∀ u∈r.2.take j,u∈fs')∧ws'.length + 2 * fs.length + fs'.length≤ws.dropLast.length + 2 * fs'.length + fs.length)
    ⟨fs,ws.dropLast,fk,_,rfl,s2,by rw [Zac fw];exact hf,hk,by rw [uS,List.map_dropLast],fun y h=>h,fun y h=>h,fun y h=>go.sub y ((List.dropLast_sublist ws).subset h),go.known,go.nd,go.reach,fun y h=>.inl h,fun u h=>by simp at h,by omega⟩ (fun j σ H2 _ ⟨_,_,_,_,_,s,_⟩=>SqT.of (s _ _ ht)) ?_ ?_
   ·rintro j v σ H2 hj ⟨fs',ws',fk',b,rfl,s3,hf3,hk3,hw3,c1,c2,c3,c4,c5,c6,c7,c8,c9⟩
    obtain ⟨u,hu',rfl⟩:=Zis hj
    have um:u∈r.2:=List.mem_of_getElem? hu'
    have fl3:fs'.length≤rows.length:=by
     have:=Graph.nodup_le c5 c4
     rwa [List.length_map] at this
    have kl:fk'.length=fs'.length:=by have:=congrArg List.length hk3;simpa using this
    refine ⟨_,rfl,_,rfl,fa,_,rfl,Zf5.k (k:=Sum.inr u) hf3,_,rfl,?_⟩
    have dl:ws.dropLast.length=ws.length - 1:=List.length_dropLast
    have gf:=go.few
    by_cases nin:u∉fs'
    ·have nk:(Sum.inr u:Key)∉fk'.map (·.1):=fun z=>nin ((Zjg hk3 u).mp z)
     have wl3:ws'.length≤rows.length * 3:=by omega
     rw [Zbl nk]
     refine Ze5 ?_
     refine ⟨_,rfl,_,rfl,fa,_,rfl,Zkw.k (k:=Sum.inr u) hf3 (Za7 (by omega)),?_⟩
     have hw4:(upd H2 fa (.dK (Zfn fk' (Sum.inr u) (.bl true)))) wa=some (.lst (ws'.map V.str)):=by rw [Zac (Ne.symm fw)];exact hw3
     refine ⟨_,rfl,.inl ⟨rfl,_,SqL.of hw4⟩,_,rfl,wa,_,_,rfl,rfl,hw4,Za7 (by rw [List.length_map];omega),?_⟩
     refine ⟨fs'++[u],ws'++[u],Zfn fk' (Sum.inr u) (.bl true),_,rfl,fun b o e=>by rw [Zac (nNo e hwaH),Zac (nNo e hfa)];exact s3 _ _ e,by rw [Zac fw];exact uS,?_,by rw [uS,List.map_append];rfl,fun y h=>List.mem_append_left _ (c1 y h),fun y h=>List.mem_append_left _ (c2 y h),fun y h=>?_,fun y h=>?_,?_,fun y h=>?_,fun y h=>?_,fun y h=>?_,?_⟩
     ·rw [Zfu nk,hk3,List.map_append]
      rfl
     ·rcases List.mem_append.mp h with h | h
      ·exact List.mem_append_left _ (c3 y h)
      ·exact List.mem_append_right _ h
     ·rcases List.mem_append.mp h with h | h
      ·exact c4 y h
      ·rw [List.mem_singleton.mp h];exact g.known r hr' u um
     ·rw [List.nodup_append]
      exact ⟨c5,by simp,fun a ha b hb e=>nin (by rw [← List.mem_singleton.mp hb,← e];exact ha)⟩
     ·rcases List.mem_append.mp h with h | h
      ·exact c6 y h
      ·rw [List.mem_singleton.mp h];exact (go.reach here hfs).snoc (by rw [uo];exact um)
     ·rcases List.mem_append.mp h with h | h
      ·rcases c7 y h with h | h
       ·exact .inl h
       ·exact .inr (List.mem_append_left _ h)
      ·exact .inr (List.mem_append_right _ h)
     ·rw [List.take_add_one,hu'] at h
      rcases List.mem_append.mp h with h | h
      ·exact List.mem_append_left _ (c8 y h)
      ·have:y=u:=by simpa using h
       rw [this];exact List.mem_append_right _ (by simp)
     ·rw [List.length_append,List.length_append]
      simp only [List.length_singleton]
      omega
    ·have yin:u∈fs':=Classical.byContradiction nin
     rw [Zgo ((Zjg hk3 u).mpr yin)]
     refine Zbz ?_
     refine ⟨fs',ws',fk',_,rfl,s3,hf3,hk3,hw3,c1,c2,c3,c4,c5,c6,c7,fun y h=>?_,c9⟩
     rw [List.take_add_one,hu'] at h
     rcases List.mem_append.mp h with h | h
     ·exact c8 y h
     ·have:y=u:=by simpa using h
      rw [this];exact yin
   ·rintro σ H2 ⟨fs',ws',fk',b,rfl,s3,hf3,hk3,hw3,c1,c2,c3,c4,c5,c6,c7,c8,c9⟩
    rw [List.length_map,List.take_length] at c8
    have fl3:fs'.length≤rows.length:=by
     have:=Graph.nodup_le c5 c4
     rwa [List.length_map] at this
    have dl:ws.dropLast.length=ws.length - 1:=List.length_dropLast
    have fle:fs.length≤fs'.length:=Graph.nodup_le go.nd c1
    have gf:=go.few
    refine ⟨2 * rows.length + ws'.length - 2 * fs'.length,by omega,fs',ws',fk',_,_,rfl,s3,hf3,hk3,hw3,⟨c1 x go.start,c3,c4,c5,c6,fun y hy hn u hu'=>?_,by omega⟩,by omega⟩
    rcases c7 y hy with hy' | hy'
    ·by_cases yh:y=here
     ·rw [yh,uo] at hu'
      exact c8 u hu'
     ·have nw:y∉ws:=fun z=>by
       rw [split] at z
       rcases List.mem_append.mp z with z | z
       ·exact hn (c2 y z)
       ·exact yh (List.mem_singleton.mp z)
      exact c1 u (go.closed y hy' nw u hu')
    ·exact absurd hy' hn
  ·have wnil:ws=[]:=by
    cases ws with
    | nil=>rfl
    | cons y r=>exact absurd rfl hne
   refine ⟨fa,fk,hf,fun o'=>⟨_,rfl,q fa o' fk _ hfa (fun b o e=>by rw [Zac (nNo e hfa)];exact s1 _ _ e) uS fun y=>?_⟩⟩
   rw [Zjg hk y]
   constructor
   ·exact fun h=>go.reach y h
   ·intro h
    refine Graph.closed_reach (S:=fun y=>y∈fs) (fun y hy u hu'=>go.closed y hy (by rw [wnil];simp) u hu') h go.start
end
end K54
namespace K54
open PySem L2 Md
theorem fne:¬ (("ups_of":Str)="above_of"):=by decide +kernel
def Zou (d a:Addr):List (Str×V):=Zgt "above_of" (.ref a) (Zgt "ups_of" (.ref d) [])
theorem Zqg (d a:Addr):(Zou d a).lookup ("ups_of":Str)=some (.ref d):=by
 unfold Zou
 rw [Zay,if_neg fne,Zay,if_pos rfl]
theorem Z1p (d a:Addr):(Zou d a).lookup ("above_of":Str)=some (.ref a):=by
 unfold Zou
 rw [Zay,if_pos rfl]
theorem Zgy (d a:Addr) {m:Str} (h1:¬ m="above_of") (h2:¬ m="ups_of"):(Zou d a).lookup m=none:=by
 unfold Zou
 rw [Zay,if_neg h1,Zay,if_neg h2]
 rfl
def Zf6 (H:Hp) (all rows:List (Str×List Str)) (avs:List (Key×V)):Prop :=
 Paired (fun r (p:Key×V)=>p.1=Sum.inr r.1∧∃ t o' fk,p.2=.ref t∧H t=some (.frz o' (.dK fk))∧∀ y,(Sum.inr y:Key)∈fk.map (·.1)↔Graph.Reach (Zat all) r.1 y) rows avs
theorem Zf6.mono {H H':Hp}{all rows:List (Str×List Str)}{avs:List (Key×V)}(h:Zf6 H all rows avs) (s:∀ b o' fk,H b=some (.frz o' (.dK fk))→H' b=some (.frz o' (.dK fk))):Zf6 H' all rows avs :=
 Paired.mapP h fun _ _ z=>⟨z.1,let ⟨t,o',fk,e,x,y⟩:=z.2;⟨t,o',fk,e,s _ _ _ x,y⟩⟩
theorem Zf6.keys:∀ {H:Hp}{all rows:List (Str×List Str)}{kvs:List (Key×V)},Zf6 H all rows kvs→kvs.map (·.1)=rows.map fun r=>(Sum.inr r.1:Key)
 | _,_,_,_,.nil=>rfl
 | _,_,_,_,.cons r t=>by rw [List.map_cons,List.map_cons,r.1,Zf6.keys t]
theorem Zf6.val:∀ {H:Hp}{all rows:List (Str×List Str)}{kvs:List (Key×V)},Zf6 H all rows kvs→(rows.map (·.1)).Nodup→∀ {r:Str×List Str},r∈rows→∃ t o' fk,Zga kvs (Sum.inr r.1)=some (.ref t)∧H t=some (.frz o' (.dK fk))∧∀ y,(Sum.inr y:Key)∈fk.map (·.1)↔Graph.Reach (Zat all) r.1 y
 | _,_,_,_,.nil,_,r,h=>nomatch h
 | _,_,q :: rs,p :: ps,.cons z t,nd,r,h=>by
  have nd':(q.1 :: rs.map (·.1)).Nodup:=nd
  obtain ⟨n1,n2⟩:=List.nodup_cons.mp nd'
  obtain ⟨z1,u,o',fk,z2,z3,z4⟩:=z
  rcases List.mem_cons.mp h with e | h
  ·subst e
   exact ⟨u,o',fk,by rw [Zf7 z1,z2],z3,z4⟩
  ·have ne:¬ p.1=(Sum.inr r.1:Key):=fun e=>n1 (by
    rw [z1] at e
    have e':q.1=r.1:=by injection e
    rw [e']
    exact List.mem_map.mpr ⟨r,h,rfl⟩)
   obtain ⟨u',o'',fk',h1,h2⟩:=Zf6.val t n2 h
   exact ⟨u',o'',fk',by rw [Zf8 ne];exact h1,h2⟩
structure Za4 (C:Addr) (H:Hp) (p:Addr) (rows:List (Str×List Str)):Prop where
 ex:∃ (dx d a:Addr) (o oa:Obj) (kvs avs:List (Key×V)),H p=some (.ins C dx (Zou d a))∧Zhp H d o rows kvs∧H a=some (.frz oa (.dK avs))∧Zf6 H rows rows avs
theorem Za4.mono {C:Addr}{H H':Hp}{p:Addr}{rows:List (Str×List Str)}(h:Za4 C H p rows) (s:Zag H H'):Za4 C H' p rows:=by
 obtain ⟨dx,d,a,o,oa,kvs,avs,h1,h2,h3,h4⟩:=h.ex
 exact ⟨dx,d,a,o,oa,kvs,avs,s _ _ h1,h2.mono s,s _ _ h3,h4.mono fun _ _ _ e=>s _ _ e⟩
structure Zio (K:W.Frag) (C:Addr):Prop where
 cl:Cls K C
 nU:Zf3 K C "ups_of"
 nA:Zf3 K C "above_of"
structure Zn6 (K:W.Frag) (C:Addr) (m qual:Str) (st:Stmt) (ps:List Str) (f:Addr) (fd:FuncData):Prop where
 fn:Fun K m qual st f fd
 b:Zc9 K fd ps []
 me:Z14 K C m f
def Zpg (K:W.Frag) (C:Addr):Sp:=fun vs H Q _=>∃ (p dx l:Addr) (rows:List (Str×List Str)),vs=[.ref p,.ref l]∧H p=some (.ins C dx [])∧Zjv K H l rows∧Zb0 rows ∧
 ∀ H',Za4 C H' p rows→(∀ b o,b≠p→H b=some o→H' b=some o)→Q .non H'
def Zob (C:Addr):Sp:=fun vs H Q _=>∃ (p:Addr) (rows:List (Str×List Str)) (x:Str),vs=[.ref p,.str x]∧Za4 C H p rows∧Zb0 rows∧x∈rows.map (·.1)∧Q .non H
def Zvd (C:Addr):Sp:=fun vs H Q _=>∃ (p:Addr) (rows:List (Str×List Str)) (x:Str),vs=[.ref p,.str x]∧Za4 C H p rows∧Zb0 rows∧Q (.bl (decide (x∈rows.map (·.1)))) H
def Zit (C:Addr):Sp:=fun vs H Q _=>∃ (p:Addr) (rows:List (Str×List Str)),vs=[.ref p]∧Za4 C H p rows∧Zb0 rows∧∀ l,H l=none→Q (.ref l) (upd H l (.lst ((rows.map (·.1)).map V.str)))
noncomputable def Zc6 (rows:List (Str×List Str)) (x y:Str):Bool:=@decide (Graph.Reach (Zat rows) x y) (Classical.propDecidable _)
noncomputable def Zoa (C:Addr):Sp:=fun vs H Q _=>∃ (p:Addr) (rows:List (Str×List Str)) (x y:Str),vs=[.ref p,.str x,.str y]∧Za4 C H p rows∧Zb0 rows∧x∈rows.map (·.1)∧y∈rows.map (·.1)∧Q (.bl (Zc6 rows x y)) H
section
variable {P:Program} {w:World} {K:W.Frag} {mg:Str→Option Value} {base:Heap}
theorem scI:Zak ["self","rows","ups_of","word","ups","ring","above_of"] ["self","rows"] (Zad Zcu):=⟨rfl,rfl,rfl,by decide +kernel,rfl,by decide +kernel,by decide +kernel⟩
theorem Zys {f C f1 f2 f3 f4 f5 f6 f7:Addr}{fd d1 d2 d3 d4 d5 d6 d7:FuncData}(F:Fun K "__init__" "Kinds.__init__" Zcu f fd) (T:Zu3 mg) (TC:Zio K C) (D1:Def K mg "check_rows" Zcy ["rows"] f1 d1) (D2:Def K mg "is_word" Zdn ["text"] f2 d2)
  (D3:Def K mg "check_ups" Zde ["ups_of"] f3 d3) (D4:Def K mg "find_ring" Zdd ["ups_of"] f4 d4) (D5:Def K mg "endless" Zcq ["ups_of"] f5 d5) (D6:Def K mg "first_among" Zbi ["words","others"] f6 d6) (D7:Def K mg "all_above" Zfd ["ups_of","word"] f7 d7):
  Zaq P w K mg base CX0 4 f fd ["self","rows"] (Zpg K C):=by
 have G1:Zaq P w K mg base CX0 2 f1 d1 ["rows"] (Ziw K):=Zln D1 D2 T
 have G3:Zaq P w K mg base CX0 1 f3 d3 ["ups_of"] Zkb:=Zm5 D3
 have G4:Zaq P w K mg base CX0 3 f4 d4 ["ups_of"] Zw9:=Zyr D4 D5 D6 T
 have G7:Zaq P w K mg base CX0 1 f7 d7 ["ups_of","word"] Zss:=Zv8 D7
 refine F.ok scI (fun vs H Q E h=>?_) (fun cdv A outer s H vs Q E hr h=>?_)
 ·obtain ⟨p,dx,l,rows,rfl,_⟩:=h
  rfl
 ·obtain ⟨p,dx,l,rows,rfl,hp,hR,g,q⟩:=h
  have nd:=scI.nd
  have hu:=Zgn hr
  have hr1:Zb6 1 _:=hr.mono (by decide)
  have hr2:Zb6 2 _:=hr.mono (by decide)
  refine ⟨_,pS (Za3 (Zaf D1 G1 hr2 (pC (pv 1) Zaa)))
   (pS (Zal (i:=2) nd rfl (Or.inl rfl) Zd8)
   (pS (Zbn PassesOwn.never rfl (Zpu (pv 1)) (Zfl rfl (gC (Zai (i:=3) nd rfl (Or.inl rfl)) (gC (Zai (i:=4) nd rfl (Or.inl rfl)) Zdz)))
    (Zab (Zdy hu (pv 2) (pv 3) (Zbo Zck (by rfl) T.tuple PyProof.Rows.boot_tuple (pC (pv 4) Zaa)) rfl)))
   (Zlf (pS (Za3 (Zaf D3 G3 hr1 (pC (pv 2) Zaa)))
   (pS (Zal (i:=5) nd rfl (Or.inl rfl) (Zaf D4 G4 hr (pC (pv 2) Zaa)))
   (pS (Zau (Ze6 (Zli (pv 5))) Zbe Zah)
   (pS (Zal (i:=6) nd rfl (Or.inl rfl) Zd8)
   (pS (Zbn PassesOwn.never rfl (Zyj (pv 2)) (Zai (i:=3) nd rfl (Or.inl rfl)) (Zab (Zdy hu (pv 6) (pv 3) (Zaf D7 G7 hr1 (pC (pv 2) (pC (pv 3) Zaa))) rfl)))
   (Zlf (pS (Zmw (pv 0) (pv 2) rfl) (Zab (Zmw (pv 0) (pv 6) rfl)))))))))))),?_⟩
  refine ⟨_,rfl,l,rows,rfl,hR,g,fun H1 s1=>?_⟩
  intro d hd
  have s2:Zag H (upd H1 d (.dK [])):=fun b o e=>by rw [Zac (nNo (s1 _ _ e) hd)];exact s1 _ _ e
  obtain ⟨b,vs,hl,hpr⟩:=hR
  refine ⟨_,rfl,b,l,vs,rfl,hl.mono s2,Za1 Zij (fun i σ H'=>∃ (kvs:List (Key×V)) (a c:Option V),σ=[some (.ref p),some (.ref l),some (.ref d),a,c,none,none]∧Zag H H'∧H' d=some (.dK kvs)∧Zj1 H' (rows.take i) kvs)
   ⟨[],none,none,rfl,s2,uS,by rw [List.take_zero];exact .nil⟩ (fun i σ H' _ ⟨_,_,_,_,s,_⟩=>hl.mono s) ?_ ?_⟩
  ·rintro i v σ H' hi ⟨kvs,a,c,rfl,s3,hdk,hU⟩
   obtain ⟨r,hr',t,u,rfl,ht,hug⟩:=Zar hpr hi
   have dH:H d=none:=s1.free hd
   refine ⟨t,_,rfl,s3.tup ht,rfl,_,_,rfl,_,_,rfl,rfl,?_⟩
   have hnew:(Sum.inr r.1:Key)∉kvs.map (·.1):=by rw [hU.keys];exact Zeb g.nd hr'
   have hil:(rows.take i).length≤24:=by rw [List.length_take];have:=g.le;omega
   have hkl:kvs.length=(rows.take i).length:=(Paired.length hU).symm
   have fin:∀ (t2:Addr) (H2:Hp),Zag H' H2→H2 t2=some (.tup (r.2.map V.str))→∃ (kvs':List (Key×V)) (a c:Option V),[some (V.ref p),some (V.ref l),some (V.ref d),some (V.str r.1),some (V.ref u),none,none]=[some (V.ref p),some (V.ref l),some (V.ref d),a,c,none,none]∧Zag H (upd H2 d (.dK (Zfn kvs (Sum.inr r.1) (.ref t2)))) ∧
     (upd H2 d (.dK (Zfn kvs (Sum.inr r.1) (.ref t2)))) d=some (.dK kvs')∧Zj1 (upd H2 d (.dK (Zfn kvs (Sum.inr r.1) (.ref t2)))) (rows.take (i + 1)) kvs':=fun t2 H2 s4 ht2=>by
    have d2:=s4 _ _ hdk
    have tk:∀ b xs,H2 b=some (.tup xs)→(upd H2 d (.dK (Zfn kvs (Sum.inr r.1) (.ref t2)))) b=some (.tup xs):=fun b xs e=>by
     rw [Zac (fun z=>by rw [z,d2] at e;cases e)];exact e
    refine ⟨_,_,_,rfl,fun b o e=>by rw [Zac (nNo e dH)];exact s4 _ _ (s3 _ _ e),uS,?_⟩
    have sn:Zj1 (upd H2 d (.dK (Zfn kvs (Sum.inr r.1) (.ref t2)))) (rows.take i++[r]) (kvs++[(Sum.inr r.1,V.ref t2)]):=Paired.snoc ((hU.mono fun b xs e=>s4 _ _ e).mono tk) ⟨rfl,t2,rfl,tk t2 _ ht2⟩
    rw [← Zff _ (Zbl hnew)] at sn
    rw [List.take_add_one,hr']
    exact sn
   rcases hug with hug | hug
   ·refine ⟨_,rfl,u,_,rfl,.inr ⟨SqT.of (s3 _ _ hug),_,rfl,_,rfl,d,_,rfl,Zkw.k (k:=Sum.inr r.1) hdk (Za7 (by omega)),fin u H' (Zag.refl _) (s3 _ _ hug)⟩⟩
   ·refine ⟨_,rfl,u,_,rfl,.inl ⟨s3.seq hug,fun t2 ht2=>?_⟩⟩
    have s4:Zag H' (upd H' t2 (.tup (r.2.map V.str))):=fun b o e=>by rw [Zac (nNo e ht2)];exact e
    exact ⟨_,rfl,_,rfl,d,_,rfl,Zkw.k (k:=Sum.inr r.1) (s4 _ _ hdk) (Za7 (by omega)),fin t2 _ s4 uS⟩
  ·rintro σ H2 ⟨kvs,a,c,rfl,s3,hdk,hU⟩
   have hvl:=hpr.length
   rw [← hvl,List.take_length] at hU
   refine ⟨d,kvs,hdk,fun o=>?_⟩
   have dH:H d=none:=s1.free hd
   have s4:Zag H (upd H2 d (.frz o (.dK kvs))):=fun b u e=>by rw [Zac (nNo e dH)];exact s3 _ _ e
   have bk:Zhp (upd H2 d (.frz o (.dK kvs))) d o rows kvs:=⟨uS,hU.mono fun b xs e=>by rw [Zac (fun z=>by rw [z,hdk] at e;cases e)];exact e⟩
   refine ⟨_,rfl,d,o,rows,kvs,rfl,bk,g,fun H5 s5=>?_⟩
   refine ⟨_,rfl,d,o,rows,kvs,rfl,bk.mono s5,g,fun H6 s6=>?_⟩
   refine ⟨_,rfl,_,rfl,Zbz ?_⟩
   have s56:=s5.trans s6
   have bk6:=bk.mono s56
   have s7:Zag H H6:=s4.trans s56
   intro aa haa
   have s8:Zag H (upd H6 aa (.dK [])):=fun b u e=>by rw [Zac (nNo (s7 _ _ e) haa)];exact s7 _ _ e
   have s68:Zag H6 (upd H6 aa (.dK [])):=fun b u e=>by rw [Zac (nNo e haa)];exact e
   refine ⟨_,rfl,d,o,kvs,rfl,(bk6.mono s68).at_,Za1 Zsv (fun i σ H'=>∃ (avs:List (Key×V)) (a b c:Option V),σ=[some (.ref p),some (.ref l),some (.ref d),a,b,c,some (.ref aa)]∧Zag H H'∧Zhp H' d o rows kvs∧H' aa=some (.dK avs)∧Zf6 H' rows (rows.take i) avs)
    ⟨[],_,_,_,rfl,s8,bk6.mono s68,uS,by rw [List.take_zero];exact .nil⟩ (fun i σ H' _ ⟨_,_,_,_,_,_,b,_⟩=>b.at_) ?_ ?_⟩
   ·rintro i v σ H' hi ⟨avs,a,b,c,rfl,s9,bk9,haa9,hA⟩
    rw [List.getElem?_map] at hi
    obtain ⟨pr,hpr',e⟩:=Option.map_eq_some_iff.mp hi
    obtain ⟨r,hr',hk,_⟩:=Zar bk9.ups hpr'
    have hmem:r∈rows:=List.mem_of_getElem? hr'
    have ev:v=.str r.1:=by rw [← e,hk];rfl
    subst ev
    have aaH:H aa=none:=s7.free haa
    refine ⟨_,rfl,_,rfl,d,o,rows,kvs,r.1,rfl,bk9,g,List.mem_map.mpr ⟨r,hmem,rfl⟩,fun x o' fk H10 hx s10 hxk hreach=>?_⟩
    have hnew:(Sum.inr r.1:Key)∉avs.map (·.1):=by rw [hA.keys];exact Zeb g.nd hr'
    have hil:(rows.take i).length≤24:=by rw [List.length_take];have:=g.le;omega
    have hkl:avs.length=(rows.take i).length:=(Paired.length hA).symm
    have aa10:=s10 _ _ haa9
    refine ⟨_,rfl,_,rfl,aa,_,rfl,Zkw.k (k:=Sum.inr r.1) aa10 (Za7 (by omega)),?_⟩
    have kp:∀ b u,b≠aa→H10 b=some u→(upd H10 aa (.dK (Zfn avs (Sum.inr r.1) (.ref x)))) b=some u:=fun b u hb e=>by rw [Zac hb];exact e
    refine ⟨_,_,_,_,rfl,fun b u e=>kp b u (nNo e aaH) (s10 _ _ (s9 _ _ e)),⟨kp _ _ (fun z=>?_) (s10 _ _ bk9.at_),(bk9.ups.mono fun b xs e=>s10 _ _ e).mono fun b xs e=>kp _ _ (fun z=>by rw [z,aa10] at e;cases e) e⟩,uS,?_⟩
    ·have:=bk9.at_
     rw [z,haa9] at this
     cases this
    ·rw [Zff _ (Zbl hnew),List.take_add_one,hr']
     have fz:∀ b o'' fk',H10 b=some (.frz o'' (.dK fk'))→(upd H10 aa (.dK (avs++[(Sum.inr r.1,V.ref x)]))) b=some (.frz o'' (.dK fk')):=fun b o'' fk' e=>by rw [Zac (fun z=>by rw [z,aa10] at e;cases e)];exact e
     exact Paired.snoc ((hA.mono fun b o'' fk' e=>s10 _ _ e).mono fz) ⟨rfl,x,o',fk,rfl,fz _ _ _ hxk,hreach⟩
   ·rintro σ H' ⟨avs,a,b,c,rfl,s9,bk9,haa9,hA⟩
    have hkv:kvs.length=rows.length:=(Paired.length bk9.ups).symm
    rw [List.length_map,hkv,List.take_length] at hA
    have aaH:H aa=none:=s7.free haa
    refine ⟨aa,avs,haa9,fun oa=>?_⟩
    have hp9:H' p=some (.ins C dx []):=s9 _ _ hp
    have pa:p≠aa:=nNo hp aaH
    have pd:p≠d:=nNo hp dH
    have da:d≠aa:=fun z=>by have:=bk9.at_;rw [z,haa9] at this;cases this
    refine ⟨_,rfl,_,rfl,p,C,dx,[],rfl,(by rw [Zac pa];exact hp9),TC.cl,TC.nU,(by show 0<1000;decide),_,rfl,_,rfl,p,C,dx,_,rfl,uS,TC.cl,TC.nA,(by show 1<1000;decide),?_⟩
    rw [Zky]
    have kp:∀ b u,b≠p→b≠aa→H' b=some u→(upd (upd H' aa (.frz oa (.dK avs))) p (.ins C dx (Zou d aa))) b=some u:=fun b u h1 h2 e=>by rw [Zac h1,Zac h2];exact e
    refine q _ ⟨dx,d,aa,o,oa,kvs,avs,uS,⟨kp _ _ (Ne.symm pd) da bk9.at_,bk9.ups.mono fun b xs e=>kp _ _ (fun z=>by rw [z,hp9] at e;cases e) (fun z=>by rw [z,haa9] at e;cases e) e⟩,by rw [Zac (Ne.symm pa)];exact uS,hA.mono fun b o'' fk' e=>kp _ _ (fun z=>by rw [z,hp9] at e;cases e) (fun z=>by rw [z,haa9] at e;cases e) e⟩ fun b u hb e=>kp _ _ hb (nNo e aaH) (s9 _ _ e)
theorem Z5z:Zak ["self","word"] ["self","word"] (Zad Zfe):=⟨rfl,rfl,rfl,by decide +kernel,rfl,by decide +kernel,by decide +kernel⟩
theorem Ztg {f C:Addr}{fd:FuncData}(F:Fun K "has" "Kinds.has" Zfe f fd) (TC:Zio K C):Zaq P w K mg base CX0 1 f fd ["self","word"] (Zvd C):=by
 refine F.ok Z5z (fun vs H Q E h=>?_) (fun cdv A outer s H vs Q E hr h=>?_)
 ·obtain ⟨p,rows,x,rfl,_⟩:=h
  rfl
 ·obtain ⟨p,rows,x,rfl,⟨dx,d,a,o,oa,kvs,avs,h1,h2,h3,h4⟩,g,q⟩:=h
  have hu:=Zgn hr
  refine ⟨_,Zab (Zam (Zxh (Zh6 hu (pv 1) (Zds (pv 0) rfl)))),?_⟩
  refine ⟨_,rfl,_,rfl,p,C,dx,_,_,rfl,h1,TC.cl,TC.nU,Zqg _ _,d,_,rfl,Zf5.f (k:=Sum.inr x) h2.at_,?_⟩
  have e:(Zga kvs (Sum.inr x:Key)).isSome=decide (x∈rows.map (·.1)):=by
   have hk:(Sum.inr x:Key)∈kvs.map (·.1)↔x∈rows.map (·.1):=by
    rw [h2.ups.keys]
    constructor
    ·intro m
     obtain ⟨r,hr',e⟩:=List.mem_map.mp m
     exact List.mem_map.mpr ⟨r,hr',by injection e⟩
    ·intro m
     obtain ⟨r,hr',e⟩:=List.mem_map.mp m
     exact List.mem_map.mpr ⟨r,hr',by rw [e]⟩
   by_cases z:x∈rows.map (·.1)
   ·rw [Zgo (hk.mpr z),decide_eq_true z]
   ·rw [Zbl fun k=>z (hk.mp k),decide_eq_false z]
    rfl
  rw [e]
  exact q
abbrev Zrw (K:W.Frag) (C fH:Addr) (fdH:FuncData):Prop:=Zn6 K C "has" "Kinds.has" Zfe ["self","word"] fH fdH
theorem Z4c:Zak ["self","word"] ["self","word"] (Zad Zcj):=⟨rfl,rfl,rfl,by decide +kernel,rfl,by decide +kernel,by decide +kernel⟩
theorem Ztp (d a:Addr):(Zou d a).lookup ("has":Str)=none:=Zgy d a (by decide +kernel) (by decide +kernel)
theorem Zp0 {f C fH:Addr}{fd fdH:FuncData}(F:Fun K "check" "Kinds.check" Zcj f fd) (TC:Zio K C) (MH:Zrw K C fH fdH):Zaq P w K mg base CX0 2 f fd ["self","word"] (Zob C):=by
 have GH:Zaq P w K mg base CX0 1 fH fdH ["self","word"] (Zvd C):=Ztg MH.fn TC
 refine F.ok Z4c (fun vs H Q E h=>?_) (fun cdv A outer s H vs Q E hr h=>?_)
 ·obtain ⟨p,rows,x,rfl,_⟩:=h
  rfl
 ·obtain ⟨p,rows,x,rfl,kd,g,hx,q⟩:=h
  obtain ⟨dx,d,a,o,oa,kvs,avs,h1,h2,h3,h4⟩:=kd.ex
  refine ⟨_,Zab (Zau (Zb4 (Zce (Zcn (pv 0) TC.cl MH.me GH hr MH.b .nil Zhh (pC (pv 1) Zaa)))) Zbe Zah),?_⟩
  refine ⟨_,rfl,p,dx,_,rfl,h1,Ztp _ _,_,rfl,p,rows,x,rfl,kd,g,_,rfl,?_⟩
  rw [decide_eq_true hx]
  exact Zbz q
theorem Z5o:Zak ["self"] ["self"] (Zad Zd1):=⟨rfl,rfl,rfl,by decide +kernel,rfl,by decide +kernel,by decide +kernel⟩
theorem Zkk {f C:Addr}{fd:FuncData}(F:Fun K "words" "Kinds.words" Zd1 f fd) (TC:Zio K C) (list:mg "list"=none):Zaq P w K mg base CX0 1 f fd ["self"] (Zit C):=by
 refine F.ok Z5o (fun vs H Q E h=>?_) (fun cdv A outer s H vs Q E hr h=>?_)
 ·obtain ⟨p,rows,rfl,_⟩:=h
  rfl
 ·obtain ⟨p,rows,rfl,⟨dx,d,a,o,oa,kvs,avs,h1,h2,h3,h4⟩,g,q⟩:=h
  refine ⟨_,Zab (Zam (Zbo (Ze4 rfl) (by rfl) list PyProof.Rows.boot_list (pC (Zds (pv 0) rfl) Zaa))),?_⟩
  refine ⟨_,rfl,p,C,dx,_,_,rfl,h1,TC.cl,TC.nU,Zqg _ _,d,kvs,rfl,.inr ⟨o,h2.at_⟩,fun l hl=>?_⟩
  rw [Zy7 h2.ups]
  exact q l hl
theorem Zgg (d a:Addr):(Zou d a).lookup ("check":Str)=none:=Zgy d a (by decide +kernel) (by decide +kernel)
theorem Z5q:Zak ["self","one","other"] ["self","one","other"] (Zad Zd2):=⟨rfl,rfl,rfl,by decide +kernel,rfl,by decide +kernel,by decide +kernel⟩
theorem Zpx {f C fC fH:Addr}{fd fdC fdH:FuncData}(F:Fun K "under" "Kinds.under" Zd2 f fd) (TC:Zio K C) (MC:Zn6 K C "check" "Kinds.check" Zcj ["self","word"] fC fdC) (MH:Zrw K C fH fdH):Zaq P w K mg base CX0 3 f fd ["self","one","other"] (Zoa C):=by
 have GC:Zaq P w K mg base CX0 2 fC fdC ["self","word"] (Zob C):=Zp0 MC.fn TC MH
 refine F.ok Z5q (fun vs H Q E h=>?_) (fun cdv A outer s H vs Q E hr h=>?_)
 ·obtain ⟨p,rows,x,y,rfl,_⟩:=h
  rfl
 ·obtain ⟨p,rows,x,y,rfl,kd,g,hx,hy,q⟩:=h
  obtain ⟨dx,d,a,o,oa,kvs,avs,h1,h2,h3,h4⟩:=kd.ex
  have hu:=Zgn hr
  refine ⟨_,pS (Za3 (Zcn (pv 0) TC.cl MC.me GC hr MC.b .nil Zhh (pC (pv 1) Zaa)))
   (pS (Za3 (Zcn (pv 0) TC.cl MC.me GC hr MC.b .nil Zhh (pC (pv 2) Zaa)))
   (Zab (Zam (Zxh (Zh6 hu (pv 2) (Zgu hu (Zds (pv 0) rfl) (pv 1) (fun _ _=>rfl))))))),?_⟩
  obtain ⟨r,hr',er⟩:=Zct hx
  obtain ⟨t,o',fk,hv,ht,hreach⟩:=h4.val g.nd hr'
  refine ⟨_,rfl,p,dx,_,rfl,h1,Zgg _ _,_,rfl,p,rows,x,rfl,kd,g,hx,?_⟩
  refine ⟨_,rfl,p,dx,_,rfl,h1,Zgg _ _,_,rfl,p,rows,y,rfl,kd,g,hy,?_⟩
  refine ⟨_,rfl,_,rfl,p,C,dx,_,_,rfl,h1,TC.cl,TC.nA,Z1p _ _,_,rfl,a,_,rfl,(by rw [← hv,er];exact Zf5.f (k:=Sum.inr x) h3),t,_,rfl,Zf5.f (k:=Sum.inr y) ht,?_⟩
  have e:(Zga fk (Sum.inr y:Key)).isSome=Zc6 rows x y:=by
   have hh:=hreach y
   rw [er] at hh
   unfold Zc6
   by_cases z:Graph.Reach (Zat rows) x y
   ·rw [Zgo (hh.mpr z)]
    exact (@decide_eq_true _ (Classical.propDecidable _) z).symm
   ·rw [Zbl fun k=>z (hh.mp k)]
    exact (@decide_eq_false _ (Classical.propDecidable _) z).symm
  rw [e]
  exact q
end
end K54
namespace K54
open PySem L2 Md
theorem Zp4 (d a:Addr):(Zou d a).lookup ("under":Str)=none:=Zgy d a (by decide +kernel) (by decide +kernel)
section
variable {P:Program} {w:World} {K:W.Frag} {mg:Str→Option Value} {base:Heap}
abbrev Zqp (K:W.Frag) (C fC:Addr) (fdC:FuncData):Prop:=Zn6 K C "check" "Kinds.check" Zcj ["self","word"] fC fdC
abbrev Zuw (K:W.Frag) (C fU:Addr) (fdU:FuncData):Prop:=Zn6 K C "under" "Kinds.under" Zd2 ["self","one","other"] fU fdU
end
end K54
namespace K54
open PySem L2 Md
def Zpe (C:Addr):Sp:=fun vs H Q _=>∃ (p:Addr) (rows:List (Str×List Str)),vs=[.ref p]∧Za4 C H p rows∧Zb0 rows∧∀ l H',H l=none→Zag H H'→Zdw H' l rows→Q (.ref l) H'
def Zan (rows:List (Str×List Str)) (x y:Str):List (Str×List Str):=rows.map fun r=>if r.1=x then (r.1,r.2++[y]) else r
theorem Zwb (d a:Addr):(Zou d a).lookup ("rows":Str)=none:=Zgy d a (by decide +kernel) (by decide +kernel)
theorem Zwc (d a:Addr):(Zou d a).lookup ("more":Str)=none:=Zgy d a (by decide +kernel) (by decide +kernel)
theorem Zwa (d a:Addr):(Zou d a).lookup ("tied":Str)=none:=Zgy d a (by decide +kernel) (by decide +kernel)
theorem Zk9 {H:Hp}{l:Addr}{o:HO}(hl:H l=none):Zag H (upd H l o):=fun b o' e=>by rw [Zac (nNo e hl)];exact e
theorem Z3f (a b:Str):decide (V.str a=V.str b)=decide (a=b):=decide_eq_decide.mpr ⟨fun z=>by injection z,fun z=>by rw [z]⟩
section
variable {P:Program} {w:World} {K:W.Frag} {mg:Str→Option Value} {base:Heap}
theorem Z5t:Zak ["self"] ["self"] (Zad Zer):=⟨rfl,rfl,rfl,by decide +kernel,rfl,by decide +kernel,by decide +kernel⟩
theorem Ztd {f C:Addr}{fd:FuncData}(F:Fun K "rows" "Kinds.rows" Zer f fd) (TC:Zio K C) (list:mg "list"=none):Zaq P w K mg base CX0 1 f fd ["self"] (Zpe C):=by
 refine F.ok Z5t (fun vs H Q E h=>?_) (fun cdv A outer s H vs Q E hr h=>?_)
 ·obtain ⟨p,rows,rfl,_⟩:=h
  rfl
 ·obtain ⟨p,rows,rfl,⟨dx,d,a,o,oa,kvs,avs,h1,h2,h3,h4⟩,g,q⟩:=h
  refine ⟨_,Zab (Zam (Zmy rfl (Zds (pv 0) rfl) (by rfl) list)),?_⟩
  refine ⟨_,rfl,p,C,dx,_,_,rfl,h1,TC.cl,TC.nU,Zqg _ _,d,kvs,rfl,.inr ⟨o,h2.at_⟩,fun l H' vs hl s1 hlv hp=>?_⟩
  refine q l H' hl s1 ⟨vs,hlv,Zhv ?_ fun i r v hr' hv=>?_⟩
  ·rw [← hp.length];exact Paired.length h2.ups
  ·obtain ⟨kv,hk,t,e,ht⟩:=Zar hp hv
   obtain ⟨r2,hr2,e1,t2,e2,ht2⟩:=Zar h2.ups hk
   rw [hr'] at hr2
   cases hr2
   refine ⟨t,t2,e,?_,s1 _ _ ht2⟩
   rw [ht,e1,e2]
   rfl
abbrev nMo:List Str:=["self","word","ups","rows"]
theorem Z33:Zak nMo ["self","word","ups"] (Zad Zes):=⟨rfl,rfl,rfl,by decide +kernel,rfl,by decide +kernel,by decide +kernel⟩
abbrev nTi:List Str:=["self","one","other","rows","word","ups"]
theorem Z2k:Zak nTi ["self","one","other"] (Zad Zdq):=⟨rfl,rfl,rfl,by decide +kernel,rfl,by decide +kernel,by decide +kernel⟩
end
end K54
namespace K54
open PySem L2 Md
structure Zzu (K:W.Frag) (mg:Str→Option Value) (x:Str) (C:Addr):Prop where
 m:mg x=some (.ref C)
 ex:ExC K C
 ini:W.findIn K (.ref C) "__init__"=some (some (.builtin "ValueError.__init__"))
structure Zu0 (P:Program) (w:World) (K:W.Frag) (mg:Str→Option Value) (base:Heap) (x:Str) (C:Addr) (a:Str) (sp:Sp) (f:Addr) (fd:FuncData):Prop where
 m:mg x=some (.ref C)
 ex:ExC K C
 ini:W.findIn K (.ref C) "__init__"=some (some (.ref f))
 ty:W.typeIn K (.ref f)=some (.type "function")
 b:Zc9 K fd ["self",a] []
 go:Zaq P w K mg base CX0 1 f fd ["self",a] sp
def okS:V→Hp→Prop:=fun v _=>∃ x:Str,v=.str x∧Zda x
theorem Zdv {x:Str}(h:Za2 x=true):Zda x:=by
 unfold Za2 at h
 rw [Bool.and_eq_true,List.all_eq_true] at h
 have l:=of_decide_eq_true h.1
 refine ⟨by omega,fun c hc=>?_⟩
 have:=h.2 c hc
 unfold Zji at this
 simp only [Bool.and_eq_true,decide_eq_true_eq] at this
 have e:(16:Nat) ^ 8=4294967296:=by decide
 omega
inductive Zkv
 | many
 | noK (w:Str)
 | twice (w:Str)
 | ring
def Zuy (rows:List (Str×List Str)) (ys:List Str):Prop:=ys≠[]∧ys.Nodup∧(∀ y∈ys,y∈rows.map (·.1))∧(∀ (i:Nat) (a b:Str),ys[i]?=some a→ys[i + 1]?=some b→b∈Zat rows a)∧∀ a b,ys.getLast?=some a→ys.head?=some b→b∈Zat rows a
def Cyc (rows:List (Str×List Str)):Prop:=∃ x∈rows.map (·.1),∃ u∈Zat rows x,Graph.Reach (Zat rows) u x
structure Zie (rows:List (Str×List Str)):Prop where
 ne:1≤rows.length
 le:rows.length≤24
 word:∀ r∈rows,Za2 r.1=true
 nd:(rows.map (·.1)).Nodup
 few:∀ r∈rows,r.2.length≤8
structure Zl6 (rows:List (Str×List Str)):Prop where
 known:∀ r∈rows,∀ u∈r.2,u∈rows.map (·.1)
 upnd:∀ r∈rows,r.2.Nodup
structure Z4x (rows:List (Str×List Str)) (k:Nat) (e:Zkv):Prop where
 ex:∃ r,rows[k]?=some r∧((Za2 r.1=false∧e=.noK r.1)∨(Za2 r.1=true∧r.1∈(rows.take k).map (·.1)∧e=.twice r.1)∨(Za2 r.1=true∧r.1∉(rows.take k).map (·.1)∧8<r.2.length∧e=.many))
 ahead:∀ r∈rows.take k,Za2 r.1=true∧r.2.length≤8
 nd:((rows.take k).map (·.1)).Nodup
inductive Zzr (rows:List (Str×List Str)):Option Zkv→Prop
 | size (h:¬ (1≤rows.length∧rows.length≤24)):Zzr rows (some .many)
 | bad {e:Zkv} (k:Nat) (h1:1≤rows.length) (h2:rows.length≤24) (h:Z4x rows k e):Zzr rows (some e)
 | fine (f:Zie rows):Zzr rows none
structure Z4v (rows:List (Str×List Str)) (k j:Nat) (e:Zkv):Prop where
 ex:∃ r u,rows[k]?=some r∧r.2[j]?=some u∧(∀ v∈r.2.take j,v∈rows.map (·.1))∧(r.2.take j).Nodup∧((u∉rows.map (·.1)∧e=.noK u)∨(u∈rows.map (·.1)∧u∈r.2.take j∧e=.twice u))
 ahead:∀ r∈rows.take k,(∀ v∈r.2,v∈rows.map (·.1))∧r.2.Nodup
inductive Zzy (rows:List (Str×List Str)):Option Zkv→Prop
 | bad {e:Zkv} (k j:Nat) (h:Z4v rows k j e):Zzy rows (some e)
 | fine (f:Zl6 rows):Zzy rows none
inductive Zg1 (rows:List (Str×List Str)):Option Zkv→Prop
 | rows {e:Zkv} (h:Zzr rows (some e)):Zg1 rows (some e)
 | ups {e:Zkv} (f:Zie rows) (h:Zzy rows (some e)):Zg1 rows (some e)
 | ring (f:Zie rows) (u:Zl6 rows) (c:Cyc rows):Zg1 rows (some .ring)
 | good (g:Zb0 rows):Zg1 rows none
structure Zru (Ds:Nat→Addr) (rows:List (Str×List Str)) (E:XK) (H:Hp) (e:Zkv):Prop where
 many:e=.many→∀ H',Zag H H'→E (.ref (Ds 7)) none H'
 noK:∀ w,e=.noK w→∀ dx H',Zag H H'→H' dx=some (.xd [("word",.str w)])→E (.ref (Ds 0)) (some dx) H'
 twice:∀ w,e=.twice w→∀ dx H',Zag H H'→H' dx=some (.xd [("word",.str w)])→E (.ref (Ds 1)) (some dx) H'
 ring:e=.ring→∀ dx l ys H',Zag H H'→H' dx=some (.xd [("ring",.ref l)])→H l=none→H' l=some (.lst (ys.map V.str))→Zuy rows ys→E (.ref (Ds 3)) (some dx) H'
theorem Zru.mono {Ds:Nat→Addr}{rows:List (Str×List Str)}{E:XK}{H H':Hp}{e:Zkv}(r:Zru Ds rows E H e) (s:Zag H H'):Zru Ds rows E H' e :=
 ⟨fun z H'' s'=>r.many z H'' (s.trans s'),fun w z dx H'' s' h=>r.noK w z dx H'' (s.trans s') h,fun w z dx H'' s' h=>r.twice w z dx H'' (s.trans s') h,fun z dx l ys H'' s' h1 h2 h3 h4=>r.ring z dx l ys H'' (s.trans s') h1 (s.free h2) h3 h4⟩
theorem Z4p {kvs:List (Key×V)}{k:Key}(h:k∈kvs.map (·.1)):∃ v,Zga kvs k=some v:=by
 cases e:Zga kvs k with
 | none=>exact absurd h (Zo8 e)
 | some v=>exact ⟨v,rfl⟩
theorem Zmn {H:Hp}{l:Addr}{o:HO}(hl:H l=none):Zag H (upd H l o):=fun b o' e=>by rw [Zac (nNo e hl)];exact e
def Zh4 (K:W.Frag) (Ds:Nat→Addr):Sp:=fun vs H Q E=>∃ (l:Addr) (rows:List (Str×List Str)) (r:Option Zkv),vs=[.ref l]∧Zjv K H l rows∧(∀ q∈rows,Zda q.1)∧Zzr rows r∧(r=none→∀ H',Zag H H'→Q .non H')∧∀ e,r=some e→Zru Ds rows E H e
def Ziv (Ds:Nat→Addr):Sp:=fun vs H Q E=>∃ (d:Addr) (o:Obj) (rows:List (Str×List Str)) (kvs:List (Key×V)) (r:Option Zkv),vs=[.ref d]∧Zhp H d o rows kvs∧Zie rows∧(∀ q∈rows,∀ u∈q.2,Zda u)∧Zzy rows r∧(r=none→∀ H',Zag H H'→Q .non H')∧∀ e,r=some e→Zru Ds rows E H e
section
variable {P:Program} {w:World} {K:W.Frag} {mg:Str→Option Value} {base:Heap}
theorem Z5m:Zak ["self","word"] ["self","word"] (Zad Zdf):=⟨rfl,rfl,rfl,by decide +kernel,rfl,by decide +kernel,by decide +kernel⟩
theorem Z0y {f C D:Addr}{fd:FuncData}(F:Fun K "__init__" "NoKind.__init__" Zdf f fd) (I:ExI K C D "word") (dd:DIn K D) (mD:mg "DeedError"=some (.ref D)):Zaq P w K mg base CX0 1 f fd ["self","word"] (Zn5 C "word" okS):=by
 refine F.ok Z5m (fun vs H Q E h=>?_) (fun cdv A outer s H vs Q E hr h=>?_)
 ·obtain ⟨x,y,rfl,_⟩:=h
  rfl
 ·obtain ⟨x,y,rfl,⟨z,rfl,hz⟩,hx,q⟩:=h
  refine ⟨_,pS (Za3 (Zhg dd (by rfl) mD (pC (pv 0) (pC (Ze2 (Zax (Zs7 (pv 1)) (Zax Zdr Ze1))) Zaa)))) (Zab (Zi3 (D:=D) (pv 0) (pv 1))),?_⟩
  refine ⟨_,rfl,_,rfl,z,rfl,by have:=hz.1;omega,hz.2,by decide +kernel,fun t=>⟨x,C,[.str t],rfl,by show 1≤100;decide,I.toExA.toExC,hx,?_⟩⟩
  exact ⟨_,rfl,_,rfl,x,C,rfl,hx,I,fun dx hdx=>q dx hdx⟩
theorem Z5k:Zak ["self","word"] ["self","word"] (Zad Zdx):=⟨rfl,rfl,rfl,by decide +kernel,rfl,by decide +kernel,by decide +kernel⟩
theorem Z0v {f C D:Addr}{fd:FuncData}(F:Fun K "__init__" "Twice.__init__" Zdx f fd) (I:ExI K C D "word") (dd:DIn K D) (mD:mg "DeedError"=some (.ref D)):Zaq P w K mg base CX0 1 f fd ["self","word"] (Zn5 C "word" okS):=by
 refine F.ok Z5k (fun vs H Q E h=>?_) (fun cdv A outer s H vs Q E hr h=>?_)
 ·obtain ⟨x,y,rfl,_⟩:=h
  rfl
 ·obtain ⟨x,y,rfl,⟨z,rfl,hz⟩,hx,q⟩:=h
  refine ⟨_,pS (Za3 (Zhg dd (by rfl) mD (pC (pv 0) (pC (Ze2 (Zax (Zs7 (pv 1)) (Zax Zdr Ze1))) Zaa)))) (Zab (Zi3 (D:=D) (pv 0) (pv 1))),?_⟩
  refine ⟨_,rfl,_,rfl,z,rfl,by have:=hz.1;omega,hz.2,by decide +kernel,fun t=>⟨x,C,[.str t],rfl,by show 1≤100;decide,I.toExA.toExC,hx,?_⟩⟩
  exact ⟨_,rfl,_,rfl,x,C,rfl,hx,I,fun dx hdx=>q dx hdx⟩
theorem Z5l:Zak ["self","ring"] ["self","ring"] (Zad Zee):=⟨rfl,rfl,rfl,by decide +kernel,rfl,by decide +kernel,by decide +kernel⟩
theorem Z0x {f C D:Addr}{fd:FuncData}(F:Fun K "__init__" "Ring.__init__" Zee f fd) (list:mg "list"=none) (I:ExI K C D "ring") (dd:DIn K D) (mD:mg "DeedError"=some (.ref D)):Zaq P w K mg base CX0 1 f fd ["self","ring"] (Z0d C "ring"):=by
 refine F.ok Z5l (fun vs H Q E h=>?_) (fun cdv A outer s H vs Q E hr h=>?_)
 ·obtain ⟨x,r,ys,rfl,_⟩:=h
  rfl
 ·obtain ⟨x,r,ys,rfl,hr0,hl,hs,hx,q⟩:=h
  refine ⟨_,pS (Za3 (Zhg dd (by rfl) mD (pC (pv 0) (pC (Ze2 (Zax Zdr (Zax (Zyk hr (pv 1)) Ze1))) Zaa)))) (Zab (Zi3 (D:=D) (pv 0) (Zbo Zh9 (by rfl) list PyProof.Rows.boot_list (pC (pv 1) Zaa)))),?_⟩
  refine ⟨_,rfl,by decide +kernel,_,rfl,r,ys,rfl,.inr (SqL.of hr0),hl,hs,fun t=>⟨x,C,[.str t],rfl,by show 1≤100;decide,I.toExA.toExC,hx,?_⟩⟩
  refine ⟨_,rfl,r,_,rfl,.inl (SqL.of hr0),fun l hl'=>⟨_,rfl,x,C,rfl,?_,I,fun dx hdx=>q l dx hl' hdx⟩⟩
  rw [Zac (nNo hx hl')]
  exact hx
theorem Zjx {f fW f0 f1:Addr}{Ds:Nat→Addr}{fd fdW fd0 fd1:FuncData}(F:Def K mg "check_rows" Zcy ["rows"] f fd) (DW:Def K mg "is_word" Zdn ["text"] fW fdW) (T:Zu3 mg) (E0:Zu0 P w K mg base "NoKind" (Ds 0) "word" (Zn5 (Ds 0) "word" okS) f0 fd0) (E1:Zu0 P w K mg base "Twice" (Ds 1) "word" (Zn5 (Ds 1) "word" okS) f1 fd1) (T7:Zzu K mg "TooMany" (Ds 7)):Zaq P w K mg base (CX1 P w) 3 f fd ["rows"] (Zh4 K Ds):=by
 have GW:Zaq P w K mg base (CX1 P w) 1 fW fdW ["text"] Zg4:=(Zm3 DW T).any
 refine F.fn.ok1 Z1z (fun vs H Q E h=>?_) (fun cdv A outer s H vs Q E hr h=>?_)
 ·obtain ⟨l,rows,r,rfl,_⟩:=h
  rfl
 ·obtain ⟨l,rows,r,rfl,⟨b,vs,hl,hp⟩,sh,due,q,re⟩:=h
  obtain ⟨t1,hK⟩:=T.kinds
  obtain ⟨t2,hU⟩:=T.ups
  have nd:=Z1z.nd
  have hu:=Zgn hr
  have hr1:Zb6 1 _:=hr.mono (by decide)
  refine' ⟨_,pS (Zau (Zb4 (Zhc Zid Zid Zae (Zaj Zca (by rfl) T.len PySem.boot_len (pC (pv 0) Zaa)) (Za0 (v:=.int 24) (by rfl) hK ⟨_,rfl⟩))) (Zab (Zhd (C:=Ds 7) Fns.of hr.hd T7.ex T7.ini (by rfl) T7.m (pC (Ze2 ?fs1) Zaa))) Zah)
   (pS (Zal (i:=1) nd rfl (Or.inl rfl) Zd8)
   (Zab (Zbn PassesOwn.leaving rfl (Zpu (pv 0)) (Zfl rfl (gC (Zai (i:=2) nd rfl (Or.inl rfl)) (gC (Zai (i:=3) nd rfl (Or.inl rfl)) Zdz)))
    (pS (Zau (Zb4 (Zce (Zdi GW hr1 (by rfl) DW.m DW.fn.kp DW.b .nil (Zcb Fns.of) (pC (pv 2) Zaa)))) (Zab (Zef (C:=Ds 0) Fns.of hr.hd E0.ex E0.ini E0.ty E0.go hr E0.b (by rfl) E0.m (pC (pv 2) Zaa))) Zah)
    (pS (Zau (Ze6 (Zh6 hu (pv 2) (pv 1))) (Zab (Zef (C:=Ds 1) Fns.of hr.hd E1.ex E1.ini E1.ty E1.go hr E1.b (by rfl) E1.m (pC (pv 2) Zaa))) Zah)
    (pS (Zau (Zap Zi9 (Zaj Zca (by rfl) T.len PySem.boot_len (pC (pv 3) Zaa)) (Za0 (v:=.int 8) (by rfl) hU ⟨_,rfl⟩) (Zaz _)) (Zab (Zhd (C:=Ds 7) Fns.of hr.hd T7.ex T7.ini (by rfl) T7.m (pC (Ze2 ?fs2) Zaa))) Zah)
    (Zab (Zdy hu (pv 1) (pv 2) Ze8 rfl)))))))),?_⟩
  case fs1=>exact Zax Zdr (Zax (Zi4 (Za0 (v:=.int 24) (by rfl) hK ⟨_,rfl⟩)) (Zax Zdr Ze1))
  case fs2=>exact Zax Zdr (Zax (Zi4 (Za0 (v:=.int 8) (by rfl) hU ⟨_,rfl⟩)) (Zax Zdr Ze1))
  have hvl:=hp.length
  refine ⟨_,rfl,_,_,rfl,Zgx hl,_,_,rfl,rfl,_,rfl,?_⟩
  by_cases g1:¬ 1≤rows.length
  ·rw [show decide ((1:Int)≤(vs.length:Int))=false from decide_eq_false (by omega)]
   have er:r=some .many:=by
    cases due with
    | size _=>rfl
    | bad k h1 _ _=>exact absurd h1 g1
    | fine f=>exact absurd f.ne g1
   exact Zbz ⟨_,rfl,Ze5 ⟨by decide +kernel,24,rfl,by decide,by decide +kernel,fun x=>⟨sL (by show 1≤100000;decide),(re _ er).many rfl H (Zag.refl _)⟩⟩⟩
  have g1:=Decidable.not_not.mp g1
  rw [show decide ((1:Int)≤(vs.length:Int))=true from decide_eq_true (by omega)]
  refine Ze5 ⟨_,_,rfl,rfl,_,rfl,?_⟩
  by_cases g2:¬ rows.length≤24
  ·rw [show (decide ((vs.length:Int)≤24))=false from decide_eq_false (by omega)]
   have er:r=some .many:=by
    cases due with
    | size _=>rfl
    | bad k _ h2 _=>exact absurd h2 g2
    | fine f=>exact absurd f.le g2
   exact Ze5 ⟨by decide +kernel,24,rfl,by decide,by decide +kernel,fun x=>⟨sL (by show 1≤100000;decide),(re _ er).many rfl H (Zag.refl _)⟩⟩
  have g2:=Decidable.not_not.mp g2
  rw [show (decide ((vs.length:Int)≤24))=true from decide_eq_true (by omega)]
  refine Zbz ?_
  obtain ⟨lim,l1,l2,l3⟩:∃ lim,(∀ q∈rows.take lim,Za2 q.1=true∧q.2.length≤8)∧((rows.take lim).map (·.1)).Nodup∧((r=none∧lim=rows.length)∨∃ e,r=some e∧Z4x rows lim e):=by
   cases due with
   | size h=>exact absurd ⟨g1,g2⟩ h
   | bad k _ _ h=>exact ⟨k,h.ahead,h.nd,.inr ⟨_,rfl,h⟩⟩
   | fine f=>exact ⟨rows.length,(by rw [List.take_length];exact fun q hq=>⟨f.word q hq,f.few q hq⟩),(by rw [List.take_length];exact f.nd),.inl ⟨rfl,rfl⟩⟩
  intro d hd
  have s0:Zag H (upd H d (.dK [])):=fun b o e=>by rw [Zac (nNo e hd)];exact e
  refine ⟨_,rfl,b,l,vs,rfl,hl.mono s0,Za1 Zij (fun i σ H'=>∃ (kvs:List (Key×V)) (a c:Option V),i≤lim∧σ=[some (.ref l),some (.ref d),a,c]∧Zag H H'∧H' d=some (.dK kvs)∧kvs.map (·.1)=(rows.take i).map fun r=>(Sum.inr r.1:Key))
   ⟨[],none,none,Nat.zero_le _,rfl,s0,uS,by simp⟩ (fun i σ H' _ ⟨_,_,_,_,_,s,_⟩=>hl.mono s) ?_ ?_⟩
  ·rintro i v σ H' hi ⟨kvs,a,c,il,rfl,s,hdk,hk⟩
   obtain ⟨q',hr',t,u,rfl,ht,hug⟩:=Zar hp hi
   obtain ⟨b',hu'⟩:=hug.sq
   have hmem:q'∈rows:=List.mem_of_getElem? hr'
   have hsh:=sh q' hmem
   have ilt:i<rows.length:=(List.getElem?_eq_some_iff.mp hr').1
   refine ⟨t,_,rfl,s.tup ht,rfl,_,_,rfl,_,_,rfl,rfl,?_⟩
   refine ⟨_,rfl,q'.1,rfl,by have:=hsh.1;omega,fun H2 s2=>⟨_,rfl,?_⟩⟩
   have s02:=s.trans s2
   have hd2:H2 d=some (.dK kvs):=s2 _ _ hdk
   have inK':(Sum.inr q'.1:Key)∈kvs.map (·.1)↔q'.1∈(rows.take i).map (·.1):=by
    rw [hk]
    constructor
    ·intro m
     obtain ⟨z,hz,e⟩:=List.mem_map.mp m
     have e:z.1=q'.1:=by injection e
     exact List.mem_map.mpr ⟨z,hz,e⟩
    ·intro m
     obtain ⟨z,hz,e⟩:=List.mem_map.mp m
     exact List.mem_map.mpr ⟨z,hz,by rw [e]⟩
   have okx:∀ x,H2 x=none→∀ o,okS (V.str q'.1) (upd H2 x o):=fun x _ o=>⟨q'.1,rfl,hsh⟩
   by_cases ie:i=lim
   ·rcases l3 with ⟨_,z⟩ | ⟨e,er,hb⟩
    ·omega
    obtain ⟨q2,hq2,hor⟩:=hb.ex
    rw [← ie,hr'] at hq2
    cases hq2
    rcases hor with ⟨h1,e1⟩ | ⟨h1,h2,e1⟩ | ⟨h1,h2,h3,e1⟩
    ·rw [h1]
     exact Ze5 ⟨_,rfl,_,rfl,fun x hx=>okx x hx _,fun dx hdx=>(re _ er).noK _ e1 dx _ (s02.trans (Zmn hdx)) uS⟩
    ·rw [h1]
     refine Zbz ⟨_,rfl,_,rfl,d,_,rfl,Zf5.k (k:=Sum.inr q'.1) hd2,_,rfl,?_⟩
     obtain ⟨v,hv⟩:=Z4p (inK'.mpr (by rw [ie];exact h2))
     rw [hv]
     exact Ze5 ⟨_,rfl,_,rfl,fun x hx=>okx x hx _,fun dx hdx=>(re _ er).twice _ e1 dx _ (s02.trans (Zmn hdx)) uS⟩
    ·rw [h1]
     refine Zbz ⟨_,rfl,_,rfl,d,_,rfl,Zf5.k (k:=Sum.inr q'.1) hd2,_,rfl,?_⟩
     rw [Zbl (fun z=>h2 (by rw [← ie];exact inK'.mp z))]
     refine Zbz ⟨_,rfl,_,_,rfl,Zgx (hu'.mono s02),_,_,rfl,rfl,_,rfl,?_⟩
     rw [show decide ((8:Int)<((q'.2.map V.str).length:Int))=true from decide_eq_true (by rw [List.length_map];omega)]
     exact Ze5 ⟨by decide +kernel,8,rfl,by decide,by decide +kernel,fun x=>⟨sL (by show 1≤100000;decide),(re _ er).many e1 H2 s02⟩⟩
   ·have ilt':i<lim:=by omega
    have hin:(rows.take lim)[i]?=some q':=by rw [List.getElem?_take,if_pos ilt'];exact hr'
    obtain ⟨hw,hf⟩:=l1 q' (List.mem_of_getElem? hin)
    rw [hw]
    refine Zbz ⟨_,rfl,_,rfl,d,_,rfl,Zf5.k (k:=Sum.inr q'.1) hd2,_,rfl,?_⟩
    have hnew:(Sum.inr q'.1:Key)∉kvs.map (·.1):=by
     rw [hk]
     have:=Zeb l2 hin
     rw [List.take_take,Nat.min_eq_left (Nat.le_of_lt ilt')] at this
     exact this
    rw [Zbl hnew]
    refine Zbz ?_
    refine ⟨_,rfl,_,_,rfl,Zgx (hu'.mono s02),_,_,rfl,rfl,_,rfl,?_⟩
    rw [show decide ((8:Int)<((q'.2.map V.str).length:Int))=false from decide_eq_false (by rw [List.length_map];omega)]
    refine Zbz ?_
    have hkl:kvs.length=(rows.take i).length:=by have:=congrArg List.length hk;simpa using this
    have hil:(rows.take i).length≤24:=by rw [List.length_take];omega
    refine ⟨_,rfl,_,rfl,d,_,rfl,Zkw.k (k:=Sum.inr q'.1) hd2 (Za7 (by omega)),?_⟩
    refine ⟨_,_,_,ilt',rfl,fun b o e=>?_,uS,?_⟩
    ·rw [Zac (nNo e hd)];exact s02 _ _ e
    ·rw [Zfu hnew,hk,List.take_add_one,hr',List.map_append]
     rfl
  ·rintro σ H' ⟨kvs,a,c,il,rfl,s,hdk,hk⟩
   rcases l3 with ⟨er,_⟩ | ⟨e,er,hb⟩
   ·exact q er H' s
   ·obtain ⟨q2,hq2,_⟩:=hb.ex
    have:=(List.getElem?_eq_some_iff.mp hq2).1
    omega
end
end K54
namespace K54
open PySem L2 Md
theorem Zqs {rows:List (Str×List Str)}(f:Zie rows) (u:Zl6 rows) {x y:Str}(hx:x∈rows.map (·.1)) (hy:y∈Zat rows x):y∈rows.map (·.1):=by
 obtain ⟨r,hr,rfl⟩:=Zct hx
 rw [Zbv f.nd hr] at hy
 exact u.known r hr y hy
def Zw4 (rows:List (Str×List Str)) (x y:Str):Prop:=Graph.Reach (Zat rows) x y∧Graph.Reach (Zat rows) y x
theorem Zwy {rows:List (Str×List Str)}{x u y:Str}(hu:u∈Zat rows x) (hr:Graph.Reach (Zat rows) u x) (h:Zw4 rows x y):∃ z∈Zat rows y,Zw4 rows x z:=by
 obtain ⟨h1,h2⟩:=h
 cases h2 with
 | refl=>exact ⟨u,hu,.one hu,hr⟩
 | step m t=>exact ⟨_,m,h1.snoc m,t⟩
theorem Zrm {us ls:List Str}(h:∃ u∈us,u∈ls):∃ x,Zfz us ls=.str x∧x∈us∧x∈ls:=by
 unfold Zfz
 cases e:us.find? fun x=>decide (x∈ls) with
 | none =>
  obtain ⟨u,h1,h2⟩:=h
  exact absurd (decide_eq_true h2) (List.find?_eq_none.mp e u h1)
 | some x=>exact ⟨x,rfl,List.mem_of_find?_eq_some e,of_decide_eq_true (List.find?_some (p:=fun x=>decide (x∈ls)) e)⟩
def Zu1 (rows:List (Str×List Str)) (W:List Str):Prop:=∀ (i:Nat) (a b:Str),W[i]?=some a→W[i + 1]?=some b→b∈Zat rows a
theorem Zrp {rows:List (Str×List Str)}{W:List Str}{h n:Str}(c:Zu1 rows (W++[h])) (hn:n∈Zat rows h):Zu1 rows (W++[h]++[n]):=by
 intro i a b ha hb
 by_cases z:i + 1<(W++[h]).length
 ·rw [List.getElem?_append_left z] at hb
  rw [List.getElem?_append_left (by omega)] at ha
  exact c i a b ha hb
 ·have l:=(List.getElem?_eq_some_iff.mp hb).1
  rw [List.length_append,List.length_singleton] at l
  have e:i + 1=(W++[h]).length:=by omega
  rw [e,List.getElem?_append_right (Nat.le_refl _),Nat.sub_self] at hb
  have hb:n=b:=by simpa using hb
  have el:(W++[h]).length=W.length + 1:=by rw [List.length_append];rfl
  have ei:i=W.length:=by omega
  rw [List.getElem?_append_left (by omega),ei,List.getElem?_append_right (Nat.le_refl _),Nat.sub_self] at ha
  have ha:h=a:=by simpa using ha
  rw [← hb,← ha]
  exact hn
theorem Zya {rows:List (Str×List Str)}{W:List Str}{h:Str}(c:Zu1 rows (W++[h])) (nd:W.Nodup) (kn:∀ y∈W,y∈rows.map (·.1)) (hm:h∈W):Zuy rows (W.drop (W.idxOf h)):=by
 have il:=List.idxOf_lt_length_of_mem hm
 have at_:W[W.idxOf h]?=some h:=by rw [List.getElem?_eq_getElem il,List.getElem_idxOf il]
 refine ⟨fun z=>?_,nd.sublist (List.drop_sublist _ _),fun y hy=>kn y (List.mem_of_mem_drop hy),fun i a b ha hb=>?_,fun a b ha hb=>?_⟩
 ·have:=congrArg List.length z
  rw [List.length_drop] at this
  simp at this
  omega
 ·rw [List.getElem?_drop] at ha hb
  have lb:=(List.getElem?_eq_some_iff.mp hb).1
  refine c (W.idxOf h + i) a b (by rw [List.getElem?_append_left (by omega)];exact ha) ?_
  rw [show W.idxOf h + i + 1=W.idxOf h + (i + 1) by omega,List.getElem?_append_left lb]
  exact hb
 ·rw [List.head?_drop,at_] at hb
  have hb:h=b:=by simpa using hb
  have la:W.getLast?=some a:=by
   rw [List.getLast?_drop] at ha
   split at ha
   ·cases ha
   ·exact ha
  rw [List.getLast?_eq_getElem?] at la
  have ll:=(List.getElem?_eq_some_iff.mp la).1
  refine c (W.length - 1) a b (by rw [List.getElem?_append_left ll];exact la) ?_
  rw [show W.length - 1 + 1=W.length by omega,List.getElem?_append_right (Nat.le_refl _),Nat.sub_self,← hb]
  rfl
theorem Zqj (xs:List V) (k:Nat) (h:k≤xs.length):Zqk xs (some (k:Int)) none=xs.drop k:=by
 unfold Zqk
 rw [HT.sIx_none,HT.sIx_nat,Nat.min_eq_left h]
 refine List.take_of_length_le ?_
 rw [List.length_drop]
 exact Nat.le_refl _
def Zka:Sp:=fun vs H Q _=>∃ (d:Addr) (o:Obj) (rows:List (Str×List Str)) (kvs:List (Key×V)),vs=[.ref d]∧Zhp H d o rows kvs∧Zie rows∧Zl6 rows∧Cyc rows ∧
 ∀ l ls H',Zag H H'→H' l=some (.lst (ls.map V.str))→ls≠[]→ls.length≤24→(∀ x∈ls,x∈rows.map (·.1))→(∀ x∈ls,∃ u∈Zat rows x,u∈ls)→Q (.ref l) H'
def Zsj:Sp:=fun vs H Q _=>∃ (d:Addr) (o:Obj) (rows:List (Str×List Str)) (kvs:List (Key×V)),vs=[.ref d]∧Zhp H d o rows kvs∧Zie rows∧Zl6 rows∧Cyc rows ∧
 ∀ l ys H',Zag H H'→H l=none→H' l=some (.lst (ys.map V.str))→ys.length≤24→Zuy rows ys→Q (.ref l) H'
def Zso (K:W.Frag) (Ds:Nat→Addr):Sp:=fun vs H _ E=>∃ (p l:Addr) (rows:List (Str×List Str)) (e:Zkv),vs=[.ref p,.ref l]∧Zjv K H l rows∧(∀ q∈rows,Zda q.1∧∀ u∈q.2,Zda u)∧Zg1 rows (some e)∧Zru Ds rows E H e
section
variable {P:Program} {w:World} {K:W.Frag} {mg:Str→Option Value} {base:Heap}
theorem Zlm {f f0 f1:Addr}{Ds:Nat→Addr}{fd fd0 fd1:FuncData}(F:Def K mg "check_ups" Zde ["ups_of"] f fd) (E0:Zu0 P w K mg base "NoKind" (Ds 0) "word" (Zn5 (Ds 0) "word" okS) f0 fd0) (E1:Zu0 P w K mg base "Twice" (Ds 1) "word" (Zn5 (Ds 1) "word" okS) f1 fd1):Zaq P w K mg base (CX1 P w) 3 f fd ["ups_of"] (Ziv Ds):=by
 refine F.fn.ok1 Z1y (fun vs H Q E h=>?_) (fun cdv A outer s H vs Q E hr h=>?_)
 ·obtain ⟨d,o,rows,kvs,r,rfl,_⟩:=h
  rfl
 ·obtain ⟨d,o,rows,kvs,r,rfl,bk,fi,sh,due,q,re⟩:=h
  have nd:=Z1y.nd
  have hu:=Zgn hr
  refine ⟨_,Zab (Zbn PassesOwn.leaving rfl (Zs5 (pv 0)) (Zai (i:=1) nd rfl (Or.inl rfl))
    (pS (Zal (i:=2) nd rfl (Or.inl rfl) Zd8)
    (Zab (Zbn PassesOwn.leaving rfl (Zhe (pv 1)) (Zai (i:=3) nd rfl (Or.inl rfl))
     (pS (Zau (Ze6 (Zi6 hu (pv 3) (pv 0))) (Zab (Zef (C:=Ds 0) Fns.of hr.hd E0.ex E0.ini E0.ty E0.go hr E0.b (by rfl) E0.m (pC (pv 3) Zaa))) Zah)
     (pS (Zau (Ze6 (Zh6 hu (pv 3) (pv 2))) (Zab (Zef (C:=Ds 1) Fns.of hr.hd E1.ex E1.ini E1.ty E1.go hr E1.b (by rfl) E1.m (pC (pv 3) Zaa))) Zah)
     (Zab (Zdy hu (pv 2) (pv 3) Ze8 rfl)))))))),?_⟩
  obtain ⟨lim,l1,l3⟩:∃ lim,(∀ q∈rows.take lim,(∀ v∈q.2,v∈rows.map (·.1))∧q.2.Nodup)∧((r=none∧lim=rows.length)∨∃ e j,r=some e∧Z4v rows lim j e):=by
   cases due with
   | bad k j h=>exact ⟨k,h.ahead,.inr ⟨_,j,rfl,h⟩⟩
   | fine f=>exact ⟨rows.length,(by rw [List.take_length];exact fun q hq=>⟨f.known q hq,f.upnd q hq⟩),.inl ⟨rfl,rfl⟩⟩
  have kl:kvs.length=rows.length:=(Paired.length bk.ups).symm
  refine ⟨_,rfl,d,o,kvs,rfl,bk.at_,Za1 Zmt (fun i σ H'=>∃ (a b c:Option V),i≤lim∧σ=[some (.ref d),a,b,c]∧Zag H H') ⟨none,none,none,Nat.zero_le _,rfl,Zag.refl H⟩ (fun i σ H' _ ⟨_,_,_,_,_,s⟩=>s _ _ bk.at_) ?_ ?_⟩
  ·rintro i v σ H' hi ⟨a,b,c,il,rfl,s⟩
   rw [List.getElem?_map] at hi
   obtain ⟨p,hp,e⟩:=Option.map_eq_some_iff.mp hi
   obtain ⟨q',hr',hk,t,ht,htup⟩:=Zar bk.ups hp
   have hmem:q'∈rows:=List.mem_of_getElem? hr'
   have ilt:i<rows.length:=(List.getElem?_eq_some_iff.mp hr').1
   subst e
   show Zh0 1 p.2 _ _ _
   rw [ht]
   obtain ⟨lj,j1,j2,j3⟩:∃ lj,(∀ v∈q'.2.take lj,v∈rows.map (·.1))∧(q'.2.take lj).Nodup∧((i<lim∧lj=q'.2.length)∨∃ e u,r=some e∧q'.2[lj]?=some u∧((u∉rows.map (·.1)∧e=.noK u)∨(u∈rows.map (·.1)∧u∈q'.2.take lj∧e=.twice u))):=by
    by_cases ie:i=lim
    ·rcases l3 with ⟨_,z⟩ | ⟨e,j,er,hb⟩
     ·omega
     obtain ⟨q2,u,hq2,hu2,h1,h2,h3⟩:=hb.ex
     rw [← ie,hr'] at hq2
     cases hq2
     exact ⟨j,h1,h2,.inr ⟨e,u,er,hu2,h3⟩⟩
    ·have hin:(rows.take lim)[i]?=some q':=by rw [List.getElem?_take,if_pos (by omega)];exact hr'
     obtain ⟨h1,h2⟩:=l1 q' (List.mem_of_getElem? hin)
     exact ⟨q'.2.length,(by rw [List.take_length];exact h1),(by rw [List.take_length];exact h2),.inl ⟨by omega,rfl⟩⟩
   intro sd hsd
   have s1:Zag H (upd H' sd (.dK [])):=fun b o e=>by rw [Zac (nNo (s _ _ e) hsd)];exact s _ _ e
   have t1:(upd H' sd (.dK [])) t=some (.tup (q'.2.map V.str)):=s1 _ _ htup
   have hsH:H sd=none:=s.free hsd
   refine ⟨_,rfl,t,rfl,⟨_,SqT.of t1⟩,Za1 (Zd6 (xs:=q'.2.map V.str)) (fun j σ H2=>∃ (kvs':List (Key×V)) (c:Option V),j≤lj∧σ=[some (.ref d),some (.ref t),some (.ref sd),c]∧Zag H H2∧H2 sd=some (.dK kvs')∧kvs'.map (·.1)=(q'.2.take j).map fun y=>(Sum.inr y:Key))
    ⟨[],_,Nat.zero_le _,rfl,s1,uS,by simp⟩ (fun j σ H2 _ ⟨_,_,_,_,s,_⟩=>SqT.of (s _ _ htup)) ?_ ?_⟩
   ·rintro j v σ H2 hj ⟨kvs',c,jl,rfl,s2,hsd2,hk'⟩
    obtain ⟨x,hx,rfl⟩:=Zis hj
    have xm:x∈q'.2:=List.mem_of_getElem? hx
    have hsx:=sh q' hmem x xm
    have jlt:j<q'.2.length:=(List.getElem?_eq_some_iff.mp hx).1
    have okx:∀ y,H2 y=none→∀ o,okS (V.str x) (upd H2 y o):=fun y _ o=>⟨x,rfl,hsx⟩
    have known:x∈rows.map (·.1)→∃ t2,Zga kvs (Sum.inr x)=some (.ref t2):=fun h=>by
     obtain ⟨r2,hr2,er2⟩:=List.mem_map.mp h
     obtain ⟨t2,hv2,_⟩:=bk.ups.val fi.nd hr2
     rw [er2] at hv2
     exact ⟨t2,hv2⟩
    refine ⟨_,rfl,_,rfl,d,_,rfl,Zf5.f (k:=Sum.inr x) (s2 _ _ bk.at_),_,rfl,?_⟩
    have inU:(Sum.inr x:Key)∈kvs'.map (·.1)↔x∈q'.2.take j:=by
     rw [hk']
     constructor
     ·intro m
      obtain ⟨z,hz,e⟩:=List.mem_map.mp m
      have e:z=x:=by injection e
      rw [← e];exact hz
     ·intro m
      exact List.mem_map.mpr ⟨x,m,rfl⟩
    by_cases je:j=lj
    ·rcases j3 with ⟨_,z⟩ | ⟨e,u,er,hu2,hor⟩
     ·omega
     rw [← je,hx] at hu2
     cases hu2
     rcases hor with ⟨h1,e1⟩ | ⟨h1,h2,e1⟩
     ·have:Zga kvs (Sum.inr x)=none:=by
       refine Zbl fun z=>h1 ?_
       rw [bk.ups.keys] at z
       obtain ⟨r2,hr2,e⟩:=List.mem_map.mp z
       have e:r2.1=x:=by injection e
       exact List.mem_map.mpr ⟨r2,hr2,e⟩
      rw [this]
      exact Ze5 ⟨_,rfl,_,rfl,fun y hy=>okx y hy _,fun dx hdx=>(re _ er).noK _ e1 dx _ (s2.trans (Zmn hdx)) uS⟩
     ·obtain ⟨t2,hv2⟩:=known h1
      rw [hv2]
      refine Zbz ⟨_,rfl,_,rfl,sd,_,rfl,Zf5.k (k:=Sum.inr x) hsd2,_,rfl,?_⟩
      obtain ⟨v,hv⟩:=Z4p (inU.mpr (by rw [je];exact h2))
      rw [hv]
      exact Ze5 ⟨_,rfl,_,rfl,fun y hy=>okx y hy _,fun dx hdx=>(re _ er).twice _ e1 dx _ (s2.trans (Zmn hdx)) uS⟩
    ·have jlt':j<lj:=by omega
     have hin:(q'.2.take lj)[j]?=some x:=by rw [List.getElem?_take,if_pos jlt'];exact hx
     obtain ⟨t2,hv2⟩:=known (j1 x (List.mem_of_getElem? hin))
     rw [hv2]
     refine Zbz ⟨_,rfl,_,rfl,sd,_,rfl,Zf5.k (k:=Sum.inr x) hsd2,_,rfl,?_⟩
     have hnew:(Sum.inr x:Key)∉kvs'.map (·.1):=by
      rw [hk']
      have:=Zmc j2 hin
      rw [List.take_take,Nat.min_eq_left (Nat.le_of_lt jlt')] at this
      exact this
     rw [Zbl hnew]
     refine Zbz ?_
     have hkl:kvs'.length=(q'.2.take j).length:=by have:=congrArg List.length hk';simpa using this
     have hjl:(q'.2.take j).length≤8:=by rw [List.length_take];have:=fi.few q' hmem;omega
     refine ⟨_,rfl,_,rfl,sd,_,rfl,Zkw.k (k:=Sum.inr x) hsd2 (Za7 (by omega)),_,_,jlt',rfl,fun b o e=>?_,uS,?_⟩
     ·rw [Zac (nNo e hsH)];exact s2 _ _ e
     ·rw [Zfu hnew,hk',List.take_add_one,hx,List.map_append]
      rfl
   ·rintro σ H2 ⟨kvs',c,jl,rfl,s2,hsd2,hk'⟩
    rw [List.length_map] at jl
    rcases j3 with ⟨z,_⟩ | ⟨e,u,er,hu2,_⟩
    ·exact ⟨_,_,_,z,rfl,s2⟩
    ·have:=(List.getElem?_eq_some_iff.mp hu2).1
     omega
  ·rintro σ H' ⟨a,b,c,il,rfl,s⟩
   rw [List.length_map,kl] at il
   rcases l3 with ⟨er,_⟩ | ⟨e,j,er,hb⟩
   ·exact q er H' s
   ·obtain ⟨q2,u,hq2,_⟩:=hb.ex
    have:=(List.getElem?_eq_some_iff.mp hq2).1
    omega
theorem Zol {f fF:Addr}{fd fdF:FuncData}(F:Def K mg "endless" Zcq ["ups_of"] f fd) (DF:Def K mg "first_among" Zbi ["words","others"] fF fdF) (T:Zu3 mg):Zaq P w K mg base CX0 2 f fd ["ups_of"] Zka:=by
 have GF:Zaq P w K mg base CX0 1 fF fdF ["words","others"] (Zk4 K):=Zll DF
 refine F.fn.ok scE (fun vs H Q E h=>?_) (fun cdv A outer s H vs Q E hr h=>?_)
 ·obtain ⟨d,o,rows,kvs,rfl,_⟩:=h
  rfl
 ·obtain ⟨d,o,rows,kvs,rfl,bk,g,uf,⟨x0,hx0,u0,hu0,hr0⟩,q⟩:=h
  have nd:=scE.nd
  have hu:=Zgn hr
  refine ⟨_,pS (Zal (i:=1) nd rfl (Or.inr rfl) (Zbo (Ze4 rfl) (by rfl) T.list PyProof.Rows.boot_list (pC (pv 0) Zaa)))
   (Zab (Zgf PassesOwn.never (Zce Ze8)
    (pS (Ze7 (k:=2) ["word"] ["ups_of","left"] [0,1] nd rfl rfl (fun _=>Za5 (osc:=Zad Zcq) (on:=Z24) (by decide +kernel) rfl rfl rfl) (Zb1 (pv 1)) (fun C s H fp=>Zai (i:=0) Zxl rfl (Or.inl rfl) (Or.inr rfl))
     (fun C s H fp=>Zfv (Ze6 (Zli (Zaf DF GF hr (pC (Zgu hu (pv 1) (pv 0) (fun _ _=>rfl)) (pC (pv 2) Zaa)))))) (fun C s H fp=>pv 0))
    (pS (Zau (Zap Ze9 (Zaj Zca (by rfl) T.len PySem.boot_len (pC (pv 2) Zaa)) (Zaj Zca (by rfl) T.len PySem.boot_len (pC (pv 1) Zaa)) (Zaz _)) (Zab (Zam (pv 2))) Zah)
    (Zab (Zal (i:=1) nd rfl (Or.inr rfl) (pv 2))))))),?_⟩
  have wl:(rows.map (·.1)).length≤24:=by rw [List.length_map];exact g.le
  refine ⟨_,rfl,d,kvs,rfl,.inr ⟨o,bk.at_⟩,fun l0 hl0=>?_⟩
  refine ⟨fun m σ H'=>∃ (ll:Addr) (ls:List Str) (c:Option V),σ=[some (.ref d),some (.ref ll),c]∧Zag H H'∧H' ll=some (.lst (ls.map V.str))∧(∀ x∈ls,x∈rows.map (·.1))∧(∀ y,Zw4 rows x0 y→y∈ls)∧ls.length≤24∧m=ls.length,
   ⟨_,l0,rows.map (·.1),none,rfl,fun b o e=>by rw [Zac (nNo e hl0)];exact e,by rw [uS,Zy7 bk.ups],fun x h=>h,(fun y hy=>Graph.closed_reach (S:=fun z=>z∈rows.map (·.1)) (fun a ha b hb=>Zqs g uf ha hb) hy.1 hx0),wl,rfl⟩,?_⟩
  rintro m σ H' ⟨ll,ls,c,rfl,s1,hll,hsub,hcy,h24,rfl⟩
  refine ⟨true,rfl,?_⟩
  refine Ze5 ⟨fun σ' H2=>∃ m',m'<ls.length∧∃ (ll:Addr) (ls:List Str) (c:Option V),σ'=[some (.ref d),some (.ref ll),c]∧Zag H H2∧H2 ll=some (.lst (ls.map V.str))∧(∀ x∈ls,x∈rows.map (·.1))∧(∀ y,Zw4 rows x0 y→y∈ls)∧ls.length≤24∧m'=ls.length,fun _ _ h=>h,?_⟩
  refine ⟨_,rfl,ll,rfl,⟨_,SqL.of hll⟩,Zf2 (Za8 (xs:=ls.map V.str)) (sL (by rw [List.length_map];omega)) (Ztz rows ls) (fun v=>v) (fun D ys hD=>SqL.of (by rw [Zac (nNo hll hD)];exact hll)) ?_ ?_ ?_⟩
  ·intro D ys v R hD hv hR
   obtain ⟨x,hx,rfl⟩:=List.mem_map.mp hv
   obtain ⟨r,hr',rfl⟩:=Zct (hsub x hx)
   obtain ⟨t,hvt,ht⟩:=bk.ups.val g.nd hr'
   have kp:∀ b o,H b=some o→(upd H' D (.lst ys)) b=some o:=fun b o e=>by rw [Zac (nNo (s1 _ _ e) hD)];exact s1 _ _ e
   refine ⟨_,rfl,_,rfl,d,_,rfl,(by rw [← hvt];exact Zf5.f (k:=Sum.inr r.1) (kp _ _ bk.at_)),_,rfl,t,ll,r.2,ls,rfl,SqT.of (kp _ _ ht),SqL.of (by rw [Zac (nNo hll hD)];exact hll),_,rfl,?_⟩
   have e:(!decide (Zfz r.2 ls=V.non))=Ztz rows ls (V.str r.1):=by
    rw [Zqd]
    show _=(Zat rows r.1).any _
    rw [Zbv g.nd hr']
   rw [e]
   exact hR
  ·intro D ys v R hD hv _ hR
   exact ⟨_,rfl,hR⟩
  ·intro D hD
   rw [Zqa]
   have hDl:(upd H' D (.lst ((Graph.kept (Zat rows) ls).map V.str))) ll=some (.lst (ls.map V.str)):=by rw [Zac (nNo hll hD)];exact hll
   have s2:Zag H (upd H' D (.lst ((Graph.kept (Zat rows) ls).map V.str))):=fun b o e=>by rw [Zac (nNo (s1 _ _ e) hD)];exact s1 _ _ e
   refine ⟨_,rfl,_,_,rfl,.inl ⟨_,SqL.of uS,rfl⟩,_,rfl,_,_,rfl,.inl ⟨_,SqL.of hDl,rfl⟩,rfl,_,rfl,?_⟩
   have kle:=Graph.kept_le (Zat rows) ls
   refine Zek (fun h=>?_) (fun h=>?_)
   ·have h:(Graph.kept (Zat rows) ls).length=ls.length:=by
     have:=of_decide_eq_true h
     injection this with this
     rw [List.length_map,List.length_map] at this
     omega
    have ke:Graph.kept (Zat rows) ls=ls:=Graph.filter_all h
    rw [ke] at s2 ⊢
    refine ⟨_,rfl,q D ls _ s2 uS (fun z=>?_) h24 hsub fun x hx=>?_⟩
    ·have:=hcy x0 ⟨.refl _,.refl _⟩
     rw [z] at this
     cases this
    ·rw [← ke] at hx
     obtain ⟨u,h1,h2⟩:=List.any_eq_true.mp (List.mem_filter.mp hx).2
     exact ⟨u,h1,of_decide_eq_true h2⟩
   ·have h:(Graph.kept (Zat rows) ls).length≠ls.length:=fun z=>h (decide_eq_true (by rw [List.length_map,List.length_map,z]))
    exact ⟨_,rfl,_,by omega,D,_,_,rfl,s2,uS,fun x hx=>hsub x (Graph.kept_sub hx),(fun y hy=>by
     obtain ⟨z,hz,hzc⟩:=Zwy hu0 hr0 hy
     exact List.mem_filter.mpr ⟨hcy y hy,List.any_eq_true.mpr ⟨z,hz,decide_eq_true (hcy z hzc)⟩⟩),by omega,rfl⟩
theorem Zv0 {f fE fF:Addr}{fd fdE fdF:FuncData}(F:Def K mg "find_ring" Zdd ["ups_of"] f fd) (DE:Def K mg "endless" Zcq ["ups_of"] fE fdE) (DF:Def K mg "first_among" Zbi ["words","others"] fF fdF) (T:Zu3 mg):Zaq P w K mg base CX0 3 f fd ["ups_of"] Zsj:=by
 have GE:Zaq P w K mg base CX0 2 fE fdE ["ups_of"] Zka:=Zol DE DF T
 have GF:Zaq P w K mg base CX0 1 fF fdF ["words","others"] (Zk4 K):=Zll DF
 refine F.fn.ok scR (fun vs H Q E h=>?_) (fun cdv A outer s H vs Q E hr h=>?_)
 ·obtain ⟨d,o,rows,kvs,rfl,_⟩:=h
  rfl
 ·obtain ⟨d,o,rows,kvs,rfl,bk,g,uf,cy,q⟩:=h
  have nd:=scR.nd
  have hu:=Zgn hr
  have hr1:Zb6 1 _:=hr.mono (by decide)
  refine ⟨_,pS (Zal (i:=1) nd rfl (Or.inl rfl) (Zaf DE GE hr (pC (pv 0) Zaa)))
   (pS (Zau (Zb4 (Zik (pv 1) (fun _=>rfl))) (Zab (Zam Zkg)) Zah)
   (pS (Zal (i:=2) nd rfl (Or.inl rfl) (Zd0 Zaa))
   (pS (Zal (i:=3) nd rfl (Or.inl rfl) (Zbd (r:=Zl7 K) Za9 (pv 1) Zae (fun _ _=>rfl)))
   (pS (Zgf PassesOwn.never (Zap (r:=rIn K true) Zew (pv 3) (pv 2) (by with_unfolding_all rfl))
    (pS (Za3 (Zic PySem.F.plainAttrs_list PySem.F.slot_list_append PySem.F.type_list_append Zdu (pv 2) (pC (pv 3) Zaa)))
    (Zab (Zal (i:=3) nd rfl (Or.inl rfl) (Zaf DF GF hr1 (pC (Zgu hu (pv 0) (pv 3) (fun _ _=>rfl)) (pC (pv 1) Zaa)))))))
   (Zab (Zam (Zhf (r:=Zyd K) Zi0 (pv 2) (Zht (Zic PySem.F.plainAttrs_list PySem.F.slot_list_index PySem.F.type_list_index (Zna (Z13 hr)) (pv 2) (pC (pv 3) Zaa))) Zlh))))))),?_⟩
  refine ⟨_,rfl,d,o,rows,kvs,rfl,bk,g,uf,cy,fun l ls H1 s1 hl lne l24 sub up=>?_⟩
  refine ⟨_,rfl,true,.inl ⟨_,SqL.of hl,?_⟩,Zbz ?_⟩
  ·cases ls with
   | nil=>exact absurd rfl lne
   | cons a r=>rfl
  refine ⟨Nat.zero_le _,fun wa hwa=>?_⟩
  have s2:Zag H1 (upd H1 wa (.lst [])):=Zmn hwa
  have hw2:(upd H1 wa (.lst [])) wa=some (.lst []):=uS
  generalize upd H1 wa (.lst [])=H2 at s2 hw2
  have s02:=s1.trans s2
  obtain ⟨x0,hx0⟩:∃ x0,ls[0]?=some x0:=by
   cases ls with
   | nil=>exact absurd rfl lne
   | cons a r=>exact ⟨a,rfl⟩
  refine ⟨_,rfl,l,_,_,_,rfl,rfl,SqL.of (s2 _ _ hl),Zch (j:=0) (v:=.str x0) (by rw [List.getElem?_map,hx0];rfl),?_⟩
  have wH:H wa=none:=s1.free hwa
  refine ⟨fun m σ H'=>∃ (W:List Str) (h:Str),σ=[some (.ref d),some (.ref l),some (.ref wa),some (.str h)]∧Zag H H'∧H' l=some (.lst (ls.map V.str))∧H' wa=some (.lst (W.map V.str))∧W.Nodup∧(∀ y∈W,y∈ls)∧h∈ls∧Zu1 rows (W++[h])∧m + W.length=ls.length,
   ⟨ls.length,[],x0,rfl,s02,s2 _ _ hl,hw2,.nil,(fun y hy=>nomatch hy),List.mem_of_getElem? hx0,(fun i a b _ hb=>by simp at hb),rfl⟩,?_⟩
  rintro m σ H3 ⟨W,h,rfl,s3,hl3,hw3,wn,ws,hm,c2,em⟩
  have wl:=Graph.nodup_le wn ws
  refine ⟨_,rfl,_,rfl,wa,_,rfl,.inl (SqL.of hw3),rfl,Zcg W,_,rfl,?_⟩
  rw [if_pos rfl,Zdj]
  have hk:=sub h hm
  refine Zek (fun hn=>?_) (fun hn=>?_)
  ·have hn:h∉W:=by simpa using hn
   refine ⟨fun σ' H'=>∃ m',m'<m∧∃ (W:List Str) (h:Str),σ'=[some (.ref d),some (.ref l),some (.ref wa),some (.str h)]∧Zag H H'∧H' l=some (.lst (ls.map V.str))∧H' wa=some (.lst (W.map V.str))∧W.Nodup∧(∀ y∈W,y∈ls)∧h∈ls∧Zu1 rows (W++[h])∧m' + W.length=ls.length,fun _ _ z=>z,?_⟩
   have wn':(W++[h]).Nodup:=by
    rw [List.nodup_append]
    exact ⟨wn,by simp,fun a ha b hb e=>hn (by rw [← List.mem_singleton.mp hb,← e];exact ha)⟩
   have ws':∀ y∈W++[h],y∈ls:=fun y hy=>by
    rcases List.mem_append.mp hy with z | z
    ·exact ws y z
    ·rw [List.mem_singleton.mp z];exact hm
   have wl':=Graph.nodup_le wn' ws'
   rw [List.length_append,List.length_singleton] at wl'
   refine ⟨_,rfl,.inl ⟨rfl,_,SqL.of hw3⟩,_,rfl,wa,_,_,rfl,rfl,hw3,Za7 (by rw [List.length_map];omega),?_⟩
   have s4:Zag H (upd H3 wa (.lst (W.map V.str++[.str h]))):=fun b o' e=>by rw [Zac (nNo e wH)];exact s3 _ _ e
   have lw:l≠wa:=nNo hl hwa
   have hl4:(upd H3 wa (.lst (W.map V.str++[.str h]))) l=some (.lst (ls.map V.str)):=by rw [Zac lw];exact hl3
   have hw4:(upd H3 wa (.lst (W.map V.str++[.str h]))) wa=some (.lst ((W++[h]).map V.str)):=by rw [uS,List.map_append];rfl
   generalize upd H3 wa (.lst (W.map V.str++[.str h]))=H4 at s4 hl4 hw4
   obtain ⟨r,hr',er⟩:=Zct hk
   obtain ⟨t,hvt,ht⟩:=bk.ups.val g.nd hr'
   have uo:Zat rows h=r.2:=by rw [← er];exact Zbv g.nd hr'
   obtain ⟨n,en,n1,n2⟩:=Zrm (us:=r.2) (ls:=ls) (by rw [← uo];exact up h hm)
   refine ⟨_,rfl,_,rfl,d,_,rfl,(by rw [← hvt,er];exact Zf5.f (k:=Sum.inr h) (s4 _ _ bk.at_)),_,rfl,t,l,r.2,ls,rfl,SqT.of (s4 _ _ ht),SqL.of hl4,?_⟩
   rw [en]
   exact ⟨m - 1,by omega,W++[h],n,rfl,s4,hl4,hw4,wn',ws',n2,Zrp c2 (by rw [uo];exact n1),by rw [List.length_append,List.length_singleton];omega⟩
  ·have hn:h∈W:=by simpa using hn
   have il:=List.idxOf_lt_length_of_mem hn
   have hat:W[W.idxOf h]?=some h:=by rw [List.getElem?_eq_getElem il,List.getElem_idxOf il]
   have wkn:∀ y∈W,Za2 y=true:=fun y hy=>by
    obtain ⟨r,hr',er⟩:=Zct (sub y (ws y hy))
    rw [← er];exact g.word r hr'
   refine ⟨_,rfl,_,rfl,.inl ⟨rfl,_,SqL.of hw3⟩,_,rfl,.str h,.str h,W.map PySem.W.Dat.str,W.idxOf h,.str h,rfl,.list (SqL.of hw3) (Zhb W),.str h,?_,Zip (wkn h hn),by rw [List.length_map];omega,by rw [List.getElem?_map,hat];rfl,Zim _,fun m' e' hm' he'=>?_,_,rfl,?_⟩
   ·rw [List.all_eq_true]
    intro z hz
    obtain ⟨y,hy,rfl⟩:=List.mem_map.mp hz
    exact Zip (wkn y hy)
   ·rw [List.getElem?_map] at he'
    obtain ⟨y,hy,rfl⟩:=Option.map_eq_some_iff.mp he'
    refine Zl0 fun z=>?_
    injection z with z
    rw [z] at hy
    have:=Zfh wn hy hat
    omega
   dsimp only [Zir]
   refine ⟨wa,_,rfl,SqL.of hw3,fun p hp=>?_⟩
   rw [Zqj _ _ (by rw [List.length_map];omega),← List.map_drop]
   refine q p _ _ (s3.trans (Zmn hp)) (s3.free hp) uS (by rw [List.length_drop];omega) (Zya c2 wn (fun y hy=>sub y (ws y hy)) hn)
theorem Zv4 {f C f1 f2 f3 f4 f5 f6 f0 fa fb:Addr}{Ds:Nat→Addr}{fd d1 d2 d3 d4 d5 d6 d0 da db:FuncData}(F:Fun K "__init__" "Kinds.__init__" Zcu f fd) (T:Zu3 mg) (D1:Def K mg "check_rows" Zcy ["rows"] f1 d1) (D2:Def K mg "is_word" Zdn ["text"] f2 d2)
  (D3:Def K mg "check_ups" Zde ["ups_of"] f3 d3) (D4:Def K mg "find_ring" Zdd ["ups_of"] f4 d4) (D5:Def K mg "endless" Zcq ["ups_of"] f5 d5) (D6:Def K mg "first_among" Zbi ["words","others"] f6 d6)
  (E0:Zu0 P w K mg base "NoKind" (Ds 0) "word" (Zn5 (Ds 0) "word" okS) f0 d0) (E1:Zu0 P w K mg base "Twice" (Ds 1) "word" (Zn5 (Ds 1) "word" okS) fa da) (E3:Zu0 P w K mg base "Ring" (Ds 3) "ring" (Z0d (Ds 3) "ring") fb db) (T7:Zzu K mg "TooMany" (Ds 7)):
  Zaq P w K mg base (CX1 P w) 4 f fd ["self","rows"] (Zso K Ds):=by
 have G1:Zaq P w K mg base (CX1 P w) 3 f1 d1 ["rows"] (Zh4 K Ds):=Zjx D1 D2 T E0 E1 T7
 have G3:Zaq P w K mg base (CX1 P w) 3 f3 d3 ["ups_of"] (Ziv Ds):=Zlm D3 E0 E1
 have G4:Zaq P w K mg base (CX1 P w) 3 f4 d4 ["ups_of"] Zsj:=(Zv0 D4 D5 D6 T).any
 refine F.ok1 scI (fun vs H Q E h=>?_) (fun cdv A outer s H vs Q E hr h=>?_)
 ·obtain ⟨p,l,rows,e,rfl,_⟩:=h
  rfl
 ·obtain ⟨p,l,rows,e,rfl,hR,sh,due,re⟩:=h
  have nd:=scI.nd
  have hu:=Zgn hr
  have hr2:Zb6 2 _:=hr.mono (by decide)
  refine ⟨_,pS (Za3 (Zdi G1 hr (by rfl) D1.m D1.fn.kp D1.b .nil (Zcb Fns.of) (pC (pv 1) Zaa)))
   (pS (Zal (i:=2) nd rfl (Or.inl rfl) Zd8)
   (pS (Zbn PassesOwn.leaving rfl (Zpu (pv 1)) (Zfl rfl (gC (Zai (i:=3) nd rfl (Or.inl rfl)) (gC (Zai (i:=4) nd rfl (Or.inl rfl)) Zdz)))
    (Zab (Zdy hu (pv 2) (pv 3) (Zbo Zck (by rfl) T.tuple PyProof.Rows.boot_tuple (pC (pv 4) Zaa)) rfl)))
   (Zlf (pS (Za3 (Zdi G3 hr (by rfl) D3.m D3.fn.kp D3.b .nil (Zcb Fns.of) (pC (pv 2) Zaa)))
   (pS (Zal (i:=5) nd rfl (Or.inl rfl) (Zdi G4 hr (by rfl) D4.m D4.fn.kp D4.b .nil (Zcb Fns.of) (pC (pv 2) Zaa)))
   (pS (Zau (Ze6 (Zli (pv 5))) (Zab (Zs3 (C:=Ds 3) Fns.of hr.hd E3.ex E3.ini E3.ty E3.go hr2 E3.b (by rfl) E3.m (pC (pv 5) Zaa))) Zah) Zbe)))))),?_⟩
  have fine:∀ r,Zzr rows r→(r=none→Zie rows):=fun r h e=>by
   cases h with
   | size _=>cases e
   | bad _ _ _ _=>cases e
   | fine f=>exact f
  obtain ⟨r1,due1,no1⟩:∃ r1,Zzr rows r1∧((r1=some e)∨(r1=none∧((∃ h:Zzy rows (some e),True)∨(e=.ring∧Zl6 rows∧Cyc rows)))):=by
   cases due with
   | rows h=>exact ⟨_,h,.inl rfl⟩
   | ups f h=>exact ⟨none,.fine f,.inr ⟨rfl,.inl ⟨h,trivial⟩⟩⟩
   | ring f u c=>exact ⟨none,.fine f,.inr ⟨rfl,.inr ⟨rfl,u,c⟩⟩⟩
  refine ⟨_,rfl,l,rows,r1,rfl,hR,fun q hq=>(sh q hq).1,due1,fun er1 H1 s1=>?_,fun e' er1=>?_⟩
  rotate_left
  ·rcases no1 with z | ⟨z,_⟩
   ·rw [er1] at z
    cases z
    exact re
   ·rw [er1] at z;cases z
  have fi:=fine r1 due1 er1
  have no2:(∃ h:Zzy rows (some e),True)∨(e=.ring∧Zl6 rows∧Cyc rows):=by
   rcases no1 with z | ⟨_,z⟩
   ·rw [er1] at z;cases z
   ·exact z
  intro d hd
  have s2:Zag H (upd H1 d (.dK [])):=fun b o e=>by rw [Zac (nNo (s1 _ _ e) hd)];exact s1 _ _ e
  obtain ⟨b,vs,hl,hpr⟩:=id hR
  refine ⟨_,rfl,b,l,vs,rfl,hl.mono s2,Za1 Zij (fun i σ H'=>∃ (kvs:List (Key×V)) (a c:Option V),σ=[some (.ref p),some (.ref l),some (.ref d),a,c,none,none]∧Zag H H'∧H' d=some (.dK kvs)∧Zj1 H' (rows.take i) kvs)
   ⟨[],none,none,rfl,s2,uS,by rw [List.take_zero];exact .nil⟩ (fun i σ H' _ ⟨_,_,_,_,s,_⟩=>hl.mono s) ?_ ?_⟩
  ·rintro i v σ H' hi ⟨kvs,a,c,rfl,s3,hdk,hU⟩
   obtain ⟨r,hr',t,u,rfl,ht,hug⟩:=Zar hpr hi
   have dH:H d=none:=s1.free hd
   refine ⟨t,_,rfl,s3.tup ht,rfl,_,_,rfl,_,_,rfl,rfl,?_⟩
   have hnew:(Sum.inr r.1:Key)∉kvs.map (·.1):=by rw [hU.keys];exact Zeb fi.nd hr'
   have hil:(rows.take i).length≤24:=by rw [List.length_take];have:=fi.le;omega
   have hkl:kvs.length=(rows.take i).length:=(Paired.length hU).symm
   have fin:∀ (t2:Addr) (H2:Hp),Zag H' H2→H2 t2=some (.tup (r.2.map V.str))→∃ (kvs':List (Key×V)) (a c:Option V),[some (V.ref p),some (V.ref l),some (V.ref d),some (V.str r.1),some (V.ref u),none,none]=[some (V.ref p),some (V.ref l),some (V.ref d),a,c,none,none]∧Zag H (upd H2 d (.dK (Zfn kvs (Sum.inr r.1) (.ref t2)))) ∧
     (upd H2 d (.dK (Zfn kvs (Sum.inr r.1) (.ref t2)))) d=some (.dK kvs')∧Zj1 (upd H2 d (.dK (Zfn kvs (Sum.inr r.1) (.ref t2)))) (rows.take (i + 1)) kvs':=fun t2 H2 s4 ht2=>by
    have d2:=s4 _ _ hdk
    have tk:∀ b xs,H2 b=some (.tup xs)→(upd H2 d (.dK (Zfn kvs (Sum.inr r.1) (.ref t2)))) b=some (.tup xs):=fun b xs e=>by
     rw [Zac (fun z=>by rw [z,d2] at e;cases e)];exact e
    refine ⟨_,_,_,rfl,fun b o e=>by rw [Zac (nNo e dH)];exact s4 _ _ (s3 _ _ e),uS,?_⟩
    have sn:Zj1 (upd H2 d (.dK (Zfn kvs (Sum.inr r.1) (.ref t2)))) (rows.take i++[r]) (kvs++[(Sum.inr r.1,V.ref t2)]):=Paired.snoc ((hU.mono fun b xs e=>s4 _ _ e).mono tk) ⟨rfl,t2,rfl,tk t2 _ ht2⟩
    rw [← Zff _ (Zbl hnew)] at sn
    rw [List.take_add_one,hr']
    exact sn
   rcases hug with hug | hug
   ·refine ⟨_,rfl,u,_,rfl,.inr ⟨SqT.of (s3 _ _ hug),_,rfl,_,rfl,d,_,rfl,Zkw.k (k:=Sum.inr r.1) hdk (Za7 (by omega)),fin u H' (Zag.refl _) (s3 _ _ hug)⟩⟩
   ·refine ⟨_,rfl,u,_,rfl,.inl ⟨s3.seq hug,fun t2 ht2=>?_⟩⟩
    have s4:Zag H' (upd H' t2 (.tup (r.2.map V.str))):=fun b o e=>by rw [Zac (nNo e ht2)];exact e
    exact ⟨_,rfl,_,rfl,d,_,rfl,Zkw.k (k:=Sum.inr r.1) (s4 _ _ hdk) (Za7 (by omega)),fin t2 _ s4 uS⟩
  ·rintro σ H2 ⟨kvs,a,c,rfl,s3,hdk,hU⟩
   have hvl:=hpr.length
   rw [← hvl,List.take_length] at hU
   refine ⟨d,kvs,hdk,fun o=>?_⟩
   have dH:H d=none:=s1.free hd
   have s4:Zag H (upd H2 d (.frz o (.dK kvs))):=fun b u e=>by rw [Zac (nNo e dH)];exact s3 _ _ e
   have bk:Zhp (upd H2 d (.frz o (.dK kvs))) d o rows kvs:=⟨uS,hU.mono fun b xs e=>by rw [Zac (fun z=>by rw [z,hdk] at e;cases e)];exact e⟩
   have sh2:∀ q∈rows,∀ u∈q.2,Zda u:=fun q hq=>(sh q hq).2
   rcases no2 with ⟨hU2,_⟩ | ⟨rfl,uf,cy⟩
   ·exact ⟨_,rfl,d,o,rows,kvs,some e,rfl,bk,fi,sh2,hU2,(fun z=>nomatch z),fun e' er=>by
     cases er
     exact re.mono s4⟩
   ·refine ⟨_,rfl,d,o,rows,kvs,none,rfl,bk,fi,sh2,.fine uf,fun _ H5 s5=>?_,fun e' er=>nomatch er⟩
    refine ⟨_,rfl,d,o,rows,kvs,rfl,bk.mono s5,fi,uf,cy,fun lr ys H6 s6 nlr hlr yl isr=>?_⟩
    refine ⟨_,rfl,_,rfl,Ze5 ⟨_,rfl,lr,ys,rfl,hlr,by omega,fun y hy=>?_,fun l2 dx nl2 ndx ne=>?_⟩⟩
    ·obtain ⟨r,hr',er⟩:=Zct (isr.2.2.1 y hy)
     rw [← er];exact (sh r hr').1
    ·have sA:Zag H6 (upd (upd H6 l2 (.lst (ys.map V.str))) dx (.xd [("ring",.ref l2)])):=fun b o' e=>by rw [Zac (nNo e ndx),Zac (nNo e nl2)];exact e
     have s46:=s4.trans (s5.trans s6)
     exact re.ring rfl dx l2 ys _ (s46.trans sA) uS (s46.free nl2) (by rw [Zac ne];exact uS) isr
end
end K54
namespace K54
open PySem L2 Md
def NoW (Ds:Nat→Addr) (E:XK) (H:Hp) (x:Str):Prop:=∀ dx H',Zag H H'→H' dx=some (.xd [("word",.str x)])→E (.ref (Ds 0)) (some dx) H'
def Zph (C:Addr) (Ds:Nat→Addr):Sp:=fun vs H Q E=>∃ (p:Addr) (rows:List (Str×List Str)) (x:Str),vs=[.ref p,.str x]∧Za4 C H p rows∧Zb0 rows∧Zda x∧(x∈rows.map (·.1)→Q .non H)∧(x∉rows.map (·.1)→NoW Ds E H x)
def Z3o (rows:List (Str×List Str)) (x y w:Str):Prop:=(x∉rows.map (·.1)∧w=x)∨(x∈rows.map (·.1)∧y∉rows.map (·.1)∧w=y)
def Zw8 (C:Addr) (Ds:Nat→Addr):Sp:=fun vs H _ E=>∃ (p:Addr) (rows:List (Str×List Str)) (x y w:Str),vs=[.ref p,.str x,.str y]∧Za4 C H p rows∧Zb0 rows∧Zda x∧Zda y∧Z3o rows x y w∧NoW Ds E H w
def Zsp (K:W.Frag) (C:Addr) (Ds:Nat→Addr):Sp:=fun vs H Q E=>Zpg K C vs H Q E∨Zso K Ds vs H Q E
def Zsh (C:Addr) (Ds:Nat→Addr):Sp:=fun vs H Q E=>∃ (p:Addr) (rows:List (Str×List Str)) (x y:Str) (r:Option Zkv),vs=[.ref p,.str x,.str y]∧Za4 C H p rows∧Zb0 rows∧x∈rows.map (·.1)∧y∈rows.map (·.1)∧Zg1 (Zan rows x y) r∧(r=none→∀ b H',Zag H H'→Za4 C H' b (Zan rows x y)→Q (.ref b) H')∧∀ e,r=some e→Zru Ds (Zan rows x y) E H e
theorem Zj3 {rows:List (Str×List Str)}(g:Zb0 rows) {x:Str}(h:x∈rows.map (·.1)):Zda x:=by
 obtain ⟨r,hr,e⟩:=List.mem_map.mp h
 rw [← e];exact Zdv (g.word r hr)
theorem Zz4 {rows:List (Str×List Str)}{x y:Str}{q:Str×List Str}(h:q∈Zan rows x y):∃ r∈rows,q.1=r.1∧((r.1=x∧q.2=r.2++[y])∨(r.1≠x∧q.2=r.2)):=by
 obtain ⟨r,hr,e⟩:=List.mem_map.mp h
 by_cases z:r.1=x
 ·rw [if_pos z] at e
  exact ⟨r,hr,by rw [← e],.inl ⟨z,by rw [← e]⟩⟩
 ·rw [if_neg z] at e
  exact ⟨r,hr,by rw [← e],.inr ⟨z,by rw [← e]⟩⟩
theorem Zr9 {rows:List (Str×List Str)}(g:Zb0 rows) {x y:Str}(hx:x∈rows.map (·.1)) (hy:y∈rows.map (·.1)):∀ q∈Zan rows x y,Zda q.1∧∀ u∈q.2,Zda u:=fun q hq=>by
 obtain ⟨r,hr,e,z⟩:=Zz4 hq
 have old:∀ u∈r.2,Zda u:=fun u hu=>Zj3 g (g.known r hr u hu)
 refine ⟨by rw [e];exact Zdv (g.word r hr),fun u hu=>?_⟩
 rcases z with z | z
 ·rw [z.2] at hu
  rcases List.mem_append.mp hu with c | c
  ·exact old u c
  ·rw [List.mem_singleton.mp c];exact Zj3 g hy
 ·rw [z.2] at hu
  exact old u hu
section
variable {P:Program} {w:World} {K:W.Frag} {mg:Str→Option Value} {base:Heap}
theorem Zth {f C fH f0:Addr}{Ds:Nat→Addr}{fd fdH fd0:FuncData}(F:Fun K "check" "Kinds.check" Zcj f fd) (TC:Zio K C) (MH:Zrw K C fH fdH) (E0:Zu0 P w K mg base "NoKind" (Ds 0) "word" (Zn5 (Ds 0) "word" okS) f0 fd0):Zaq P w K mg base (CX1 P w) 3 f fd ["self","word"] (Zph C Ds):=by
 have GH:Zaq P w K mg base (CX1 P w) 1 fH fdH ["self","word"] (Zvd C):=(Ztg MH.fn TC).any
 refine F.ok1 Z4c (fun vs H Q E h=>?_) (fun cdv A outer s H vs Q E hr h=>?_)
 ·obtain ⟨p,rows,x,rfl,_⟩:=h
  rfl
 ·obtain ⟨p,rows,x,rfl,kd,g,sx,q,re⟩:=h
  obtain ⟨dx,d,a,o,oa,kvs,avs,h1,h2,h3,h4⟩:=kd.ex
  have hr1:Zb6 1 _:=hr.mono (by decide)
  refine ⟨_,Zab (Zau (Zb4 (Zce (Zcn (pv 0) TC.cl MH.me GH hr1 MH.b .nil (Zcb Fns.of) (pC (pv 1) Zaa)))) (Zab (Zef (C:=Ds 0) Fns.of hr.hd E0.ex E0.ini E0.ty E0.go hr E0.b (by rfl) E0.m (pC (pv 1) Zaa))) Zah),?_⟩
  refine ⟨_,rfl,p,dx,_,rfl,h1,Ztp _ _,_,rfl,p,rows,x,rfl,kd,g,_,rfl,?_⟩
  by_cases hx:x∈rows.map (·.1)
  ·rw [decide_eq_true hx]
   exact Zbz (q hx)
  ·rw [decide_eq_false hx]
   exact Ze5 ⟨_,rfl,_,rfl,(fun y _=>⟨x,rfl,sx⟩),fun dx hdx=>re hx dx _ (Zmn hdx) uS⟩
theorem Zvx {f C fC fH fI:Addr}{Ds:Nat→Addr}{fd fdC fdH fdI:FuncData}(F:Fun K "tied" "Kinds.tied" Zdq f fd) (TC:Zio K C) (MC:Zqp K C fC fdC) (MH:Zrw K C fH fdH) (M:Mk K C fI) (mgC:mg "Kinds"=some (.ref C)) (bI:Zc9 K fdI ["self","rows"] [])
  (GI:Zaq P w K mg base (CX1 P w) 4 fI fdI ["self","rows"] (Zsp K C Ds)):Zaq P w K mg base (CX1 P w) 6 f fd ["self","one","other"] (Zsh C Ds):=by
 have GC:Zaq P w K mg base (CX1 P w) 2 fC fdC ["self","word"] (Zob C):=(Zp0 MC.fn TC MH).any
 refine F.ok1 Z2k (fun vs H Q E h=>?_) (fun cdv A outer s H vs Q E hr h=>?_)
 ·obtain ⟨p,rows,x,y,r,rfl,_⟩:=h
  rfl
 ·obtain ⟨p,rows,x,y,r0,rfl,kd,g,hx,hy,due,q,re⟩:=h
  obtain ⟨dx,d,a,o,oa,kvs,avs,h1,h2,h3,h4⟩:=kd.ex
  have nd:=Z2k.nd
  have hr2:Zb6 2 _:=hr.mono (by decide)
  refine ⟨_,pS (Za3 (Zcn (pv 0) TC.cl MC.me GC hr2 MC.b .nil (Zcb Fns.of) (pC (pv 1) Zaa)))
   (pS (Za3 (Zcn (pv 0) TC.cl MC.me GC hr2 MC.b .nil (Zcb Fns.of) (pC (pv 2) Zaa)))
   (pS (Zal (i:=3) nd rfl (Or.inl rfl) (Zd0 Zaa))
   (pS (Zbn PassesOwn.leaving rfl (Zvn (Zds (pv 0) rfl)) (Zfl rfl (gC (Zai (i:=4) nd rfl (Or.inl rfl)) (gC (Zai (i:=5) nd rfl (Or.inl rfl)) Zdz)))
    (Zab (Za3 (Zic PySem.F.plainAttrs_list PySem.F.slot_list_append PySem.F.type_list_append Zdu (pv 3) (pC (Zav (pC (pv 4) (pC (Zvq (Zap Ze9 (pv 4) (pv 1) (Zaz _)) (Zbs Zlj (pv 5) (Zav (pC (pv 2) Zaa))) (pv 5)) Zaa))) Zaa)))))
   (Zab (Zam (Zhu M GI hr rfl mgC bI .nil (Zcb Fns.of) (pC (pv 3) Zaa))))))),?_⟩
  refine ⟨_,rfl,p,dx,_,rfl,h1,Zgg _ _,_,rfl,p,rows,x,rfl,kd,g,hx,?_⟩
  refine ⟨_,rfl,p,dx,_,rfl,h1,Zgg _ _,_,rfl,p,rows,y,rfl,kd,g,hy,?_⟩
  refine ⟨Nat.zero_le _,fun l hl=>?_⟩
  have gle:=g.le
  have hkv:kvs.length=rows.length:=(Paired.length h2.ups).symm
  have s1:Zag H (upd H l (.lst [])):=Zk9 hl
  refine ⟨_,rfl,p,C,dx,_,_,rfl,s1 _ _ h1,TC.cl,TC.nU,Zqg _ _,d,o,kvs,rfl,s1 _ _ h2.at_,Zuc (fun i σ H'=>∃ (vs:List V) (b c:Option V),σ=[some (.ref p),some (.str x),some (.str y),some (.ref l),b,c]∧(∀ b o,b≠l→H b=some o→H' b=some o)∧H' l=some (.lst vs)∧Paired (Zrt H') (Zan (rows.take i) x y) vs)
   ⟨[],none,none,rfl,fun b o hb e=>by rw [Zac hb];exact e,uS,by rw [List.take_zero];exact .nil⟩ (fun i σ H' _ ⟨_,_,_,_,k,_⟩=>k _ _ (nNo h2.at_ hl) h2.at_) ?_ ?_⟩
  ·rintro i pr t σ H2 hi ⟨vs,b,c,rfl,k2,hl2,hp2⟩ ht
   obtain ⟨r,hr',e1,u,e2,hu⟩:=Zar h2.ups hi
   have u2:H2 u=some (.tup (r.2.map V.str)):=k2 _ _ (nNo hu hl) hu
   have s3:Zag H2 (upd H2 t (.tup [kV pr.1,pr.2])):=Zk9 ht
   have ht3:(upd H2 t (.tup [kV pr.1,pr.2])) t=some (.tup [.str r.1,.ref u]):=by rw [uS,e1,e2];rfl
   generalize upd H2 t (.tup [kV pr.1,pr.2])=H3 at s3 ht3
   refine ⟨t,_,rfl,SqT.of ht3,rfl,_,_,rfl,_,_,rfl,rfl,?_⟩
   have hl3:=s3 _ _ hl2
   have u3:=s3 _ _ u2
   have few:=g.few r (List.mem_of_getElem? hr')
   have vl:vs.length≤24:=by
    rw [← hp2.length]
    unfold Zan
    rw [List.length_map,List.length_take]
    omega
   refine ⟨_,rfl,.inl ⟨rfl,_,SqL.of hl3⟩,_,rfl,_,rfl,_,rfl,rfl,_,rfl,?_⟩
   rw [Z3f]
   have fin:∀ (v:Addr) (us:List Str) (H4:Hp),Zag H3 H4→H4 v=some (.tup (us.map V.str))→Zan [r] x y=[(r.1,us)]→∀ t2,H4 t2=none→∃ (vs':List V) (b c:Option V),[some (V.ref p),some (V.str x),some (V.str y),some (V.ref l),some (V.str r.1),some (V.ref u)]=[some (.ref p),some (.str x),some (.str y),some (.ref l),b,c] ∧
     (∀ b o,b≠l→H b=some o→(upd (upd H4 t2 (.tup [.str r.1,.ref v])) l (.lst (vs++[.ref t2]))) b=some o)∧(upd (upd H4 t2 (.tup [.str r.1,.ref v])) l (.lst (vs++[.ref t2]))) l=some (.lst vs')∧Paired (Zrt (upd (upd H4 t2 (.tup [.str r.1,.ref v])) l (.lst (vs++[.ref t2])))) (Zan (rows.take (i + 1)) x y) vs':=fun v us H4 s4 hv et t2 ht2=>by
    have s5:Zag H4 (upd H4 t2 (.tup [.str r.1,.ref v])):=Zk9 ht2
    have hl4:=s4 _ _ hl3
    have tk:∀ b xs,H4 b=some (.tup xs)→(upd (upd H4 t2 (.tup [.str r.1,.ref v])) l (.lst (vs++[.ref t2]))) b=some (.tup xs):=fun b xs e=>by
     rw [Zac (fun z=>by rw [z,hl4] at e;cases e)];exact s5 _ _ e
    have t2l:t2≠l:=fun z=>by rw [z,hl4] at ht2;cases ht2
    refine ⟨_,_,_,rfl,fun b o hb e=>by rw [Zac hb];exact s5 _ _ (s4 _ _ (s3 _ _ (k2 b o hb e))),uS,?_⟩
    have e6:Zan (rows.take (i + 1)) x y=Zan (rows.take i) x y++[(r.1,us)]:=by
     rw [← et,List.take_add_one,hr']
     unfold Zan
     rw [List.map_append]
     rfl
    rw [e6]
    refine Paired.snoc (Paired.mapP hp2 fun r' v' ⟨t',u',e,z1,z2⟩=>⟨t',u',e,tk _ _ (s4 _ _ (s3 _ _ z1)),tk _ _ (s4 _ _ (s3 _ _ z2))⟩) ⟨t2,v,rfl,?_,tk _ _ hv⟩
    rw [Zac t2l]
    exact uS
   refine Zek (fun h=>?_) (fun h=>?_)
   ·have hx':r.1=x:=of_decide_eq_true h
    have et:Zan [r] x y=[(r.1,r.2++[y])]:=by
     unfold Zan
     rw [List.map_cons,if_pos hx']
     rfl
    refine ⟨_,rfl,_,rfl,sL (by show 1≤100000;decide),fun t4 ht4=>?_⟩
    have s4:Zag H3 (upd H3 t4 (.tup [.str y])):=Zk9 ht4
    have ht5:(upd H3 t4 (.tup [.str y])) t4=some (.tup [.str y]):=uS
    generalize upd H3 t4 (.tup [.str y])=H4 at s4 ht5
    refine ⟨u,t4,_,_,rfl,rfl,SqT.of (s4 _ _ u3),SqT.of ht5,sL (by rw [List.length_map];simp;omega),fun hn=>?_,(fun _ z=>by cases z),fun _ _ t5 ht6=>?_⟩
    ·have hn:r.2=[]:=List.map_eq_nil_iff.mp hn
     refine ⟨sL (by show 2≤100000;decide),fun t2 ht2=>⟨l,_,_,rfl,rfl,Zk9 ht2 _ _ (s4 _ _ hl3),Za7 (by omega),?_⟩⟩
     exact fin t4 (r.2++[y]) H4 s4 (by rw [ht5,hn];rfl) et t2 ht2
    ·have s5:Zag H4 (upd H4 t5 (.tup (r.2.map V.str++[.str y]))):=Zk9 ht6
     refine ⟨sL (by show 2≤100000;decide),fun t2 ht2=>⟨l,_,_,rfl,rfl,Zk9 ht2 _ _ (s5 _ _ (s4 _ _ hl3)),Za7 (by omega),?_⟩⟩
     exact fin t5 (r.2++[y]) _ (s4.trans s5) (by rw [uS,List.map_append];rfl) et t2 ht2
   ·have hx':¬ r.1=x:=fun z=>h (decide_eq_true z)
    have et:Zan [r] x y=[(r.1,r.2)]:=by
     unfold Zan
     rw [List.map_cons,if_neg hx']
     rfl
    refine ⟨_,rfl,sL (by show 2≤100000;decide),fun t2 ht2=>⟨l,_,_,rfl,rfl,Zk9 ht2 _ _ hl3,Za7 (by omega),?_⟩⟩
    exact fin u r.2 H3 (Zag.refl _) u3 et t2 ht2
  ·rintro σ H3 ⟨vs,b,c,rfl,k3,hl3,hp3⟩
   rw [hkv,List.take_length] at hp3
   refine ⟨_,rfl,?_⟩
   intro xb dx' nx ndx nex
   have s34:Zag H3 (upd (upd H3 dx' (.own xb)) xb (.ins C dx' [])):=fun b o e=>by
    have e1:(upd H3 dx' (.own xb)) b=some o:=by rw [Zac (nNo e ndx)];exact e
    rw [Zac (nNo e nx)];exact e1
   have hR:Zdw H3 l (Zan rows x y):=⟨vs,hl3,hp3⟩
   have k03:∀ b o,H b=some o→H3 b=some o:=fun b o e=>k3 b o (nNo e hl) e
   cases r0 with
   | none =>
    have g2:Zb0 (Zan rows x y):=by
     cases due with
     | good g=>exact g
    refine .inl ⟨xb,dx',l,Zan rows x y,rfl,uS,Zjv.mono (Zdw.g hR) s34,g2,fun H5 kd5 keep=>⟨rfl,q rfl xb H5 (fun b o e=>?_) kd5⟩⟩
    have e3:=k03 b o e
    exact keep b o (nNo e3 nx) (s34 _ _ e3)
   | some e=>exact .inr ⟨xb,l,Zan rows x y,e,rfl,Zjv.mono (Zdw.g hR) s34,Zr9 g hx hy,due,(re e rfl).mono fun b o z=>s34 _ _ (k03 b o z)⟩
end
end K54
namespace K54
open PySem L2 Md
def Zsm (K:W.Frag) (C:Addr) (Ds:Nat→Addr):Sp:=fun vs H Q E=>∃ (p u:Addr) (rows:List (Str×List Str)) (x:Str) (us:List Str) (r:Option Zkv),vs=[.ref p,.str x,.ref u]∧Za4 C H p rows∧Zb0 rows∧Zw2 K H u us∧Zda x∧(∀ v∈us,Zda v)∧Zg1 (rows++[(x,us)]) r ∧
 (r=none→∀ b H',Zag H H'→Za4 C H' b (rows++[(x,us)])→Q (.ref b) H')∧∀ e,r=some e→Zru Ds (rows++[(x,us)]) E H e
section
variable {P:Program} {w:World} {K:W.Frag} {mg:Str→Option Value} {base:Heap}
theorem Zv2 {f C fR fI:Addr}{Ds:Nat→Addr}{fd fdR fdI:FuncData}(F:Fun K "more" "Kinds.more" Zes f fd) (TC:Zio K C) (list:mg "list"=none) (MR:Zn6 K C "rows" "Kinds.rows" Zer ["self"] fR fdR) (M:Mk K C fI) (mgC:mg "Kinds"=some (.ref C)) (bI:Zc9 K fdI ["self","rows"] [])
  (GI:Zaq P w K mg base (CX1 P w) 4 fI fdI ["self","rows"] (Zsp K C Ds)):Zaq P w K mg base (CX1 P w) 6 f fd ["self","word","ups"] (Zsm K C Ds):=by
 have GR:Zaq P w K mg base (CX1 P w) 1 fR fdR ["self"] (Zpe C):=(Ztd MR.fn TC list).any
 refine F.ok1 Z33 (fun vs H Q E h=>?_) (fun cdv A outer s H vs Q E hr h=>?_)
 ·obtain ⟨p,u,rows,x,us,r,rfl,_⟩:=h
  rfl
 ·obtain ⟨p,u,rows,x,us,r0,rfl,kd,g,hu,sx,su,due,q,re⟩:=h
  obtain ⟨dx,d,a,o,oa,kvs,avs,h1,_⟩:=kd.ex
  have nd:=Z33.nd
  have hr1:Zb6 1 _:=hr.mono (by decide)
  refine ⟨_,pS (Zal (i:=3) nd rfl (Or.inl rfl) (Zb2 (pv 0) TC.cl MR.me GR hr1 MR.b .nil (Zcb Fns.of)))
   (pS (Za3 (Zic PySem.F.plainAttrs_list PySem.F.slot_list_append PySem.F.type_list_append Zdu (pv 3) (pC (Zav (pC (pv 1) (pC (pv 2) Zaa))) Zaa)))
   (Zab (Zam (Zhu M GI hr rfl mgC bI .nil (Zcb Fns.of) (pC (pv 3) Zaa))))),?_⟩
  refine ⟨_,rfl,p,dx,_,rfl,h1,Zwb _ _,p,rows,rfl,kd,g,fun l H1 hl s1 hR=>?_⟩
  obtain ⟨vs,hvs,hpr⟩:=hR
  have gle:=g.le
  refine ⟨_,rfl,.inl ⟨rfl,_,SqL.of hvs⟩,_,rfl,_,rfl,sL (by show 2≤100000;decide),fun t ht=>?_⟩
  have s2:Zag H1 (upd H1 t (.tup [.str x,.ref u])):=Zk9 ht
  have ht2:(upd H1 t (.tup [.str x,.ref u])) t=some (.tup [.str x,.ref u]):=uS
  generalize upd H1 t (.tup [.str x,.ref u])=H2 at s2 ht2
  have hv2:=s2 _ _ hvs
  refine ⟨l,_,_,rfl,rfl,hv2,Za7 (by rw [← hpr.length];omega),?_⟩
  have k3:∀ b o,b≠l→H2 b=some o→(upd H2 l (.lst (vs++[.ref t]))) b=some o:=fun b o hb e=>by rw [Zac hb];exact e
  have s03:Zag H (upd H2 l (.lst (vs++[.ref t]))):=fun b o e=>k3 b o (nNo e hl) (s2 _ _ (s1 _ _ e))
  have tl:t≠l:=fun z=>by rw [z,hvs] at ht;cases ht
  have hl3:(upd H2 l (.lst (vs++[.ref t]))) l=some (.lst (vs++[.ref t])):=uS
  have ht3:=k3 _ _ tl ht2
  have tk:∀ b xs,H1 b=some (.tup xs)→(upd H2 l (.lst (vs++[.ref t]))) b=some (.tup xs):=fun b xs e=>k3 b _ (fun z=>by rw [z,hvs] at e;cases e) (s2 _ _ e)
  generalize upd H2 l (.lst (vs++[.ref t]))=H3 at s03 hl3 ht3 tk
  have hp3:Paired (Z1u K H3) (rows++[(x,us)]) (vs++[.ref t]):=Paired.snoc (Paired.mapP hpr fun r v ⟨t,u,e,e1,e2⟩=>⟨t,u,e,SqT.of (tk _ _ e1),.inl (tk _ _ e2)⟩) ⟨t,u,rfl,SqT.of ht3,hu.mono s03⟩
  refine ⟨_,rfl,?_⟩
  intro xb dx' nx ndx nex
  have s34:Zag H3 (upd (upd H3 dx' (.own xb)) xb (.ins C dx' [])):=fun b o e=>by
   have e1:(upd H3 dx' (.own xb)) b=some o:=by rw [Zac (nNo e ndx)];exact e
   rw [Zac (nNo e nx)];exact e1
  have hG:Zjv K (upd (upd H3 dx' (.own xb)) xb (.ins C dx' [])) l (rows++[(x,us)]):=⟨true,vs++[.ref t],SqL.of (s34 _ _ hl3),Paired.mapP hp3 fun _ _ z=>z.mono s34⟩
  cases r0 with
  | none =>
   have g2:Zb0 (rows++[(x,us)]):=by
    cases due with
    | good g=>exact g
   refine .inl ⟨xb,dx',l,rows++[(x,us)],rfl,uS,hG,g2,fun H5 kd5 keep=>⟨rfl,q rfl xb H5 (fun b o e=>?_) kd5⟩⟩
   have e3:=s03 _ _ e
   exact keep b o (nNo e3 nx) (s34 _ _ e3)
  | some e =>
   refine .inr ⟨xb,l,rows++[(x,us)],e,rfl,hG,fun q' hq=>?_,due,(re e rfl).mono fun b o z=>s34 _ _ (s03 _ _ z)⟩
   rcases List.mem_append.mp hq with z | z
   ·refine ⟨Zdv (g.word q' z),fun v hv=>?_⟩
    obtain ⟨r',hr',e'⟩:=List.mem_map.mp (g.known q' z v hv)
    rw [← e'];exact Zdv (g.word r' hr')
   ·rw [List.mem_singleton.mp z];exact ⟨sx,su⟩
theorem Zvw {f C fC:Addr}{Ds:Nat→Addr}{fd fdC:FuncData}(F:Fun K "tied" "Kinds.tied" Zdq f fd) (TC:Zio K C) (MC:Zqp K C fC fdC) (GC:Zaq P w K mg base (CX1 P w) 3 fC fdC ["self","word"] (Zph C Ds)):Zaq P w K mg base (CX1 P w) 4 f fd ["self","one","other"] (Zw8 C Ds):=by
 refine F.ok1 Z2k (fun vs H Q E h=>?_) (fun cdv A outer s H vs Q E hr h=>?_)
 ·obtain ⟨p,rows,x,y,w',rfl,_⟩:=h
  rfl
 ·obtain ⟨p,rows,x,y,w',rfl,kd,g,sx,sy,la,re⟩:=h
  obtain ⟨dx,d,a,o,oa,kvs,avs,h1,_⟩:=kd.ex
  refine ⟨_,pS (Za3 (Zcn (pv 0) TC.cl MC.me GC hr MC.b .nil (Zcb Fns.of) (pC (pv 1) Zaa))) (pS (Za3 (Zcn (pv 0) TC.cl MC.me GC hr MC.b .nil (Zcb Fns.of) (pC (pv 2) Zaa))) Zbe),?_⟩
  refine ⟨_,rfl,p,dx,_,rfl,h1,Zgg _ _,_,rfl,p,rows,x,rfl,kd,g,sx,fun hx=>?_,fun hx=>?_⟩
  ·rcases la with ⟨z,_⟩ | ⟨_,hy,rfl⟩
   ·exact absurd hx z
   ·exact ⟨_,rfl,p,dx,_,rfl,h1,Zgg _ _,_,rfl,p,rows,_,rfl,kd,g,sy,(fun z=>absurd z hy),fun _=>re⟩
  ·rcases la with ⟨_,rfl⟩ | ⟨z,_⟩
   ·exact re
   ·exact absurd z hx
end
end K54
namespace K54
open PySem L2 Md
def Zdc (H:Hp) (all rows:List (Str×List Str)) (avs:List (Key×V)):Prop :=
 Paired (fun r (p:Key×V)=>p.1=Sum.inr r.1∧∃ (t:Addr) (fs:List Str),p.2=.ref t∧H t=some (.lst (fs.map V.str))∧(∀ y,y∈fs↔Graph.Reach (Zat all) r.1 y)∧fs.length≤all.length) rows avs
theorem Zdc.mono {H H':Hp}{all rows:List (Str×List Str)}{avs:List (Key×V)}(h:Zdc H all rows avs) (s:∀ b xs,H b=some (.lst xs)→H' b=some (.lst xs)):Zdc H' all rows avs :=
 Paired.mapP h fun _ _ z=>⟨z.1,let ⟨t,fs,e,x,y⟩:=z.2;⟨t,fs,e,s _ _ x,y⟩⟩
theorem Zdc.keys:∀ {H:Hp}{all rows:List (Str×List Str)}{kvs:List (Key×V)},Zdc H all rows kvs→kvs.map (·.1)=rows.map fun r=>(Sum.inr r.1:Key)
 | _,_,_,_,.nil=>rfl
 | _,_,_,_,.cons r t=>by rw [List.map_cons,List.map_cons,r.1,Zdc.keys t]
theorem Zdc.val':∀ {H:Hp}{all rows:List (Str×List Str)}{kvs:List (Key×V)},Zdc H all rows kvs→(rows.map (·.1)).Nodup→∀ {r:Str×List Str},r∈rows→∃ (t:Addr) (fs:List Str),Zga kvs (Sum.inr r.1)=some (.ref t)∧H t=some (.lst (fs.map V.str))∧(∀ y,y∈fs↔Graph.Reach (Zat all) r.1 y)∧fs.length≤all.length
 | _,_,_,_,.nil,_,r,h=>nomatch h
 | _,_,q :: rs,p :: ps,.cons z t,nd,r,h=>by
  have nd':(q.1 :: rs.map (·.1)).Nodup:=nd
  obtain ⟨n1,n2⟩:=List.nodup_cons.mp nd'
  obtain ⟨z1,u,fs,z2,z3,z4⟩:=z
  rcases List.mem_cons.mp h with e | h
  ·subst e
   exact ⟨u,fs,by rw [Zf7 z1,z2],z3,z4⟩
  ·have ne:¬ p.1=(Sum.inr r.1:Key):=fun e=>n1 (by
    rw [z1] at e
    have e':q.1=r.1:=by injection e
    rw [e']
    exact List.mem_map.mpr ⟨r,h,rfl⟩)
   obtain ⟨u',fs',h1,h2⟩:=Zdc.val' t n2 h
   exact ⟨u',fs',by rw [Zf8 ne];exact h1,h2⟩
theorem Zdc.val {H:Hp}{all rows:List (Str×List Str)}{kvs:List (Key×V)}(h:Zdc H all rows kvs) (nd:(rows.map (·.1)).Nodup) {r:Str×List Str}(hr:r∈rows):∃ (t:Addr) (fs:List Str),Zga kvs (Sum.inr r.1)=some (.ref t)∧H t=some (.lst (fs.map V.str))∧∀ y,y∈fs↔Graph.Reach (Zat all) r.1 y :=
 let ⟨u,fs,h1,h2,h3,_⟩:=h.val' nd hr;⟨u,fs,h1,h2,h3⟩
def Zpf:Sp:=fun vs H Q _=>∃ (l:Addr) (rows:List (Str×List Str)),vs=[.ref l]∧Zdw H l rows∧Zb0 rows∧∀ a avs H',Zag H H'→H' a=some (.dK avs)→Zdc H' rows rows avs→Q (.ref a) H'
structure GoL (rows:List (Str×List Str)) (x:Str) (fs:List Str) (k:Nat):Prop where
 start:x∈fs
 known:∀ y∈fs,y∈rows.map (·.1)
 nd:fs.Nodup
 reach:∀ y∈fs,Graph.Reach (Zat rows) x y
 closed:∀ y∈fs.take k,∀ u∈Zat rows y,u∈fs
theorem GoL.le {rows:List (Str×List Str)}{x:Str}{fs:List Str}{k:Nat}(h:GoL rows x fs k):fs.length≤rows.length:=by
 have:=Graph.nodup_le h.nd h.known
 rwa [List.length_map] at this
theorem GoL.all {rows:List (Str×List Str)}{x:Str}{fs:List Str}{k:Nat}(h:GoL rows x fs k) (hk:fs.length≤k) (y:Str):y∈fs↔Graph.Reach (Zat rows) x y :=
 ⟨h.reach y,fun r=>Graph.closed_reach (S:=fun y=>y∈fs) (fun z hz u hu=>h.closed z (by rw [List.take_of_length_le hk];exact hz) u hu) r h.start⟩
theorem Zoe {rows:List (Str×List Str)}(g:Zb0 rows) {y u:Str}(hy:y∈rows.map (·.1)) (hu:u∈Zat rows y):u∈rows.map (·.1):=by
 obtain ⟨r,hr,e⟩:=Zct hy
 rw [← e,Zbv g.nd hr] at hu
 exact g.known r hr u hu
section
variable {P:Program} {w:World} {K:W.Frag} {mg:Str→Option Value} {base:Heap}
abbrev nLA:List Str:=["rows","ups","word","some","above","found","at","up"]
theorem Z36:Zak nLA ["rows"] (Zad Zeq):=⟨rfl,rfl,rfl,by decide +kernel,rfl,by decide +kernel,by decide +kernel⟩
theorem Ztf {f:Addr}{fd:FuncData}(F:Def K mg "_law_above" Zeq ["rows"] f fd) (len:mg "len"=none):Zaq P w K mg base CX0 1 f fd ["rows"] Zpf:=by
 refine F.fn.ok Z36 (fun vs H Q E h=>?_) (fun cdv A outer s H vs Q E hr h=>?_)
 ·obtain ⟨l,rows,rfl,_⟩:=h
  rfl
 ·obtain ⟨l,rows,rfl,hR,g,q⟩:=h
  have nd:=Z36.nd
  have hu:=Zgn hr
  refine ⟨_,pS (Zal (i:=1) nd rfl (Or.inl rfl) Zd8)
   (pS (Zbn PassesOwn.never rfl (Zb1 (pv 0)) (Zfl rfl (gC (Zai (i:=2) nd rfl (Or.inl rfl)) (gC (Zai (i:=3) nd rfl (Or.inl rfl)) Zdz)))
    (Zab (Zdy hu (pv 1) (pv 2) (pv 3) rfl)))
   (pS (Zal (i:=4) nd rfl (Or.inl rfl) Zd8)
   (pS (Zbn PassesOwn.never rfl (Zb1 (pv 0)) (Zfl rfl (gC (Zai (i:=2) nd rfl (Or.inl rfl)) (gC (Zai (i:=3) nd rfl (Or.inl rfl)) Zdz)))
    (pS (Zal (i:=5) nd rfl (Or.inl rfl) (Zd0 (pC (pv 2) Zaa)))
    (pS (Zal (i:=6) nd rfl (Or.inl rfl) Zae)
    (pS (Zgf PassesOwn.never (Zap Zta (pv 6) (Zaj Zca (by rfl) len PySem.boot_len (pC (pv 5) Zaa)) (Zaz _))
     (pS (Zbn PassesOwn.never rfl (Zhe (Zgu hu (pv 1) (Zbd Za9 (pv 5) (pv 6) (fun _ _=>rfl)) (fun _ _=>rfl))) (Zai (i:=7) nd rfl (Or.inl rfl))
      (Zab (Zau (Zap Zew (pv 7) (pv 5) (by with_unfolding_all rfl)) (Zab (Za3 (Zic PySem.F.plainAttrs_list PySem.F.slot_list_append PySem.F.type_list_append Zdu (pv 5) (pC (pv 7) Zaa)))) Zah)))
     (Zab (Zal (i:=6) nd rfl (Or.inl rfl) (Zbs Zkj (pv 6) Zae)))))
    (Zab (Zdy hu (pv 4) (pv 2) (pv 5) rfl))))))
   (Zab (Zam (pv 4)))))),?_⟩
  have gle:=g.le
  obtain ⟨vs,hvs,hpr⟩:=hR
  intro d hd
  have s1:Zag H (upd H d (.dK [])):=fun b o e=>by rw [Zac (nNo e hd)];exact e
  refine ⟨_,rfl,l,rfl,⟨_,SqL.of (s1 _ _ hvs)⟩,Za1 (Za8 (xs:=vs)) (fun i σ H'=>∃ (kvs:List (Key×V)) (a c:Option V),σ=[some (.ref l),some (.ref d),a,c,none,none,none,none]∧Zag H H'∧H' d=some (.dK kvs)∧Zj1 H' (rows.take i) kvs)
   ⟨[],none,none,rfl,s1,uS,by rw [List.take_zero];exact .nil⟩ (fun i σ H' _ ⟨_,_,_,_,s,_⟩=>SqL.of (s _ _ hvs)) ?_ ?_⟩
  ·rintro i v σ H' hi ⟨kvs,a,c,rfl,s3,hdk,hU⟩
   obtain ⟨r,hr',t,u,rfl,ht,hug⟩:=Zar hpr hi
   refine ⟨t,_,rfl,SqT.of (s3 _ _ ht),rfl,_,_,rfl,_,_,rfl,rfl,?_⟩
   have hnew:(Sum.inr r.1:Key)∉kvs.map (·.1):=by rw [hU.keys];exact Zeb g.nd hr'
   have hil:(rows.take i).length≤24:=by rw [List.length_take];omega
   have hkl:kvs.length=(rows.take i).length:=(Paired.length hU).symm
   refine ⟨_,rfl,_,rfl,_,rfl,d,_,rfl,Zkw.k (k:=Sum.inr r.1) hdk (Za7 (by omega)),?_⟩
   have tk:∀ b xs,H' b=some (.tup xs)→(upd H' d (.dK (Zfn kvs (Sum.inr r.1) (.ref u)))) b=some (.tup xs):=fun b xs e=>by
    rw [Zac (fun z=>by rw [z,hdk] at e;cases e)];exact e
   refine ⟨_,_,_,rfl,fun b o e=>by rw [Zac (nNo e hd)];exact s3 _ _ e,uS,?_⟩
   have sn:Zj1 (upd H' d (.dK (Zfn kvs (Sum.inr r.1) (.ref u)))) (rows.take i++[r]) (kvs++[(Sum.inr r.1,V.ref u)]):=Paired.snoc (hU.mono tk) ⟨rfl,u,rfl,tk u _ (s3 _ _ hug)⟩
   rw [← Zff _ (Zbl hnew)] at sn
   rw [List.take_add_one,hr']
   exact sn
  ·rintro σ H2 ⟨kvs,a,c,rfl,s3,hdk,hU⟩
   have hvl:=hpr.length
   rw [← hvl,List.take_length] at hU
   intro aa haa
   have s4:Zag H2 (upd H2 aa (.dK [])):=fun b o e=>by rw [Zac (nNo e haa)];exact e
   have aaH:H aa=none:=s3.free haa
   have daa:d≠aa:=nNo hdk haa
   have hU4:Zj1 (upd H2 aa (.dK [])) rows kvs:=hU.mono fun b xs e=>s4 _ _ e
   have hd4:=s4 _ _ hdk
   have s04:=s3.trans s4
   refine ⟨_,rfl,l,rfl,⟨_,SqL.of (s04 _ _ hvs)⟩,Za1 (Za8 (xs:=vs)) (fun i σ H'=>∃ (avs:List (Key×V)) (a b c e f:Option V),σ=[some (.ref l),some (.ref d),a,b,some (.ref aa),c,e,f]∧(∀ b o,b≠aa→H2 b=some o→H' b=some o)∧H' aa=some (.dK avs)∧Zdc H' rows (rows.take i) avs)
    ⟨[],_,_,_,_,_,rfl,fun b o hb e=>by rw [Zac hb];exact e,uS,by rw [List.take_zero];exact .nil⟩ (fun i σ H' _ ⟨_,_,_,_,_,_,_,k,_⟩=>SqL.of (k _ _ (nNo hvs aaH) (s3 _ _ hvs))) ?_ ?_⟩
   ·rintro i v σ H' hi ⟨avs,a,b,c,e,f',rfl,k1,haa1,hA⟩
    obtain ⟨r,hr',t,u,rfl,ht,hug⟩:=Zar hpr hi
    have hmem:r∈rows:=List.mem_of_getElem? hr'
    have keep1:∀ b o,H b=some o→H' b=some o:=fun b o e=>k1 b o (nNo e aaH) (s3 _ _ e)
    refine ⟨t,_,rfl,SqT.of (keep1 _ _ ht),rfl,_,_,rfl,_,_,rfl,rfl,?_⟩
    refine ⟨_,rfl,sL (by show 1≤100000;decide),fun fa hfa=>?_⟩
    have sF:∀ {H5:Hp},Zag H' H5→Zj1 H5 rows kvs:=fun {H5} s=>hU.mono fun b xs e=>s _ _ (k1 b _ (fun z=>by rw [z,haa] at e;cases e) e)
    have dF:∀ {H5:Hp},Zag H' H5→H5 d=some (.dK kvs):=fun {H5} s=>s _ _ (k1 _ _ daa hdk)
    refine ⟨fun m σ H5=>∃ (fs:List Str) (k:Nat) (f:Option V),σ=[some (.ref l),some (.ref d),some (.str r.1),some (.ref u),some (.ref aa),some (.ref fa),some (.int (k:Int)),f]∧Zag H' H5∧H5 fa=some (.lst (fs.map V.str))∧GoL rows r.1 fs k∧k≤fs.length∧m + k=rows.length,
     ⟨rows.length,[r.1],0,_,rfl,fun b o e=>by rw [Zac (nNo e hfa)];exact e,uS,⟨by simp,fun y h=>by rw [List.mem_singleton.mp h];exact List.mem_map.mpr ⟨r,hmem,rfl⟩,by simp,fun y h=>by rw [List.mem_singleton.mp h];exact .refl _,fun y h=>by simp at h⟩,by simp,rfl⟩,?_⟩
    rintro m σ H5 ⟨fs,k,f2,rfl,s5,hf5,go,hk,hm⟩
    have flen:=go.le
    refine ⟨_,rfl,_,rfl,_,_,rfl,.inl ⟨_,SqL.of hf5,rfl⟩,_,_,rfl,rfl,_,rfl,?_⟩
    rw [List.length_map]
    refine Zek (fun hlt=>?_) (fun hlt=>?_)
    ·have hlt:k<fs.length:=by have:=of_decide_eq_true hlt;omega
     refine ⟨fun σ' H6=>∃ m',m'<m∧∃ (fs:List Str) (k:Nat) (f:Option V),σ'=[some (.ref l),some (.ref d),some (.str r.1),some (.ref u),some (.ref aa),some (.ref fa),some (.int (k:Int)),f]∧Zag H' H6∧H6 fa=some (.lst (fs.map V.str))∧GoL rows r.1 fs k∧k≤fs.length∧m' + k=rows.length,fun _ _ h=>h,?_⟩
     have hat:fs[k]?=some fs[k]:=List.getElem?_eq_getElem hlt
     generalize hhere:fs[k]=here at hat
     have hin:here∈fs:=List.mem_of_getElem? hat
     obtain ⟨r2,hr2,er⟩:=Zct (go.known here hin)
     obtain ⟨t2,hvt,ht2⟩:=(sF s5).val g.nd hr2
     rw [er] at hvt
     have uo:Zat rows here=r2.2:=by rw [← er];exact Zbv g.nd hr2
     have hix:atI (fs.map V.str) (k:Int)=some (V.str here):=Zch (by rw [List.getElem?_map,hat];rfl)
     refine ⟨_,rfl,_,rfl,_,rfl,fa,_,_,_,rfl,rfl,SqL.of hf5,hix,d,_,rfl,(by rw [← hvt];exact Zf5.k (k:=Sum.inr here) (dF s5)),t2,rfl,⟨_,SqT.of ht2⟩,?_⟩
     have ht2f:t2≠fa:=fun z=>by rw [z,hf5] at ht2;cases ht2
     refine Za1 (Zd6 (xs:=r2.2.map V.str)) (fun j σ H6=>∃ (ex:List Str) (f:Option V),σ=[some (.ref l),some (.ref d),some (.str r.1),some (.ref u),some (.ref aa),some (.ref fa),some (.int (k:Int)),f]∧(∀ b o,b≠fa→H5 b=some o→H6 b=some o)∧H6 fa=some (.lst ((fs++ex).map V.str)) ∧
      (∀ y∈fs++ex,y∈rows.map (·.1))∧(fs++ex).Nodup∧(∀ y∈fs++ex,Graph.Reach (Zat rows) r.1 y)∧∀ z∈r2.2.take j,z∈fs++ex)
      ⟨[],_,rfl,fun b o _ e=>e,by rw [List.append_nil];exact hf5,by rw [List.append_nil];exact go.known,by rw [List.append_nil];exact go.nd,by rw [List.append_nil];exact go.reach,fun z h=>by simp at h⟩ (fun j σ H6 _ ⟨_,_,_,k6,_⟩=>SqT.of (k6 _ _ ht2f ht2)) ?_ ?_
     ·rintro j v σ H6 hj ⟨ex,f3,rfl,k6,hf6,kn,ndx,rch,seen⟩
      obtain ⟨z,hz,rfl⟩:=Zis hj
      have hzu:z∈Zat rows here:=by rw [uo];exact List.mem_of_getElem? hz
      have hle:(fs++ex).length≤24:=by
       have:=Graph.nodup_le ndx kn
       rw [List.length_map] at this
       omega
      refine ⟨_,rfl,_,rfl,fa,_,rfl,.inl (SqL.of hf6),rfl,Zcg _,_,rfl,?_⟩
      show if (!inV (.str z) ((fs++ex).map V.str))=true then _ else _
      rw [Zdj]
      have sj:∀ y∈r2.2.take (j + 1),y∈r2.2.take j∨y=z:=fun y h=>by
       rw [List.take_add_one,hz] at h
       rcases List.mem_append.mp h with h | h
       ·exact .inl h
       ·simp at h;exact .inr h
      refine Zek (fun hn=>?_) (fun hn=>?_)
      ·have hn:z∉fs++ex:=fun c=>by rw [decide_eq_true c] at hn;cases hn
       refine ⟨_,rfl,.inl ⟨rfl,_,SqL.of hf6⟩,_,rfl,fa,_,_,rfl,rfl,hf6,Za7 (by rw [List.length_map];omega),?_⟩
       refine ⟨ex++[z],_,rfl,fun b o hb e=>by rw [Zac hb];exact k6 b o hb e,?_,?_,?_,?_,?_⟩
       ·have e:(fs++(ex++[z])).map V.str=(fs++ex).map V.str++[V.str z]:=by simp
        rw [uS,e]
       ·intro y hy
        rw [← List.append_assoc] at hy
        rcases List.mem_append.mp hy with h | h
        ·exact kn y h
        ·rw [List.mem_singleton.mp h]
         exact Zoe g (go.known here hin) hzu
       ·rw [← List.append_assoc]
        refine List.nodup_append.mpr ⟨ndx,by simp,fun a ha b hb e=>?_⟩
        rw [List.mem_singleton.mp hb] at e
        rw [e] at ha
        exact hn ha
       ·intro y hy
        rw [← List.append_assoc] at hy
        rcases List.mem_append.mp hy with h | h
        ·exact rch y h
        ·rw [List.mem_singleton.mp h]
         exact (go.reach here hin).snoc hzu
       ·intro y hy
        rw [← List.append_assoc]
        rcases sj y hy with h | h
        ·exact List.mem_append.mpr (.inl (seen y h))
        ·rw [h];simp
      ·have hn:z∈fs++ex:=Classical.byContradiction fun c=>hn (by rw [decide_eq_false c];rfl)
       refine ⟨ex,_,rfl,k6,hf6,kn,ndx,rch,fun y hy=>?_⟩
       rcases sj y hy with h | h
       ·exact seen y h
       ·rw [h];exact hn
     ·rintro σ H6 ⟨ex,f3,rfl,k6,hf6,kn,ndx,rch,seen⟩
      rw [List.length_map,List.take_length] at seen
      refine ⟨_,rfl,_,_,rfl,rfl,m - 1,by omega,fs++ex,k + 1,_,rfl,fun b o e=>k6 b o (nNo e hfa) (s5 _ _ e),hf6,⟨List.mem_append.mpr (.inl go.start),kn,ndx,rch,?_⟩,by rw [List.length_append];omega,by omega⟩
      intro y hy z hz
      have htk:(fs++ex).take (k + 1)=fs.take k++[here]:=by
       rw [List.take_append_of_le_length (by omega),List.take_add_one,hat]
       rfl
      rw [htk] at hy
      rcases List.mem_append.mp hy with h | h
      ·exact List.mem_append.mpr (.inl (go.closed y h z hz))
      ·rw [List.mem_singleton.mp h,uo] at hz
       exact seen z hz
    ·have hge:fs.length≤k:=by
      have:¬ ((k:Int)<(fs.length:Int)):=fun z=>hlt (decide_eq_true z)
      omega
     have aa5:=s5 _ _ haa1
     have hnew:(Sum.inr r.1:Key)∉avs.map (·.1):=by rw [hA.keys];exact Zeb g.nd hr'
     have hil:(rows.take i).length≤24:=by rw [List.length_take];omega
     have hkl:avs.length=(rows.take i).length:=(Paired.length hA).symm
     refine ⟨_,rfl,_,rfl,_,rfl,aa,_,rfl,Zkw.k (k:=Sum.inr r.1) aa5 (Za7 (by omega)),?_⟩
     have lk:∀ b xs,H5 b=some (.lst xs)→(upd H5 aa (.dK (Zfn avs (Sum.inr r.1) (.ref fa)))) b=some (.lst xs):=fun b xs e=>by
      rw [Zac (fun z=>by rw [z,aa5] at e;cases e)];exact e
     refine ⟨_,_,_,_,_,_,rfl,fun b o hb e=>by rw [Zac hb];exact s5 _ _ (k1 b o hb e),uS,?_⟩
     have sn:Zdc (upd H5 aa (.dK (Zfn avs (Sum.inr r.1) (.ref fa)))) rows (rows.take i++[r]) (avs++[(Sum.inr r.1,V.ref fa)]):=Paired.snoc ((hA.mono fun b xs e=>s5 _ _ e).mono lk) ⟨rfl,fa,fs,rfl,lk _ _ hf5,go.all hge,go.le⟩
     rw [← Zff _ (Zbl hnew)] at sn
     rw [List.take_add_one,hr']
     exact sn
   ·rintro σ H' ⟨avs,a,b,c,e,f',rfl,k1,haa1,hA⟩
    rw [← hvl,List.take_length] at hA
    exact ⟨_,rfl,q aa avs H' (fun b o e=>k1 b o (nNo e aaH) (s3 _ _ e)) haa1 hA⟩
end
end K54
namespace K54
open PySem L2 Md
def Zh3 (rows:List (Str×List Str)) (n:Nat) (xs:List Str):Bool:=decide (xs.length=n)&&xs.all fun x=>decide (x∈rows.map (·.1))
structure Zba (rows:List (Str×List Str)) (n:Nat) (xs:List Str):Prop where
 len:xs.length=n
 known:∀ x∈xs,x∈rows.map (·.1)
theorem Zba.is {rows:List (Str×List Str)}{n:Nat}{xs:List Str}(h:Zba rows n xs):Zh3 rows n xs=true:=by
 unfold Zh3
 rw [decide_eq_true h.len,Bool.true_and,List.all_eq_true]
 exact fun x hx=>decide_eq_true (h.known x hx)
def Zih (C:Addr):Sp:=fun vs H Q _=>∃ (p t:Addr) (n:Nat) (rows:List (Str×List Str)) (xs:List Str),vs=[.ref p,.int n,.ref t]∧Za4 C H p rows∧Zb0 rows∧H t=some (.tup (xs.map V.str))∧xs.length≤1000∧∀ H',Zag H H'→Q (.bl (Zh3 rows n xs)) H'
def Ztv (rows:List (Str×List Str)):V→V
 | .str x=>.bl (decide (x∈rows.map (·.1)))
 | _=>.non
theorem Zrg (rows:List (Str×List Str)) (xs:List Str):(((xs.map V.str).filter fun _=>true).map (Ztv rows))=(xs.map fun x=>decide (x∈rows.map (·.1))).map V.bl:=by
 rw [List.filter_eq_self.mpr (fun _ _=>rfl),List.map_map,List.map_map]
 rfl
theorem Z2v:(["word","kinds"]:List Str).Nodup:=by decide +kernel
section
variable {P:Program} {w:World} {K:W.Frag} {mg:Str→Option Value} {base:Heap}
abbrev nIC:List Str:=["kinds","places","call"]
theorem Z5y:Zak nIC nIC (Zad Zcp):=⟨rfl,rfl,rfl,by decide +kernel,rfl,by decide +kernel,by decide +kernel⟩
theorem Zhw {f C fH:Addr}{fd fdH:FuncData}(F:Def K mg "is_call" Zcp nIC f fd) (len:mg "len"=none) (all:mg "all"=none) (TC:Zio K C) (MH:Zrw K C fH fdH):Zaq P w K mg base CX0 2 f fd nIC (Zih C):=by
 have GH:Zaq P w K mg base CX0 1 fH fdH ["self","word"] (Zvd C):=Ztg MH.fn TC
 refine F.fn.ok Z5y (fun vs H Q E h=>?_) (fun cdv A outer s H vs Q E hr h=>?_)
 ·obtain ⟨p,t,n,rows,xs,rfl,_⟩:=h
  rfl
 ·obtain ⟨p,t,n,rows,xs,rfl,kd,g,ht,hz,q⟩:=h
  obtain ⟨dx,d,a,o,oa,kvs,avs,h1,_⟩:=kd.ex
  have hr1:Zb6 1 _:=hr.mono (by decide)
  refine' ⟨_,Zab (Zam (Zkh ?ea (Zi5 ?eb))),?_⟩
  case ea=>exact Zeg Ze9 (Zaj Zaw (by rfl) len PySem.boot_len (pC (pv 2) Zaa)) (pv 1) (Zaz _)
  case eb=>exact Zaj (Zin rfl) (by rfl) all PyProof.Rows.boot_all (pC
    (Zb3 ["word"] ["kinds"] [0] (fun _=>Za5 (osc:=Zad Zcp) (on:=nIC) (by decide +kernel) rfl rfl rfl) (Zhe (pv 2)) (fun C s H fp=>Zai (i:=0) Z2v rfl (Or.inl rfl) (Or.inr rfl)) (fun C s H fp=>Zcm)
     (fun C s H fp=>Zcn (pv 1) TC.cl MH.me GH hr1 MH.b .nil Zhh (pC (pv 0) Zaa))) Zaa)
  refine ⟨_,rfl,t,_,rfl,.inr (SqT.of ht),_,rfl,rfl,_,rfl,?_⟩
  have e:decide (V.int ((xs.map V.str).length:Nat)=V.int n)=decide (xs.length=n):=by
   rw [List.length_map]
   exact decide_eq_decide.mpr ⟨fun z=>by injection z with z;omega,fun z=>by rw [z]⟩
  rw [e]
  refine Zek (fun h=>?_) (fun h=>?_)
  ·refine ⟨_,rfl,t,rfl,⟨_,SqT.of ht⟩,Zf2 (Zd6 (xs:=xs.map V.str)) (sL (by rw [List.length_map];omega)) (fun _=>true) (Ztv rows) (fun D ys hD=>SqT.of (by rw [Zac (nNo ht hD)];exact ht)) ?_ ?_ ?_⟩
   ·intro D ys v R _ _ hR
    exact hR
   ·intro D ys v R hD hv _ hR
    obtain ⟨x,hx,rfl⟩:=List.mem_map.mp hv
    have s2:Zag H (upd H D (.lst ys)):=Zej hD
    exact ⟨_,rfl,p,dx,_,rfl,s2 _ _ h1,Ztp _ _,_,rfl,p,rows,x,rfl,kd.mono s2,g,hR⟩
   ·intro D hD
    refine ⟨D,_,rfl,SqL.of (by rw [uS,Zrg]),?_⟩
    have q':=q _ (Zej (o:=.lst (((xs.map V.str).filter fun _=>true).map (Ztv rows))) hD)
    unfold Zh3 at q'
    rw [h,Bool.true_and] at q'
    show Q (.bl ((xs.map fun x=>decide (x∈rows.map (·.1))).all id)) _
    rw [List.all_map]
    exact q'
  ·have q':=q H (Zag.refl H)
   unfold Zh3 at q'
   rw [show decide (xs.length=n)=false by simpa using h,Bool.false_and] at q'
   exact q'
def Zas (H:Hp) (ds:List (List Str)) (vs:List V):Prop:=Paired (fun (d:List Str) v=>∃ t,v=V.ref t∧H t=some (.tup (d.map V.str))) ds vs
theorem Zas.mono {H H':Hp}{ds:List (List Str)}{vs:List V}(h:Zas H ds vs) (s:Zag H H'):Zas H' ds vs:=Paired.mapP h fun _ _ ⟨t,e,x⟩=>⟨t,e,s _ _ x⟩
structure Zao (rows:List (Str×List Str)) (n:Nat) (ds:List (List Str)):Prop where
 call:∀ d∈ds,Zba rows n d
 nd:ds.Nodup
 few:ds.length≤64
def Zlu (d:List Str):List Key:=d.map Sum.inr
theorem Zp9 (d:List Str):(Zlu d).map kV=d.map V.str:=by
 unfold Zlu
 rw [List.map_map]
 rfl
theorem Zwk {d e:List Str}(h:Zlu d=Zlu e):d=e:=by
 unfold Zlu at h
 exact List.map_inj_right (fun a b z=>by injection z) |>.mp h
theorem Zj7 {ds:List (List Str)}(nd:ds.Nodup) {i:Nat}{d:List Str}(h:ds[i]?=some d):Zlu d∉(ds.take i).map Zlu:=by
 intro m
 obtain ⟨e,he,q⟩:=List.mem_map.mp m
 rw [Zwk q] at he
 exact Zto nd h he
def Zh5 (K:W.Frag) (C:Addr):Sp:=fun vs H Q _=>∃ (p l:Addr) (n:Nat) (b:Bool) (rows:List (Str×List Str)) (ds:List (List Str)) (us:List V),vs=[.ref p,.int n,.ref l]∧Za4 C H p rows∧Zb0 rows∧SqB K b H l us∧Zas H ds us∧Zao rows n ds∧n≤4∧∀ H',Zag H H'→Q .non H'
abbrev nCD:List Str:=["kinds","places","deeds","seen","number","call"]
theorem Z10:Zak nCD ["kinds","places","deeds"] (Zad Zci):=⟨rfl,rfl,rfl,by decide +kernel,rfl,by decide +kernel,by decide +kernel⟩
theorem Zjy {f C fI fH:Addr}{fd fdI fdH:FuncData}(F:Def K mg "check_deeds" Zci ["kinds","places","deeds"] f fd) (DI:Def K mg "is_call" Zcp nIC fI fdI) (enum:mg "enumerate"=none) (len:mg "len"=none) (all:mg "all"=none) (TC:Zio K C) (MH:Zrw K C fH fdH):
  Zaq P w K mg base CX0 3 f fd ["kinds","places","deeds"] (Zh5 K C):=by
 have GI:Zaq P w K mg base CX0 2 fI fdI nIC (Zih C):=Zhw DI len all TC MH
 refine F.fn.ok Z10 (fun vs H Q E h=>?_) (fun cdv A outer s H vs Q E hr h=>?_)
 ·obtain ⟨p,l,n,b,rows,ds,us,rfl,_⟩:=h
  rfl
 ·obtain ⟨p,l,n,b,rows,ds,us,rfl,kd,g,hl,hD,gd,hn,q⟩:=h
  have nd:=Z10.nd
  have hu:=Zgn hr
  refine ⟨_,pS (Zal (i:=3) nd rfl (Or.inl rfl) Zpv)
   (Zab (Zbn PassesOwn.never rfl (Zog (by rfl) enum (pC (pv 2) Zaa)) (Zfl rfl (gC (Zai (i:=4) nd rfl (Or.inl rfl)) (gC (Zai (i:=5) nd rfl (Or.inl rfl)) Zdz)))
    (pS (Zau (Zb4 (Zce (Zaf DI GI hr (pC (pv 0) (pC (pv 1) (pC (pv 5) Zaa)))))) Zbe Zah)
    (pS (Zau (Ze6 (Zh6 hu (pv 5) (pv 3))) Zbe Zah)
    (Zab (Zdy hu (pv 3) (pv 5) Ze8 rfl)))))),?_⟩
  intro d hd
  have s0:Zag H (upd H d (.dT [])):=Zej hd
  have hvl:=hD.length
  have few:=gd.few
  refine ⟨_,rfl,b,l,us,rfl,hl.mono s0,Zjl (fun i σ H'=>∃ (kvs:List (List Key×V)) (a c:Option V),σ=[some (.ref p),some (.int n),some (.ref l),some (.ref d),a,c]∧Zag H H'∧H' d=some (.dT kvs)∧kvs.map (·.1)=(ds.take i).map Zlu)
   ⟨[],none,none,rfl,s0,uS,by simp⟩ (fun i σ H' _ ⟨_,_,_,_,s,_⟩=>hl.mono s) ?_ ?_⟩
  ·rintro i pr t σ H' hi ⟨kvs,a,c,rfl,s1,hdk,hk⟩ ht0
   obtain ⟨e1,hx⟩:=Zf0 hi
   obtain ⟨dd,hdd,t2,e2,ht2⟩:=Zar hD hx
   refine Zqc ?_
   have s2:Zag H' (upd H' t (.tup [pr.1,pr.2])):=Zej ht0
   have hmem:dd∈ds:=List.mem_of_getElem? hdd
   have gc:=gd.call dd hmem
   rw [e2]
   show Z18 _ _ _ [some (.ref p),some (.int n),some (.ref l),some (.ref d),some pr.1,some (.ref t2)] _
   have s02:=s1.trans s2
   refine ⟨_,rfl,_,rfl,_,rfl,p,t2,n,rows,dd,rfl,kd.mono ?_,g,?_,by have:=gc.len;omega,fun H3 s3=>⟨_,rfl,?_⟩⟩
   ·rw [← e2];exact s02
   ·rw [← e2];exact s02 _ _ ht2
   rw [gc.is]
   refine Zbz ?_
   rw [← e2] at s3
   have s03:=s02.trans s3
   have hd3:H3 d=some (.dT kvs):=s3 _ _ (s2 _ _ hdk)
   have ht3:H3 t2=some (.tup ((Zlu dd).map kV)):=by rw [Zp9];exact s03 _ _ ht2
   refine ⟨_,rfl,_,rfl,d,_,rfl,Zf5.t (k:=Zlu dd) hd3 ht3,_,rfl,?_⟩
   have hnew:Zlu dd∉kvs.map (·.1):=by rw [hk];exact Zj7 gd.nd hdd
   rw [Zhq hnew]
   refine Zbz ?_
   have hkl:kvs.length=(ds.take i).length:=by have:=congrArg List.length hk;simpa using this
   have hil:(ds.take i).length≤64:=by rw [List.length_take];omega
   refine ⟨_,rfl,_,rfl,d,_,rfl,Zkw.t (k:=Zlu dd) hd3 ht3 (Za7 (by omega)),?_⟩
   refine ⟨_,_,_,rfl,fun b o e=>?_,uS,?_⟩
   ·rw [Zac (nNo e hd)];exact s03 _ _ e
   ·rw [Zke hnew,hk,List.take_add_one,hdd,List.map_append]
    rfl
  ·rintro σ H' ⟨kvs,a,c,rfl,s1,hdk,hk⟩
   exact q H' s1
end
end K54
namespace K54
open PySem L2 Md
theorem Z6r:¬ (("book":Str)="stands"):=by decide +kernel
theorem Z6q:¬ (("book":Str)="width"):=by decide +kernel
theorem Z6p:¬ (("width":Str)="stands"):=by decide +kernel
def Zfo (k t:Addr) (n:Nat):List (Str×V):=Zgt "stands" (.ref t) (Zgt "width" (.int n) (Zgt "book" (.ref k) []))
theorem Zlx (k t:Addr) (n:Nat):(Zfo k t n).lookup ("book":Str)=some (.ref k):=by
 unfold Zfo
 rw [Zay,if_neg Z6r,Zay,if_neg Z6q,Zay,if_pos rfl]
theorem Zjm (k t:Addr) (n:Nat):(Zfo k t n).lookup ("width":Str)=some (.int n):=by
 unfold Zfo
 rw [Zay,if_neg Z6p,Zay,if_pos rfl]
theorem Zot (k t:Addr) (n:Nat):(Zfo k t n).lookup ("stands":Str)=some (.ref t):=by
 unfold Zfo
 rw [Zay,if_pos rfl]
theorem Zfj (k t:Addr) (n:Nat) {m:Str} (h1:¬ m="stands") (h2:¬ m="width") (h3:¬ m="book"):(Zfo k t n).lookup m=none:=by
 unfold Zfo
 rw [Zay,if_neg h1,Zay,if_neg h2,Zay,if_neg h3]
 rfl
theorem Zfx (k t:Addr) (n:Nat):(Zfo k t n).lookup ("kinds":Str)=none:=Zfj k t n (by decide +kernel) (by decide +kernel) (by decide +kernel)
theorem Zq9 (k t:Addr) (n:Nat):(Zfo k t n).lookup ("places":Str)=none:=Zfj k t n (by decide +kernel) (by decide +kernel) (by decide +kernel)
theorem Zm9 (k t:Addr) (n:Nat):(Zfo k t n).lookup ("deeds":Str)=none:=Zfj k t n (by decide +kernel) (by decide +kernel) (by decide +kernel)
structure Za6 (C B:Addr) (H:Hp) (p k:Addr) (rows:List (Str×List Str)) (n:Nat) (ds:List (List Str)):Prop where
 ex:∃ (dx t:Addr) (us:List V),H p=some (.ins B dx (Zfo k t n))∧Za4 C H k rows∧H t=some (.tup us)∧Zas H ds us
theorem Za6.mono {C B:Addr}{H H':Hp}{p k:Addr}{rows:List (Str×List Str)}{n:Nat}{ds:List (List Str)}(h:Za6 C B H p k rows n ds) (s:Zag H H'):Za6 C B H' p k rows n ds:=by
 obtain ⟨dx,t,us,h1,h2,h3,h4⟩:=h.ex
 exact ⟨dx,t,us,s _ _ h1,h2.mono s,s _ _ h3,h4.mono s⟩
structure Zho (K:W.Frag) (B:Addr):Prop where
 cl:Cls K B
 nB:Zf3 K B "book"
 nW:Zf3 K B "width"
 nS:Zf3 K B "stands"
structure Zw3 (mg:Str→Option Value):Prop where
 places:∃ t,mg "MOST_PLACES"=some (.int 4 t)
 deeds:∃ t,mg "MOST_DEEDS"=some (.int 64 t)
 len:mg "len"=none
 all:mg "all"=none
 tuple:mg "tuple"=none
 list:mg "list"=none
 enum:mg "enumerate"=none
def Zk7 (K:W.Frag) (C B:Addr):Sp:=fun vs H Q _=>∃ (p dx k l:Addr) (n:Nat) (rows:List (Str×List Str)) (ds:List (List Str)) (us:List V),vs=[.ref p,.ref k,.int n,.ref l]∧H p=some (.ins B dx [])∧Za4 C H k rows∧Zb0 rows∧(SqL K H l us∨H l=some (.tup us))∧Zas H ds us∧Zao rows n ds∧1≤n∧n≤4 ∧
 ∀ H',Za6 C B H' p k rows n ds→(∀ b o,b≠p→H b=some o→H' b=some o)→Q .non H'
theorem Zkn {C p:Addr}{H H':Hp}{k:Addr}{rows:List (Str×List Str)}{o:HO}(h:Za4 C H k rows) (hp:H p=some o) (s:∀ b o,b≠p→H b=some o→H' b=some o) (nk:k≠p) (no:∀ o' u,o≠.frz o' u) (nt:∀ xs,o≠.tup xs):Za4 C H' k rows:=by
 obtain ⟨dx,d,a,o1,oa,kvs,avs,h1,h2,h3,h4⟩:=h.ex
 have ne:∀ {b o' u},H b=some (.frz o' u)→b≠p:=fun {b o' u} e z=>by rw [z,hp] at e;exact no _ _ (Option.some.inj e)
 have net:∀ {b xs},H b=some (.tup xs)→b≠p:=fun {b xs} e z=>by rw [z,hp] at e;exact nt _ (Option.some.inj e)
 exact ⟨dx,d,a,o1,oa,kvs,avs,s _ _ nk h1,⟨s _ _ (ne h2.at_) h2.at_,h2.ups.mono fun b xs e=>s _ _ (net e) e⟩,s _ _ (ne h3) h3,h4.mono fun b o' fk e=>s _ _ (ne e) e⟩
section
variable {P:Program} {w:World} {K:W.Frag} {mg:Str→Option Value} {base:Heap}
abbrev nBI:List Str:=["self","kinds","places","deeds"]
theorem Z4h:Zak nBI nBI (Zad Zcv):=⟨rfl,rfl,rfl,by decide +kernel,rfl,by decide +kernel,by decide +kernel⟩
theorem Zv6 {f B C fD fI fH:Addr}{fd fdD fdI fdH:FuncData}(F:Fun K "__init__" "Board.__init__" Zcv f fd) (T:Zw3 mg) (TB:Zho K B) (TC:Zio K C) (DD:Def K mg "check_deeds" Zci ["kinds","places","deeds"] fD fdD) (DI:Def K mg "is_call" Zcp nIC fI fdI) (MH:Zrw K C fH fdH) (hBC:B≠C):
  Zaq P w K mg base CX0 4 f fd nBI (Zk7 K C B):=by
 have GD:Zaq P w K mg base CX0 3 fD fdD ["kinds","places","deeds"] (Zh5 K C):=Zjy DD DI T.enum T.len T.all TC MH
 refine F.ok Z4h (fun vs H Q E h=>?_) (fun cdv A outer s H vs Q E hr h=>?_)
 ·obtain ⟨p,dx,k,l,n,rows,ds,us,rfl,_⟩:=h
  rfl
 ·obtain ⟨p,dx,k,l,n,rows,ds,us,rfl,hp,kd,g,hl,hD,gd,n1,n4,q⟩:=h
  obtain ⟨b,hl,hb0⟩:∃ b,SqB K b H l us∧(b=false→H l=some (.tup us)):=by
   rcases hl with hl | hl
   ·exact ⟨true,hl,fun z=>by cases z⟩
   ·exact ⟨false,SqT.of hl,fun _=>hl⟩
  obtain ⟨t1,hP⟩:=T.places
  obtain ⟨t2,hM⟩:=T.deeds
  have hr3:Zb6 3 _:=hr.mono (by decide)
  refine ⟨_,pS (Zau (Zb4 (Zhc Zid Zid Zae (pv 2) (Za0 (v:=.int 4) (by rfl) hP ⟨_,rfl⟩))) Zbe Zah)
   (pS (Zau (Zap Zi9 (Zaj Zca (by rfl) T.len PySem.boot_len (pC (pv 3) Zaa)) (Za0 (v:=.int 64) (by rfl) hM ⟨_,rfl⟩) (Zaz _)) Zbe Zah)
   (pS (Za3 (Zaf DD GD hr3 (pC (pv 1) (pC (pv 2) (pC (pv 3) Zaa)))))
   (pS (Zmw (pv 0) (pv 1) rfl) (pS (Zmw (pv 0) (pv 2) rfl)
   (Zab (Zmw (pv 0) (Zbo Zck (by rfl) T.tuple PyProof.Rows.boot_tuple (pC (pv 3) Zaa)) rfl)))))),?_⟩
  refine ⟨_,rfl,_,_,rfl,rfl,_,rfl,?_⟩
  rw [show decide ((1:Int)≤(n:Int))=true from decide_eq_true (by omega)]
  refine Ze5 ⟨_,_,rfl,rfl,_,rfl,?_⟩
  rw [show (decide ((n:Int)≤4))=true from decide_eq_true (by omega)]
  refine Zbz ?_
  have hul:=hD.length
  have few:=gd.few
  refine ⟨_,rfl,_,_,rfl,Zgx hl,_,_,rfl,rfl,_,rfl,?_⟩
  rw [show decide ((64:Int)<(us.length:Int))=false from decide_eq_false (by omega)]
  refine Zbz ?_
  refine ⟨_,rfl,_,rfl,_,rfl,p |> fun _=>k,l,n,b,rows,ds,us,rfl,kd,g,hl,hD,gd,n4,fun H1 s1=>?_⟩
  have hp1:=s1 _ _ hp
  have kd1:=kd.mono s1
  have nkp:k≠p:=by
   intro z
   obtain ⟨dx',d,a,o,oa,kvs,avs,h1,_⟩:=kd.ex
   rw [z,hp] at h1
   injection h1 with h1
   injection h1 with h1
   exact hBC h1
  refine ⟨_,rfl,_,rfl,p,B,dx,[],rfl,hp1,TB.cl,TB.nB,(by show 0<1000;decide),?_⟩
  refine ⟨_,rfl,_,rfl,p,B,dx,_,rfl,uS,TB.cl,TB.nW,(by show 1<1000;decide),?_⟩
  rw [Zky]
  have kp:∀ {fs:List (Str×V)} (b:Addr) (o:HO),b≠p→H b=some o→(upd H1 p (.ins B dx fs)) b=some o:=fun b o hb e=>by rw [Zac hb];exact s1 _ _ e
  have hlp:∀ {fs:List (Str×V)},SqB K b (upd H1 p (.ins B dx fs)) l us:=fun {fs}=>by
   have hl1:=hl.mono s1
   cases b with
   | true =>
    rcases (show SqL K H1 l us from hl1) with (e | ⟨o,e⟩) | e
    ·exact .inl (.inl (by rw [Zac (fun z=>by rw [z,hp1] at e;cases e)];exact e))
    ·exact .inl (.inr ⟨o,by rw [Zac (fun z=>by rw [z,hp1] at e;cases e)];exact e⟩)
    ·exact .inr e
   | false =>
    rcases (show SqT K H1 l us from hl1) with (e | ⟨o,e⟩) | e
    ·exact .inl (.inl (by rw [Zac (fun z=>by rw [z,hp1] at e;cases e)];exact e))
    ·exact .inl (.inr ⟨o,by rw [Zac (fun z=>by rw [z,hp1] at e;cases e)];exact e⟩)
    ·exact .inr e
  have fin:∀ (t:Addr) (H2:Hp),Zag (upd H1 p (.ins B dx (Zgt "width" (.int n) (Zgt "book" (.ref k) [])))) H2→H2 t=some (.tup us)→Q .non (upd H2 p (.ins B dx (Zfo k t n))):=fun t H2 s2 ht=>by
   have hp2:H2 p=some (.ins B dx (Zgt "width" (.int n) (Zgt "book" (.ref k) []))):=s2 _ _ uS
   have k2:∀ b o,b≠p→H b=some o→(upd H2 p (.ins B dx (Zfo k t n))) b=some o:=fun b o hb e=>by rw [Zac hb];exact s2 _ _ (kp b o hb e)
   refine q _ ⟨dx,t,us,uS,Zkn kd hp k2 nkp (fun _ _ z=>by cases z) (fun _ z=>by cases z),by rw [Zac (fun z=>by rw [z,hp2] at ht;cases ht)];exact ht,Paired.mapP hD fun d v ⟨t',e,x⟩=>⟨t',e,k2 _ _ (fun z=>by rw [z,hp] at x;cases x) x⟩⟩ k2
  refine ⟨_,rfl,l,us,rfl,?_⟩
  have no:=hlp (fs:=Zgt "width" (.int n) (Zgt "book" (.ref k) []))
  have wd:(Zgt "width" (V.int n) (Zgt "book" (V.ref k) [])).length<1000:=by show 2<1000;decide
  cases b with
  | true =>
   refine .inl ⟨no,fun t ht=>⟨_,rfl,p,B,dx,_,rfl,(Zej ht) _ _ uS,TB.cl,TB.nS,wd,fin t _ (Zej ht) uS⟩⟩
  | false =>
   have e:(upd H1 p (.ins B dx (Zgt "width" (.int n) (Zgt "book" (.ref k) [])))) l=some (.tup us):=by
    have e0:=s1 _ _ (hb0 rfl)
    rw [Zac (fun z=>by rw [z,hp1] at e0;cases e0)]
    exact e0
   exact .inr ⟨no,_,rfl,p,B,dx,_,rfl,uS,TB.cl,TB.nS,wd,fin l _ (Zag.refl _) e⟩
def Zgb (C B:Addr):Sp:=fun vs H Q _=>∃ (p k:Addr) (rows:List (Str×List Str)) (n:Nat) (ds:List (List Str)),vs=[.ref p]∧Za6 C B H p k rows n ds∧Q (.ref k) H
def Zmm (C B:Addr):Sp:=fun vs H Q _=>∃ (p k:Addr) (rows:List (Str×List Str)) (n:Nat) (ds:List (List Str)),vs=[.ref p]∧Za6 C B H p k rows n ds∧Q (.int n) H
def Zk8 (C B:Addr):Sp:=fun vs H Q _=>∃ (p k:Addr) (rows:List (Str×List Str)) (n:Nat) (ds:List (List Str)),vs=[.ref p]∧Za6 C B H p k rows n ds∧∀ l us,H l=none→Zas H ds us→Q (.ref l) (upd H l (.lst us))
theorem Z54:Zak ["self"] ["self"] (Zad Zd3):=⟨rfl,rfl,rfl,by decide +kernel,rfl,by decide +kernel,by decide +kernel⟩
theorem Zfw {f C B:Addr}{fd:FuncData}(F:Fun K "kinds" "Board.kinds" Zd3 f fd) (TB:Zho K B):Zaq P w K mg base CX0 1 f fd ["self"] (Zgb C B):=by
 refine F.ok Z54 (fun vs H Q E h=>?_) (fun cdv A outer s H vs Q E hr h=>?_)
 ·obtain ⟨p,k,rows,n,ds,rfl,_⟩:=h
  rfl
 ·obtain ⟨p,k,rows,n,ds,rfl,⟨dx,t,us,h1,h2,h3,h4⟩,q⟩:=h
  exact ⟨_,Zab (Zam (Zds (pv 0) rfl)),_,rfl,p,B,dx,_,_,rfl,h1,TB.cl,TB.nB,Zlx _ _ _,q⟩
theorem Z53:Zak ["self"] ["self"] (Zad Zdl):=⟨rfl,rfl,rfl,by decide +kernel,rfl,by decide +kernel,by decide +kernel⟩
theorem Zq8 {f C B:Addr}{fd:FuncData}(F:Fun K "places" "Board.places" Zdl f fd) (TB:Zho K B):Zaq P w K mg base CX0 1 f fd ["self"] (Zmm C B):=by
 refine F.ok Z53 (fun vs H Q E h=>?_) (fun cdv A outer s H vs Q E hr h=>?_)
 ·obtain ⟨p,k,rows,n,ds,rfl,_⟩:=h
  rfl
 ·obtain ⟨p,k,rows,n,ds,rfl,⟨dx,t,us,h1,h2,h3,h4⟩,q⟩:=h
  exact ⟨_,Zab (Zam (Zds (pv 0) rfl)),_,rfl,p,B,dx,_,_,rfl,h1,TB.cl,TB.nW,Zjm _ _ _,q⟩
theorem Z55:Zak ["self"] ["self"] (Zad Zd4):=⟨rfl,rfl,rfl,by decide +kernel,rfl,by decide +kernel,by decide +kernel⟩
theorem Zm6 {f C B:Addr}{fd:FuncData}(F:Fun K "deeds" "Board.deeds" Zd4 f fd) (TB:Zho K B) (list:mg "list"=none):Zaq P w K mg base CX0 1 f fd ["self"] (Zk8 C B):=by
 refine F.ok Z55 (fun vs H Q E h=>?_) (fun cdv A outer s H vs Q E hr h=>?_)
 ·obtain ⟨p,k,rows,n,ds,rfl,_⟩:=h
  rfl
 ·obtain ⟨p,k,rows,n,ds,rfl,⟨dx,t,us,h1,h2,h3,h4⟩,q⟩:=h
  exact ⟨_,Zab (Zam (Zbo Zh9 (by rfl) list PyProof.Rows.boot_list (pC (Zds (pv 0) rfl) Zaa))),_,rfl,p,B,dx,_,_,rfl,h1,TB.cl,TB.nS,Zot _ _ _,t,us,rfl,.inr (SqT.of h3),fun l hl=>q l us hl h4⟩
abbrev Zjw (K:W.Frag) (B f:Addr) (fd:FuncData):Prop:=Zn6 K B "kinds" "Board.kinds" Zd3 ["self"] f fd
abbrev Zw5 (K:W.Frag) (B f:Addr) (fd:FuncData):Prop:=Zn6 K B "places" "Board.places" Zdl ["self"] f fd
abbrev Zux (K:W.Frag) (B f:Addr) (fd:FuncData):Prop:=Zn6 K B "deeds" "Board.deeds" Zd4 ["self"] f fd
end
end K54
namespace K54
open PySem L2 Md
structure Zzz (P:Program) (w:World) (K:W.Frag) (mg:Str→Option Value) (base:Heap) (x:Str) (C:Addr) (a:Str) (ok:V→Hp→Prop) (f:Addr) (fd:FuncData):Prop where
 m:mg x=some (.ref C)
 ex:ExC K C
 ini:W.findIn K (.ref C) "__init__"=some (some (.ref f))
 ty:W.typeIn K (.ref f)=some (.type "function")
 b:Zc9 K fd ["self",a] []
 go:Zaq P w K mg base CX0 1 f fd ["self",a] (Zn5 C a ok)
def okN:V→Hp→Prop:=fun v _=>∃ k:Nat,v=.int k∧k≤1000
structure Zqq (rows:List (Str×List Str)) (n:Nat) (ds:List (List Str)) (i k:Nat):Prop where
 ex:∃ d,ds[k]?=some d∧((i=4∧Zh3 rows n d=false)∨(i=5∧Zh3 rows n d=true∧d∈ds.take k))
 ahead:∀ d∈ds.take k,Zh3 rows n d=true
 nd:(ds.take k).Nodup
inductive Due (rows:List (Str×List Str)) (pl:Int) (ds:List (List Str)):Option (Nat×Nat)→Prop
 | board (h:¬ (1≤pl∧pl≤4)∨64<ds.length):Due rows pl ds (some (8,0))
 | bad {i k:Nat} (n:Nat) (e:pl=n) (n1:1≤n) (n4:n≤4) (few:ds.length≤64) (h:Zqq rows n ds i k):Due rows pl ds (some (i,k))
 | good (n:Nat) (e:pl=n) (n1:1≤n) (n4:n≤4) (h:Zao rows n ds):Due rows pl ds none
structure Zu4 (Ds:Nat→Addr) (E:XK) (H:Hp) (i k:Nat):Prop where
 plain:i=8→∀ H',Zag H H'→E (.ref (Ds 8)) none H'
 num:i≠8→∀ dx H',Zag H H'→H' dx=some (.xd [("number",.int k)])→E (.ref (Ds i)) (some dx) H'
theorem Zu4.mono {Ds:Nat→Addr}{E:XK}{H H':Hp}{i k:Nat}(r:Zu4 Ds E H i k) (s:Zag H H'):Zu4 Ds E H' i k :=
 ⟨fun e H'' s'=>r.plain e H'' (s.trans s'),fun e dx H'' s' h=>r.num e dx H'' (s.trans s') h⟩
theorem Zr3 {κ:Type} [DecidableEq κ] {k:κ}{kvs:List (κ×V)}(h:k∈kvs.map (·.1)):∃ v,Zga kvs k=some v:=by
 cases e:Zga kvs k with
 | some v=>exact ⟨v,rfl⟩
 | none =>
  have:=Zf9 k kvs
  rw [e] at this
  obtain ⟨kv,hk,z⟩:=List.mem_map.mp h
  rw [show (none:Option V).isSome=false from rfl,List.any_eq_false] at this
  exact absurd (decide_eq_true z) (this kv hk)
def Zg5 (K:W.Frag) (C:Addr) (Ds:Nat→Addr):Sp:=fun vs H _ E=>∃ (p l:Addr) (n:Nat) (b:Bool) (rows:List (Str×List Str)) (ds:List (List Str)) (us:List V) (i k:Nat),vs=[.ref p,.int n,.ref l]∧Za4 C H p rows∧Zb0 rows∧SqB K b H l us∧Zas H ds us∧(∀ d∈ds,d.length≤1000)∧n≤4∧ds.length≤64∧Zqq rows n ds i k∧Zu4 Ds E H i k
def Zpk (K:W.Frag) (C B:Addr) (Ds:Nat→Addr):Sp:=fun vs H _ E=>∃ (p dx k l:Addr) (pl:Int) (rows:List (Str×List Str)) (ds:List (List Str)) (us:List V) (i j:Nat),vs=[.ref p,.ref k,.int pl,.ref l]∧Za4 C H k rows∧Zb0 rows∧(SqL K H l us∨H l=some (.tup us))∧Zas H ds us∧(∀ d∈ds,d.length≤1000)∧ds.length≤1000∧Due rows pl ds (some (i,j))∧Zu4 Ds E H i j
section
variable {P:Program} {w:World} {K:W.Frag} {mg:Str→Option Value} {base:Heap}
theorem Z5w:Zak ["self","number"] ["self","number"] (Zad Zdg):=⟨rfl,rfl,rfl,by decide +kernel,rfl,by decide +kernel,by decide +kernel⟩
theorem Z0z {f C D:Addr}{fd:FuncData}(F:Fun K "__init__" "NoDeed.__init__" Zdg f fd) (I:ExI K C D "number") (dd:DIn K D) (mD:mg "DeedError"=some (.ref D)):Zaq P w K mg base CX0 1 f fd ["self","number"] (Zn5 C "number" okN):=by
 refine F.ok Z5w (fun vs H Q E h=>?_) (fun cdv A outer s H vs Q E hr h=>?_)
 ·obtain ⟨x,y,rfl,_⟩:=h
  rfl
 ·obtain ⟨x,y,rfl,⟨k,rfl,hk⟩,hx,q⟩:=h
  refine ⟨_,pS (Za3 (Zhg dd (by rfl) mD (pC (pv 0) (pC (Ze2 (Zax Zdr (Zax (Zi4 (pv 1)) (Zax Zdr Ze1)))) Zaa)))) (Zab (Zi3 (D:=D) (pv 0) (pv 1))),?_⟩
  refine ⟨_,rfl,by decide +kernel,_,rfl,k,rfl,by omega,by decide +kernel,fun z=>⟨x,C,[.str z],rfl,by show 1≤100;decide,I.toExA.toExC,hx,?_⟩⟩
  exact ⟨_,rfl,_,rfl,x,C,rfl,hx,I,fun dx hdx=>q dx hdx⟩
theorem Z5s:Zak ["self","number"] ["self","number"] (Zad Zed):=⟨rfl,rfl,rfl,by decide +kernel,rfl,by decide +kernel,by decide +kernel⟩
theorem Z0w {f C D:Addr}{fd:FuncData}(F:Fun K "__init__" "Same.__init__" Zed f fd) (I:ExI K C D "number") (dd:DIn K D) (mD:mg "DeedError"=some (.ref D)):Zaq P w K mg base CX0 1 f fd ["self","number"] (Zn5 C "number" okN):=by
 refine F.ok Z5s (fun vs H Q E h=>?_) (fun cdv A outer s H vs Q E hr h=>?_)
 ·obtain ⟨x,y,rfl,_⟩:=h
  rfl
 ·obtain ⟨x,y,rfl,⟨k,rfl,hk⟩,hx,q⟩:=h
  refine ⟨_,pS (Za3 (Zhg dd (by rfl) mD (pC (pv 0) (pC (Ze2 (Zax Zdr (Zax (Zi4 (pv 1)) (Zax Zdr Ze1)))) Zaa)))) (Zab (Zi3 (D:=D) (pv 0) (pv 1))),?_⟩
  refine ⟨_,rfl,by decide +kernel,_,rfl,k,rfl,by omega,by decide +kernel,fun z=>⟨x,C,[.str z],rfl,by show 1≤100;decide,I.toExA.toExC,hx,?_⟩⟩
  exact ⟨_,rfl,_,rfl,x,C,rfl,hx,I,fun dx hdx=>q dx hdx⟩
theorem Zja {f C fI fH f4 f5:Addr}{Ds:Nat→Addr}{fd fdI fdH fd4 fd5:FuncData}(F:Def K mg "check_deeds" Zci ["kinds","places","deeds"] f fd) (DI:Def K mg "is_call" Zcp nIC fI fdI) (enum:mg "enumerate"=none) (len:mg "len"=none) (all:mg "all"=none) (TC:Zio K C) (MH:Zrw K C fH fdH)
  (E4:Zzz P w K mg base "NoDeed" (Ds 4) "number" okN f4 fd4) (E5:Zzz P w K mg base "Same" (Ds 5) "number" okN f5 fd5):Zaq P w K mg base (CX1 P w) 3 f fd ["kinds","places","deeds"] (Zg5 K C Ds):=by
 have GI:Zaq P w K mg base (CX1 P w) 2 fI fdI nIC (Zih C):=(Zhw DI len all TC MH).any
 refine F.fn.ok1 Z10 (fun vs H Q E h=>?_) (fun cdv A outer s H vs Q E hr h=>?_)
 ·obtain ⟨p,l,n,b,rows,ds,us,i,k,rfl,_⟩:=h
  rfl
 ·obtain ⟨p,l,n,b,rows,ds,us,i,k,rfl,kd,g,hl,hD,ok,hn,few,fb,re⟩:=h
  have nd:=Z10.nd
  have hu:=Zgn hr
  have hr2:Zb6 2 _:=hr.mono (by decide)
  refine ⟨_,pS (Zal (i:=3) nd rfl (Or.inl rfl) Zpv)
   (Zab (Zbn PassesOwn.leaving rfl (Zog (by rfl) enum (pC (pv 2) Zaa)) (Zfl rfl (gC (Zai (i:=4) nd rfl (Or.inl rfl)) (gC (Zai (i:=5) nd rfl (Or.inl rfl)) Zdz)))
    (pS (Zau (Zb4 (Zce (Zdi GI hr (by rfl) DI.m DI.fn.kp DI.b .nil (Zcb Fns.of) (pC (pv 0) (pC (pv 1) (pC (pv 5) Zaa)))))) (Zab (Zef (C:=Ds 4) Fns.of hr.hd E4.ex E4.ini E4.ty E4.go hr2 E4.b (by rfl) E4.m (pC (pv 4) Zaa))) Zah)
    (pS (Zau (Ze6 (Zh6 hu (pv 5) (pv 3))) (Zab (Zef (C:=Ds 5) Fns.of hr.hd E5.ex E5.ini E5.ty E5.go hr2 E5.b (by rfl) E5.m (pC (pv 4) Zaa))) Zah)
    (Zab (Zdy hu (pv 3) (pv 5) Ze8 rfl)))))),?_⟩
  intro d hd
  have s0:Zag H (upd H d (.dT [])):=Zej hd
  have hvl:=hD.length
  obtain ⟨db,hdb,hor⟩:=fb.ex
  have kl:k<ds.length:=(List.getElem?_eq_some_iff.mp hdb).1
  refine ⟨_,rfl,b,l,us,rfl,hl.mono s0,Zjl (fun j σ H'=>∃ (kvs:List (List Key×V)) (a c:Option V),j≤k∧σ=[some (.ref p),some (.int n),some (.ref l),some (.ref d),a,c]∧Zag H H'∧H' d=some (.dT kvs)∧kvs.map (·.1)=(ds.take j).map Zlu)
   ⟨[],none,none,Nat.zero_le _,rfl,s0,uS,by simp⟩ (fun j σ H' _ ⟨_,_,_,_,_,s,_⟩=>hl.mono s) ?_ ?_⟩
  ·rintro j pr t σ H' hi ⟨kvs,a,c,jk,rfl,s1,hdk,hk⟩ ht0
   obtain ⟨e1,hx⟩:=Zf0 hi
   obtain ⟨dd,hdd,t2,e2,ht2⟩:=Zar hD hx
   refine Zqc ?_
   have s2:Zag H' (upd H' t (.tup [pr.1,pr.2])):=Zej ht0
   have hmem:dd∈ds:=List.mem_of_getElem? hdd
   rw [e2]
   show Z18 _ _ _ [some (.ref p),some (.int n),some (.ref l),some (.ref d),some pr.1,some (.ref t2)] _
   have s02:=s1.trans s2
   refine ⟨_,rfl,_,rfl,_,rfl,p,t2,n,rows,dd,rfl,kd.mono ?_,g,?_,ok dd hmem,fun H3 s3=>⟨_,rfl,?_⟩⟩
   ·rw [← e2];exact s02
   ·rw [← e2];exact s02 _ _ ht2
   rw [← e2] at s3
   have s03:=s02.trans s3
   have hd3:H3 d=some (.dT kvs):=s3 _ _ (s2 _ _ hdk)
   have ht3:H3 t2=some (.tup ((Zlu dd).map kV)):=by rw [Zp9];exact s03 _ _ ht2
   have raised:∀ (m:Nat),i=m→m≠8→j=k→∀ dx,H3 dx=none→E (.ref (Ds m)) (some dx) (upd H3 dx (.xd [("number",pr.1)])):=fun m em m8 ej dx hdx=>by
    subst em
    refine re.num m8 dx _ (s03.trans (Zej hdx)) ?_
    rw [uS,e1,ej]
   have okn:∀ x,H3 x=none→∀ o,okN pr.1 (upd H3 x o):=fun x _ o=>⟨j,e1,by omega⟩
   by_cases ej:j=k
   ·rw [ej,hdb] at hdd
    cases hdd
    rcases hor with ⟨i4,hb⟩ | ⟨i5,hb,hin⟩
    ·rw [hb]
     refine Ze5 ⟨_,rfl,_,rfl,fun x hx=>okn x hx _,fun dx hdx=>raised 4 i4 (by decide) ej dx hdx⟩
    ·rw [hb]
     refine Zbz ⟨_,rfl,_,rfl,d,_,rfl,Zf5.t (k:=Zlu db) hd3 ht3,_,rfl,?_⟩
     obtain ⟨v,hv⟩:=Zr3 (kvs:=kvs) (k:=Zlu db) (by rw [hk,ej];exact List.mem_map.mpr ⟨db,hin,rfl⟩)
     rw [hv]
     exact Ze5 ⟨_,rfl,_,rfl,fun x hx=>okn x hx _,fun dx hdx=>raised 5 i5 (by decide) ej dx hdx⟩
   ·have jlt:j<k:=by omega
    have hin:(ds.take k)[j]?=some dd:=by rw [List.getElem?_take,if_pos jlt];exact hdd
    rw [fb.ahead dd (List.mem_of_getElem? hin)]
    refine Zbz ⟨_,rfl,_,rfl,d,_,rfl,Zf5.t (k:=Zlu dd) hd3 ht3,_,rfl,?_⟩
    have hnew:Zlu dd∉kvs.map (·.1):=by
     rw [hk]
     have:=Zj7 fb.nd hin
     rw [List.take_take,Nat.min_eq_left (Nat.le_of_lt jlt)] at this
     exact this
    rw [Zhq hnew]
    refine Zbz ?_
    have hkl:kvs.length=(ds.take j).length:=by have:=congrArg List.length hk;simpa using this
    have hil:(ds.take j).length≤64:=by rw [List.length_take];omega
    refine ⟨_,rfl,_,rfl,d,_,rfl,Zkw.t (k:=Zlu dd) hd3 ht3 (Za7 (by omega)),?_⟩
    refine ⟨_,_,_,jlt,rfl,fun b o e=>?_,uS,?_⟩
    ·rw [Zac (nNo e hd)];exact s03 _ _ e
    ·rw [Zke hnew,hk,List.take_add_one,hdd,List.map_append]
     rfl
  ·rintro σ H' ⟨kvs,a,c,jk,rfl,s1,hdk,hk⟩
   rw [Zei] at jk
   omega
end
end K54
namespace K54
open PySem L2 Md
theorem Zwe (k t:Addr) (n:Nat):(Zfo k t n).lookup ("more":Str)=none:=Zfj k t n (by decide +kernel) (by decide +kernel) (by decide +kernel)
theorem Zp5 (k t:Addr) (n:Nat):(Zfo k t n).lookup ("over":Str)=none:=Zfj k t n (by decide +kernel) (by decide +kernel) (by decide +kernel)
abbrev Z1v (K:W.Frag) (B f:Addr) (fd:FuncData):Prop:=Zn6 K B "more" "Board.more" Zeu ["self","call"] f fd
abbrev Zxv (K:W.Frag) (B f:Addr) (fd:FuncData):Prop:=Zn6 K B "over" "Board.over" Zet ["self","kinds"] f fd
def Zpi (K:W.Frag) (C B:Addr) (Ds:Nat→Addr):Sp:=fun vs H Q E=>Zk7 K C B vs H Q E∨Zpk K C B Ds vs H Q E
theorem Zxm {K:W.Frag}{C B:Addr}{Ds:Nat→Addr}{Hx:Hp}{xb yb dy lz:Addr}{pl:Int}{rows:List (Str×List Str)}{ds:List (List Str)}{us:List V}{r:Option (Nat×Nat)}{R:Hp→Prop}{E:XK}(ny:Hx yb=none) (ndy:Hx dy=none) (kd:Za4 C Hx xb rows) (g:Zb0 rows) (hz:Hx lz=some (.lst us)∨Hx lz=some (.tup us)) (hD:Zas Hx ds us) (ok:∀ d∈ds,d.length≤1000) (big:ds.length≤1000) (due:Due rows pl ds r)
  (h:∀ n:Nat,r=none→pl=n→1≤n→n≤4→Zao rows n ds→∀ H',Zag Hx H'→Za6 C B H' yb xb rows n ds→R H') (re:∀ i j,r=some (i,j)→Zu4 Ds E Hx i j):
  Zpi K C B Ds [.ref yb,.ref xb,.int pl,.ref lz] (upd (upd Hx dy (.own yb)) yb (.ins B dy [])) (fun v H3=>v=.non∧R H3) E:=by
 have s34:Zag Hx (upd (upd Hx dy (.own yb)) yb (.ins B dy [])):=fun b o e=>by
  have e1:(upd Hx dy (.own yb)) b=some o:=by rw [Zac (nNo e ndy)];exact e
  rw [Zac (nNo e ny)];exact e1
 have hz':SqL K (upd (upd Hx dy (.own yb)) yb (.ins B dy [])) lz us∨(upd (upd Hx dy (.own yb)) yb (.ins B dy [])) lz=some (.tup us):=hz.elim (fun e=>.inl (SqL.of (s34 _ _ e))) (fun e=>.inr (s34 _ _ e))
 cases r with
 | none =>
  cases due with
  | good n e n1 n4 gd =>
   subst e
   exact .inl ⟨yb,dy,xb,lz,n,rows,ds,us,rfl,uS,kd.mono s34,g,hz',hD.mono s34,gd,n1,n4,fun H5 bd keep5=>⟨rfl,h n rfl rfl n1 n4 gd H5 (fun b o e=>keep5 b o (nNo e ny) (s34 _ _ e)) bd⟩⟩
 | some ij=>exact .inr ⟨yb,dy,xb,lz,pl,rows,ds,us,ij.1,ij.2,rfl,kd.mono s34,g,hz',hD.mono s34,ok,big,due,(re ij.1 ij.2 rfl).mono s34⟩
def Zpj (C B:Addr) (Ds:Nat→Addr):Sp:=fun vs H Q E=>∃ (p k t:Addr) (rows:List (Str×List Str)) (n:Nat) (ds:List (List Str)) (xs:List Str) (r:Option (Nat×Nat)),vs=[.ref p,.ref t]∧Za6 C B H p k rows n ds∧Zb0 rows∧H t=some (.tup (xs.map V.str))∧(∀ d∈ds++[xs],d.length≤1000)∧ds.length≤100∧Due rows n (ds++[xs]) r ∧
 (r=none→∀ b H',Zag H H'→Za6 C B H' b k rows n (ds++[xs])→Zao rows n (ds++[xs])→Q (.ref b) H')∧∀ i j,r=some (i,j)→Zu4 Ds E H i j
def Zk6 (C B:Addr) (Ds:Nat→Addr):Sp:=fun vs H Q E=>∃ (p k k2:Addr) (rows rows2:List (Str×List Str)) (n:Nat) (ds:List (List Str)) (r:Option (Nat×Nat)),vs=[.ref p,.ref k2]∧Za6 C B H p k rows n ds∧Za4 C H k2 rows2∧Zb0 rows2∧(∀ d∈ds,d.length≤1000)∧ds.length≤100∧Due rows2 n ds r ∧
 (r=none→∀ b H',Zag H H'→Za6 C B H' b k2 rows2 n ds→Zao rows2 n ds→Q (.ref b) H')∧∀ i j,r=some (i,j)→Zu4 Ds E H i j
section
variable {P:Program} {w:World} {K:W.Frag} {mg:Str→Option Value} {base:Heap}
theorem Ztm {f B C fD fI fH f4 f5:Addr}{Ds:Nat→Addr}{fd fdD fdI fdH fd4 fd5:FuncData}(F:Fun K "__init__" "Board.__init__" Zcv f fd) (T:Zw3 mg) (TC:Zio K C) (DD:Def K mg "check_deeds" Zci ["kinds","places","deeds"] fD fdD) (DI:Def K mg "is_call" Zcp nIC fI fdI) (MH:Zrw K C fH fdH)
  (E4:Zzz P w K mg base "NoDeed" (Ds 4) "number" okN f4 fd4) (E5:Zzz P w K mg base "Same" (Ds 5) "number" okN f5 fd5) (T8:Zzu K mg "NoBoard" (Ds 8)):Zaq P w K mg base (CX1 P w) 4 f fd nBI (Zpk K C B Ds):=by
 have GD:Zaq P w K mg base (CX1 P w) 3 fD fdD ["kinds","places","deeds"] (Zg5 K C Ds):=Zja DD DI T.enum T.len T.all TC MH E4 E5
 refine F.ok1 Z4h (fun vs H Q E h=>?_) (fun cdv A outer s H vs Q E hr h=>?_)
 ·obtain ⟨p,dx,k,l,pl,rows,ds,us,i,j,rfl,_⟩:=h
  rfl
 ·obtain ⟨p,dx,k,l,pl,rows,ds,us,i,j,rfl,kd,g,hl,hD,ok,big,due,re⟩:=h
  obtain ⟨b,hl⟩:∃ b,SqB K b H l us:=by
   rcases hl with hl | hl
   ·exact ⟨true,hl⟩
   ·exact ⟨false,SqT.of hl⟩
  obtain ⟨t1,hP⟩:=T.places
  obtain ⟨t2,hM⟩:=T.deeds
  have hr3:Zb6 3 _:=hr.mono (by decide)
  refine' ⟨_,pS (Zau (Zb4 (Zhc Zid Zid Zae (pv 2) (Za0 (v:=.int 4) (by rfl) hP ⟨_,rfl⟩))) (Zab (Zhd (C:=Ds 8) Fns.of hr.hd T8.ex T8.ini (by rfl) T8.m (pC (Ze2 ?f1) Zaa))) Zah)
   (pS (Zau (Zap Zi9 (Zaj Zca (by rfl) T.len PySem.boot_len (pC (pv 3) Zaa)) (Za0 (v:=.int 64) (by rfl) hM ⟨_,rfl⟩) (Zaz _)) (Zab (Zhd (C:=Ds 8) Fns.of hr.hd T8.ex T8.ini (by rfl) T8.m (pC (Ze2 ?f2) Zaa))) Zah)
   (pS (Za3 (Zdi GD hr3 (by rfl) DD.m DD.fn.kp DD.b .nil (Zcb Fns.of) (pC (pv 1) (pC (pv 2) (pC (pv 3) Zaa))))) Zbe)),?_⟩
  case f1=>exact Zax Zdr (Zax (Zi4 (Za0 (v:=.int 4) (by rfl) hP ⟨_,rfl⟩)) (Zax Zdr Ze1))
  case f2=>exact Zax Zdr (Zax (Zi4 (Za0 (v:=.int 64) (by rfl) hM ⟨_,rfl⟩)) (Zax Zdr Ze1))
  have hul:=hD.length
  refine ⟨_,rfl,_,_,rfl,rfl,_,rfl,?_⟩
  have say:i=8→E (.ref (Ds 8)) none H:=fun e=>re.plain e H (Zag.refl _)
  by_cases h1:(1:Int)≤pl
  ·rw [show decide ((1:Int)≤pl)=true from decide_eq_true h1]
   refine Ze5 ⟨_,_,rfl,rfl,_,rfl,?_⟩
   by_cases h4:pl≤4
   ·rw [show (decide (pl≤4))=true from decide_eq_true h4]
    refine Zbz ?_
    refine ⟨_,rfl,_,_,rfl,Zgx hl,_,_,rfl,rfl,_,rfl,?_⟩
    cases due with
    | board h =>
     rw [show decide ((64:Int)<(us.length:Int))=true from decide_eq_true (by rcases h with z | z <;> omega)]
     exact Ze5 ⟨by decide +kernel,64,rfl,by decide,by decide +kernel,fun x=>⟨sL (by show 1≤100000;decide),say rfl⟩⟩
    | bad n e n1 n4 few fb =>
     subst e
     rw [show decide ((64:Int)<(us.length:Int))=false from decide_eq_false (by omega)]
     exact Zbz ⟨_,rfl,_,rfl,_,rfl,k,l,n,b,rows,ds,us,i,j,rfl,kd,g,hl,hD,ok,n4,few,fb,re⟩
   ·rw [show (decide (pl≤4))=false from decide_eq_false h4]
    have e8:i=8:=by
     cases due with
     | board h=>rfl
     | bad n e n1 n4 few fb=>omega
    exact Ze5 ⟨by decide +kernel,4,rfl,by decide,by decide +kernel,fun x=>⟨sL (by show 1≤100000;decide),say e8⟩⟩
  ·rw [show decide ((1:Int)≤pl)=false from decide_eq_false h1]
   have e8:i=8:=by
    cases due with
    | board h=>rfl
    | bad n e n1 n4 few fb=>omega
   exact Zbz ⟨_,rfl,Ze5 ⟨by decide +kernel,4,rfl,by decide,by decide +kernel,fun x=>⟨sL (by show 1≤100000;decide),say e8⟩⟩⟩
theorem Ztl {f B C fBI:Addr}{Ds:Nat→Addr}{fd fdBI:FuncData}(F:Fun K "more" "Board.more" Zeu f fd) (TB:Zho K B) (MB:Mk K B fBI) (mgB:mg "Board"=some (.ref B)) (bB:Zc9 K fdBI nBI []) (GB:Zaq P w K mg base (CX1 P w) 4 fBI fdBI nBI (Zpi K C B Ds)):Zaq P w K mg base (CX1 P w) 6 f fd ["self","call"] (Zpj C B Ds):=by
 have sc:Zak ["self","call"] ["self","call"] (Zad Zeu):=⟨rfl,rfl,rfl,by decide +kernel,rfl,by decide +kernel,by decide +kernel⟩
 refine F.ok1 sc (fun vs H Q E h=>?_) (fun cdv A outer s H vs Q E hr h=>?_)
 ·obtain ⟨p,k,t,rows,n,ds,xs,r,rfl,_⟩:=h
  rfl
 ·obtain ⟨p,k,t,rows,n,ds,xs,r,rfl,bd,g,ht,ok,hl,due,q,re⟩:=h
  obtain ⟨dx,ts,us,h1,h2,h3,h4⟩:=bd.ex
  have hul:=h4.length
  refine ⟨_,Zab (Zam (Zhu MB GB hr rfl mgB bB .nil (Zcb Fns.of) (pC (Zds (pv 0) rfl) (pC (Zds (pv 0) rfl) (pC (Zbs Zlj (Zds (pv 0) rfl) (Zav (pC (pv 1) Zaa))) Zaa))))),?_⟩
  refine ⟨_,rfl,p,B,dx,_,_,rfl,h1,TB.cl,TB.nB,Zlx _ _ _,_,rfl,p,B,dx,_,_,rfl,h1,TB.cl,TB.nW,Zjm _ _ _,_,rfl,p,B,dx,_,_,rfl,h1,TB.cl,TB.nS,Zot _ _ _,_,rfl,sL (by show 1≤100000;decide),fun t1 ht1=>?_⟩
  have s1:Zag H (upd H t1 (.tup [.ref t])):=Zej ht1
  refine Zvi (s1 _ _ h3) uS (sL (by show us.length + 1≤100000;omega)) fun tz H2 s2 htz=>?_
  have s02:=s1.trans s2
  intro x dx' nx ndx nex
  exact Zxm (r:=r) nx ndx (h2.mono s02) g (.inr htz) (Paired.snoc (h4.mono s02) ⟨t,rfl,s02 _ _ ht⟩) ok (by rw [List.length_append];show ds.length + 1≤1000;omega) due (fun m e e1 _ _ gd H3 s3 b3=>by
   have e1:n=m:=by exact_mod_cast e1
   subst e1
   exact q e _ H3 (s02.trans s3) b3 gd) fun i j e=>(re i j e).mono s02
theorem Ztk {f B C fBI:Addr}{Ds:Nat→Addr}{fd fdBI:FuncData}(F:Fun K "over" "Board.over" Zet f fd) (TB:Zho K B) (MB:Mk K B fBI) (mgB:mg "Board"=some (.ref B)) (bB:Zc9 K fdBI nBI []) (GB:Zaq P w K mg base (CX1 P w) 4 fBI fdBI nBI (Zpi K C B Ds)):Zaq P w K mg base (CX1 P w) 6 f fd ["self","kinds"] (Zk6 C B Ds):=by
 have sc:Zak ["self","kinds"] ["self","kinds"] (Zad Zet):=⟨rfl,rfl,rfl,by decide +kernel,rfl,by decide +kernel,by decide +kernel⟩
 refine F.ok1 sc (fun vs H Q E h=>?_) (fun cdv A outer s H vs Q E hr h=>?_)
 ·obtain ⟨p,k,k2,rows,rows2,n,ds,r,rfl,_⟩:=h
  rfl
 ·obtain ⟨p,k,k2,rows,rows2,n,ds,r,rfl,bd,kd2,g2,ok,hl,due,q,re⟩:=h
  obtain ⟨dx,ts,us,h1,h2,h3,h4⟩:=bd.ex
  refine ⟨_,Zab (Zam (Zhu MB GB hr rfl mgB bB .nil (Zcb Fns.of) (pC (pv 1) (pC (Zds (pv 0) rfl) (pC (Zds (pv 0) rfl) Zaa))))),?_⟩
  refine ⟨_,rfl,_,rfl,p,B,dx,_,_,rfl,h1,TB.cl,TB.nW,Zjm _ _ _,_,rfl,p,B,dx,_,_,rfl,h1,TB.cl,TB.nS,Zot _ _ _,?_⟩
  intro x dx' nx ndx nex
  exact Zxm (r:=r) nx ndx kd2 g2 (.inr h3) h4 ok (by omega) due (fun m e e1 _ _ gd H3 s3 b3=>by
   have e1:n=m:=by exact_mod_cast e1
   subst e1
   exact q e _ H3 s3 b3 gd) fun i j e=>re i j e
end
end K54
namespace K54
open PySem L2 Md
def Zdb (cs:List (List Str)) (ws:List Str):List (List Str):=cs.flatMap fun c=>ws.map fun x=>c++[x]
def Zd7 (wss:List (List Str)):List (List Str):=wss.foldl Zdb [[]]
theorem Zdh (wss:List (List Str)) (ws:List Str):Zd7 (wss++[ws])=Zdb (Zd7 wss) ws:=by
 unfold Zd7
 rw [List.foldl_append]
 rfl
theorem Zgi (cs:List (List Str)) (ws:List Str):(Zdb cs ws).length=cs.length * ws.length:=by
 unfold Zdb
 induction cs with
 | nil=>simp
 | cons c r ih =>
  rw [List.flatMap_cons,List.length_append,ih,List.length_map,List.length_cons,Nat.add_mul,Nat.one_mul,Nat.add_comm]
theorem Zjc (cs:List (List Str)) (ws:List Str) {i:Nat}{c:List Str}(h:cs[i]?=some c):Zdb (cs.take (i + 1)) ws=Zdb (cs.take i) ws++ws.map fun x=>c++[x]:=by
 unfold Zdb
 rw [List.take_add_one,h,List.flatMap_append]
 simp
theorem Zqf:∀ (wss cs:List (List Str)) (acc:List (List Str)) (m:Nat),(∀ c∈acc,c.length=m)→∀ c∈wss.foldl Zdb acc,c.length=m + wss.length
 | [],_,acc,m,h,c,hc=>h c hc
 | ws :: r,cs,acc,m,h,c,hc=>by
  have:=Zqf r cs (Zdb acc ws) (m + 1) (fun d hd=>by
   obtain ⟨e,he,hd⟩:=List.mem_flatMap.mp hd
   obtain ⟨x,_,rfl⟩:=List.mem_map.mp hd
   rw [List.length_append,h e he]
   rfl) c hc
  rw [this,List.length_cons]
  omega
theorem Zlg {wss:List (List Str)}{c:List Str}(h:c∈Zd7 wss):c.length=wss.length:=by
 have:=Zqf wss [] [[]] 0 (fun d hd=>by rw [List.mem_singleton.mp hd];rfl) c h
 omega
theorem Zqe:∀ (wss:List (List Str)) (acc:List (List Str)) (S:Str→Prop),(∀ ws∈wss,∀ x∈ws,S x)→(∀ c∈acc,∀ x∈c,S x)→∀ c∈wss.foldl Zdb acc,∀ x∈c,S x
 | [],acc,S,_,h,c,hc=>h c hc
 | ws :: r,acc,S,hw,h,c,hc=>Zqe r (Zdb acc ws) S (fun ws' hws'=>hw ws' (by simp [hws'])) (fun d hd=>by
   obtain ⟨e,he,hd⟩:=List.mem_flatMap.mp hd
   obtain ⟨y,hy,rfl⟩:=List.mem_map.mp hd
   intro x hx
   rcases List.mem_append.mp hx with z | z
   ·exact h e he x z
   ·rw [List.mem_singleton.mp z];exact hw ws (by simp) y hy) c hc
theorem Zas.append {H:Hp}{ds es:List (List Str)}{us vs:List V}(h:Zas H ds us) (k:Zas H es vs):Zas H (ds++es) (us++vs):=by
 unfold Zas at *
 induction h with
 | nil=>exact k
 | cons r t ih=>exact .cons r ih
theorem Zas.len {H:Hp}{ds:List (List Str)}{us:List V}(h:Zas H ds us):ds.length=us.length:=Paired.length h
def Zzv (c:List Str) (x v:V) (H:Hp):Prop:=∃ (t:Addr) (z:Str),x=.str z∧v=.ref t∧H t=some (.tup ((c++[z]).map V.str))
theorem Zl3 {H:Hp}{c:List Str}:∀ {ws:List Str}{ys:List V},Paired (fun x v=>Zzv c x v H) (ws.map V.str) ys→Zas H (ws.map fun x=>c++[x]) ys
 | [],_,h=>by cases h;exact .nil
 | x :: r,_,h=>by
  cases h with
  | cons a b =>
   obtain ⟨t,z,e1,e2,e3⟩:=a
   injection e1 with e1
   subst e1
   exact .cons ⟨t,e2,e3⟩ (Zl3 b)
theorem Z2y:(["thing","start"]:List Str).Nodup:=by decide +kernel
theorem Z2w:(["word","call"]:List Str).Nodup:=by decide +kernel
def Z1t (H:Hp) (wss:List (List Str)) (vs:List V):Prop:=Paired (fun (ws:List Str) v=>∃ r,v=V.ref r∧H r=some (.lst (ws.map V.str))) wss vs
def Zmg:Sp:=fun vs H Q _=>∃ (l:Addr) (wss:List (List Str)) (us:List V),vs=[.ref l]∧H l=some (.lst us)∧Z1t H wss us∧(∀ i,(Zd7 (wss.take i)).length≤10000)∧(∀ ws∈wss,ws.length≤1000)∧wss.length≤100 ∧
 ∀ (lf:Addr) (ys:List V) (H':Hp),H lf=none→Zag H H'→H' lf=some (.lst ys)→Zas H' (Zd7 wss) ys→Q (.ref lf) H'
section
variable {P:Program} {w:World} {K:W.Frag} {mg:Str→Option Value} {base:Heap}
abbrev nOE:List Str:=["rows","found","row","longer","start"]
theorem Z30:Zak nOE ["rows"] (Zad Zc3):=⟨rfl,rfl,rfl,by decide +kernel,rfl,by decide +kernel,by decide +kernel⟩
theorem Zok {f:Addr}{fd:FuncData}(F:Def K mg "one_of_each" Zc3 ["rows"] f fd):Zaq P w K mg base CX0 1 f fd ["rows"] Zmg:=by
 refine F.fn.ok Z30 (fun vs H Q E h=>?_) (fun cdv A outer s H vs Q E hr h=>?_)
 ·obtain ⟨l,wss,us,rfl,_⟩:=h
  rfl
 ·obtain ⟨l,wss,us,rfl,hl,hR,hb,hw,hn,q⟩:=h
  have nd:=Z30.nd
  have hul:wss.length=us.length:=Paired.length hR
  refine' ⟨_,(pS (Zal (i:=1) nd rfl (Or.inl rfl) (Zd0 (pC (Zav Zaa) Zaa)))
   (pS (Zbn PassesOwn.never rfl (Zb1 (pv 0)) (Zai (i:=2) nd rfl (Or.inl rfl))
    (pS (Zal (i:=3) nd rfl (Or.inl rfl) (Zd0 Zaa))
   (pS (Zbn PassesOwn.never rfl (Zb1 (pv 1)) (Zai (i:=4) nd rfl (Or.inr rfl)) (Zab (Za3 (Zic PySem.F.plainAttrs_list PySem.F.slot_list_extend PySem.F.type_list_extend Znb (pv 3) (pC ?ea Zaa)))))
   (Zab (Zal (i:=1) nd rfl (Or.inl rfl) (pv 3))))))
   (Zab (Zam (pv 1))))),?_⟩
  case ea=>exact (Zb3 ["thing"] ["start"] [4] (fun _=>Za5 (osc:=Zad Zc3) (on:=nOE) (by decide +kernel) rfl rfl rfl) (Zb1 (pv 2)) (fun C s H fp=>Zai (i:=0) Z2y rfl (Or.inl rfl) (Or.inr rfl)) (fun C s H fp=>Zcm)
    (fun C s H fp=>Zbs (r:=Zvj K) Zlj (pv 1) (Zav (pC (pv 0) Zaa))))
  refine ⟨Nat.zero_le _,fun t0 ht0=>⟨sL (by show 1≤100000;decide),fun l0 hl0=>?_⟩⟩
  have s0:Zag H (upd (upd H t0 (.tup [])) l0 (.lst [.ref t0])):=(Zej ht0).trans (Zej hl0)
  have l0H:H l0=none:=(Zej (o:=.tup []) ht0).free hl0
  refine ⟨_,rfl,l,rfl,⟨_,SqL.of (s0 _ _ hl)⟩,Za1 (Za8 (xs:=us)) (fun i σ H'=>∃ (lf:Addr) (ys:List V) (x1 x2 x3:Option V),σ=[some (.ref l),some (.ref lf),x1,x2,x3]∧Zag H H'∧H lf=none∧H' lf=some (.lst ys)∧Zas H' (Zd7 (wss.take i)) ys)
   ⟨l0,[.ref t0],none,none,none,rfl,s0,l0H,uS,.cons ⟨t0,rfl,(Zej hl0) _ _ uS⟩ .nil⟩ (fun i σ H' _ ⟨_,_,_,_,_,_,s',_⟩=>SqL.of (s' _ _ hl)) ?_ ?_⟩
  ·rintro i v σ H' hi ⟨lf,ys,x1,x2,x3,rfl,s',hlfH,hlf,hD⟩
   obtain ⟨ws,hws,rw',rfl,hrw⟩:=Zar hR hi
   have hb1:=hb (i + 1)
   rw [List.take_add_one,hws] at hb1
   have hb1:(Zd7 (wss.take i++[ws])).length≤10000:=hb1
   rw [Zdh] at hb1
   have hwl:=hw ws (List.mem_of_getElem? hws)
   have hyl:=hD.len
   refine ⟨Nat.zero_le _,fun ln hln=>?_⟩
   have s1:Zag H' (upd H' ln (.lst [])):=Zej hln
   have lnH:H ln=none:=s'.free hln
   have lfn:lf≠ln:=nNo hlf hln
   have rwn:rw'≠ln:=nNo (s' _ _ hrw) hln
   refine ⟨_,rfl,lf,rfl,⟨_,SqL.of (s1 _ _ hlf)⟩,Za1 (Za8 (xs:=ys)) (fun j σ H2=>∃ (zs:List V) (x3:Option V),σ=[some (.ref l),some (.ref lf),some (.ref rw'),some (.ref ln),x3]∧Zag H' H2∧H2 ln=some (.lst zs)∧Zas H2 (Zdb ((Zd7 (wss.take i)).take j) ws) zs)
    ⟨[],x3,rfl,s1,uS,by rw [List.take_zero];exact .nil⟩ (fun j σ H2 _ ⟨_,_,_,s2,_⟩=>SqL.of (s2 _ _ hlf)) ?_ ?_⟩
   ·rintro j v σ H2 hj ⟨zs,x3',rfl,s2,hlnz,hZ⟩
    obtain ⟨c,hc,tc,rfl,htc⟩:=Zar hD hj
    have s02:=s'.trans s2
    have hrw2:=s02 _ _ hrw
    refine ⟨_,rfl,.inl ⟨rfl,_,SqL.of hlnz⟩,_,rfl,rw',rfl,⟨_,SqL.of hrw2⟩,Zfk (Za8 (xs:=ws.map V.str)) (sL (by rw [List.length_map];omega)) (fun _=>true) (fun D x v H=>Zzv c x v H∧∀ t,v=.ref t→t≠D) (fun D x v Ha Hb k h=>?_) (fun H' s'=>s'.seq (SqL.of hrw2)) ?_ ?_ ?_⟩
    ·obtain ⟨⟨t,z,e1,e2,e3⟩,ne⟩:=h
     exact ⟨⟨t,z,e1,e2,k _ _ (ne t e2) e3⟩,ne⟩
    ·intro x H3 R _ _ hR'
     exact hR' H3 (Zag.refl _)
    ·intro D x H3 R s3 hDx hDn hx _ hR'
     obtain ⟨z,hz,rfl⟩:=List.mem_map.mp hx
     obtain ⟨ys',hys'⟩:=hDx
     have htc3:=s3 _ _ (s2 _ _ htc)
     refine ⟨_,rfl,_,rfl,sL (by show 1≤100000;decide),fun t1 ht1=>?_⟩
     have s4:Zag H3 (upd H3 t1 (.tup [.str z])):=Zej ht1
     have t1D:t1≠D:=Ne.symm (nNo hys' ht1)
     have cl:c.length≤1000:=by
      have:=Zlg (List.mem_of_getElem? hc)
      rw [List.length_take] at this
      omega
     refine ⟨tc,t1,_,_,rfl,rfl,SqT.of (s4 _ _ htc3),SqT.of uS,sL (by rw [List.length_map];show c.length + 1≤100000;omega),fun e=>?_,(fun _ e=>nomatch e),fun _ _ t2 ht2=>?_⟩
     ·have e0:c=[]:=by cases c with | nil=>rfl | cons a r=>cases e
      subst e0
      exact hR' _ _ s4 ⟨⟨t1,z,rfl,rfl,uS⟩,fun t e=>by injection e with e;rw [← e];exact t1D⟩
     ·have t2D:t2≠D:=Ne.symm (nNo (s4 _ _ hys') ht2)
      exact hR' _ _ (s4.trans (Zej ht2)) ⟨⟨t2,z,rfl,rfl,by rw [uS,List.map_append];rfl⟩,fun t e=>by injection e with e;rw [← e];exact t2D⟩
    ·intro D H3 vs3 hD3 s3 hl3 hp3
     rw [List.filter_eq_self.mpr (fun _ _=>rfl)] at hp3
     have hC:=Zl3 (Paired.mapP hp3 fun _ _ z=>z.1)
     have hlnz3:=s3 _ _ hlnz
     have zl:=hZ.len
     have vl:=hC.len
     rw [List.length_map] at vl
     have hj':j<(Zd7 (wss.take i)).length:=(List.getElem?_eq_some_iff.mp hc).1
     have lz:(Zdb ((Zd7 (wss.take i)).take j) ws).length + ws.length≤10000:=by
      rw [Zgi] at hb1 ⊢
      rw [List.length_take,Nat.min_eq_left (by omega)]
      refine Nat.le_trans ?_ hb1
      rw [← Nat.succ_mul]
      exact Nat.mul_le_mul_right _ hj'
     refine ⟨ln,D,_,_,rfl,rfl,hlnz3,hl3,sL (by omega),zs++vs3,_,rfl,fun b o e=>by rw [Zac (nNo e hln)];exact s3 _ _ (s2 _ _ e),uS,?_⟩
     rw [Zjc _ _ hc]
     have kp:∀ b o,b≠ln→H3 b=some o→(upd H3 ln (.lst (zs++vs3))) b=some o:=fun b o hb e=>by rw [Zac hb];exact e
     have dk:∀ {ds:List (List Str)} {us:List V},Zas H3 ds us→Zas (upd H3 ln (.lst (zs++vs3))) ds us:=fun h=>Paired.mapP h fun _ _ ⟨t,e,x⟩=>⟨t,e,kp _ _ (fun z=>by rw [z,hlnz3] at x;cases x) x⟩
     exact (dk (hZ.mono s3)).append (dk hC)
   ·rintro σ H2 ⟨zs,x3',rfl,s2,hlnz,hZ⟩
    have el:(Zd7 (wss.take i)).take ys.length=Zd7 (wss.take i):=by rw [← hyl,List.take_length]
    rw [el] at hZ
    refine ⟨_,rfl,ln,zs,_,_,_,rfl,s'.trans s2,lnH,hlnz,?_⟩
    rw [List.take_add_one,hws]
    show Zas H2 (Zd7 (wss.take i++[ws])) zs
    rw [Zdh]
    exact hZ
  ·rintro σ H' ⟨lf,ys,x1,x2,x3,rfl,s',hlfH,hlf,hD⟩
   rw [← hul,List.take_length] at hD
   exact ⟨_,rfl,q lf ys H' hlfH s' hlf hD⟩
end
end K54
namespace K54
open PySem L2 Md
abbrev wds (rows:List (Str×List Str)):List Str:=rows.map (·.1)
def Zcl (rows:List (Str×List Str)) (n:Nat):List (List Str):=Zd7 (List.replicate n (wds rows))
theorem Zju (rows:List (Str×List Str)):∀ n,(Zcl rows n).length=rows.length ^ n
 | 0=>rfl
 | n + 1=>by
  unfold Zcl
  rw [List.replicate_succ',Zdh,Zgi]
  have:=Zju rows n
  unfold Zcl at this
  rw [this,List.length_map,Nat.pow_succ]
theorem Zgl {rows:List (Str×List Str)}{n:Nat}:∀ c∈Zcl rows n,Zba rows n c:=fun c hc=>by
 refine ⟨?_,?_⟩
 ·have:=Zlg hc
  rw [List.length_replicate] at this
  exact this
 ·exact Zqe (List.replicate n (wds rows)) [[]] (fun x=>x∈wds rows) (fun ws hws x hx=>by rw [List.eq_of_mem_replicate hws] at hx;exact hx) (fun d hd x hx=>by rw [List.mem_singleton.mp hd] at hx;cases hx) c hc
theorem Zpt {b i n:Nat}(hb:1≤b) (h:i≤n):b ^ i≤b ^ n:=Nat.pow_le_pow_right hb h
theorem Zm8 (d a:Addr):(Zou d a).lookup ("words":Str)=none:=Zgy d a (by decide +kernel) (by decide +kernel)
theorem Zwd (k t:Addr) (n:Nat):(Zfo k t n).lookup ("check_size":Str)=none:=Zfj k t n (by decide +kernel) (by decide +kernel) (by decide +kernel)
abbrev Zxu (K:W.Frag) (C f:Addr) (fd:FuncData):Prop:=Zn6 K C "words" "Kinds.words" Zd1 ["self"] f fd
abbrev Z3n (K:W.Frag) (B f:Addr) (fd:FuncData):Prop:=Zn6 K B "check_size" "Board.check_size" Zb8 ["self"] f fd
structure Z3h (mg:Str→Option Value):Prop where
 calls:∃ t,mg "MOST_CALLS"=some (.int 512 t)
 len:mg "len"=none
 range:mg "range"=none
 list:mg "list"=none
section
variable {P:Program} {w:World} {K:W.Frag} {mg:Str→Option Value} {base:Heap}
abbrev nSz:List Str:=["self","number","place"]
theorem Z3y:Zak nSz ["self"] (Zad Zb8):=⟨rfl,rfl,rfl,by decide +kernel,rfl,by decide +kernel,by decide +kernel⟩
theorem Z51:Zak ["self"] ["self"] (Zad Zd5):=⟨rfl,rfl,rfl,by decide +kernel,rfl,by decide +kernel,by decide +kernel⟩
end
end K54
namespace K54
open PySem L2 Md
theorem Zsz (ws:List Str):∀ n,(Zd7 (List.replicate n ws)).length=ws.length ^ n
 | 0=>rfl
 | n + 1=>by rw [List.replicate_succ',Zdh,Zgi,Zsz ws n,Nat.pow_succ]
def Zk3:Sp:=fun vs H Q _=>∃ (l:Addr) (ws:List Str) (n:Nat),vs=[.ref l,.int n]∧H l=some (.lst (ws.map V.str))∧1≤ws.length∧ws.length ^ n≤10000∧ws.length≤1000∧n≤100 ∧
 ∀ (lf:Addr) (ys:List V) (H':Hp),H lf=none→Zag H H'→H' lf=some (.lst ys)→Zas H' (Zd7 (List.replicate n ws)) ys→Q (.ref lf) H'
section
variable {P:Program} {w:World} {K:W.Frag} {mg:Str→Option Value} {base:Heap}
abbrev nLC:List Str:=["words","places","calls","k","longer","call"]
theorem Z35:Zak nLC ["words","places"] (Zad Zdp):=⟨rfl,rfl,rfl,by decide +kernel,rfl,by decide +kernel,by decide +kernel⟩
theorem Zte {f:Addr}{fd:FuncData}(F:Def K mg "_law_calls" Zdp ["words","places"] f fd) (range:mg "range"=none):Zaq P w K mg base CX0 1 f fd ["words","places"] Zk3:=by
 refine F.fn.ok Z35 (fun vs H Q E h=>?_) (fun cdv A outer s H vs Q E hr h=>?_)
 ·obtain ⟨l,ws,n,rfl,_⟩:=h
  rfl
 ·obtain ⟨l,ws,n,rfl,hl,h1,hb,hwl,hn,q⟩:=h
  have nd:=Z35.nd
  refine' ⟨_,(pS (Zal (i:=2) nd rfl (Or.inl rfl) (Zd0 (pC (Zav Zaa) Zaa)))
   (pS (Zbn PassesOwn.never rfl (Zcf (by rfl) range (pC (pv 1) Zaa)) (Zai (i:=3) nd rfl (Or.inl rfl))
    (pS (Zal (i:=4) nd rfl (Or.inl rfl) (Zd0 Zaa))
   (pS (Zbn PassesOwn.never rfl (Zb1 (pv 2)) (Zai (i:=5) nd rfl (Or.inr rfl)) (Zab (Za3 (Zic PySem.F.plainAttrs_list PySem.F.slot_list_extend PySem.F.type_list_extend Znb (pv 4) (pC ?ea Zaa)))))
   (Zab (Zal (i:=2) nd rfl (Or.inl rfl) (pv 4))))))
   (Zab (Zam (pv 2))))),?_⟩
  case ea=>exact (Zb3 ["word"] ["call"] [5] (fun _=>Za5 (osc:=Zad Zdp) (on:=nLC) (by decide +kernel) rfl rfl rfl) (Zb1 (pv 0)) (fun C s H fp=>Zai (i:=0) Z2w rfl (Or.inl rfl) (Or.inr rfl)) (fun C s H fp=>Zcm)
    (fun C s H fp=>Zbs (r:=Zvj K) Zlj (pv 1) (Zav (pC (pv 0) Zaa))))
  refine ⟨Nat.zero_le _,fun t0 ht0=>⟨sL (by show 1≤100000;decide),fun l0 hl0=>?_⟩⟩
  have s0:Zag H (upd (upd H t0 (.tup [])) l0 (.lst [.ref t0])):=(Zej ht0).trans (Zej hl0)
  have l0H:H l0=none:=(Zej (o:=.tup []) ht0).free hl0
  refine ⟨_,rfl,n,rfl,by omega,by omega,Za1 Zcz (fun i σ H'=>∃ (lf:Addr) (ys:List V) (x1 x2 x3:Option V),σ=[some (.ref l),some (.int n),some (.ref lf),x1,x2,x3]∧Zag H H'∧H lf=none∧H' lf=some (.lst ys)∧Zas H' (Zd7 (List.replicate i ws)) ys)
   ⟨l0,[.ref t0],none,none,none,rfl,s0,l0H,uS,.cons ⟨t0,rfl,(Zej hl0) _ _ uS⟩ .nil⟩ (fun _ _ _ _ _=>trivial) ?_ ?_⟩
  ·rintro i v σ H' hi ⟨lf,ys,x1,x2,x3,rfl,s',hlfH,hlf,hD⟩
   obtain ⟨hi,rfl⟩:=Zc0 hi
   have hb1:(Zdb (Zd7 (List.replicate i ws)) ws).length≤10000:=by
    rw [← Zdh,← List.replicate_succ',Zsz]
    exact Nat.le_trans (Nat.pow_le_pow_right h1 (by omega)) hb
   have hyl:=hD.len
   refine ⟨Nat.zero_le _,fun ln hln=>?_⟩
   have s1:Zag H' (upd H' ln (.lst [])):=Zej hln
   have lnH:H ln=none:=s'.free hln
   refine ⟨_,rfl,lf,rfl,⟨_,SqL.of (s1 _ _ hlf)⟩,Za1 (Za8 (xs:=ys)) (fun j σ H2=>∃ (zs:List V) (x1' x3:Option V),σ=[some (.ref l),some (.int n),some (.ref lf),x1',some (.ref ln),x3]∧Zag H' H2∧H2 ln=some (.lst zs)∧Zas H2 (Zdb ((Zd7 (List.replicate i ws)).take j) ws) zs)
    ⟨[],_,x3,rfl,s1,uS,by rw [List.take_zero];exact .nil⟩ (fun j σ H2 _ ⟨_,_,_,_,s2,_⟩=>SqL.of (s2 _ _ hlf)) ?_ ?_⟩
   ·rintro j v σ H2 hj ⟨zs,x1',x3',rfl,s2,hlnz,hZ⟩
    obtain ⟨c,hc,tc,rfl,htc⟩:=Zar hD hj
    have s02:=s'.trans s2
    have hrw2:=s02 _ _ hl
    refine ⟨_,rfl,.inl ⟨rfl,_,SqL.of hlnz⟩,_,rfl,l,rfl,⟨_,SqL.of hrw2⟩,Zfk (Za8 (xs:=ws.map V.str)) (sL (by rw [List.length_map];omega)) (fun _=>true) (fun D x v H=>Zzv c x v H∧∀ t,v=.ref t→t≠D) (fun D x v Ha Hb k h=>?_) (fun H' s'=>s'.seq (SqL.of hrw2)) ?_ ?_ ?_⟩
    ·obtain ⟨⟨t,z,e1,e2,e3⟩,ne⟩:=h
     exact ⟨⟨t,z,e1,e2,k _ _ (ne t e2) e3⟩,ne⟩
    ·intro x H3 R _ _ hR'
     exact hR' H3 (Zag.refl _)
    ·intro D x H3 R s3 hDx hDn hx _ hR'
     obtain ⟨z,hz,rfl⟩:=List.mem_map.mp hx
     obtain ⟨ys',hys'⟩:=hDx
     have htc3:=s3 _ _ (s2 _ _ htc)
     refine ⟨_,rfl,_,rfl,sL (by show 1≤100000;decide),fun t1 ht1=>?_⟩
     have s4:Zag H3 (upd H3 t1 (.tup [.str z])):=Zej ht1
     have t1D:t1≠D:=Ne.symm (nNo hys' ht1)
     have cl:c.length≤1000:=by
      have:=Zlg (List.mem_of_getElem? hc)
      rw [List.length_replicate] at this
      omega
     refine ⟨tc,t1,_,_,rfl,rfl,SqT.of (s4 _ _ htc3),SqT.of uS,sL (by rw [List.length_map];show c.length + 1≤100000;omega),fun e=>?_,(fun _ e=>nomatch e),fun _ _ t2 ht2=>?_⟩
     ·have e0:c=[]:=by cases c with | nil=>rfl | cons a r=>cases e
      subst e0
      exact hR' _ _ s4 ⟨⟨t1,z,rfl,rfl,uS⟩,fun t e=>by injection e with e;rw [← e];exact t1D⟩
     ·have t2D:t2≠D:=Ne.symm (nNo (s4 _ _ hys') ht2)
      exact hR' _ _ (s4.trans (Zej ht2)) ⟨⟨t2,z,rfl,rfl,by rw [uS,List.map_append];rfl⟩,fun t e=>by injection e with e;rw [← e];exact t2D⟩
    ·intro D H3 vs3 hD3 s3 hl3 hp3
     rw [List.filter_eq_self.mpr (fun _ _=>rfl)] at hp3
     have hC:=Zl3 (Paired.mapP hp3 fun _ _ z=>z.1)
     have hlnz3:=s3 _ _ hlnz
     have zl:=hZ.len
     have vl:=hC.len
     rw [List.length_map] at vl
     have hj':j<(Zd7 (List.replicate i ws)).length:=(List.getElem?_eq_some_iff.mp hc).1
     have lz:(Zdb ((Zd7 (List.replicate i ws)).take j) ws).length + ws.length≤10000:=by
      rw [Zgi] at hb1 ⊢
      rw [List.length_take,Nat.min_eq_left (by omega)]
      refine Nat.le_trans ?_ hb1
      rw [← Nat.succ_mul]
      exact Nat.mul_le_mul_right _ hj'
     refine ⟨ln,D,_,_,rfl,rfl,hlnz3,hl3,sL (by omega),zs++vs3,_,_,rfl,fun b o e=>by rw [Zac (nNo e hln)];exact s3 _ _ (s2 _ _ e),uS,?_⟩
     rw [Zjc _ _ hc]
     have kp:∀ b o,b≠ln→H3 b=some o→(upd H3 ln (.lst (zs++vs3))) b=some o:=fun b o hb e=>by rw [Zac hb];exact e
     have dk:∀ {ds:List (List Str)} {us:List V},Zas H3 ds us→Zas (upd H3 ln (.lst (zs++vs3))) ds us:=fun h=>Paired.mapP h fun _ _ ⟨t,e,x⟩=>⟨t,e,kp _ _ (fun z=>by rw [z,hlnz3] at x;cases x) x⟩
     exact (dk (hZ.mono s3)).append (dk hC)
   ·rintro σ H2 ⟨zs,x1',x3',rfl,s2,hlnz,hZ⟩
    have el:(Zd7 (List.replicate i ws)).take ys.length=Zd7 (List.replicate i ws):=by rw [← hyl,List.take_length]
    rw [el] at hZ
    refine ⟨_,rfl,ln,zs,_,_,_,rfl,s'.trans s2,lnH,hlnz,?_⟩
    rw [List.replicate_succ',Zdh]
    exact hZ
  ·rintro σ H' ⟨lf,ys,x1,x2,x3,rfl,s',hlfH,hlf,hD⟩
   rw [Zbm] at hD
   exact ⟨_,rfl,q lf ys H' hlfH s' hlf hD⟩
end
end K54
namespace K54
open PySem L2 Md
def Zsi (C B M:Addr):Sp:=fun vs H Q E=>∃ (p k:Addr) (rows:List (Str×List Str)) (n:Nat) (ds:List (List Str)),vs=[.ref p]∧Za6 C B H p k rows n ds∧Zb0 rows∧n≤4∧(rows.length ^ n≤512→∀ H',Zag H H'→Q .non H')∧(512<rows.length ^ n→∀ H',Zag H H'→E (.ref M) none H')
section
variable {P:Program} {w:World} {K:W.Frag} {mg:Str→Option Value} {base:Heap}
theorem Zvz {f B C M fWo:Addr}{fd fdWo:FuncData}(F:Fun K "check_size" "Board.check_size" Zb8 f fd) (T:Z3h mg) (TB:Zho K B) (TC:Zio K C) (TM:Zzu K mg "TooMany" M) (MW:Zxu K C fWo fdWo):Zaq P w K mg base (CX1 P w) 2 f fd ["self"] (Zsi C B M):=by
 have GW:Zaq P w K mg base (CX1 P w) 1 fWo fdWo ["self"] (Zit C):=(Zkk MW.fn TC T.list).any
 refine F.ok1 Z3y (fun vs H Q E h=>?_) (fun cdv A outer s H vs Q E hr h=>?_)
 ·obtain ⟨p,k,rows,n,ds,rfl,_⟩:=h
  rfl
 ·obtain ⟨p,k,rows,n,ds,rfl,bd,g,n4,q1,q2⟩:=h
  obtain ⟨dx,ts,us,h1,h2,h3,h4⟩:=bd.ex
  obtain ⟨dxk,dk,ak,ok,oak,kvs,avs,hk1,_⟩:=h2.ex
  obtain ⟨t1,hM⟩:=T.calls
  have nd:=Z3y.nd
  have gle:=g.le
  have gne:1≤rows.length:=by have:=g.ne;omega
  refine' ⟨_,(pS (Zal (i:=1) nd rfl (Or.inl rfl) Zae)
   (pS (Zbn PassesOwn.leaving rfl (Zcf (by rfl) T.range (pC (Zds (pv 0) rfl) Zaa)) (Zai (i:=2) nd rfl (Or.inl rfl)) (Zab (Zal (i:=1) nd rfl (Or.inl rfl) (Zbs Zki (pv 1) (Zaj Zaw (by rfl) T.len PySem.boot_len (pC (Zb2 (Zds (pv 0) rfl) TC.cl MW.me GW hr MW.b .nil (Zcb Fns.of)) Zaa))))))
   (Zab (Zau (Zap Zi9 (pv 1) (Za0 (v:=.int 512) (by rfl) hM ⟨_,rfl⟩) (Zaz _)) (Zab (Zhd (C:=M) Fns.of hr.hd TM.ex TM.ini (by rfl) TM.m (pC (Ze2 ?fs) Zaa))) Zah)))),?_⟩
  case fs=>exact Zax Zdr (Zax (Zi4 (Za0 (v:=.int 512) (by rfl) hM ⟨_,rfl⟩)) (Zax Zdr Ze1))
  have up4:rows.length ^ n≤24 ^ 4:=Nat.le_trans (Nat.pow_le_pow_left gle n) (Nat.pow_le_pow_right (by decide) n4)
  refine ⟨_,rfl,p,B,dx,_,_,rfl,h1,TB.cl,TB.nW,Zjm _ _ _,n,rfl,by omega,by omega,Za1 Zcz (fun i σ H'=>∃ x:Option V,σ=[some (.ref p),some (.int ((rows.length ^ i:Nat):Int)),x]∧Zag H H')
   ⟨none,rfl,Zag.refl _⟩ (fun _ _ _ _ _=>trivial) ?_ ?_⟩
  ·rintro i v σ H' hi ⟨x,rfl,s'⟩
   obtain ⟨hi,rfl⟩:=Zc0 hi
   have hpw:rows.length ^ i≤24 ^ 4:=Nat.le_trans (Zpt gne (by omega)) up4
   have h24:(24 ^ 4:Nat)=331776:=by decide
   refine ⟨_,rfl,_,rfl,p,B,dx,_,_,rfl,s' _ _ h1,TB.cl,TB.nB,Zlx _ _ _,k,dxk,_,rfl,s' _ _ hk1,Zm8 _ _,k,rows,rfl,h2.mono s',g,fun l hl=>?_⟩
   refine ⟨l,_,rfl,.inl (SqL.of uS),_,_,rfl,rfl,.inl ⟨by omega,by omega⟩,?_⟩
   refine ⟨some (V.int (0 + (i:Nat))),?_,s'.trans (Zej hl)⟩
   show [some (V.ref p),some (V.int (((rows.length ^ i:Nat):Int) * ((((rows.map (·.1)).map V.str).length:Nat):Int))),_]=_
   rw [List.length_map,List.length_map,← Int.natCast_mul,← Nat.pow_succ]
  ·rintro σ H' ⟨x,rfl,s'⟩
   rw [Zbm]
   refine ⟨_,rfl,_,_,rfl,rfl,_,rfl,?_⟩
   have e:((n:Nat):Int).toNat=n:=rfl
   rw [e]
   by_cases hc:512<rows.length ^ n
   ·rw [show decide ((512:Int)<((rows.length ^ n:Nat):Int))=true from decide_eq_true (by omega)]
    exact Ze5 ⟨by decide +kernel,512,rfl,by decide,by decide +kernel,fun x=>⟨sL (by show 1≤100000;decide),q2 hc H' s'⟩⟩
   ·rw [show decide ((512:Int)<((rows.length ^ n:Nat):Int))=false from decide_eq_false (by omega)]
    exact Zbz (q1 (by omega) H' s')
def Zii (C B M:Addr):Sp:=fun vs H Q E=>∃ (p k:Addr) (rows:List (Str×List Str)) (n:Nat) (ds:List (List Str)),vs=[.ref p]∧Za6 C B H p k rows n ds∧Zb0 rows∧n≤4 ∧
 (rows.length ^ n≤512→∀ (lf:Addr) (ys:List V) (H':Hp),H lf=none→Zag H H'→H' lf=some (.lst ys)→Zas H' (Zcl rows n) ys→Q (.ref lf) H')∧(512<rows.length ^ n→∀ H',Zag H H'→E (.ref M) none H')
theorem Zti {f B C M fWo fSz fO:Addr}{fd fdWo fdSz fdO:FuncData}(F:Fun K "calls" "Board.calls" Zd5 f fd) (T:Z3h mg) (TB:Zho K B) (TC:Zio K C) (TM:Zzu K mg "TooMany" M) (MW:Zxu K C fWo fdWo) (MS:Z3n K B fSz fdSz) (DO:Def K mg "one_of_each" Zc3 ["rows"] fO fdO):Zaq P w K mg base (CX1 P w) 3 f fd ["self"] (Zii C B M):=by
 have GW:Zaq P w K mg base (CX1 P w) 1 fWo fdWo ["self"] (Zit C):=(Zkk MW.fn TC T.list).any
 have GS:Zaq P w K mg base (CX1 P w) 2 fSz fdSz ["self"] (Zsi C B M):=Zvz MS.fn T TB TC TM MW
 have GO:Zaq P w K mg base (CX1 P w) 1 fO fdO ["rows"] Zmg:=(Zok DO).any
 refine F.ok1 Z51 (fun vs H Q E h=>?_) (fun cdv A outer s H vs Q E hr h=>?_)
 ·obtain ⟨p,k,rows,n,ds,rfl,_⟩:=h
  rfl
 ·obtain ⟨p,k,rows,n,ds,rfl,bd,g,n4,q,qx⟩:=h
  obtain ⟨dx,ts,us,h1,h2,h3,h4⟩:=bd.ex
  obtain ⟨dxk,dk,ak,ok,oak,kvs,avs,hk1,_⟩:=h2.ex
  have hr1:Zb6 1 _:=hr.mono (by decide)
  have gle:=g.le
  have gne:1≤rows.length:=by have:=g.ne;omega
  refine ⟨_,pS (Za3 (Zb2 (pv 0) TB.cl MS.me GS hr MS.b .nil (Zcb Fns.of))) (Zab (Zam (Zdi GO hr1 (by rfl) DO.m DO.fn.kp DO.b .nil (Zcb Fns.of) (pC (Zbs Z0s (Zd0 (pC (Zb2 (Zds (pv 0) rfl) TC.cl MW.me GW hr1 MW.b .nil (Zcb Fns.of)) Zaa)) (Zds (pv 0) rfl)) Zaa)))),?_⟩
  refine ⟨_,rfl,p,dx,_,rfl,h1,Zwd _ _ _,p,k,rows,n,ds,rfl,bd,g,n4,fun hc H1 s1=>?_,qx⟩
  refine ⟨_,rfl,p,B,dx,_,_,rfl,s1 _ _ h1,TB.cl,TB.nB,Zlx _ _ _,k,dxk,_,rfl,s1 _ _ hk1,Zm8 _ _,k,rows,rfl,h2.mono s1,g,fun l hl=>⟨sL (by show 1≤100000;decide),fun l1 hl1=>?_⟩⟩
  have s2:=s1.trans (Zej (o:=.lst ((rows.map (·.1)).map V.str)) hl)
  have s3:=s2.trans (Zej (o:=.lst [.ref l]) hl1)
  refine ⟨_,rfl,p,B,dx,_,_,rfl,s3 _ _ h1,TB.cl,TB.nW,Zjm _ _ _,l1,n,_,rfl,rfl,uS,by omega,by omega,sL (by show 1 * _≤100000;omega),fun l2 hl2=>?_⟩
  have hl2':=(Zej (o:=.lst (List.replicate ((n:Nat):Int).toNat [V.ref l]).flatten) hl2) _ _ ((Zej (o:=.lst [.ref l]) hl1) _ _ (uS (H:=H1) (a:=l) (o:=.lst ((rows.map (·.1)).map V.str))))
  have s4:=s3.trans (Zej (o:=.lst (List.replicate ((n:Nat):Int).toNat [V.ref l]).flatten) hl2)
  have fe:∀ m,(List.replicate m [V.ref l]).flatten=List.replicate m (V.ref l):=fun m=>by
   induction m with
   | zero=>rfl
   | succ m ih=>rw [List.replicate_succ,List.flatten_cons,ih,List.replicate_succ];rfl
  have rw_:∀ {H':Hp},H' l=some (.lst ((rows.map (·.1)).map V.str))→∀ m,Z1t H' (List.replicate m (wds rows)) (List.replicate m (V.ref l)):=fun {H'} e m=>by
   induction m with
   | zero=>exact .nil
   | succ m ih=>rw [List.replicate_succ,List.replicate_succ];exact .cons ⟨l,rfl,e⟩ ih
  refine ⟨l2,List.replicate n (wds rows),_,rfl,uS,?_,fun i=>?_,fun ws hws=>?_,by rw [List.length_replicate];omega,fun lf ys H' hlf s' hlf' hD=>q hc lf ys H' (s4.free hlf) (s4.trans s') hlf' hD⟩
  ·have r:=rw_ hl2' n
   rw [← fe n] at r
   exact r
  ·rw [List.take_replicate]
   have:=Zju rows (min i n)
   unfold Zcl at this
   rw [this]
   exact Nat.le_trans (Nat.le_trans (Zpt gne (Nat.min_le_right _ _)) hc) (by decide)
  ·rw [List.eq_of_mem_replicate hws,List.length_map]
   omega
end
end K54
namespace K54
open PySem L2 Md
noncomputable def Zbk (rows:List (Str×List Str)) (xs ys:List Str):Bool:=(xs.zip ys).all fun p=>Zc6 rows p.1 p.2
def Z2i (p:Str×Str):V×V:=(V.str p.1,V.str p.2)
theorem Zry (xs ys:List Str):(xs.map V.str).zip (ys.map V.str)=(xs.zip ys).map Z2i:=by rw [List.zip_map];rfl
theorem Znd {α β:Type}{f:α→β}{l:List α}{i:Nat}{y:β}(h:(l.map f)[i]?=some y):∃ x,l[i]?=some x∧f x=y:=by
 rw [List.getElem?_map] at h
 exact Option.map_eq_some_iff.mp h
def Zg3 (C:Addr):Sp:=fun vs H Q _=>∃ (p a b:Addr) (rows:List (Str×List Str)) (xs ys:List Str),vs=[.ref p,.ref a,.ref b]∧Za4 C H p rows∧Zb0 rows∧H a=some (.tup (xs.map V.str))∧H b=some (.tup (ys.map V.str))∧(∀ x∈xs,x∈rows.map (·.1))∧(∀ y∈ys,y∈rows.map (·.1)) ∧
 ∀ H',Zag H H'→Q (.bl (Zbk rows xs ys)) H'
def Zix (C:Addr):Sp:=fun vs H Q _=>∃ (p t:Addr) (n:Nat) (rows:List (Str×List Str)) (xs:List Str),vs=[.ref p,.int n,.ref t]∧Za4 C H p rows∧Zb0 rows∧H t=some (.tup (xs.map V.str))∧Zba rows n xs∧n≤4∧∀ H',Zag H H'→Q .non H'
noncomputable def Zwu (rows:List (Str×List Str)) (ds:List (List Str)) (xs:List Str):List Nat:=(List.range ds.length).filter fun i=>Zbk rows xs (ds.getD i [])
def Zmk (C B:Addr):Sp:=fun vs H Q _=>∃ (p k t:Addr) (rows:List (Str×List Str)) (n:Nat) (ds:List (List Str)) (xs:List Str),vs=[.ref p,.ref t]∧Za6 C B H p k rows n ds∧Zb0 rows∧Zao rows n ds∧n≤4∧H t=some (.tup (xs.map V.str))∧Zba rows n xs ∧
 ∀ l H',H l=none→Zag H H'→H' l=some (.lst ((Zwu rows ds xs).map fun i=>V.int (i:Nat)))→Q (.ref l) H'
section
variable {P:Program} {w:World} {K:W.Frag} {mg:Str→Option Value} {base:Heap}
abbrev nWi:List Str:=["kinds","one","other","low","high"]
theorem Z3x:Zak nWi ["kinds","one","other"] (Zad Zfc):=⟨rfl,rfl,rfl,by decide +kernel,rfl,by decide +kernel,by decide +kernel⟩
theorem Zm1 {f C fU fC fH:Addr}{fd fdU fdC fdH:FuncData}(F:Def K mg "within" Zfc ["kinds","one","other"] f fd) (zip:mg "zip"=none) (TC:Zio K C) (MU:Zuw K C fU fdU) (MC:Zqp K C fC fdC) (MH:Zrw K C fH fdH):
  Zaq P w K mg base CX0 4 f fd ["kinds","one","other"] (Zg3 C):=by
 have GU:Zaq P w K mg base CX0 3 fU fdU ["self","one","other"] (Zoa C):=Zpx MU.fn TC MC MH
 refine F.fn.ok Z3x (fun vs H Q E h=>?_) (fun cdv A outer s H vs Q E hr h=>?_)
 ·obtain ⟨p,a,b,rows,xs,ys,rfl,_⟩:=h
  rfl
 ·obtain ⟨p,a,b,rows,xs,ys,rfl,kd,g,ha,hb,hx,hy,q⟩:=h
  obtain ⟨dx,d,a1,o,oa,kvs,avs,h1,_⟩:=kd.ex
  have nd:=Z3x.nd
  refine ⟨_,pS (Zbn PassesOwn.never rfl (Z0o (by rfl) zip (pC (pv 1) (pC (pv 2) Zaa))) (Zfl rfl (gC (Zai (i:=3) nd rfl (Or.inl rfl)) (gC (Zai (i:=4) nd rfl (Or.inl rfl)) Zdz)))
    (Zab (Zau (Zb4 (Zce (Zcn (pv 0) TC.cl MU.me GU hr MU.b .nil Zhh (pC (pv 3) (pC (pv 4) Zaa))))) (Zab (Zam Ze8)) Zah)))
   (Zab (Zam Ze8)),?_⟩
  refine ⟨_,rfl,_,rfl,a,b,_,_,rfl,SqT.of ha,SqT.of hb,Zjl (fun i σ H'=>∃ (u v:Option V),σ=[some (.ref p),some (.ref a),some (.ref b),u,v]∧Zag H H'∧∀ z∈(xs.zip ys).take i,Zc6 rows z.1 z.2=true)
   ⟨none,none,rfl,Zag.refl H,by simp⟩ (fun i σ H' _ ⟨_,_,_,s,_⟩=>⟨SqT.of (s _ _ ha),SqT.of (s _ _ hb)⟩) ?_ ?_⟩
  ·rintro i pr t σ H' hi ⟨u,v,rfl,s1,hall⟩ ht0
   rw [Zry] at hi
   obtain ⟨z,hz,rfl⟩:=Znd hi
   refine Zqc ?_
   have s2:=s1.trans (Zej (o:=.tup [(Z2i z).1,(Z2i z).2]) ht0)
   have zm:=List.mem_of_getElem? hz
   have hzx:=hx _ (List.of_mem_zip zm).1
   have hzy:=hy _ (List.of_mem_zip zm).2
   refine ⟨_,rfl,p,dx,_,rfl,s2 _ _ h1,Zp4 _ _,_,rfl,_,rfl,p,rows,z.1,z.2,rfl,kd.mono s2,g,hzx,hzy,_,rfl,?_⟩
   refine Zek (fun h=>?_) (fun h=>?_)
   ·have e:Zbk rows xs ys=false:=by
     unfold Zbk
     rw [List.all_eq_false]
     exact ⟨z,zm,by simpa using h⟩
    have q':=q _ s2
    rw [e] at q'
    exact q'
   ·refine ⟨_,_,rfl,s2,fun y hy'=>?_⟩
    rw [List.take_add_one,hz] at hy'
    rcases List.mem_append.mp hy' with m | m
    ·exact hall y m
    ·have:y=z:=by simpa using m
     rw [this]
     simpa using h
  ·rintro σ H' ⟨u,v,rfl,s1,hall⟩
   rw [Zry,List.length_map,List.take_length] at hall
   have e:Zbk rows xs ys=true:=by
    unfold Zbk
    rw [List.all_eq_true]
    exact hall
   have q':=q _ s1
   rw [e] at q'
   exact q'
theorem Z52:Zak nIC nIC (Zad Zel):=⟨rfl,rfl,rfl,by decide +kernel,rfl,by decide +kernel,by decide +kernel⟩
theorem Zlo {f C fI fH:Addr}{fd fdI fdH:FuncData}(F:Def K mg "check_call" Zel nIC f fd) (DI:Def K mg "is_call" Zcp nIC fI fdI) (len:mg "len"=none) (all:mg "all"=none) (TC:Zio K C) (MH:Zrw K C fH fdH):Zaq P w K mg base CX0 3 f fd nIC (Zix C):=by
 have GI:Zaq P w K mg base CX0 2 fI fdI nIC (Zih C):=Zhw DI len all TC MH
 refine F.fn.ok Z52 (fun vs H Q E h=>?_) (fun cdv A outer s H vs Q E hr h=>?_)
 ·obtain ⟨p,t,n,rows,xs,rfl,_⟩:=h
  rfl
 ·obtain ⟨p,t,n,rows,xs,rfl,kd,g,ht,gc,hn,q⟩:=h
  refine ⟨_,Zab (Zau (Zb4 (Zce (Zaf DI GI hr (pC (pv 0) (pC (pv 1) (pC (pv 2) Zaa)))))) Zbe Zah),?_⟩
  refine ⟨_,rfl,_,rfl,_,rfl,p,t,n,rows,xs,rfl,kd,g,ht,by have:=gc.len;omega,fun H' s'=>⟨_,rfl,?_⟩⟩
  rw [gc.is]
  exact Zbz (q H' s')
abbrev nFi:List Str:=["board","call","kinds"]
theorem Z37:Zak nFi ["board","call"] (Zad Zfq):=⟨rfl,rfl,rfl,by decide +kernel,rfl,by decide +kernel,by decide +kernel⟩
theorem Zyz:(["number","deed","kinds","call"]:List Str).Nodup:=by decide +kernel
def Z4n (p:V×V):V:=p.1
theorem Zws {rows:List (Str×List Str)}{ds:List (List Str)}{xs:List Str}{us:List V}{p:V×V→Bool}(hl:ds.length=us.length) (h:∀ i (d:List Str) v,ds[i]?=some d→us[i]?=some v→p (.int (i:Nat),v)=Zbk rows xs d):
  ((Zjn us).filter p).map Z4n=(Zwu rows ds xs).map fun i=>V.int (i:Nat):=by
 have e1:Zjn us=(List.range us.length).map fun (i:Nat)=>(V.int (i:Nat),us.getD i .non):=by
  refine List.ext_getElem? fun i=>?_
  by_cases hi:i<us.length
  ·have h1:(Zjn us)[i]?=some ((Zjn us)[i]'(by rw [Zei];exact hi)):=List.getElem?_eq_getElem (by rw [Zei];exact hi)
   obtain ⟨a,b⟩:=Zf0 h1
   rw [h1,List.getElem?_map,List.getElem?_range hi]
   refine congrArg some (Prod.ext a ?_)
   show _=us.getD i .non
   rw [List.getD_eq_getElem?_getD,b]
   rfl
  ·rw [List.getElem?_eq_none (by rw [Zei];omega),List.getElem?_eq_none (by simp;omega)]
 rw [e1,List.filter_map,List.map_map]
 unfold Zwu
 rw [hl]
 have e2:(List.range us.length).filter (p ∘ fun (i:Nat)=>(V.int (i:Nat),us.getD i .non))=(List.range us.length).filter fun i=>Zbk rows xs (ds.getD i []):=by
  refine List.filter_congr fun i hi=>?_
  have hi:i<us.length:=List.mem_range.mp hi
  have d1:ds[i]?=some (ds.getD i []):=by rw [List.getD_eq_getElem?_getD,List.getElem?_eq_getElem (by omega)];rfl
  have u1:us[i]?=some (us.getD i .non):=by rw [List.getD_eq_getElem?_getD,List.getElem?_eq_getElem hi];rfl
  exact h i _ _ d1 u1
 rw [e2]
 rfl
noncomputable def Z4u (rows:List (Str×List Str)) (ds:List (List Str)) (xs:List Str):V×V→Bool
 | (.int i,_)=>Zbk rows xs (ds.getD i.toNat [])
 | _=>false
theorem Zq4 {f C B fK fPl fDe fCk fW fI fU fC fH:Addr}{fd fdK fdPl fdDe fdCk fdW fdI fdU fdC fdH:FuncData}(F:Def K mg "fitting" Zfq ["board","call"] f fd) (T:Zw3 mg) (zip:mg "zip"=none) (TC:Zio K C) (TB:Zho K B) (MK:Zjw K B fK fdK) (MP:Zw5 K B fPl fdPl) (MD:Zux K B fDe fdDe)
  (DCk:Def K mg "check_call" Zel nIC fCk fdCk) (DW:Def K mg "within" Zfc ["kinds","one","other"] fW fdW) (DI:Def K mg "is_call" Zcp nIC fI fdI) (MU:Zuw K C fU fdU) (MC:Zqp K C fC fdC) (MH:Zrw K C fH fdH):
  Zaq P w K mg base CX0 5 f fd ["board","call"] (Zmk C B):=by
 have GK:Zaq P w K mg base CX0 1 fK fdK ["self"] (Zgb C B):=Zfw MK.fn TB
 have GP:Zaq P w K mg base CX0 1 fPl fdPl ["self"] (Zmm C B):=Zq8 MP.fn TB
 have GD:Zaq P w K mg base CX0 1 fDe fdDe ["self"] (Zk8 C B):=Zm6 MD.fn TB T.list
 have GC:Zaq P w K mg base CX0 3 fCk fdCk nIC (Zix C):=Zlo DCk DI T.len T.all TC MH
 have GW:Zaq P w K mg base CX0 4 fW fdW ["kinds","one","other"] (Zg3 C):=Zm1 DW zip TC MU MC MH
 refine F.fn.ok Z37 (fun vs H Q E h=>?_) (fun cdv A outer s H vs Q E hr h=>?_)
 ·obtain ⟨p,k,t,rows,n,ds,xs,rfl,_⟩:=h
  rfl
 ·obtain ⟨p,k,t,rows,n,ds,xs,rfl,bd,g,gd,hn,ht,gc,q⟩:=h
  obtain ⟨dx,ts,us,h1,h2,h3,h4⟩:=bd.ex
  have nd:=Z37.nd
  have hr1:Zb6 1 _:=hr.mono (by decide)
  have hr3:Zb6 3 _:=hr.mono (by decide)
  refine' ⟨_,pS (Zal (i:=2) nd rfl (Or.inr rfl) (Zb2 (pv 0) TB.cl MK.me GK hr1 MK.b .nil Zhh))
   (pS (Za3 (Zaf DCk GC hr3 (pC (pv 2) (pC (Zb2 (pv 0) TB.cl MP.me GP hr1 MP.b .nil Zhh) (pC (pv 1) Zaa)))))
   (Zab (Zam ?ea))),?_⟩
  case ea=>exact (Zb3 ["number","deed"] ["kinds","call"] [2,1] (fun _=>Za5 (osc:=Zad Zfq) (on:=nFi) (by decide +kernel) rfl rfl rfl) (Zog (by rfl) T.enum (pC (Zb2 (pv 0) TB.cl MD.me GD hr1 MD.b .nil Zhh) Zaa))
    (fun C s H fp=>Z0p (K:=K) (i:=0) (j:=1) rfl rfl Zyz rfl rfl (Or.inl rfl) (Or.inl rfl) (Or.inr rfl) (Or.inr rfl))
    (fun C s H fp=>Zfv (Zce (Zaf DW GW hr (pC (pv 2) (pC (pv 3) (pC (pv 1) Zaa)))))) (fun C s H fp=>pv 0))
  refine ⟨_,rfl,p,dx,_,rfl,h1,Zfx _ _ _,p,k,rows,n,ds,rfl,bd,?_⟩
  refine ⟨_,rfl,_,rfl,p,dx,_,rfl,h1,Zq9 _ _ _,p,k,rows,n,ds,rfl,bd,_,rfl,k,t,n,rows,xs,rfl,h2,g,ht,gc,hn,fun H1 s1=>?_⟩
  refine ⟨_,rfl,p,dx,_,rfl,s1 _ _ h1,Zm9 _ _ _,p,k,rows,n,ds,rfl,bd.mono s1,fun l us' hl hD=>?_⟩
  have s2:Zag H1 (upd H1 l (.lst us')):=Zej hl
  have hul:=hD.length
  have few:=gd.few
  refine ⟨true,l,us',rfl,SqL.of uS,Zuo (sL (by rw [Zei];omega)) (Z4u rows ds xs) Z4n (fun H' s'=>SqL.of (s' _ _ uS)) ?_ ?_ ?_⟩
  ·intro x H' R s' hx hR
   obtain ⟨i,hi⟩:=List.getElem?_of_mem hx
   obtain ⟨e1,hu⟩:=Zf0 hi
   obtain ⟨dd,hdd,t2,e2,ht2⟩:=Zar hD hu
   have s02:=s1.trans (s2.trans s')
   have gcd:=gd.call dd (List.mem_of_getElem? hdd)
   rw [e2]
   refine ⟨_,rfl,_,rfl,_,rfl,k,t,t2,rows,xs,dd,rfl,h2.mono s02,g,s02 _ _ ht,s' _ _ (s2 _ _ ht2),gc.known,gcd.known,fun H3 s3=>⟨_,rfl,?_⟩⟩
   have e:Z4u rows ds xs x=Zbk rows xs dd:=by
    obtain ⟨x1,x2⟩:=x
    have e1:x1=.int (i:Nat):=e1
    rw [e1]
    show Zbk rows xs (ds.getD ((i:Nat):Int).toNat [])=_
    rw [Int.toNat_natCast,List.getD_eq_getElem?_getD,hdd]
    rfl
   rw [← e]
   exact hR H3 s3
  ·intro x H' R s' hx _ hR
   exact ⟨_,rfl,hR H' (Zag.refl _)⟩
  ·intro D H' hD0 s' hl'
   have s02:=s1.trans (s2.trans s')
   refine q D H' ?_ s02 ?_
   ·cases e:H D with
    | none=>rfl
    | some u=>have:=s2 _ _ (s1 _ _ e);rw [this] at hD0;cases hD0
   ·rw [hl',Zws hul fun i d v hd hv=>?_]
    show Zbk rows xs (ds.getD ((i:Nat):Int).toNat [])=_
    rw [Int.toNat_natCast,List.getD_eq_getElem?_getD,hd]
    rfl
end
end K54
namespace K54
open PySem L2 Md
noncomputable def wB (rows:List (Str×List Str)) (ds:List (List Str)) (j k:Nat):Bool:=Zbk rows (ds.getD j []) (ds.getD k [])
def Zqv (W:Nat→Nat→Bool) (near:List Nat) (x:Nat):List Nat:=if near.any (fun k=>W k x)=true then near else near.filter (fun k=>!W x k)++[x]
def Z12 (W:Nat→Nat→Bool) (l:List Nat):List Nat:=l.filter fun k=>!(l.any fun j=>!decide (j=k)&&W j k)
structure Zf4 (W:Nat→Nat→Bool) (l near:List Nat):Prop where
 sub:near.Sublist l
 min:∀ k∈near,∀ j∈l,W j k=true→j=k
 dom:∀ j∈l,∃ k∈near,k=j∨W k j=true
theorem Zf4.nil (W:Nat→Nat→Bool):Zf4 W [] []:=⟨.slnil,(fun k h=>nomatch h),(fun k h=>nomatch h)⟩
theorem Zf4.step {W:Nat→Nat→Bool}{l near:List Nat}{x:Nat}{S:Nat→Prop}(tr:∀ a b c,S a→S b→S c→W a b=true→W b c=true→W a c=true) (an:∀ a b,S a→S b→W a b=true→W b a=true→a=b) (hl:∀ k∈l,S k) (hx:S x) (h:Zf4 W l near):Zf4 W (l++[x]) (Zqv W near x):=by
 have ns:∀ k∈near,S k:=fun k hk=>hl k (h.sub.subset hk)
 unfold Zqv
 by_cases c:near.any (fun k=>W k x)=true
 ·rw [if_pos c]
  obtain ⟨k0,hk0,w0⟩:=List.any_eq_true.mp c
  refine ⟨h.sub.trans (List.sublist_append_left _ _),fun k hk j hj w=>?_,fun j hj=>?_⟩
  ·rcases List.mem_append.mp hj with z | z
   ·exact h.min k hk j z w
   ·have e:j=x:=List.mem_singleton.mp z
    subst e
    have e1:=h.min k hk k0 (h.sub.subset hk0) (tr k0 j k (ns _ hk0) hx (ns _ hk) w0 w)
    rw [e1] at w0
    exact an j k hx (ns _ hk) w w0
  ·rcases List.mem_append.mp hj with z | z
   ·exact h.dom j z
   ·rw [List.mem_singleton.mp z]
    exact ⟨k0,hk0,.inr w0⟩
 ·rw [if_neg c]
  have nc:∀ k∈near,¬ W k x=true:=fun k hk w=>c (List.any_eq_true.mpr ⟨k,hk,w⟩)
  refine ⟨List.Sublist.append (List.filter_sublist.trans h.sub) (List.Sublist.refl _),fun k hk j hj w=>?_,fun j hj=>?_⟩
  ·rcases List.mem_append.mp hk with y | y
   ·obtain ⟨y1,y2⟩:=List.mem_filter.mp y
    rcases List.mem_append.mp hj with z | z
    ·exact h.min k y1 j z w
    ·rw [List.mem_singleton.mp z] at w
     rw [w] at y2
     cases y2
   ·have e:k=x:=List.mem_singleton.mp y
    subst e
    rcases List.mem_append.mp hj with z | z
    ·obtain ⟨k0,hk0,d⟩:=h.dom j z
     rcases d with d | d
     ·rw [d] at hk0
      exact absurd w (nc j hk0)
     ·exact absurd (tr k0 j k (ns _ hk0) (hl _ z) hx d w) (nc k0 hk0)
    ·exact List.mem_singleton.mp z
  ·rcases List.mem_append.mp hj with z | z
   ·obtain ⟨k0,hk0,d⟩:=h.dom j z
    by_cases wx:W x k0=true
    ·refine ⟨x,by simp,.inr ?_⟩
     rcases d with d | d
     ·rw [← d];exact wx
     ·exact tr x k0 j hx (ns _ hk0) (hl _ z) wx d
    ·exact ⟨k0,List.mem_append_left _ (List.mem_filter.mpr ⟨hk0,by simpa using wx⟩),d⟩
   ·rw [List.mem_singleton.mp z]
    exact ⟨x,by simp,.inl rfl⟩
theorem Zhr {α:Type} [DecidableEq α]:∀ {near l:List α},near.Sublist l→l.Nodup→near=l.filter fun k=>decide (k∈near)
 | _,_,.slnil,_=>rfl
 | _,_,.cons a h,nd=>by
  obtain ⟨n1,n2⟩:=List.nodup_cons.mp nd
  rw [List.filter_cons,if_neg (by simpa using fun m=>n1 (h.subset m))]
  exact Zhr h n2
 | _,_,.cons₂ (l₁:=n) (l₂:=l) a h,nd=>by
  obtain ⟨n1,n2⟩:=List.nodup_cons.mp nd
  rw [List.filter_cons,if_pos (by simp)]
  congr 1
  have e:(l.filter fun k=>decide (k∈a :: n))=l.filter fun k=>decide (k∈n):=List.filter_congr fun k hk=>by
   have:k≠a:=fun z=>n1 (by rw [← z];exact hk)
   simp [this]
  rw [e]
  exact Zhr h n2
theorem Zf4.is {W:Nat→Nat→Bool}{l near:List Nat}(nd:l.Nodup) (h:Zf4 W l near):near=Z12 W l:=by
 refine (Zhr h.sub nd).trans ?_
 unfold Z12
 refine List.filter_congr fun k hk=>?_
 rw [Bool.eq_iff_iff,decide_eq_true_iff,Bool.not_eq_true',List.any_eq_false]
 constructor
 ·intro hm j hj z
  rw [Bool.and_eq_true] at z
  have:=h.min k hm j hj z.2
  simp [this] at z
 ·intro hm
  obtain ⟨k0,hk0,d⟩:=h.dom k hk
  rcases d with d | d
  ·rw [← d];exact hk0
  ·by_cases e:k0=k
   ·rw [← e];exact hk0
   ·exact absurd (by rw [Bool.and_eq_true];exact ⟨by simp [e],d⟩) (hm k0 (h.sub.subset hk0))
theorem Zgs {rows:List (Str×List Str)}{x y:Str}:Zc6 rows x y=true↔Graph.Reach (Zat rows) x y:=by
 unfold Zc6
 exact @decide_eq_true_iff _ (Classical.propDecidable _)
theorem Zyc {rows:List (Str×List Str)}(g:Zb0 rows):∃ rk:Str→Nat,∀ a b,b∈Zat rows a→rk b<rk a:=by
 obtain ⟨rk,hrk⟩:=g.rank
 refine ⟨rk,fun a b hb=>?_⟩
 unfold Zat at hb
 cases e:rows.lookup a with
 | none=>rw [e] at hb;simp at hb
 | some us =>
  rw [e] at hb
  have hm:(a,us)∈rows:=PySem.mem_of_lookup e
  exact hrk (a,us) hm b hb
theorem Zqx {rows:List (Str×List Str)}(g:Zb0 rows) {x y:Str} (h1:Graph.Reach (Zat rows) x y) (h2:Graph.Reach (Zat rows) y x):x=y:=by
 obtain ⟨rk,hrk⟩:=Zyc g
 refine Classical.byContradiction fun ne=>?_
 have a:=Graph.Reach.rank_lt hrk h1 ne
 have b:=Graph.Reach.rank hrk h2
 omega
theorem Zod {ups:Str→List Str}{x y z:Str} (h1:Graph.Reach ups x y) (h2:Graph.Reach ups y z):Graph.Reach ups x z:=h1.trans h2
theorem Zj4 {rows:List (Str×List Str)}{xs ys:List Str}:Zbk rows xs ys=true↔∀ (i:Nat) (x y:Str),xs[i]?=some x→ys[i]?=some y→Graph.Reach (Zat rows) x y:=by
 unfold Zbk
 rw [List.all_eq_true]
 constructor
 ·intro h i x y hx hy
  have hz:(xs.zip ys)[i]?=some (x,y):=by rw [List.getElem?_zip_eq_some];exact ⟨hx,hy⟩
  exact Zgs.mp (h _ (List.mem_of_getElem? hz))
 ·intro h p hp
  obtain ⟨i,hi⟩:=List.getElem?_of_mem hp
  rw [List.getElem?_zip_eq_some] at hi
  exact Zgs.mpr (h i _ _ hi.1 hi.2)
theorem Zl8 {rows:List (Str×List Str)}{n:Nat}{xs ys zs:List Str} (h1:xs.length=n) (h2:ys.length=n) (h3:zs.length=n) (a:Zbk rows xs ys=true) (b:Zbk rows ys zs=true):Zbk rows xs zs=true:=by
 rw [Zj4] at a b ⊢
 intro i x z hx hz
 have hi:i<ys.length:=by have:=(List.getElem?_eq_some_iff.mp hx).1;omega
 exact Zod (a i x _ hx (List.getElem?_eq_getElem hi)) (b i _ z (List.getElem?_eq_getElem hi) hz)
theorem Zn7 {rows:List (Str×List Str)}(g:Zb0 rows) {n:Nat}{xs ys:List Str} (h1:xs.length=n) (h2:ys.length=n) (a:Zbk rows xs ys=true) (b:Zbk rows ys xs=true):xs=ys:=by
 rw [Zj4] at a b
 refine List.ext_getElem (h1.trans h2.symm) fun i i1 i2=>?_
 exact Zqx g (a i _ _ (List.getElem?_eq_getElem i1) (List.getElem?_eq_getElem i2)) (b i _ _ (List.getElem?_eq_getElem i2) (List.getElem?_eq_getElem i1))
theorem Zf1 {ds:List (List Str)}{j:Nat}(h:j<ds.length):ds[j]?=some (ds.getD j []):=by
 rw [List.getD_eq_getElem?_getD,List.getElem?_eq_getElem h]
 rfl
section
variable {rows:List (Str×List Str)} {n:Nat} {ds:List (List Str)} (g:Zb0 rows) (gd:Zao rows n ds)
include gd in
theorem Zu7 (a b c:Nat) (ha:a<ds.length) (hb:b<ds.length) (hc:c<ds.length) (h1:wB rows ds a b=true) (h2:wB rows ds b c=true):wB rows ds a c=true :=
 Zl8 (gd.call _ (List.mem_of_getElem? (Zf1 ha))).len (gd.call _ (List.mem_of_getElem? (Zf1 hb))).len (gd.call _ (List.mem_of_getElem? (Zf1 hc))).len h1 h2
include g gd in
theorem Zxy (a b:Nat) (ha:a<ds.length) (hb:b<ds.length) (h1:wB rows ds a b=true) (h2:wB rows ds b a=true):a=b:=by
 have e:=Zn7 g (gd.call _ (List.mem_of_getElem? (Zf1 ha))).len (gd.call _ (List.mem_of_getElem? (Zf1 hb))).len h1 h2
 have h3:=Zf1 ha
 have h4:=Zf1 hb
 rw [e] at h3
 exact (List.getElem?_inj ha gd.nd).mp (h3.trans h4.symm)
include g gd in
theorem Ztq {l near:List Nat}{x:Nat}(hl:∀ k∈l,k<ds.length) (hx:x<ds.length) (h:Zf4 (wB rows ds) l near):Zf4 (wB rows ds) (l++[x]) (Zqv (wB rows ds) near x):=
 h.step (S:=fun k=>k<ds.length) (Zu7 gd) (Zxy g gd) hl hx
end
def Zj8 (C:Addr):Sp:=fun vs H Q _=>∃ (p ld ln:Addr) (x n:Nat) (rows:List (Str×List Str)) (ds:List (List Str)) (us:List V) (near:List Nat),vs=[.ref p,.ref ld,.ref ln,.int x]∧Za4 C H p rows∧Zb0 rows∧H ld=some (.lst us)∧Zas H ds us∧Zao rows n ds∧H ln=some (.lst (near.map Zkl))∧(∀ k∈near,k<ds.length)∧x<ds.length∧near.length≤64 ∧
 ∀ l H',Zag H H'→(l=ln∨H l=none)→H' l=some (.lst ((Zqv (wB rows ds) near x).map Zkl))→Q (.ref l) H'
noncomputable def wV (rows:List (Str×List Str)) (ds:List (List Str)) (x:Nat):V→V
 | .int j=>.bl (wB rows ds j.toNat x)
 | _=>.non
noncomputable def nwV (rows:List (Str×List Str)) (ds:List (List Str)) (x:Nat):V→Bool
 | .int j=>!wB rows ds x j.toNat
 | _=>false
theorem Zz0 (rows:List (Str×List Str)) (ds:List (List Str)) (x:Nat) (near:List Nat):((near.map Zkl).filter fun _=>true).map (wV rows ds x)=(near.map fun k=>wB rows ds k x).map V.bl:=by
 rw [List.filter_eq_self.mpr (fun _ _=>rfl),List.map_map,List.map_map]
 rfl
theorem Zyx (rows:List (Str×List Str)) (ds:List (List Str)) (x:Nat) (near:List Nat):((near.map Zkl).filter (nwV rows ds x)).map (fun v=>v)=(near.filter fun k=>!wB rows ds x k).map Zkl:=by
 rw [List.map_id',List.filter_map]
 rfl
theorem Zts:(["kept","kinds","deeds","number"]:List Str).Nodup:=by decide +kernel
section
variable {P:Program} {w:World} {K:W.Frag} {mg:Str→Option Value} {base:Heap}
abbrev nNW:List Str:=["kinds","deeds","near","number"]
theorem Z5v:Zak nNW nNW (Zad Zb5):=⟨rfl,rfl,rfl,by decide +kernel,rfl,by decide +kernel,by decide +kernel⟩
theorem Zm2 {f C fW:Addr}{fd fdW:FuncData}(F:Def K mg "nearest_with" Zb5 nNW f fd) (any:mg "any"=none) (DW:Def K mg "within" Zfc ["kinds","one","other"] fW fdW) (GW:Zaq P w K mg base CX0 4 fW fdW ["kinds","one","other"] (Zg3 C)):
  Zaq P w K mg base CX0 5 f fd nNW (Zj8 C):=by
 refine F.fn.ok Z5v (fun vs H Q E h=>?_) (fun cdv A outer s H vs Q E hr h=>?_)
 ·obtain ⟨p,ld,ln,x,n,rows,ds,us,near,rfl,_⟩:=h
  rfl
 ·obtain ⟨p,ld,ln,x,n,rows,ds,us,near,rfl,kd,g,hld,hD,gd,hln,hk,hx,hn,q⟩:=h
  refine' ⟨_,pS (Zau (Zce (Zaj (Zqn rfl) (by rfl) any PyProof.Rows.boot_any (pC ?ea Zaa))) (Zab (Zam (pv 2))) Zah) (Zab (Zam (Zbs Ztc ?eb (Zd0 (pC (pv 3) Zaa))))),?_⟩
  case ea=>exact (Zb3 ["kept"] ["kinds","deeds","number"] [0,1,3] (fun _=>Za5 (osc:=Zad Zb5) (on:=nNW) (by decide +kernel) rfl rfl rfl) (Zb1 (pv 2)) (fun C s H fp=>Zai (i:=0) Zts rfl (Or.inl rfl) (Or.inr rfl)) (fun C s H fp=>Zcm)
    (fun C s H fp=>Zaf DW GW hr (pC (pv 1) (pC (Zbd (r:=Zl7 K) Za9 (pv 2) (pv 0) (fun _ _=>rfl)) (pC (Zbd (r:=Zl7 K) Za9 (pv 2) (pv 3) (fun _ _=>rfl)) Zaa)))))
  case eb=>exact (Zb3 ["kept"] ["kinds","deeds","number"] [0,1,3] (fun _=>Za5 (osc:=Zad Zb5) (on:=nNW) (by decide +kernel) rfl rfl rfl) (Zb1 (pv 2)) (fun C s H fp=>Zai (i:=0) Zts rfl (Or.inl rfl) (Or.inr rfl))
    (fun C s H fp=>Zfv (Zb4 (Zce (Zaf DW GW hr (pC (pv 1) (pC (Zbd (r:=Zl7 K) Za9 (pv 2) (pv 3) (fun _ _=>rfl)) (pC (Zbd (r:=Zl7 K) Za9 (pv 2) (pv 0) (fun _ _=>rfl)) Zaa))))))) (fun C s H fp=>pv 0))
  have hul:=hD.length
  have at_:∀ (H':Hp) (k:Nat),Zag H H'→k<ds.length→∃ t,atI us ((k:Nat):Int)=some (.ref t)∧H' t=some (.tup ((ds.getD k []).map V.str)):=fun H' k s' hk=>by
   have hk':k<us.length:=by omega
   obtain ⟨dd,hdd,t,e,ht⟩:=Zar hD (List.getElem?_eq_getElem hk')
   refine ⟨t,Zch ((List.getElem?_eq_getElem hk').trans (congrArg some e)),?_⟩
   have e2:ds.getD k []=dd:=by rw [List.getD_eq_getElem?_getD,hdd];rfl
   rw [e2]
   exact s' _ _ ht
  have kn:∀ k,k<ds.length→∀ y∈ds.getD k [],y∈rows.map (·.1):=fun k hk=>(gd.call _ (List.mem_of_getElem? (Zf1 hk))).known
  refine ⟨_,rfl,ln,rfl,⟨_,SqL.of hln⟩,Ze0 (Za8 (xs:=near.map Zkl)) (sL (by rw [List.length_map];omega)) (fun _=>true) (wV rows ds x) (fun H' s'=>s'.seq (SqL.of hln)) ?_ ?_ ?_⟩
  ·intro v H' R s' _ hR
   exact hR H' (Zag.refl _)
  ·intro v H' R s' hv _ hR
   obtain ⟨k,hk',rfl⟩:=List.mem_map.mp hv
   obtain ⟨t1,a1,h1⟩:=at_ H' k s' (hk k hk')
   obtain ⟨t2,a2,h2⟩:=at_ H' x s' hx
   exact ⟨_,rfl,_,rfl,_,rfl,ld,_,_,_,rfl,rfl,SqL.of (s' _ _ hld),a1,_,rfl,_,rfl,ld,_,_,_,rfl,rfl,SqL.of (s' _ _ hld),a2,p,t1,t2,rows,_,_,rfl,kd.mono s',g,h1,h2,kn k (hk k hk'),kn x hx,fun H'' s''=>hR H'' s''⟩
  ·intro D H1 hD0 s1 hl1
   rw [Zz0] at hl1
   have eA:(near.map fun k=>wB rows ds k x).any id=near.any fun k=>wB rows ds k x:=by rw [List.any_map];rfl
   refine ⟨D,_,rfl,SqL.of hl1,_,congrArg V.bl eA,?_⟩
   refine Zek (fun h=>?_) (fun h=>?_)
   ·refine ⟨_,rfl,q ln H1 s1 (.inl rfl) ?_⟩
    unfold Zqv
    rw [if_pos h]
    exact s1 _ _ hln
   ·refine ⟨_,rfl,ln,rfl,⟨_,SqL.of (s1 _ _ hln)⟩,Ze0 (Za8 (xs:=near.map Zkl)) (sL (by rw [List.length_map];omega)) (nwV rows ds x) (fun v=>v) (fun H' s'=>s'.seq (SqL.of (s1 _ _ hln))) ?_ ?_ ?_⟩
    ·intro v H' R s' hv hR
     obtain ⟨k,hk',rfl⟩:=List.mem_map.mp hv
     have s2:=s1.trans s'
     obtain ⟨t1,a1,h1⟩:=at_ H' k s2 (hk k hk')
     obtain ⟨t2,a2,h2⟩:=at_ H' x s2 hx
     exact ⟨_,rfl,_,rfl,_,rfl,ld,_,_,_,rfl,rfl,SqL.of (s2 _ _ hld),a2,_,rfl,_,rfl,ld,_,_,_,rfl,rfl,SqL.of (s2 _ _ hld),a1,p,t2,t1,rows,_,_,rfl,kd.mono s2,g,h2,h1,kn x hx,kn k (hk k hk'),fun H'' s''=>⟨_,rfl,hR H'' s''⟩⟩
    ·intro v H' R s' hv _ hR
     exact ⟨_,rfl,hR H' (Zag.refl _)⟩
    ·intro D2 H2 hD2 s2 hl2
     rw [Zyx] at hl2
     have fl:(near.filter fun k=>!wB rows ds x k).length≤64:=Nat.le_trans (List.length_filter_le _ _) hn
     refine ⟨_,rfl,sL (by show 1≤100000;decide),fun l3 hl3=>⟨D2,l3,_,_,rfl,rfl,(Zej hl3) _ _ hl2,uS,sL (by rw [List.length_map];show _ + 1≤100000;omega),fun l4 hl4=>?_⟩⟩
     have s12:=s1.trans s2
     have s3:=s12.trans (Zej (o:=.lst [.int x]) hl3)
     refine q l4 _ (s3.trans (Zej hl4)) (.inr (s3.free hl4)) ?_
     rw [uS]
     unfold Zqv
     rw [if_neg h,List.map_append]
     rfl
def Ziu (C B:Addr):Sp:=fun vs H Q _=>∃ (p k l:Addr) (rows:List (Str×List Str)) (n:Nat) (ds:List (List Str)) (ms:List Nat),vs=[.ref p,.ref l]∧Za6 C B H p k rows n ds∧Zb0 rows∧Zao rows n ds∧H l=some (.lst (ms.map Zkl))∧(∀ j∈ms,j<ds.length)∧ms.Nodup∧ms.length≤64 ∧
 ∀ l' H',Zag H H'→H l'=none→H' l'=some (.lst ((Z12 (wB rows ds) ms).map Zkl))→Q (.ref l') H'
abbrev nNA:List Str:=["board","numbers","kinds","deeds","near","number"]
theorem Z31:Zak nNA ["board","numbers"] (Zad Zc4):=⟨rfl,rfl,rfl,by decide +kernel,rfl,by decide +kernel,by decide +kernel⟩
theorem Zy0 {ms:List Nat}{i:Nat}{v:V}(h:(ms.map Zkl)[i]?=some v):∃ x,ms[i]?=some x∧v=.int (x:Nat):=by
 obtain ⟨x,h1,h2⟩:=Znd h
 exact ⟨x,h1,h2.symm⟩
theorem Zlk {f C B fK fDe fN fW:Addr}{fd fdK fdDe fdN fdW:FuncData}(F:Def K mg "nearest_among" Zc4 ["board","numbers"] f fd) (list:mg "list"=none) (any:mg "any"=none) (TB:Zho K B) (MK:Zjw K B fK fdK) (MD:Zux K B fDe fdDe) (DN:Def K mg "nearest_with" Zb5 nNW fN fdN)
  (DW:Def K mg "within" Zfc ["kinds","one","other"] fW fdW) (GW:Zaq P w K mg base CX0 4 fW fdW ["kinds","one","other"] (Zg3 C)):Zaq P w K mg base CX0 6 f fd ["board","numbers"] (Ziu C B):=by
 have GK:Zaq P w K mg base CX0 1 fK fdK ["self"] (Zgb C B):=Zfw MK.fn TB
 have GD:Zaq P w K mg base CX0 1 fDe fdDe ["self"] (Zk8 C B):=Zm6 MD.fn TB list
 have GN:Zaq P w K mg base CX0 5 fN fdN nNW (Zj8 C):=Zm2 DN any DW GW
 refine F.fn.ok Z31 (fun vs H Q E h=>?_) (fun cdv A outer s H vs Q E hr h=>?_)
 ·obtain ⟨p,k,l,rows,n,ds,ms,rfl,_⟩:=h
  rfl
 ·obtain ⟨p,k,l,rows,n,ds,ms,rfl,bd,g,gd,hl,hms,nd',hml,q⟩:=h
  obtain ⟨dx,ts,us0,h1,h2,h3,h4⟩:=bd.ex
  have nd:=Z31.nd
  have hr1:Zb6 1 _:=hr.mono (by decide)
  refine ⟨_,(pS (Zal (i:=2) nd rfl (Or.inl rfl) (Zb2 (pv 0) TB.cl MK.me GK hr1 MK.b .nil Zhh))
   (pS (Zal (i:=3) nd rfl (Or.inl rfl) (Zb2 (pv 0) TB.cl MD.me GD hr1 MD.b .nil Zhh))
   (pS (Zal (i:=4) nd rfl (Or.inl rfl) (Zd0 Zaa))
   (pS (Zbn PassesOwn.never rfl (Zb1 (pv 1)) (Zai (i:=5) nd rfl (Or.inl rfl)) (Zab (Zal (i:=4) nd rfl (Or.inl rfl) (Zaf DN GN hr (pC (pv 2) (pC (pv 3) (pC (pv 4) (pC (pv 5) Zaa))))))))
   (Zab (Zam (pv 4))))))),?_⟩
  refine ⟨_,rfl,p,dx,_,rfl,h1,Zfx _ _ _,p,k,rows,n,ds,rfl,bd,?_⟩
  refine ⟨_,rfl,p,dx,_,rfl,h1,Zm9 _ _ _,p,k,rows,n,ds,rfl,bd,fun ld us hld hD=>?_⟩
  have s1:Zag H (upd H ld (.lst us)):=Zej hld
  refine ⟨Nat.zero_le _,fun l0 hl0=>?_⟩
  have s2:Zag H (upd (upd H ld (.lst us)) l0 (.lst [])):=s1.trans (Zej hl0)
  have hld2:(upd (upd H ld (.lst us)) l0 (.lst [])) ld=some (.lst us):=(Zej hl0) _ _ uS
  have hl0H:H l0=none:=s1.free hl0
  refine ⟨_,rfl,l,rfl,⟨_,SqL.of (s2 _ _ hl)⟩,Za1 (Za8 (xs:=ms.map Zkl)) (fun i σ H'=>∃ (ln:Addr) (near:List Nat) (x:Option V),σ=[some (.ref p),some (.ref l),some (.ref k),some (.ref ld),some (.ref ln),x]∧Zag H H'∧H' ld=some (.lst us)∧H ln=none∧H' ln=some (.lst (near.map Zkl))∧Zf4 (wB rows ds) (ms.take i) near)
   ⟨l0,[],none,rfl,s2,hld2,hl0H,uS,Zf4.nil _⟩ (fun i σ H' _ ⟨_,_,_,_,s',_⟩=>SqL.of (s' _ _ hl)) ?_ ?_⟩
  ·rintro i v σ H' hi ⟨ln,near,x0,rfl,s',hld',hlnH,hln,ok⟩
   obtain ⟨x,hx,rfl⟩:=Zy0 hi
   have nl:near.length≤ms.length:=Nat.le_trans ok.sub.length_le (by rw [List.length_take];omega)
   refine ⟨_,rfl,_,rfl,_,rfl,_,rfl,k,ld,ln,x,n,rows,ds,us,near,rfl,h2.mono s',g,hld',hD.mono s',gd,hln,fun j hj=>hms j (List.mem_of_mem_take (ok.sub.subset hj)),hms x (List.mem_of_getElem? hx),by omega,fun l' H2 s'' hor hl'=>?_⟩
   refine ⟨l',_,_,rfl,s'.trans s'',s'' _ _ hld',?_,hl',?_⟩
   ·rcases hor with z | z
    ·rw [z];exact hlnH
    ·exact s'.free z
   ·rw [List.take_add_one,hx]
    exact Ztq g gd (fun j hj=>hms j (List.mem_of_mem_take hj)) (hms x (List.mem_of_getElem? hx)) ok
  ·rintro σ H' ⟨ln,near,x0,rfl,s',hld',hlnH,hln,ok⟩
   rw [List.length_map,List.take_length] at ok
   refine ⟨_,rfl,q ln H' s' hlnH ?_⟩
   rw [hln,ok.is nd']
noncomputable def Zon (rows:List (Str×List Str)) (ds:List (List Str)) (xs:List Str):List Nat:=Z12 (wB rows ds) (Zwu rows ds xs)
def Zmh (C B:Addr):Sp:=fun vs H Q _=>∃ (p k t:Addr) (rows:List (Str×List Str)) (n:Nat) (ds:List (List Str)) (xs:List Str),vs=[.ref p,.ref t]∧Za6 C B H p k rows n ds∧Zb0 rows∧Zao rows n ds∧n≤4∧H t=some (.tup (xs.map V.str))∧Zba rows n xs ∧
 ∀ l H',H l=none→Zag H H'→H' l=some (.lst ((Zon rows ds xs).map Zkl))→Q (.ref l) H'
theorem Zzg {rows:List (Str×List Str)}{ds:List (List Str)}{xs:List Str}:∀ k∈Zwu rows ds xs,k<ds.length:=fun k hk=>List.mem_range.mp (List.mem_filter.mp hk).1
theorem Zzf (rows:List (Str×List Str)) (ds:List (List Str)) (xs:List Str):(Zwu rows ds xs).Nodup:=List.nodup_range.filter _
theorem Zwt (rows:List (Str×List Str)) (ds:List (List Str)) (xs:List Str):(Zwu rows ds xs).length≤ds.length:=by
 unfold Zwu
 refine Nat.le_trans (List.length_filter_le _ _) ?_
 rw [List.length_range]
 exact Nat.le_refl _
theorem Z5u:Zak ["board","call"] ["board","call"] (Zad Zg8):=⟨rfl,rfl,rfl,by decide +kernel,rfl,by decide +kernel,by decide +kernel⟩
theorem Zq0 {f C B fA fF:Addr}{fd fdA fdF:FuncData}(F:Def K mg "nearest" Zg8 ["board","call"] f fd) (DA:Def K mg "nearest_among" Zc4 ["board","numbers"] fA fdA) (GA:Zaq P w K mg base CX0 6 fA fdA ["board","numbers"] (Ziu C B)) (DF:Def K mg "fitting" Zfq ["board","call"] fF fdF) (GF:Zaq P w K mg base CX0 5 fF fdF ["board","call"] (Zmk C B)):
  Zaq P w K mg base CX0 7 f fd ["board","call"] (Zmh C B):=by
 refine F.fn.ok Z5u (fun vs H Q E h=>?_) (fun cdv A outer s H vs Q E hr h=>?_)
 ·obtain ⟨p,k,t,rows,n,ds,xs,rfl,_⟩:=h
  rfl
 ·obtain ⟨p,k,t,rows,n,ds,xs,rfl,bd,g,gd,hn,ht,gc,q⟩:=h
  have hr5:Zb6 5 _:=hr.mono (by decide)
  have few:=gd.few
  have fl:=Zwt rows ds xs
  refine ⟨_,Zab (Zam (Zaf DA GA hr (pC (pv 0) (pC (Zaf DF GF hr5 (pC (pv 0) (pC (pv 1) Zaa))) Zaa)))),?_⟩
  refine ⟨_,rfl,_,rfl,_,rfl,p,k,t,rows,n,ds,xs,rfl,bd,g,gd,hn,ht,gc,fun l H1 hl s1 hl1=>?_⟩
  exact ⟨p,k,l,rows,n,ds,Zwu rows ds xs,rfl,bd.mono s1,g,gd,hl1,Zzg,Zzf _ _ _,by omega,fun l' H2 s2 hl' h2=>q l' H2 (s1.free hl') (s1.trans s2) h2⟩
def Zg2:List Nat→List V
 | []=>[.str "none"]
 | [k]=>[.str "deed",Zkl k]
 | k :: j :: _=>[.str "clash",Zkl k,Zkl j]
def Zpd:Sp:=fun vs H Q _=>∃ (l:Addr) (near:List Nat),vs=[.ref l]∧H l=some (.lst (near.map Zkl))∧∀ t H',H t=none→Zag H H'→H' t=some (.tup (Zg2 near))→Q (.ref t) H'
theorem Z2j:Zak ["near"] ["near"] (Zad Zg7):=⟨rfl,rfl,rfl,by decide +kernel,rfl,by decide +kernel,by decide +kernel⟩
theorem Zqz {f:Addr}{fd:FuncData}(F:Def K mg "told_of" Zg7 ["near"] f fd) (len:mg "len"=none):Zaq P w K mg base CX0 1 f fd ["near"] Zpd:=by
 refine F.fn.ok Z2j (fun vs H Q E h=>?_) (fun cdv A outer s H vs Q E hr h=>?_)
 ·obtain ⟨l,near,rfl,_⟩:=h
  rfl
 ·obtain ⟨l,near,rfl,hl,q⟩:=h
  refine ⟨_,pS (Zau (Zb4 (Zik (pv 0) (fun _=>rfl))) (Zab (Zam (Zav (pC Zev Zaa)))) Zah)
   (pS (Zau (Zap Ze9 (Zaj Zaw (by rfl) len PySem.boot_len (pC (pv 0) Zaa)) Zae (Zaz _)) (Zab (Zam (Zav (pC Zev (pC (Zbd Za9 (pv 0) Zae (fun _ _=>rfl)) Zaa))))) Zah)
   (Zab (Zam (Zav (pC Zev (pC (Zbd Za9 (pv 0) Zae (fun _ _=>rfl)) (pC (Zbd Za9 (pv 0) Zae (fun _ _=>rfl)) Zaa))))))),?_⟩
  cases near with
  | nil=>exact ⟨_,rfl,false,.inl ⟨[],SqL.of hl,rfl⟩,Ze5 ⟨sL (by show 1≤100000;decide),fun t ht=>q t _ ht (Zej ht) uS⟩⟩
  | cons k r =>
   refine ⟨_,rfl,true,.inl ⟨_,SqL.of hl,rfl⟩,Zbz ?_⟩
   refine ⟨_,rfl,l,_,rfl,.inl (SqL.of hl),rfl,_,rfl,?_⟩
   cases r with
   | nil =>
    refine Zek (fun _=>?_) (fun h=>absurd (by rfl) h)
    exact ⟨_,rfl,l,_,_,_,rfl,rfl,SqL.of hl,rfl,sL (by show 2≤100000;decide),fun t ht=>q t _ ht (Zej ht) uS⟩
   | cons j r =>
    refine Zek (fun h=>?_) (fun _=>?_)
    ·have h:=of_decide_eq_true h
     injection h with h
     simp at h
     omega
    ·exact ⟨_,rfl,l,_,_,_,rfl,rfl,SqL.of hl,Zch (j:=0) rfl,_,rfl,l,_,_,_,rfl,rfl,SqL.of hl,Zch (j:=1) rfl,sL (by show 3≤100000;decide),fun t ht=>q t _ ht (Zej ht) uS⟩
def Zsg (C B:Addr):Sp:=fun vs H Q _=>∃ (p k t:Addr) (rows:List (Str×List Str)) (n:Nat) (ds:List (List Str)) (xs:List Str),vs=[.ref p,.ref t]∧Za6 C B H p k rows n ds∧Zb0 rows∧Zao rows n ds∧n≤4∧H t=some (.tup (xs.map V.str))∧Zba rows n xs ∧
 ∀ l H',H l=none→Zag H H'→H' l=some (.tup (Zg2 (Zon rows ds xs)))→Q (.ref l) H'
theorem Z5r:Zak ["board","call"] ["board","call"] (Zad Zms):=⟨rfl,rfl,rfl,by decide +kernel,rfl,by decide +kernel,by decide +kernel⟩
theorem Zyp {f C B fN fO:Addr}{fd fdN fdO:FuncData}(F:Def K mg "told" Zms ["board","call"] f fd) (DN:Def K mg "nearest" Zg8 ["board","call"] fN fdN) (GN:Zaq P w K mg base CX0 7 fN fdN ["board","call"] (Zmh C B)) (DO:Def K mg "told_of" Zg7 ["near"] fO fdO) (len:mg "len"=none):
  Zaq P w K mg base CX0 8 f fd ["board","call"] (Zsg C B):=by
 have GO:Zaq P w K mg base CX0 1 fO fdO ["near"] Zpd:=Zqz DO len
 refine F.fn.ok Z5r (fun vs H Q E h=>?_) (fun cdv A outer s H vs Q E hr h=>?_)
 ·obtain ⟨p,k,t,rows,n,ds,xs,rfl,_⟩:=h
  rfl
 ·obtain ⟨p,k,t,rows,n,ds,xs,rfl,bd,g,gd,hn,ht,gc,q⟩:=h
  have hr1:Zb6 1 _:=hr.mono (by decide)
  refine ⟨_,Zab (Zam (Zaf DO GO hr1 (pC (Zaf DN GN hr (pC (pv 0) (pC (pv 1) Zaa))) Zaa))),?_⟩
  refine ⟨_,rfl,_,rfl,p,k,t,rows,n,ds,xs,rfl,bd,g,gd,hn,ht,gc,fun l H1 hl s1 hl1=>?_⟩
  exact ⟨l,_,rfl,hl1,fun t' H2 ht' s2 h2=>q t' H2 (s1.free ht') (s1.trans s2) h2⟩
end
end K54
namespace K54
open PySem L2 Md
abbrev Dt:=W.Dat
def Zkq (d:List Str):Dt:=.tuple (d.map W.Dat.str)
theorem Zwx {d e:List Str}(h:Zkq d=Zkq e):d=e:=by
 unfold Zkq at h
 injection h with h
 exact List.map_inj_right (fun a b z=>by injection z) |>.mp h
theorem Zle {K:W.Frag}{H:Hp}{t:Addr}{d:List Str}(h:H t=some (.tup (d.map V.str))):Rep K H (.ref t) (Zkq d):=.tuple (SqT.of h) (Zhb d)
theorem Zkc {K:W.Frag}{H:Hp}:∀ {ds:List (List Str)}{vs:List V},Zas H ds vs→Reps K H vs (ds.map Zkq)
 | _,_,.nil=>.nil
 | _,_,.cons ⟨t,e,h⟩ r=>by rw [e];exact .cons (Zle h) (Zkc r)
theorem Zhz {rows:List (Str×List Str)}(g:Zb0 rows):∀ x∈rows.map (·.1),Za2 x=true:=fun x hx=>by
 obtain ⟨r,hr,e⟩:=List.mem_map.mp hx
 rw [← e]
 exact g.word r hr
theorem Z00 (n:Nat) {x:Str}(h:Za2 x=true):W.kqdOk n (.str x)=true:=by cases n <;> exact Zip h
theorem Zom (n:Nat) {d:List Str}(h:∀ x∈d,Za2 x=true):W.kqdOk (n + 1) (Zkq d)=true:=by
 unfold Zkq
 rw [W.kqdOk,List.all_eq_true]
 intro z hz
 obtain ⟨x,hx,rfl⟩:=List.mem_map.mp hz
 exact Z00 n (h x hx)
theorem Zpz (n:Nat) {ds:List (List Str)}(h:∀ d∈ds,∀ x∈d,Za2 x=true):(ds.map Zkq).all (W.kqdOk (n + 1))=true:=by
 rw [List.all_eq_true]
 intro z hz
 obtain ⟨d,hd,rfl⟩:=List.mem_map.mp hz
 exact Zom n (h d hd)
theorem Zqo (ds:List (List Str)) (d:List Str):((ds.map Zkq).any fun e=>dEq e (Zkq d))=decide (d∈ds):=by
 by_cases h:d∈ds
 ·rw [decide_eq_true h,List.any_eq_true]
  exact ⟨Zkq d,List.mem_map.mpr ⟨d,h,rfl⟩,Zim _⟩
 ·rw [decide_eq_false h,List.any_eq_false]
  intro z hz
  obtain ⟨e,he,rfl⟩:=List.mem_map.mp hz
  rw [Zl0 fun q=>h (by rw [← Zwx q];exact he)]
  exact Bool.false_ne_true
theorem Zmv {K:W.Frag}{H:Hp}{l:Addr}{ds:List (List Str)}{us:List V}(h:H l=some (.lst us)) (d:Zas H ds us):Rep K H (.ref l) (.list (ds.map Zkq)):=.list (SqL.of h) (Zkc d)
theorem Zkt {rows:List (Str×List Str)}{n:Nat}(g:Zb0 rows) {ds:List (List Str)}(h:∀ d∈ds,Zba rows n d):∀ d∈ds,∀ x∈d,Za2 x=true:=fun d hd x hx=>Zhz g x ((h d hd).known x hx)
abbrev Z1c (k:Nat):Dt:=.int (k:Int)
def Zgm:List Nat→List Dt
 | []=>[.str "none"]
 | [k]=>[.str "deed",Z1c k]
 | k :: j :: _=>[.str "clash",Z1c k,Z1c j]
theorem Zsy {K:W.Frag}{H:Hp}:∀ near:List Nat,Reps K H (Zg2 near) (Zgm near)
 | []=>.cons (.str _) .nil
 | [k]=>.cons (.str _) (.cons (.int _) .nil)
 | k :: j :: _=>.cons (.str _) (.cons (.int _) (.cons (.int _) .nil))
theorem Zpn {K:W.Frag}{H:Hp}{t:Addr}{near:List Nat}(h:H t=some (.tup (Zg2 near))):Rep K H (.ref t) (.tuple (Zgm near)):=.tuple (SqT.of h) (Zsy near)
theorem Z2r (n:Nat):W.kqdOk n (.str "none")=true:=by rw [W.kqdOk];decide +kernel
theorem Z2s (n:Nat):W.kqdOk n (.str "deed")=true:=by rw [W.kqdOk];decide +kernel
theorem Z2t (n:Nat):W.kqdOk n (.str "clash")=true:=by rw [W.kqdOk];decide +kernel
theorem Zxk (n k:Nat):W.kqdOk n (Z1c k)=true:=by rw [W.kqdOk]
theorem Zpy (n:Nat):∀ near:List Nat,W.kqdOk (n + 1) (.tuple (Zgm near))=true
 | []=>by rw [W.kqdOk];simp [Zgm,Z2r]
 | [k]=>by rw [W.kqdOk];simp [Zgm,Z2s,Zxk]
 | k :: j :: _=>by rw [W.kqdOk];simp [Zgm,Z2t,Zxk]
theorem Zsd {c d:List Str}(h:c.map V.str=d.map V.str):c=d:=List.map_inj_right (fun a b z=>by injection z) |>.mp h
theorem Zi8 {α β γ:Type}{R:α→β→Prop}{S:β→γ→Prop}:∀ {l:List α}{m:List β}{k:List γ},Paired R l m→Paired S m k→Paired (fun a c=>∃ b,R a b∧S b c) l k
 | _,_,_,.nil,.nil=>.nil
 | _,_,_,.cons r t,.cons s u=>.cons ⟨_,r,s⟩ (Zi8 t u)
theorem Zlr {a b:Nat}(h:Zkl a=Zkl b):a=b:=by
 unfold Zkl at h
 injection h with h
 omega
theorem Zpb:∀ {a b:List Nat},Zg2 a=Zg2 b→Zgm a=Zgm b
 | [],[],_=>rfl
 | [k],[j],h=>by
  injection h with _ h
  injection h with h _
  rw [Zlr h]
 | k :: k' :: r,j :: j' :: s,h=>by
  injection h with _ h
  injection h with h1 h
  injection h with h2 _
  unfold Zgm
  rw [Zlr h1,Zlr h2]
 | [],[_],h=>by have:=congrArg List.length h;cases this
 | [],_ :: _ :: _,h=>by have:=congrArg List.length h;cases this
 | [_],[],h=>by have:=congrArg List.length h;cases this
 | [_],_ :: _ :: _,h=>by have:=congrArg List.length h;cases this
 | _ :: _ :: _,[],h=>by have:=congrArg List.length h;cases this
 | _ :: _ :: _,[_],h=>by have:=congrArg List.length h;cases this
noncomputable def Zn9 (H:Hp):V→Bool:=fun v=>@decide (∃ (T a b e:Addr) (n1 n2:List Nat),v=.ref T∧H T=some (.tup [.ref a,.ref b,.ref e])∧H b=some (.tup (Zg2 n1))∧H e=some (.tup (Zg2 n2))∧dEq (.tuple (Zgm n1)) (.tuple (Zgm n2))=false) (Classical.propDecidable _)
theorem Zr5 {H:Hp}{T a b e:Addr}{n1 n2:List Nat} (h1:H T=some (.tup [.ref a,.ref b,.ref e])) (h2:H b=some (.tup (Zg2 n1))) (h3:H e=some (.tup (Zg2 n2))):Zn9 H (.ref T)=!dEq (.tuple (Zgm n1)) (.tuple (Zgm n2)):=by
 unfold Zn9
 cases hd:dEq (.tuple (Zgm n1)) (.tuple (Zgm n2)) with
 | false=>exact @decide_eq_true _ (Classical.propDecidable _) ⟨T,a,b,e,n1,n2,rfl,h1,h2,h3,hd⟩
 | true =>
  refine @decide_eq_false _ (Classical.propDecidable _) fun ⟨T',a',b',e',m1,m2,e0,k1,k2,k3,kd⟩=>?_
  injection e0 with e0
  rw [← e0,h1] at k1
  have k1:=Option.some.inj k1
  injection k1 with k1
  injection k1 with _ k1
  injection k1 with z1 k1
  injection k1 with z2 _
  injection z1 with z1
  injection z2 with z2
  rw [← z1,h2] at k2
  rw [← z2,h3] at k3
  have k2:=Option.some.inj k2
  have k3:=Option.some.inj k3
  injection k2 with k2
  injection k3 with k3
  rw [← Zpb k2,← Zpb k3,hd] at kd
  cases kd
noncomputable abbrev Td (rows:List (Str×List Str)) (ds:List (List Str)) (c:List Str):Dt:=.tuple (Zgm (Zon rows ds c))
abbrev Z3k (H:Hp) (r1 r2:List (Str×List Str)) (d1 d2:List (List Str)) (cs:List (List Str)) (vs:List V):Prop :=
 Paired (fun c v=>∃ t a b e,v=.ref t∧H t=some (.tup [.ref a,.ref b,.ref e])∧H a=some (.tup (c.map V.str))∧H b=some (.tup (Zg2 (Zon r1 d1 c)))∧H e=some (.tup (Zg2 (Zon r2 d2 c)))) cs vs
def Zsl (C B:Addr):Sp:=fun vs H Q _=>∃ (p1 k1 p2 k2 lc:Addr) (r1 r2:List (Str×List Str)) (n:Nat) (d1 d2 cs:List (List Str)) (ys:List V),vs=[.ref p1,.ref p2,.ref lc]∧Za6 C B H p1 k1 r1 n d1∧Zb0 r1∧Zao r1 n d1∧Za6 C B H p2 k2 r2 n d2∧Zb0 r2∧Zao r2 n d2∧n≤4 ∧
 H lc=some (.lst ys)∧Zas H cs ys∧(∀ c∈cs,Zba r1 n c∧Zba r2 n c)∧cs.length≤512∧∀ l H',Zag H H'→Q (.ref l) H'
theorem Z1b:(["call","before","after"]:List Str).Nodup:=by decide +kernel
theorem Z2z:(["triple"]:List Str).Nodup:=by decide +kernel
section
variable {P:Program} {w:World} {K:W.Frag} {mg:Str→Option Value} {base:Heap}
abbrev Z23:List Str:=["before","after","calls","triples"]
theorem Z0h:Zak Z23 ["before","after","calls"] (Zad Zbh):=⟨rfl,rfl,rfl,by decide +kernel,rfl,by decide +kernel,by decide +kernel⟩
theorem Z02 {f C B fTd:Addr}{fd fdTd:FuncData}(F:Def K mg "told_otherwise" Zbh ["before","after","calls"] f fd) (DTd:Def K mg "told" Zms ["board","call"] fTd fdTd) (GTd:Zaq P w K mg base CX0 8 fTd fdTd ["board","call"] (Zsg C B)):Zaq P w K mg base CX0 9 f fd ["before","after","calls"] (Zsl C B):=by
 refine F.fn.ok Z0h (fun vs H Q E h=>?_) (fun cdv A outer s H vs Q E hr h=>?_)
 ·obtain ⟨p1,k1,p2,k2,lc,r1,r2,n,d1,d2,cs,ys,rfl,_⟩:=h
  rfl
 ·obtain ⟨p1,k1,p2,k2,lc,r1,r2,n,d1,d2,cs,ys,rfl,b1,g1,gd1,b2,g2,gd2,n4,hlc,hC,gc,cl,q⟩:=h
  have nd:=Z0h.nd
  have hu:=hr.units
  refine' ⟨_,(pS ?eA (Zab (Zam ?eB))),?_⟩
  case eA=>exact (Ze7 (k:=3) ["call"] ["before","after"] [0,1] nd rfl rfl (fun _=>Za5 (osc:=Zad Zbh) (on:=Z23) (by decide +kernel) rfl rfl rfl) (Zb1 (pv 2)) (fun C s H fp=>Zai (i:=0) Z1b rfl (Or.inl rfl) (Or.inr rfl)) (fun C s H fp=>Zcm)
    (fun C s H fp=>Zav (pC (pv 0) (pC (Zaf DTd GTd hr (pC (pv 1) (pC (pv 0) Zaa))) (pC (Zaf DTd GTd hr (pC (pv 2) (pC (pv 0) Zaa))) Zaa)))))
  case eB=>exact (Zb3 ["triple"] [] [] (fun _=>Za5 (osc:=Zad Zbh) (on:=Z23) (by decide +kernel) rfl rfl rfl) (Zb1 (pv 3)) (fun C s H fp=>Zai (i:=0) Z2z rfl (Or.inl rfl) (Or.inr rfl))
    (fun C s H fp=>Zfv (Zap (r:=Z4k K Bool.not) (Z0t hu) (Zbd (r:=Zib K) Zb9 (pv 0) Zae (fun _ _=>rfl)) (Zbd (r:=Zib K) Zb9 (pv 0) Zae (fun _ _=>rfl)) (Zaz _))) (fun C s H fp=>pv 0))
  have yl:=hC.len
  refine ⟨_,rfl,lc,rfl,⟨_,SqL.of hlc⟩,Zfk (Za8 (xs:=ys)) (sL (by omega)) (fun _=>true) (fun D v u H'=>∀ c t,v=.ref t→H t=some (.tup (c.map V.str))→∃ T b e,u=.ref T∧T≠D∧b≠D∧e≠D∧H' T=some (.tup [.ref t,.ref b,.ref e])∧H' b=some (.tup (Zg2 (Zon r1 d1 c)))∧H' e=some (.tup (Zg2 (Zon r2 d2 c))))
   (fun D v u Ha Hb k h=>?_) (fun H' s'=>s'.seq (SqL.of hlc)) ?_ ?_ ?_⟩
  ·intro c t e ht
   obtain ⟨T,b,e',e1,n1,n2,n3,a1,a2,a3⟩:=h c t e ht
   exact ⟨T,b,e',e1,n1,n2,n3,k _ _ n1 a1,k _ _ n2 a2,k _ _ n3 a3⟩
  ·intro x H3 R _ _ hR
   exact hR H3 (Zag.refl _)
  ·intro D v H3 R s3 hDx hDn hv _ hR
   obtain ⟨ws,hws⟩:=hDx
   obtain ⟨i,hi⟩:=List.getElem?_of_mem hv
   obtain ⟨c,hcc,t,rfl,ht⟩:=Zar hC hi
   have gcc:=gc c (List.mem_of_getElem? hcc)
   refine ⟨_,rfl,_,rfl,_,rfl,p1,k1,t,r1,n,d1,c,rfl,b1.mono s3,g1,gd1,n4,s3 _ _ ht,gcc.1,fun t1 H4 ht1 s4 h4=>?_⟩
   refine ⟨_,rfl,_,rfl,p2,k2,t,r2,n,d2,c,rfl,b2.mono (s3.trans s4),g2,gd2,n4,(s3.trans s4) _ _ ht,gcc.2,fun t2 H5 ht2 s5 h5=>?_⟩
   refine ⟨sL (by show 3≤100000;decide),fun T hT=>?_⟩
   have s6:Zag H5 (upd H5 T (.tup [.ref t,.ref t1,.ref t2])):=Zej hT
   have hD5:=s5 _ _ (s4 _ _ hws)
   refine hR (.ref T) _ ((s4.trans s5).trans s6) fun c' t' e ht'=>?_
   injection e with e
   rw [← e,ht] at ht'
   have ht':=Option.some.inj ht'
   injection ht' with ht'
   rw [← Zsd ht']
   exact ⟨T,t1,t2,rfl,(fun z=>by rw [z,hD5] at hT;cases hT),(fun z=>by rw [z,hws] at ht1;cases ht1),(fun z=>by rw [z,s4 _ _ hws] at ht2;cases ht2),by rw [uS,e],s6 _ _ (s5 _ _ h4),s6 _ _ h5⟩
  ·intro D H3 us hD0 s3 hl3 hp3
   rw [List.filter_eq_self.mpr (fun _ _=>rfl)] at hp3
   have hT3:Z3k H3 r1 r2 d1 d2 cs us:=Paired.mapP (Zi8 hC hp3) fun c u ⟨v,⟨t,e,ht⟩,h⟩=>by
    obtain ⟨T,b,e',e1,_,_,_,a1,a2,a3⟩:=h c t e ht
    exact ⟨T,t,b,e',e1,a1,s3 _ _ ht,a2,a3⟩
   have ul:us.length≤512:=by have:=hT3.length;omega
   refine ⟨_,rfl,D,rfl,⟨_,SqL.of hl3⟩,Ze0 (Za8 (xs:=us)) (sL (by omega)) (Zn9 H3) (fun v=>v) (fun H' s'=>s'.seq (SqL.of hl3)) ?_ ?_ ?_⟩
   ·intro v H4 R s4 hv hR
    obtain ⟨i,hi⟩:=List.getElem?_of_mem hv
    obtain ⟨c,hcc,T,a,b,e,rfl,h1,h2,h3,h4⟩:=Zar hT3 hi
    refine ⟨_,rfl,T,_,_,_,rfl,rfl,SqT.of (s4 _ _ h1),Zch (j:=1) rfl,_,rfl,T,_,_,_,rfl,rfl,SqT.of (s4 _ _ h1),Zch (j:=2) rfl,?_⟩
    refine ⟨Td r1 d1 c,Td r2 d2 c,Zpn (s4 _ _ h3),Zpn (s4 _ _ h4),Zpy 8 _,Zpy 8 _,_,rfl,?_⟩
    have r:=hR H4 (Zag.refl _)
    rw [Zr5 h1 h3 h4] at r
    exact r
   ·intro v H4 R s4 _ _ hR
    exact ⟨_,rfl,hR H4 (Zag.refl _)⟩
   ·intro D2 H4 hD2 s4 hl4
    exact q D2 H4 (s3.trans s4)
end
end K54
namespace K54
open PySem L2 Md
theorem Zc1 (rows:List (Str×List Str)) (x y:Str):(Zan rows x y).map (·.1)=rows.map (·.1):=by
 unfold Zan
 rw [List.map_map]
 refine List.map_congr_left fun r _=>?_
 show (if r.1=x then (r.1,r.2++[y]) else r).1=r.1
 split <;> rfl
theorem Zfg {α β:Type}{R:α→β→Prop}{p:α→Bool}{q:β→Bool}(h:∀ a b,R a b→p a=q b):∀ {l:List α}{m:List β},Paired R l m→Paired R (l.filter p) (m.filter q)
 | _,_,.nil=>.nil
 | _,_,.cons (a:=a) (b:=b) r t=>by
  rw [List.filter_cons,List.filter_cons,h a b r]
  cases q b with
  | true=>exact .cons r (Zfg h t)
  | false=>exact Zfg h t
noncomputable def Zzx (H:Hp) (P:List Str→Bool):V→Bool:=fun v=>@decide (∃ (t:Addr) (c:List Str),v=.ref t∧H t=some (.tup (c.map V.str))∧P c=true) (Classical.propDecidable _)
theorem Zl4 {H:Hp}{P:List Str→Bool}{t:Addr}{c:List Str}(h:H t=some (.tup (c.map V.str))):Zzx H P (.ref t)=P c:=by
 unfold Zzx
 cases hp:P c with
 | true=>exact @decide_eq_true _ (Classical.propDecidable _) ⟨t,c,rfl,h,hp⟩
 | false =>
  refine @decide_eq_false _ (Classical.propDecidable _) fun ⟨t',c',e,h',p⟩=>?_
  injection e with e
  rw [← e,h] at h'
  have h':=Option.some.inj h'
  injection h' with h'
  rw [← Zsd h',hp] at p
  cases p
theorem Zku {H:Hp}{P:List Str→Bool}{cs:List (List Str)}{ys:List V}(h:Zas H cs ys):Zas H (cs.filter P) (ys.filter (Zzx H P)):=Zfg (fun c v ⟨t,e,ht⟩=>by rw [e,Zl4 ht]) h
theorem Zjb (k t:Addr) (n:Nat):(Zfo k t n).lookup ("calls":Str)=none:=Zfj k t n (by decide +kernel) (by decide +kernel) (by decide +kernel)
abbrev Zo6 (K:W.Frag) (B f:Addr) (fd:FuncData):Prop:=Zn6 K B "calls" "Board.calls" Zd5 ["self"] f fd
noncomputable def Zj5 (rows:List (Str×List Str)) (x:Str) (c:List Str):Bool:=c.any fun w=>Zc6 rows w x
theorem Zhk {rows:List (Str×List Str)}{n:Nat}{c:List Str}(h:Zba rows n c) (x y:Str):Zba (Zan rows x y) n c:=⟨h.len,fun z hz=>by rw [Zc1];exact h.known z hz⟩
theorem Zjz {rows:List (Str×List Str)}{n:Nat}{ds:List (List Str)}(h:Zao rows n ds) (x y:Str):Zao (Zan rows x y) n ds:=⟨fun d hd=>Zhk (h.call d hd) x y,h.nd,h.few⟩
theorem Zjk {rows:List (Str×List Str)}{n:Nat}{ds:List (List Str)}(h:Zao rows n ds) (x:Str) (us:List Str):Zao (rows++[(x,us)]) n ds :=
 ⟨fun d hd=>⟨(h.call d hd).len,fun y hy=>by rw [List.map_append];exact List.mem_append.mpr (.inl ((h.call d hd).known y hy))⟩,h.nd,h.few⟩
abbrev Z6i (x:Str) (c:List Str):Bool:=decide (x∈c)
def Zj9 (C:Addr):Sp:=fun vs H Q _=>∃ (p t:Addr) (rows:List (Str×List Str)) (n:Nat) (c:List Str) (x:Str),vs=[.ref p,.ref t,.str x]∧Za4 C H p rows∧Zb0 rows∧H t=some (.tup (c.map V.str))∧Zba rows n c∧n≤4∧x∈rows.map (·.1)∧∀ H',Zag H H'→Q (.bl (Zj5 rows x c)) H'
theorem Z06:(["word","kinds","high"]:List Str).Nodup:=by decide +kernel
theorem Z1a:(["call","kinds","one"]:List Str).Nodup:=by decide +kernel
theorem Z08:(["low","kinds","call"]:List Str).Nodup:=by decide +kernel
theorem Z09:(["call","word","greater"]:List Str).Nodup:=by decide +kernel
noncomputable def rbV (rows:List (Str×List Str)) (x:Str):V→V
 | .str w=>.bl (Zc6 rows w x)
 | _=>.non
def Ziz (C B:Addr) (Ds:Nat→Addr):Sp:=fun vs H Q E=>∃ (p k t:Addr) (rows:List (Str×List Str)) (n:Nat) (ds:List (List Str)) (xs:List Str) (r:Option (Nat×Nat)),vs=[.ref p,.ref t]∧Za6 C B H p k rows n ds∧Zb0 rows∧Zao rows n ds∧1≤n∧n≤4∧H t=some (.tup (xs.map V.str))∧xs.length≤1000∧Due rows n (ds++[xs]) r ∧
 (r=none→rows.length ^ n≤512→∀ v H',Zag H H'→Q v H')∧(r=none→512<rows.length ^ n→∀ H',Zag H H'→E (.ref (Ds 7)) none H')∧∀ i j,r=some (i,j)→Zu4 Ds E H i j
def Ziy (K:W.Frag) (C B:Addr) (Ds:Nat→Addr):Sp:=fun vs H Q E=>∃ (p k u:Addr) (rows:List (Str×List Str)) (n:Nat) (ds:List (List Str)) (x:Str) (us:List Str) (r:Option Zkv),vs=[.ref p,.str x,.ref u]∧Za6 C B H p k rows n ds∧Zb0 rows∧Zao rows n ds∧1≤n∧n≤4∧Zw2 K H u us∧Zda x∧(∀ v∈us,Zda v)∧Zg1 (rows++[(x,us)]) r ∧
 (r=none→(rows.length + 1) ^ n≤512→∀ v H',Zag H H'→Q v H')∧(r=none→512<(rows.length + 1) ^ n→∀ H',Zag H H'→E (.ref (Ds 7)) none H')∧∀ e,r=some e→Zru Ds (rows++[(x,us)]) E H e
def Zk5 (C B:Addr) (Ds:Nat→Addr):Sp:=fun vs H Q E=>∃ (p k:Addr) (rows:List (Str×List Str)) (n:Nat) (ds:List (List Str)) (x y:Str),vs=[.ref p,.str x,.str y]∧Za6 C B H p k rows n ds∧Zb0 rows∧Zao rows n ds∧1≤n∧n≤4∧Zda x∧Zda y ∧
 ((∃ w,Z3o rows x y w∧NoW Ds E H w)∨(x∈rows.map (·.1)∧y∈rows.map (·.1)∧∃ r,Zg1 (Zan rows x y) r ∧
 (r=none→rows.length ^ n≤512→∀ v H',Zag H H'→Q v H')∧(r=none→512<rows.length ^ n→∀ H',Zag H H'→E (.ref (Ds 7)) none H')∧∀ e,r=some e→Zru Ds (Zan rows x y) E H e))
theorem Zil {rows:List (Str×List Str)}{n:Nat}{ds:List (List Str)} (n1:1≤n) (n4:n≤4) (h:Zao rows n ds):Due rows n ds none:=.good n rfl n1 n4 h
section
variable {P:Program} {w:World} {K:W.Frag} {mg:Str→Option Value} {base:Heap}
abbrev nHU:List Str:=["kinds","call","high"]
theorem Z50:Zak nHU nHU (Zad Zec):=⟨rfl,rfl,rfl,by decide +kernel,rfl,by decide +kernel,by decide +kernel⟩
theorem Zm4 {f C fU:Addr}{fd fdU:FuncData}(F:Def K mg "has_under" Zec nHU f fd) (any:mg "any"=none) (TC:Zio K C) (MU:Zuw K C fU fdU) (GU:Zaq P w K mg base CX0 3 fU fdU ["self","one","other"] (Zoa C)):Zaq P w K mg base CX0 4 f fd nHU (Zj9 C):=by
 refine F.fn.ok Z50 (fun vs H Q E h=>?_) (fun cdv A outer s H vs Q E hr h=>?_)
 ·obtain ⟨p,t,rows,n,c,x,rfl,_⟩:=h
  rfl
 ·obtain ⟨p,t,rows,n,c,x,rfl,kd,g,ht,gc,n4,hx,q⟩:=h
  obtain ⟨dx,d,a1,o,oa,kvs,avs,h1,_⟩:=kd.ex
  have gl:=gc.len
  refine' ⟨_,Zab (Zam (Zaj (Zqn rfl) (by rfl) any PyProof.Rows.boot_any (pC ?eA Zaa))),?_⟩
  case eA=>exact (Zb3 ["word"] ["kinds","high"] [0,2] (fun _=>Za5 (osc:=Zad Zec) (on:=nHU) (by decide +kernel) rfl rfl rfl) (Zhe (pv 1)) (fun C s H fp=>Zai (i:=0) Z06 rfl (Or.inl rfl) (Or.inr rfl)) (fun C s H fp=>Zcm)
    (fun C s H fp=>Zcn (pv 1) TC.cl MU.me GU hr MU.b .nil Zhh (pC (pv 0) (pC (pv 2) Zaa))))
  refine ⟨_,rfl,t,rfl,⟨_,SqT.of ht⟩,Ze0 (Zd6 (xs:=c.map V.str)) (sL (by rw [List.length_map];omega)) (fun _=>true) (rbV rows x) (fun H' s'=>SqT.of (s' _ _ ht)) ?_ ?_ ?_⟩
  ·intro v H' R s' _ hR
   exact hR H' (Zag.refl _)
  ·intro v H' R s' hv _ hR
   obtain ⟨z,hz,rfl⟩:=List.mem_map.mp hv
   exact ⟨_,rfl,p,dx,_,rfl,s' _ _ h1,Zp4 _ _,_,rfl,_,rfl,p,rows,z,x,rfl,kd.mono s',g,gc.known z hz,hx,hR H' (Zag.refl _)⟩
  ·intro D H2 hD0 s2 hl2
   have e:((c.map V.str).filter fun _=>true).map (rbV rows x)=(c.map fun w=>Zc6 rows w x).map V.bl:=by
    rw [List.filter_eq_self.mpr (fun _ _=>rfl),List.map_map,List.map_map]
    rfl
   rw [e] at hl2
   refine ⟨D,_,rfl,SqL.of hl2,?_⟩
   have ea:(c.map fun w=>Zc6 rows w x).any id=Zj5 rows x c:=by unfold Zj5;rw [List.any_map];rfl
   have r:=q H2 s2
   rw [← ea] at r
   exact r
abbrev nBy:List Str:=["board","call","greater","kinds"]
theorem Z4d:Zak nBy ["board","call"] (Zad Zfs):=⟨rfl,rfl,rfl,by decide +kernel,rfl,by decide +kernel,by decide +kernel⟩
theorem Zq7 {f C B fM fK fCa fW fO:Addr}{Ds:Nat→Addr}{fd fdM fdK fdCa fdW fdO:FuncData}(F:Def K mg "by_deed" Zfs ["board","call"] f fd) (TB:Zho K B) (MM:Z1v K B fM fdM) (GM:Zaq P w K mg base (CX1 P w) 6 fM fdM ["self","call"] (Zpj C B Ds)) (MK:Zjw K B fK fdK)
  (MCa:Zo6 K B fCa fdCa) (GCa:Zaq P w K mg base (CX1 P w) 3 fCa fdCa ["self"] (Zii C B (Ds 7))) (DW:Def K mg "within" Zfc ["kinds","one","other"] fW fdW) (GW:Zaq P w K mg base CX0 4 fW fdW ["kinds","one","other"] (Zg3 C))
  (DO:Def K mg "told_otherwise" Zbh ["before","after","calls"] fO fdO) (GO0:Zaq P w K mg base CX0 9 fO fdO ["before","after","calls"] (Zsl C B)):Zaq P w K mg base (CX1 P w) 10 f fd ["board","call"] (Ziz C B Ds):=by
 have GK:Zaq P w K mg base (CX1 P w) 1 fK fdK ["self"] (Zgb C B):=(Zfw MK.fn TB).any
 have GO:Zaq P w K mg base (CX1 P w) 9 fO fdO ["before","after","calls"] (Zsl C B):=GO0.any
 refine F.fn.ok1 Z4d (fun vs H Q E h=>?_) (fun cdv A outer s H vs Q E hr h=>?_)
 ·obtain ⟨p,k,t,rows,n,ds,xs,r,rfl,_⟩:=h
  rfl
 ·obtain ⟨p,k,t,rows,n,ds,xs,r,rfl,bd,g,gd,n1,n4,ht,xl,due,q,qm,re⟩:=h
  obtain ⟨dx,ts,us,h1,h2,h3,h4⟩:=bd.ex
  have nd:=Z4d.nd
  have hr1:Zb6 1 _:=hr.mono (by decide)
  have hr3:Zb6 3 _:=hr.mono (by decide)
  have hr4:Zb6 4 _:=hr.mono (by decide)
  have hr6:Zb6 6 _:=hr.mono (by decide)
  have al:=Zju rows n
  refine' ⟨_,(pS (Zal (i:=2) nd rfl (Or.inl rfl) (Zcn (pv 0) TB.cl MM.me GM hr6 MM.b .nil (Zcb Fns.of) (pC (pv 1) Zaa)))
   (pS (Zal (i:=3) nd rfl (Or.inr rfl) (Zb2 (pv 0) TB.cl MK.me GK hr1 MK.b .nil (Zcb Fns.of)))
   (Zab (Zam (Zdi GO hr (by rfl) DO.m DO.fn.kp DO.b .nil (Zcb Fns.of) (pC (pv 0) (pC (pv 2) (pC ?eA Zaa)))))))),?_⟩
  case eA=>exact (Zb3 ["low"] ["kinds","call"] [3,1] (fun _=>Za5 (osc:=Zad Zfs) (on:=nBy) (by decide +kernel) rfl rfl rfl) (Zb1 (Zb2 (pv 0) TB.cl MCa.me GCa hr3 MCa.b .nil (Zcb Fns.of))) (fun C s H fp=>Zai (i:=0) Z08 rfl (Or.inl rfl) (Or.inr rfl))
    (fun C s H fp=>Zfv (Zce (Zaf DW GW hr4 (pC (pv 1) (pC (pv 0) (pC (pv 2) Zaa)))))) (fun C s H fp=>pv 0))
  have few:=gd.few
  refine ⟨_,rfl,p,dx,_,rfl,h1,Zwe _ _ _,_,rfl,p,k,t,rows,n,ds,xs,r,rfl,bd,g,ht,(fun d hd=>?_),by omega,due,fun er p' H1 s1 bd' gd'=>?_,re⟩
  ·rcases List.mem_append.mp hd with z | z
   ·have:=(gd.call d z).len;omega
   ·rw [List.mem_singleton.mp z];exact xl
  have gc:Zba rows n xs:=gd'.call xs (by simp)
  refine ⟨_,rfl,p,dx,_,rfl,s1 _ _ h1,Zfx _ _ _,p,k,rows,n,ds,rfl,bd.mono s1,?_⟩
  refine ⟨_,rfl,_,rfl,_,rfl,p,dx,_,rfl,s1 _ _ h1,Zjb _ _ _,p,k,rows,n,ds,rfl,bd.mono s1,g,n4,fun hc lf ys H2 hlf s2 hys hD=>⟨lf,rfl,⟨_,SqL.of hys⟩,?_⟩,fun hc H2 s2=>qm er hc H2 (s1.trans s2)⟩
  have s02:=s1.trans s2
  have yl:=hD.len
  refine Ze0 (Za8 (xs:=ys)) (sL (by omega)) (Zzx H2 fun c=>Zbk rows c xs) (fun v=>v) (fun H' s'=>s'.seq (SqL.of hys)) ?_ ?_ ?_
  ·intro v H3 R s3 hv hR
   obtain ⟨i,hi⟩:=List.getElem?_of_mem hv
   obtain ⟨c,hcc,tc,rfl,htc⟩:=Zar hD hi
   have gcc:Zba rows n c:=Zgl c (List.mem_of_getElem? hcc)
   refine ⟨_,rfl,_,rfl,_,rfl,k,tc,t,rows,c,xs,rfl,h2.mono (s02.trans s3),g,s3 _ _ htc,(s02.trans s3) _ _ ht,gcc.known,gc.known,fun H4 s4=>⟨_,rfl,?_⟩⟩
   have r:=hR H4 s4
   rw [Zl4 htc] at r
   exact r
  ·intro v H3 R s3 _ _ hR
   exact ⟨_,rfl,hR H3 (Zag.refl _)⟩
  ·intro D H3 hD0 s3 hl3
   rw [List.map_id'] at hl3
   have hC:=(Zku (P:=fun c=>Zbk rows c xs) hD).mono s3
   have s03:=s02.trans s3
   have s13:=s2.trans s3
   have gcs:∀ c∈(Zcl rows n).filter (fun c=>Zbk rows c xs),Zba rows n c:=fun c hc=>Zgl c (List.mem_filter.mp hc).1
   exact ⟨p,k,p',k,D,rows,rows,n,ds,ds++[xs],_,_,rfl,bd.mono s03,g,gd,bd'.mono s13,g,gd',n4,hl3,hC,fun c hc=>⟨gcs c hc,gcs c hc⟩,Nat.le_trans (List.length_filter_le _ _) (by omega),fun l H4 s4=>q er hc _ H4 (s03.trans s4)⟩
abbrev nBT:List Str:=["board","one","other","kinds","greater"]
theorem Z4g:Zak nBT ["board","one","other"] (Zad Zg9):=⟨rfl,rfl,rfl,by decide +kernel,rfl,by decide +kernel,by decide +kernel⟩
theorem Ztj {f C B fT fO fK fCa fH fOt:Addr}{Ds:Nat→Addr}{fd fdT fdO fdK fdCa fdH fdOt:FuncData}(F:Def K mg "by_tie" Zg9 ["board","one","other"] f fd) (TB:Zho K B) (TC:Zio K C) (MT:Zn6 K C "tied" "Kinds.tied" Zdq ["self","one","other"] fT fdT) (GT0:Zaq P w K mg base (CX1 P w) 6 fT fdT ["self","one","other"] (Zsh C Ds)) (XT:Zaq P w K mg base (CX1 P w) 4 fT fdT ["self","one","other"] (Zw8 C Ds)) (MO:Zxv K B fO fdO) (GO:Zaq P w K mg base (CX1 P w) 6 fO fdO ["self","kinds"] (Zk6 C B Ds)) (MK:Zjw K B fK fdK)
  (MCa:Zo6 K B fCa fdCa) (GCa:Zaq P w K mg base (CX1 P w) 3 fCa fdCa ["self"] (Zii C B (Ds 7))) (DH:Def K mg "has_under" Zec nHU fH fdH) (GH:Zaq P w K mg base CX0 4 fH fdH nHU (Zj9 C))
  (DO:Def K mg "told_otherwise" Zbh ["before","after","calls"] fOt fdOt) (GOt0:Zaq P w K mg base CX0 9 fOt fdOt ["before","after","calls"] (Zsl C B)):Zaq P w K mg base (CX1 P w) 10 f fd ["board","one","other"] (Zk5 C B Ds):=by
 have GK:Zaq P w K mg base (CX1 P w) 1 fK fdK ["self"] (Zgb C B):=(Zfw MK.fn TB).any
 have GOt:Zaq P w K mg base (CX1 P w) 9 fOt fdOt ["before","after","calls"] (Zsl C B):=GOt0.any
 have GT:=GT0.or (XT.mono (k:=6) (by decide))
 refine F.fn.ok1 Z4g (fun vs H Q E h=>?_) (fun cdv A outer s H vs Q E hr h=>?_)
 ·obtain ⟨p,k,rows,n,ds,x,y,rfl,_⟩:=h
  rfl
 ·obtain ⟨p,k,rows,n,ds,x,y,rfl,bd,g,gd,n1,n4,sx,sy,hor⟩:=h
  obtain ⟨dx,ts,us0,h1,h2,h3,h4⟩:=bd.ex
  obtain ⟨dxk,dk,ak,ok,oak,kvs,avs,hk1,_⟩:=h2.ex
  have nd:=Z4g.nd
  have hr1:Zb6 1 _:=hr.mono (by decide)
  have hr3:Zb6 3 _:=hr.mono (by decide)
  have hr4:Zb6 4 _:=hr.mono (by decide)
  have hr6:Zb6 6 _:=hr.mono (by decide)
  have al:=Zju rows n
  have few:=gd.few
  have gd2:=Zjz gd x y
  refine' ⟨_,(pS (Zal (i:=3) nd rfl (Or.inr rfl) (Zb2 (pv 0) TB.cl MK.me GK hr1 MK.b .nil (Zcb Fns.of)))
   (pS (Zal (i:=4) nd rfl (Or.inl rfl) (Zcn (pv 0) TB.cl MO.me GO hr6 MO.b .nil (Zcb Fns.of) (pC (Zcn (pv 3) TC.cl MT.me GT hr6 MT.b .nil (Zcb Fns.of) (pC (pv 1) (pC (pv 2) Zaa))) Zaa)))
   (Zab (Zam (Zdi GOt hr (by rfl) DO.m DO.fn.kp DO.b .nil (Zcb Fns.of) (pC (pv 0) (pC (pv 4) (pC ?eA Zaa)))))))),?_⟩
  case eA=>exact (Zb3 ["call"] ["kinds","one"] [3,1] (fun _=>Za5 (osc:=Zad Zg9) (on:=nBT) (by decide +kernel) rfl rfl rfl) (Zb1 (Zb2 (pv 0) TB.cl MCa.me GCa hr3 MCa.b .nil (Zcb Fns.of))) (fun C s H fp=>Zai (i:=0) Z1a rfl (Or.inl rfl) (Or.inr rfl))
    (fun C s H fp=>Zfv (Zce (Zaf DH GH hr4 (pC (pv 1) (pC (pv 0) (pC (pv 2) Zaa)))))) (fun C s H fp=>pv 0))
  refine ⟨_,rfl,p,dx,_,rfl,h1,Zfx _ _ _,p,k,rows,n,ds,rfl,bd,?_⟩
  refine ⟨_,rfl,p,dx,_,rfl,h1,Zp5 _ _ _,_,rfl,k,dxk,_,rfl,hk1,Zwa _ _,_,rfl,_,rfl,?_⟩
  rcases hor with ⟨w',la,re⟩ | ⟨hx,hy,r,due,q,qm,re⟩
  ·exact .inr ⟨k,rows,x,y,w',rfl,h2,g,sx,sy,la,re⟩
  refine .inl ⟨k,rows,x,y,r,rfl,h2,g,hx,hy,due,fun er b H1 s1 kd=>?_,re⟩
  have g2:Zb0 (Zan rows x y):=by subst er;cases due with | good g=>exact g
  refine ⟨p,k,b,rows,Zan rows x y,n,ds,none,rfl,bd.mono s1,kd,g2,(fun d hd=>by have:=(gd.call d hd).len;omega),by omega,Zil n1 n4 gd2,fun _ p' H2 s2 bd' gd'=>?_,(fun i j z=>by cases z)⟩
  have s02:=s1.trans s2
  refine ⟨_,rfl,_,rfl,_,rfl,p,dx,_,rfl,s02 _ _ h1,Zjb _ _ _,p,k,rows,n,ds,rfl,bd.mono s02,g,n4,fun hc lf ys H3 hlf s3 hys hD=>⟨lf,rfl,⟨_,SqL.of hys⟩,?_⟩,fun hc H3 s3=>qm er hc H3 (s02.trans s3)⟩
  have s03:=s02.trans s3
  have yl:=hD.len
  refine Ze0 (Za8 (xs:=ys)) (sL (by omega)) (Zzx H3 (Zj5 rows x)) (fun v=>v) (fun H' s'=>s'.seq (SqL.of hys)) ?_ ?_ ?_
  ·intro v H4 R s4 hv hR
   obtain ⟨i,hi⟩:=List.getElem?_of_mem hv
   obtain ⟨c,hcc,tc,rfl,htc⟩:=Zar hD hi
   have gcc:Zba rows n c:=Zgl c (List.mem_of_getElem? hcc)
   refine ⟨_,rfl,_,rfl,_,rfl,k,tc,rows,n,c,x,rfl,h2.mono (s03.trans s4),g,s4 _ _ htc,gcc,n4,hx,fun H5 s5=>⟨_,rfl,?_⟩⟩
   have r:=hR H5 s5
   rw [Zl4 htc] at r
   exact r
  ·intro v H4 R s4 _ _ hR
   exact ⟨_,rfl,hR H4 (Zag.refl _)⟩
  ·intro D H4 hD0 s4 hl4
   rw [List.map_id'] at hl4
   have hC:=(Zku (P:=Zj5 rows x) hD).mono s4
   have s04:=s03.trans s4
   have gcs:∀ c∈(Zcl rows n).filter (Zj5 rows x),Zba rows n c:=fun c hc=>Zgl c (List.mem_filter.mp hc).1
   exact ⟨p,k,p',b,D,rows,Zan rows x y,n,ds,ds,_,_,rfl,bd.mono s04,g,gd,bd'.mono (s3.trans s4),g2,gd2,n4,hl4,hC,fun c hc=>⟨gcs c hc,Zhk (gcs c hc) x y⟩,Nat.le_trans (List.length_filter_le _ _) (by omega),fun l H5 s5=>q er hc _ H5 (s04.trans s5)⟩
abbrev nBk:List Str:=["board","word","ups","greater"]
theorem Z4f:Zak nBk ["board","word","ups"] (Zad Zfr):=⟨rfl,rfl,rfl,by decide +kernel,rfl,by decide +kernel,by decide +kernel⟩
theorem Zq6 {f C B fM fO fK fCa fTd:Addr}{Ds:Nat→Addr}{fd fdM fdO fdK fdCa fdTd:FuncData}(F:Def K mg "by_kind" Zfr ["board","word","ups"] f fd) (TB:Zho K B) (TC:Zio K C) (MM:Zn6 K C "more" "Kinds.more" Zes ["self","word","ups"] fM fdM) (GM:Zaq P w K mg base (CX1 P w) 6 fM fdM ["self","word","ups"] (Zsm K C Ds)) (MO:Zxv K B fO fdO) (GO:Zaq P w K mg base (CX1 P w) 6 fO fdO ["self","kinds"] (Zk6 C B Ds)) (MK:Zjw K B fK fdK)
  (MCa:Zo6 K B fCa fdCa) (GCa:Zaq P w K mg base (CX1 P w) 3 fCa fdCa ["self"] (Zii C B (Ds 7))) (DTd:Def K mg "told" Zms ["board","call"] fTd fdTd) (GTd:Zaq P w K mg base CX0 8 fTd fdTd ["board","call"] (Zsg C B)):Zaq P w K mg base (CX1 P w) 10 f fd ["board","word","ups"] (Ziy K C B Ds):=by
 have GK:Zaq P w K mg base (CX1 P w) 1 fK fdK ["self"] (Zgb C B):=(Zfw MK.fn TB).any
 refine F.fn.ok1 Z4f (fun vs H Q E h=>?_) (fun cdv A outer s H vs Q E hr h=>?_)
 ·obtain ⟨p,k,u,rows,n,ds,x,us,r,rfl,_⟩:=h
  rfl
 ·obtain ⟨p,k,u,rows,n,ds,x,us,r,rfl,bd,g,gd,n1,n4,hu,sx,su,due,q,qm,re⟩:=h
  obtain ⟨dx,ts,us0,h1,h2,h3,h4⟩:=bd.ex
  obtain ⟨dxk,dk,ak,ok,oak,kvs,avs,hk1,_⟩:=h2.ex
  have nd:=Z4f.nd
  have hr1:Zb6 1 _:=hr.mono (by decide)
  have hr3:Zb6 3 _:=hr.mono (by decide)
  have hr6:Zb6 6 _:=hr.mono (by decide)
  have hr8:Zb6 8 _:=hr.mono (by decide)
  have rl:(rows++[(x,us)]).length=rows.length + 1:=by rw [List.length_append];rfl
  have al:=Zju (rows++[(x,us)]) n
  have few:=gd.few
  have gd2:=Zjk gd x us
  refine' ⟨_,(pS (Zal (i:=3) nd rfl (Or.inr rfl) (Zcn (pv 0) TB.cl MO.me GO hr6 MO.b .nil (Zcb Fns.of) (pC (Zcn (Zb2 (pv 0) TB.cl MK.me GK hr1 MK.b .nil (Zcb Fns.of)) TC.cl MM.me GM hr6 MM.b .nil (Zcb Fns.of) (pC (pv 1) (pC (pv 2) Zaa))) Zaa)))
   (Zab (Zam ?eA))),?_⟩
  case eA=>exact (Zb3 ["call"] ["word","greater"] [1,3] (fun _=>Za5 (osc:=Zad Zfr) (on:=nBk) (by decide +kernel) rfl rfl rfl) (Zb1 (Zb2 (pv 3) TB.cl MCa.me GCa hr3 MCa.b .nil (Zcb Fns.of))) (fun C s H fp=>Zai (i:=0) Z09 rfl (Or.inl rfl) (Or.inr rfl))
    (fun C s H fp=>Zfv (Zap (r:=rIn K false) Zdt (pv 1) (pv 0) (by with_unfolding_all rfl))) (fun C s H fp=>Zav (pC (pv 0) (pC (Zaf DTd GTd hr8 (pC (pv 2) (pC (pv 0) Zaa))) Zaa))))
  refine ⟨_,rfl,p,dx,_,rfl,h1,Zp5 _ _ _,_,rfl,p,dx,_,rfl,h1,Zfx _ _ _,p,k,rows,n,ds,rfl,bd,k,dxk,_,rfl,hk1,Zwc _ _,_,rfl,_,rfl,k,u,rows,x,us,r,rfl,h2,g,hu,sx,su,due,fun er b H1 s1 kd=>?_,re⟩
  have g2:Zb0 (rows++[(x,us)]):=by subst er;cases due with | good g=>exact g
  refine ⟨p,k,b,rows,rows++[(x,us)],n,ds,none,rfl,bd.mono s1,kd,g2,(fun d hd=>by have:=(gd.call d hd).len;omega),by omega,Zil n1 n4 gd2,fun _ p' H2 s2 bd' gd'=>?_,(fun i j z=>by cases z)⟩
  have s02:=s1.trans s2
  obtain ⟨dx',ts',us',h1',_⟩:=bd'.ex
  refine ⟨_,rfl,p',dx',_,rfl,h1',Zjb _ _ _,p',b,rows++[(x,us)],n,ds,rfl,bd',g2,n4,fun hc lf ys H3 hlf s3 hys hD=>⟨lf,rfl,⟨_,SqL.of hys⟩,?_⟩,fun hc H3 s3=>qm er (by rw [← rl];exact hc) H3 (s02.trans s3)⟩
  have yl:=hD.len
  have s03:=s02.trans s3
  refine Zfk (Za8 (xs:=ys)) (sL (by omega)) (Zzx H3 (Z6i x)) (fun D v u H'=>True) (fun D v u Ha Hb k h=>trivial) (fun H' s'=>s'.seq (SqL.of hys)) ?_ ?_ ?_
  ·intro v H4 R s4 hv hR
   obtain ⟨i,hi⟩:=List.getElem?_of_mem hv
   obtain ⟨c,hcc,t,rfl,ht⟩:=Zar hD hi
   refine ⟨_,rfl,_,rfl,t,_,rfl,.inr (SqT.of (s4 _ _ ht)),rfl,?_,_,rfl,?_⟩
   ·rw [List.all_map,List.all_eq_true];exact fun _ _=>rfl
   ·have r:=hR H4 (Zag.refl _)
    rw [Zl4 ht] at r
    rw [if_neg (by decide),Zdj]
    exact r
  ·intro D v H4 R s4 hDx hDn hv _ hR
   obtain ⟨i,hi⟩:=List.getElem?_of_mem hv
   obtain ⟨c,hcc,t,rfl,ht⟩:=Zar hD hi
   have gcc:Zba (rows++[(x,us)]) n c:=Zgl c (List.mem_of_getElem? hcc)
   refine ⟨_,rfl,_,rfl,_,rfl,p',b,t,rows++[(x,us)],n,ds,c,rfl,bd'.mono (s3.trans s4),g2,gd2,n4,s4 _ _ ht,gcc,fun t1 H5 ht1 s5 h5=>?_⟩
   exact ⟨sL (by show 2≤100000;decide),fun T hT=>hR (.ref T) _ (s5.trans (Zej hT)) trivial⟩
  ·intro D H4 zs hD0 s4 hl4 hp4
   exact q er (by rw [← rl];exact hc) _ H4 (s03.trans s4)
end
end K54
namespace K54
open PySem L2 Md
structure WOk (x:Str):Prop where
 sh:Zda x
 ok:PyData.strOk x=true
theorem Zu6 {x:Str}(h:Za2 x=true):WOk x:=⟨Zdv h,Zip h⟩
theorem Zr1 {x:Str}(h:(decide (x.length≤50)&&x.cps.toList.all fun c=>decide (c<50000))=true):WOk x:=by
 rw [Bool.and_eq_true,List.all_eq_true] at h
 refine ⟨⟨of_decide_eq_true h.1,fun c hc=>?_⟩,?_⟩
 ·have:=of_decide_eq_true (h.2 c hc)
  have e:(16:Nat) ^ 8=4294967296:=by decide
  omega
 ·unfold PyData.strOk
  rw [Array.all_eq_true']
  intro c hc
  have:=of_decide_eq_true (h.2 c (by simpa using hc))
  simp
  omega
def Z44 (x:Str):Bool:=decide (x.length≤50)&&x.cps.toList.all fun c=>decide (c<50000)
theorem Zr2 {l:List Str}(h:l.all Z44=true) {x:Str}(hx:x∈l):WOk x:=Zr1 (List.all_eq_true.mp h x hx)
theorem Zvy {l:List Str}(h:∀ z∈l,PyData.strOk z=true) (n:Nat):(l.map W.Dat.str).all (W.kqdOk n)=true:=by
 rw [List.all_eq_true]
 intro d hd
 obtain ⟨x,hx,rfl⟩:=List.mem_map.mp hd
 cases n <;> exact h x hx
theorem Zbw {H:Hp}{l:Addr}{o:HO}(hl:H l=none):Zag H (upd H l o):=Zmn hl
inductive R4
 | ok | many | noB | ring
 | noD (k:Nat) | same (k:Nat)
 | noK (w:Str) | twice (w:Str)
def R4.num:R4→Int
 | .ok=>-1 | .many=>7 | .noB=>8 | .ring=>3 | .noD _=>4 | .same _=>5 | .noK _=>0 | .twice _=>1
def R4.fld:R4→V
 | .noD k=>.int k | .same k=>.int k | .noK w=>.str w | .twice w=>.str w | _=>.int 0
def Z3q (H:Hp) (r:R4) (v:V):Prop:=∃ t,v=.ref t∧H t=some (.tup [.int r.num,r.fld])
def RD (rows:List (Str×List Str)) (n:Nat) (ds:List (List Str)) (xs:List Str):R4→Prop
 | .noB=>Due rows n (ds++[xs]) (some (8,0))
 | .noD k=>Due rows n (ds++[xs]) (some (4,k))∧k≤64
 | .same k=>Due rows n (ds++[xs]) (some (5,k))∧k≤64
 | .many=>Due rows n (ds++[xs]) none∧512<rows.length ^ n
 | .ok=>Due rows n (ds++[xs]) none∧rows.length ^ n≤512
 | _=>False
def Zsn:Sp:=fun vs H Q _=>∃ (m n:Nat),vs=[.int m,.int n]∧m≤100∧n≤4∧Q (.bl (decide (512<m ^ n))) H
def Zsf:Sp:=fun vs H Q _=>∃ i:Int,vs=[.int i]∧Q (.bl true) H
def Zxc:Sp:=fun vs H Q _=>∃ (lw ld t:Addr) (rows:List (Str×List Str)) (n:Nat) (ds:List (List Str)) (us:List V) (xs:List Str),vs=[.ref lw,.int n,.ref ld,.bl (decide (512<rows.length ^ n)),.ref t]∧H lw=some (.lst ((rows.map (·.1)).map V.str))∧Zb0 rows∧1≤n∧n≤4∧H ld=some (.lst us)∧Zas H ds us∧Zao rows n ds∧H t=some (.tup (xs.map V.str))∧xs.length≤100∧(∀ x∈xs,WOk x) ∧
 ∀ r v H',Zag H H'→RD rows n ds xs r→Z3q H' r v→Q v H'
structure Z6t (mg:Str→Option Value):Prop where
 isi:mg "isinstance"=none
 int:mg "int"=none
 bool:mg "bool"=none
theorem Znq {rows:List (Str×List Str)}{n:Nat}{ds:List (List Str)}{xs:List Str}{i:Nat} (n1:1≤n) (n4:n≤4) (gd:Zao rows n ds) (few:ds.length<64) (h:(i=4∧Zh3 rows n xs=false)∨(i=5∧Zh3 rows n xs=true∧xs∈ds)):Due rows n (ds++[xs]) (some (i,ds.length)):=by
 have e:(ds++[xs]).take ds.length=ds:=List.take_left ..
 refine .bad n rfl n1 n4 (by rw [List.length_append];show ds.length + 1≤64;omega) ⟨⟨xs,by rw [List.getElem?_append_right (Nat.le_refl _),Nat.sub_self];rfl,?_⟩,?_,?_⟩
 ·rw [e];exact h
 ·rw [e];exact fun d hd=>(gd.call d hd).is
 ·rw [e];exact gd.nd
theorem Zao.snoc {rows:List (Str×List Str)}{n:Nat}{ds:List (List Str)}{xs:List Str}(gd:Zao rows n ds) (gc:Zba rows n xs) (hn:xs∉ds) (hl:ds.length<64):Zao rows n (ds++[xs]):=by
 refine ⟨fun d hd=>?_,?_,by rw [List.length_append];show ds.length + 1≤64;omega⟩
 ·rcases List.mem_append.mp hd with z | z
  ·exact gd.call d z
  ·rw [List.mem_singleton.mp z];exact gc
 ·rw [List.nodup_append]
  exact ⟨gd.nd,by simp,fun a ha b hb e=>hn (by rw [← List.mem_singleton.mp hb,← e];exact ha)⟩
theorem Zzo {rows:List (Str×List Str)}{n:Nat}{xs:List Str} (h1:xs.length=n) (h2:∀ x∈xs,x∈rows.map (·.1)):Zba rows n xs:=⟨h1,h2⟩
theorem Zv9 {rows:List (Str×List Str)}{n:Nat}{xs:List Str}(h:¬ (xs.length=n∧∀ x∈xs,x∈rows.map (·.1))):Zh3 rows n xs=false:=by
 cases e:Zh3 rows n xs with
 | false=>rfl
 | true =>
  unfold Zh3 at e
  rw [Bool.and_eq_true,List.all_eq_true] at e
  exact absurd ⟨of_decide_eq_true e.1,fun x hx=>of_decide_eq_true (e.2 x hx)⟩ h
section
variable {P:Program} {w:World} {K:W.Frag} {mg:Str→Option Value} {base:Heap}
theorem Z5p:Zak ["found"] ["found"] (Zad Zem):=⟨rfl,rfl,rfl,by decide +kernel,rfl,by decide +kernel,by decide +kernel⟩
theorem Zvv {f:Addr}{fd:FuncData}(F:Def K mg "_law_whole" Zem ["found"] f fd) (T:Z6t mg):Zaq P w K mg base CX0 1 f fd ["found"] Zsf:=by
 refine F.fn.ok Z5p (fun vs H Q E h=>?_) (fun cdv A outer s H vs Q E hr h=>?_)
 ·obtain ⟨i,rfl,_⟩:=h
  rfl
 ·obtain ⟨i,rfl,q⟩:=h
  refine' ⟨_,Zab (Zam (Zkh ?ea (Zi5 (Z0q ?eb)))),?_⟩
  case ea=>exact Zaj Zqm (by rfl) T.isi PyProof.Rows.boot_isinstance (pC (pv 0) (pC (Zoi (v:=.ty "int") (by rfl) T.int PyProof.Rows.boot_int rfl) Zaa))
  case eb=>exact Zaj Zqm (by rfl) T.isi PyProof.Rows.boot_isinstance (pC (pv 0) (pC (Zoi (v:=.ty "bool") (by rfl) T.bool PyProof.Rows.boot_bool rfl) Zaa))
  refine ⟨_,rfl,_,_,_,_,rfl,.int i,rfl,_,rfl,Ze5 ⟨_,rfl,_,_,_,_,rfl,.int i,rfl,_,rfl,q⟩⟩
theorem Z20:(["sign"]:List Str).Nodup:=by decide +kernel
theorem Z5x:Zak ["text"] ["text"] (Zad Zcr):=⟨rfl,rfl,rfl,by decide +kernel,rfl,by decide +kernel,by decide +kernel⟩
theorem Zq2 {f:Addr}{fd:FuncData}(F:Def K mg "_law_is_word" Zcr ["text"] f fd) (len:mg "len"=none) (all:mg "all"=none):Zaq P w K mg base CX0 1 f fd ["text"] Zg4:=by
 refine F.fn.ok Z5x (fun vs H Q E h=>?_) (fun cdv A outer s H vs Q E hr h=>?_)
 ·obtain ⟨x,rfl,_⟩:=h
  rfl
 ·obtain ⟨x,rfl,hx,k⟩:=h
  refine' ⟨_,Zab (Zam (Zkh (Zvr Zid Zid Zae (Zaj Zca (by rfl) len PySem.boot_len (pC (pv 0) Zaa)) Zae) (Zi5 (Zaj (Zin rfl) (by rfl) all PyProof.Rows.boot_all (pC ?eC Zaa))))),?_⟩
  case eC=>exact (Zb3 ["sign"] [] [] (fun _=>Za5 (osc:=Zad Zcr) (on:=["text"]) (by decide +kernel) rfl rfl rfl) (Zxf (pv 0)) (fun C s H fp=>Zai (i:=0) Z20 rfl (Or.inl rfl) (Or.inr rfl)) (fun C s H fp=>Zcm) (fun C s H fp=>Zeg Zm0 (pv 0) Zev (by with_unfolding_all rfl)))
  have no:¬ (1≤x.length∧x.length≤8)→Za2 x=false:=fun h=>by unfold Za2;rw [decide_eq_false h];rfl
  refine ⟨_,rfl,_,_,rfl,⟨sL (by omega),rfl⟩,_,_,rfl,rfl,_,rfl,?_⟩
  by_cases h1:1≤x.length
  ·rw [decide_eq_true (show (1:Int)≤(x.length:Int) by omega)]
   refine Ze5 ⟨_,_,rfl,rfl,_,rfl,?_⟩
   by_cases h2:x.length≤8
   ·rw [decide_eq_true (show (x.length:Int)≤8 by omega)]
    refine Ze5 ⟨_,rfl,_,rfl,Zf2 Zpm (by unfold Zfp;rw [List.length_map,Zfb];exact sL (by omega)) (fun _=>true) Zt7 (fun _ _ _=>trivial) ?_ ?_ ?_⟩
    ·intro D ys v R _ _ hR
     exact hR
    ·intro D ys v R _ hv _ hR
     obtain ⟨c,_,e⟩:=List.mem_map.mp hv
     subst e
     exact ⟨_,rfl,_,_,rfl,rfl,hR⟩
    ·intro D hD
     refine ⟨D,x.cps.toList.map Zji,rfl,SqL.of (by rw [← Zmr];exact uS),?_⟩
     have e:(x.cps.toList.map Zji).all id=Za2 x:=by
      unfold Za2
      rw [decide_eq_true ⟨h1,h2⟩,Bool.true_and,List.all_map]
      rfl
     have q:=k (upd H D (.lst (((Zfp x).filter fun _=>true).map Zt7))) fun b o hb=>by rw [Zac (nNo hb hD)];exact hb
     rw [← e] at q
     exact q
   ·rw [decide_eq_false (show ¬ (x.length:Int)≤8 by omega)]
    have q:=k H (Zag.refl _)
    rw [no (fun z=>h2 z.2)] at q
    exact Zbz q
  ·rw [decide_eq_false (show ¬ (1:Int)≤(x.length:Int) by omega)]
   have q:=k H (Zag.refl _)
   rw [no (fun z=>h1 z.1)] at q
   exact Zbz ⟨_,rfl,Zbz q⟩
abbrev nLg:List Str:=["many","places","count","place"]
theorem Z34:Zak nLg ["many","places"] (Zad Zeo):=⟨rfl,rfl,rfl,by decide +kernel,rfl,by decide +kernel,by decide +kernel⟩
theorem Zv3 {f:Addr}{fd:FuncData}(F:Def K mg "_law_large" Zeo ["many","places"] f fd) (range:mg "range"=none):Zaq P w K mg base CX0 1 f fd ["many","places"] Zsn:=by
 refine F.fn.ok Z34 (fun vs H Q E h=>?_) (fun cdv A outer s H vs Q E hr h=>?_)
 ·obtain ⟨m,n,rfl,_⟩:=h
  rfl
 ·obtain ⟨m,n,rfl,hm,hn,q⟩:=h
  have nd:=Z34.nd
  refine ⟨_,(pS (Zal (i:=2) nd rfl (Or.inl rfl) Zae)
   (pS (Zbn PassesOwn.never rfl (Zcf (by rfl) range (pC (pv 1) Zaa)) (Zai (i:=3) nd rfl (Or.inl rfl)) (Zab (Zal (i:=2) nd rfl (Or.inl rfl) (Zbs Zki (pv 2) (pv 0)))))
   (Zab (Zam (Zeg Zi9 (pv 2) Zae (Zaz _)))))),?_⟩
  refine ⟨_,rfl,(n:Int),rfl,by omega,by omega,Za1 Zcz (fun i σ H'=>∃ x3:Option V,σ=[some (.int (m:Int)),some (.int (n:Int)),some (.int ((m ^ i:Nat):Int)),x3]∧H'=H) ⟨none,rfl,rfl⟩ (fun _ _ _ _ _=>trivial) ?_ ?_⟩
  ·rintro i v σ H' hi ⟨x3,rfl,rfl⟩
   have e:((m ^ i:Nat):Int) * (m:Int)=((m ^ (i + 1):Nat):Int):=by rw [Nat.pow_succ,Int.natCast_mul]
   refine ⟨_,rfl,_,rfl,_,_,rfl,rfl,.inr ⟨by omega,by omega⟩,some v,?_,rfl⟩
   show [some (V.int (m:Int)),some (V.int (n:Int)),some (V.int (((m ^ i:Nat):Int) * (m:Int))),some v]=_
   rw [e]
  ·rintro σ H' ⟨x3,rfl,rfl⟩
   refine ⟨_,rfl,_,_,rfl,rfl,?_⟩
   have e:(Zft 0 ((n:Int)).toNat).length=n:=by rw [Zbm,Int.toNat_natCast]
   rw [e]
   show Q (V.bl (decide ((512:Int)<((m ^ n:Nat):Int)))) H'
   rw [show decide ((512:Int)<((m ^ n:Nat):Int))=decide (512<m ^ n) from decide_eq_decide.mpr (by omega)]
   exact q
theorem Z2u:(["word","words"]:List Str).Nodup:=by decide +kernel
def Z4r (ws:List Str):V→V
 | .str z=>.bl (decide (z∈ws))
 | _=>.non
theorem Zt9 (ws:List Str):∀ l:List Str,((l.map V.str).filter fun _=>true).map (Z4r ws)=(l.map fun z=>decide (z∈ws)).map V.bl
 | []=>rfl
 | z :: r=>by
  have:=Zt9 ws r
  rw [List.filter_eq_self.mpr (fun _ _=>rfl)] at this ⊢
  rw [List.map_cons,List.map_cons,this]
  rfl
abbrev nDd:List Str:=["words","places","deeds","large","call"]
theorem Z4b:Zak nDd nDd (Zad Zcc):=⟨rfl,rfl,rfl,by decide +kernel,rfl,by decide +kernel,by decide +kernel⟩
theorem Zyv {f:Addr}{fd:FuncData}(F:Def K mg "_law_due_deed" Zcc nDd f fd) (len:mg "len"=none) (all:mg "all"=none) (int:mg "int"=none):Zaq P w K mg base CX0 1 f fd nDd Zxc:=by
 refine F.fn.ok Z4b (fun vs H Q E h=>?_) (fun cdv A outer s H vs Q E hr h=>?_)
 ·obtain ⟨lw,ld,t,rows,n,ds,us,xs,rfl,_⟩:=h
  rfl
 ·obtain ⟨lw,ld,t,rows,n,ds,us,xs,rfl,hw,g,n1,n4,hd,hD,gd,ht,xl,wx,q⟩:=h
  have nd:=Z4b.nd
  have gle:=g.le
  have few:=gd.few
  have ul:=hD.len
  refine' ⟨_,(pS (Zau (Zap Zvs (Zaj Zaw (by rfl) len PySem.boot_len (pC (pv 2) Zaa)) Zae (Zaz _)) (Zab (Zam (Zav (pC Zae (pC Zae Zaa))))) Zah)
   (pS (Zau (PW.pt (Zof (Zap Z2q (Zaj Zaw (by rfl) len PySem.boot_len (pC (pv 4) Zaa)) (pv 1) (Zaz _)) (Zkd (Zb4 (Zce (Zaj (Zin rfl) (by rfl) all PyProof.Rows.boot_all (pC ?eA Zaa))))))) (Zab (Zam (Zav (pC Zae (pC (Zaj Zaw (by rfl) len PySem.boot_len (pC (pv 2) Zaa)) Zaa))))) Zah)
   (pS (Zau (Zap (Z0u (Z13 hr)) (pv 4) (pv 2) (by with_unfolding_all rfl)) (Zab (Zam (Zav (pC Zae (pC (Zaj Zaw (by rfl) len PySem.boot_len (pC (pv 2) Zaa)) Zaa))))) Zah)
   (Zab (Zam (Zav (pC (Zbd (r:=Zib K) Zb9 (Zav (pC (Zs8 Zma Zae) (pC Zae Zaa))) (Zbo Zjq (by rfl) int PyProof.Rows.boot_int (pC (pv 3) Zaa)) (fun _ _=>rfl)) (pC Zae Zaa)))))))),?_⟩
  case eA=>exact (Zb3 ["word"] ["words"] [0] (fun _=>Za5 (osc:=Zad Zcc) (on:=nDd) (by decide +kernel) rfl rfl rfl) (Zhe (pv 4)) (fun C s H fp=>Zai (i:=0) Z2u rfl (Or.inl rfl) (Or.inr rfl)) (fun C s H fp=>Zcm) (fun C s H fp=>Zeg (r:=rIn K false) Zdt (pv 0) (pv 1) (by with_unfolding_all rfl)))
  have two:∀ (r:R4) (t2:Addr) (H':Hp),Zag H H'→H' t2=none→RD rows n ds xs r→Q (.ref t2) (upd H' t2 (.tup [.int r.num,r.fld])):=fun r t2 H' s' h2 hr=>q r _ _ (s'.trans (Zbw h2)) hr ⟨t2,rfl,uS⟩
  refine ⟨_,rfl,ld,_,rfl,.inl (SqL.of hd),_,_,rfl,rfl,_,rfl,Zek (fun h64=>?_) (fun h64=>?_)⟩
  ·have h64:(us.length:Int) ≥ 64:=of_decide_eq_true h64
   exact ⟨sL (by show 2≤100000;decide),fun t2 ht2=>two .noB t2 H (Zag.refl _) ht2 (.board (.inr (by rw [List.length_append];show 64<ds.length + 1;omega)))⟩
  have few':ds.length<64:=by
   have:¬ ((us.length:Int) ≥ 64):=fun z=>h64 (decide_eq_true z)
   omega
  have bad4:∀ (t2:Addr) (H':Hp),Zag H H'→H' t2=none→¬ (xs.length=n∧∀ x∈xs,x∈rows.map (·.1))→Q (.ref t2) (upd H' t2 (.tup [.int 4,.int (us.length:Int)])):=fun t2 H' s' h2 hn=>by
   have:=two (.noD ds.length) t2 H' s' h2 ⟨Znq n1 n4 gd few' (.inl ⟨rfl,Zv9 hn⟩),few⟩
   rw [show R4.fld (.noD ds.length)=.int (us.length:Int) from by rw [← ul];rfl] at this
   exact this
  refine ⟨_,rfl,t,_,rfl,.inr (SqT.of ht),_,rfl,rfl,_,rfl,?_⟩
  rw [List.length_map]
  have lenr:∀ (H':Hp) (c:Int),Zag H H'→(∀ t2,H' t2=none→Q (.ref t2) (upd H' t2 (.tup [.int c,.int (us.length:Int)])))→Z3v (Zmd (tC (V.int c)) (Zmd (tCB (fun xs H_1 Q=>∃ p ys,xs=[V.ref p]∧(SqL K H_1 p ys∨SqT K H_1 p ys)∧Q (V.int (ys.length:Int)) H_1) (Zmd (Zx2 2) Zzw)) Zzw)) [some (.ref lw),some (.int (n:Int)),some (.ref ld),some (.bl (decide (512<rows.length ^ n))),some (.ref t)] H' Q:=fun H' c s' h =>
   ⟨_,rfl,ld,_,rfl,.inl (SqL.of (s' _ _ hd)),sL (by show 2≤100000;decide),h⟩
  refine Zek (fun hne=>?_) (fun heq=>?_)
  ·refine lenr H 4 (Zag.refl _) fun t2 h2=>bad4 t2 H (Zag.refl _) h2 fun z=>?_
   rw [z.1] at hne
   simp at hne
  have xn:xs.length=n:=by
   have heq:¬ ((!decide (V.int (xs.length:Int)=V.int (n:Int)))=true):=heq
   by_cases z:V.int (xs.length:Int)=V.int (n:Int)
   ·injection z with z
    omega
   ·rw [decide_eq_false z] at heq
    exact absurd rfl heq
  refine ⟨_,rfl,t,rfl,⟨_,SqT.of ht⟩,Ze0 (Zd6 (xs:=xs.map V.str)) (sL (by rw [List.length_map];omega)) (fun _=>true) (Z4r (rows.map (·.1))) (fun H' s'=>SqT.of (s' _ _ ht)) ?_ ?_ ?_⟩
  ·intro v H' R s' _ hR
   exact hR H' (Zag.refl _)
  ·intro v H' R s' hv _ hR
   obtain ⟨z,hz,rfl⟩:=List.mem_map.mp hv
   refine ⟨_,rfl,_,rfl,lw,_,rfl,.inl (SqL.of (s' _ _ hw)),rfl,Zcg _,?_⟩
   rw [show (if false=true then !inV (V.str z) ((rows.map (·.1)).map V.str) else inV (V.str z) ((rows.map (·.1)).map V.str))=decide (z∈rows.map (·.1)) from by rw [if_neg (by decide),Zdj]]
   exact hR H' (Zag.refl _)
  intro D H2 hD0 s2 hl2
  rw [Zt9] at hl2
  refine ⟨D,xs.map fun z=>decide (z∈rows.map (·.1)),rfl,SqL.of hl2,_,rfl,?_⟩
  dsimp only
  by_cases known:∀ x∈xs,x∈rows.map (·.1)
  ·have ea:(xs.map fun z=>decide (z∈rows.map (·.1))).all id=true:=by
    rw [List.all_map,List.all_eq_true]
    exact fun x hx=>decide_eq_true (known x hx)
   refine Zek (fun z=>absurd z (by rw [ea];decide)) (fun _=>?_)
   have gc:=Zzo xn known
   have okx:∀ x∈xs,Za2 x=true:=fun x hx=>Zhz g x (known x hx)
   have okds:=Zpz 7 (Zkt g gd.call)
   refine ⟨_,rfl,_,rfl,Zkq xs,ds.map Zkq,Zle (s2 _ _ ht),Zmv (s2 _ _ hd) (hD.mono s2),Zom 8 okx,okds,_,rfl,?_⟩
   show if (id ((ds.map Zkq).any fun e=>dEq e (Zkq xs)))=true then _ else _
   rw [Zqo]
   refine Zek (fun hin=>?_) (fun hin=>?_)
   ·have hin:xs∈ds:=of_decide_eq_true hin
    refine lenr H2 5 s2 fun t2 h2=>?_
    have:=two (.same ds.length) t2 H2 s2 h2 ⟨Znq n1 n4 gd few' (.inr ⟨rfl,gc.is,hin⟩),few⟩
    rw [show R4.fld (.same ds.length)=.int (us.length:Int) from by rw [← ul];rfl] at this
    exact this
   ·have hin:xs∉ds:=fun z=>hin (decide_eq_true z)
    have gd':Zao rows n (ds++[xs]):=gd.snoc gc hin few'
    refine ⟨1,rfl,sL (by show 2≤100000;decide),fun tq htq=>⟨_,rfl,.inr ⟨_,rfl,?_⟩⟩⟩
    have s3:Zag H2 (upd H2 tq (.tup [.int (-1),.int 7])):=Zbw htq
    have h3:(upd H2 tq (.tup [.int (-1),.int 7])) tq=some (.tup [.int (-1),.int 7]):=uS
    have large:∀ b:Bool,b=decide (512<rows.length ^ n)→∃ r:R4,RD rows n ds xs r∧r.fld=.int 0∧atI [V.int (-1),V.int 7] (if b then 1 else 0)=some (.int r.num):=fun b hb=>by
     cases b with
     | true=>exact ⟨.many,⟨Zil n1 n4 gd',of_decide_eq_true hb.symm⟩,rfl,rfl⟩
     | false=>exact ⟨.ok,⟨Zil n1 n4 gd',by have:=of_decide_eq_false hb.symm;omega⟩,rfl,rfl⟩
    obtain ⟨r,hr4,hf,hat⟩:=large _ rfl
    refine ⟨tq,_,_,_,rfl,rfl,SqT.of h3,hat,sL (by show 2≤100000;decide),fun t2 ht2=>?_⟩
    have:=two r t2 _ (s2.trans s3) ht2 hr4
    rw [hf] at this
    exact this
  ·have ea:(xs.map fun z=>decide (z∈rows.map (·.1))).all id=false:=by
    cases e:(xs.map fun z=>decide (z∈rows.map (·.1))).all id with
    | false=>rfl
    | true =>
     rw [List.all_map,List.all_eq_true] at e
     exact absurd (fun x hx=>of_decide_eq_true (e x hx)) known
   exact Zek (fun _=>lenr H2 4 s2 fun t2 h2=>bad4 t2 H2 s2 h2 fun z=>known z.2) (fun z=>absurd (by rw [ea];rfl) z)
end
end K54
namespace K54
open PySem L2 Md
theorem Zxn {rk:Str→Nat}:∀ {us:List Str}{u:Str},u∈us→rk u≤(us.map rk).sum
 | a :: r,u,h=>by
  rw [List.map_cons,List.sum_cons]
  rcases List.mem_cons.mp h with e | h
  ·rw [e];omega
  ·have:=Zxn (rk:=rk) h;omega
theorem Zua {rows:List (Str×List Str)}(g:Zb0 rows) {x:Str}{us:List Str}(hx:x∉rows.map (·.1)) (hw:Za2 x=true) (hl:rows.length<24) (hu:∀ u∈us,u∈rows.map (·.1)) (hn:us.Nodup) (hf:us.length≤8):Zb0 (rows++[(x,us)]):=by
 have mem:∀ r,r∈rows++[(x,us)]→r∈rows∨r=(x,us):=fun r h=>by
  rcases List.mem_append.mp h with z | z
  ·exact .inl z
  ·exact .inr (List.mem_singleton.mp z)
 have wds:(rows++[(x,us)]).map (·.1)=rows.map (·.1)++[x]:=by rw [List.map_append];rfl
 obtain ⟨rk,hrk⟩:=g.rank
 refine ⟨by rw [List.length_append];simp,by rw [List.length_append];simp;omega,fun r h=>?_,?_,fun r h=>?_,fun r h u hu'=>?_,fun r h=>?_,⟨fun z=>if z=x then 1 + (us.map rk).sum else rk z,fun r h u hu'=>?_⟩⟩
 ·rcases mem r h with z | z
  ·exact g.word r z
  ·rw [z];exact hw
 ·rw [wds]
  refine List.nodup_append.mpr ⟨g.nd,by simp,fun a ha b hb e=>?_⟩
  rw [List.mem_singleton.mp hb] at e
  rw [e] at ha
  exact hx ha
 ·rcases mem r h with z | z
  ·exact g.few r z
  ·rw [z];exact hf
 ·rw [wds]
  refine List.mem_append.mpr (.inl ?_)
  rcases mem r h with z | z
  ·exact g.known r z u hu'
  ·rw [z] at hu';exact hu u hu'
 ·rcases mem r h with z | z
  ·exact g.upnd r z
  ·rw [z];exact hn
 ·rcases mem r h with z | z
  ·have n1:u≠x:=fun e=>hx (e ▸ g.known r z u hu')
   have n2:r.1≠x:=fun e=>hx (e ▸ List.mem_map.mpr ⟨r,z,rfl⟩)
   show (if u=x then _ else _)<(if r.1=x then _ else _)
   rw [if_neg n1,if_neg n2]
   exact hrk r z u hu'
  ·rw [z] at hu' ⊢
   have n1:u≠x:=fun e=>hx (e ▸ hu u hu')
   show (if u=x then _ else _)<(if x=x then _ else _)
   rw [if_neg n1,if_pos rfl]
   have:=Zxn (rk:=rk) (us:=us) hu'
   omega
theorem Zo9 {rows:List (Str×List Str)}{a b:Str}(h:b∈Zat rows a):∃ r∈rows,r.1=a∧b∈r.2:=by
 unfold Zat at h
 induction rows with
 | nil=>simp at h
 | cons q rs ih =>
  obtain ⟨c,d⟩:=q
  rw [List.lookup_cons] at h
  cases e:(a == c) with
  | true =>
   rw [e] at h
   exact ⟨(c,d),by simp,(by have:a=c:=(by simpa using e);exact this.symm),h⟩
  | false =>
   rw [e] at h
   obtain ⟨r,h1,h2⟩:=ih h
   exact ⟨r,List.mem_cons_of_mem _ h1,h2⟩
theorem Zge {rows:List (Str×List Str)}{x y:Str}:Zc6 rows x y=true↔Graph.Reach (Zat rows) x y:=Zgs
theorem Zvg {rows:List (Str×List Str)}{rk:Str→Nat}(hrk:∀ r∈rows,∀ u∈r.2,rk u<rk r.1):∀ a b,b∈Zat rows a→rk b<rk a:=fun a b h=>by
 obtain ⟨r,h1,h2,h3⟩:=Zo9 h
 rw [← h2]
 exact hrk r h1 b h3
theorem Zwo {rows:List (Str×List Str)}(g:Zb0 rows) {x y:Str}(hx:x∈rows.map (·.1)) (hy:y∈rows.map (·.1)) (h1:y∉Zat rows x) (h2:(Zat rows x).length≤7) (h3:¬ Graph.Reach (Zat rows) y x):Zb0 (Zan rows x y):=by
 have mem:∀ q,q∈Zan rows x y→∃ r∈rows,q.1=r.1∧((r.1=x∧q.2=r.2++[y])∨(r.1≠x∧q.2=r.2)):=fun q h=>by
  obtain ⟨r,hr,e⟩:=List.mem_map.mp h
  by_cases z:r.1=x
  ·rw [if_pos z] at e
   exact ⟨r,hr,by rw [← e],.inl ⟨z,by rw [← e]⟩⟩
  ·rw [if_neg z] at e
   exact ⟨r,hr,by rw [← e],.inr ⟨z,by rw [← e]⟩⟩
 have at_x:∀ r∈rows,r.1=x→Zat rows x=r.2:=fun r hr e=>by rw [← e];exact Zbv g.nd hr
 have len:(Zan rows x y).length=rows.length:=by unfold Zan;rw [List.length_map]
 obtain ⟨rk,hrk⟩:=g.rank
 have hrk':=Zvg hrk
 refine ⟨by rw [len];exact g.ne,by rw [len];exact g.le,fun q h=>?_,by rw [Zc1];exact g.nd,fun q h=>?_,fun q h u hu=>?_,fun q h=>?_,⟨fun z=>rk z + (if Zc6 rows z x=true then rk y + 1 else 0),fun q h u hu=>?_⟩⟩
 ·obtain ⟨r,hr,e,_⟩:=mem q h
  rw [e];exact g.word r hr
 ·obtain ⟨r,hr,_,z | z⟩:=mem q h
  ·rw [z.2,List.length_append,← at_x r hr z.1];simp;omega
  ·rw [z.2];exact g.few r hr
 ·rw [Zc1]
  obtain ⟨r,hr,_,z | z⟩:=mem q h
  ·rw [z.2] at hu
   rcases List.mem_append.mp hu with c | c
   ·exact g.known r hr u c
   ·rw [List.mem_singleton.mp c];exact hy
  ·rw [z.2] at hu
   exact g.known r hr u hu
 ·obtain ⟨r,hr,_,z | z⟩:=mem q h
  ·rw [z.2]
   refine List.nodup_append.mpr ⟨g.upnd r hr,by simp,fun a ha b hb e=>?_⟩
   rw [List.mem_singleton.mp hb] at e
   rw [e,← at_x r hr z.1] at ha
   exact h1 ha
  ·rw [z.2];exact g.upnd r hr
 ·obtain ⟨r,hr,e,z⟩:=mem q h
  have old:u∈r.2→rk u + (if Zc6 rows u x=true then rk y + 1 else 0)<rk q.1 + (if Zc6 rows q.1 x=true then rk y + 1 else 0):=fun hu'=>by
   rw [e]
   have hlt:=hrk r hr u hu'
   by_cases c:Zc6 rows u x=true
   ·have c2:Zc6 rows r.1 x=true:=Zge.mpr (.step (by rw [Zbv g.nd hr];exact hu') (Zge.mp c))
    rw [if_pos c,if_pos c2]
    omega
   ·rw [if_neg c]
    omega
  rcases z with z | z
  ·rw [z.2] at hu
   rcases List.mem_append.mp hu with c | c
   ·exact old c
   ·have ny:¬ Zc6 rows y x=true:=fun c=>h3 (Zge.mp c)
    have nx:Zc6 rows x x=true:=Zge.mpr (.refl x)
    show rk u + _<rk q.1 + _
    rw [List.mem_singleton.mp c,e,z.1,if_neg ny,if_pos nx]
    omega
  ·rw [z.2] at hu
   exact old hu
def RK (rows:List (Str×List Str)) (n:Nat) (x:Str) (us:List Str):R4→Prop
 | .noK w=>Zg1 (rows++[(x,us)]) (some (.noK w))∧WOk w
 | .twice w=>Zg1 (rows++[(x,us)]) (some (.twice w))∧WOk w
 | .ring=>Zg1 (rows++[(x,us)]) (some .ring)
 | .many=>Zg1 (rows++[(x,us)]) (some .many)∨(Zg1 (rows++[(x,us)]) none∧512<(rows.length + 1) ^ n)
 | .ok=>Zg1 (rows++[(x,us)]) none∧(rows.length + 1) ^ n≤512
 | _=>False
def RT (rows:List (Str×List Str)) (n:Nat) (x y:Str):R4→Prop
 | .noK w=>Z3o rows x y w∧WOk w
 | .twice w=>(x∈rows.map (·.1)∧y∈rows.map (·.1)∧Zg1 (Zan rows x y) (some (.twice w)))∧WOk w
 | .ring=>x∈rows.map (·.1)∧y∈rows.map (·.1)∧Zg1 (Zan rows x y) (some .ring)
 | .many=>x∈rows.map (·.1)∧y∈rows.map (·.1)∧(Zg1 (Zan rows x y) (some .many)∨(Zg1 (Zan rows x y) none∧512<rows.length ^ n))
 | .ok=>x∈rows.map (·.1)∧y∈rows.map (·.1)∧Zg1 (Zan rows x y) none∧rows.length ^ n≤512
 | _=>False
section
variable {rows:List (Str×List Str)} {x:Str} {us:List Str}
theorem Zla:(rows++[(x,us)]).take rows.length=rows:=List.take_left ..
theorem Z0g:(rows++[(x,us)])[rows.length]?=some (x,us):=by rw [List.getElem?_append_right (Nat.le_refl _),Nat.sub_self];rfl
theorem Zg6:(rows++[(x,us)]).map (·.1)=rows.map (·.1)++[x]:=by rw [List.map_append];rfl
theorem Zmo:(rows++[(x,us)]).length=rows.length + 1:=by rw [List.length_append];rfl
theorem Zy8 (h:24≤rows.length):Zg1 (rows++[(x,us)]) (some .many):=.rows (.size (by rw [Zmo];omega))
theorem Zt0 (g:Zb0 rows) (hl:rows.length<24) {e:Zkv}(h:(Za2 x=false∧e=.noK x)∨(Za2 x=true∧x∈rows.map (·.1)∧e=.twice x)∨(Za2 x=true∧x∉rows.map (·.1)∧8<us.length∧e=.many)):Zg1 (rows++[(x,us)]) (some e):=
 .rows (.bad rows.length (by rw [Zmo];omega) (by rw [Zmo];omega) ⟨⟨(x,us),Z0g,by rw [Zla];exact h⟩,by rw [Zla];exact fun r hr=>⟨g.word r hr,g.few r hr⟩,by rw [Zla];exact g.nd⟩)
theorem Zza (g:Zb0 rows) (hl:rows.length<24) (hw:Za2 x=true) (hx:x∉rows.map (·.1)) (hf:us.length≤8):Zie (rows++[(x,us)]):=by
 have mem:∀ r,r∈rows++[(x,us)]→r∈rows∨r=(x,us):=fun r h=>by
  rcases List.mem_append.mp h with z | z
  ·exact .inl z
  ·exact .inr (List.mem_singleton.mp z)
 refine ⟨by rw [Zmo];omega,by rw [Zmo];omega,fun r h=>?_,?_,fun r h=>?_⟩
 ·rcases mem r h with z | z
  ·exact g.word r z
  ·rw [z];exact hw
 ·rw [Zg6]
  refine List.nodup_append.mpr ⟨g.nd,by simp,fun a ha b hb e=>?_⟩
  rw [List.mem_singleton.mp hb] at e
  rw [e] at ha
  exact hx ha
 ·rcases mem r h with z | z
  ·exact g.few r z
  ·rw [z];exact hf
theorem Zqb (g:Zb0 rows):∀ r∈rows,(∀ v∈r.2,v∈(rows++[(x,us)]).map (·.1))∧r.2.Nodup:=fun r hr=>⟨fun v hv=>by rw [Zg6];exact List.mem_append_left _ (g.known r hr v hv),g.upnd r hr⟩
theorem Z1j (g:Zb0 rows) (f:Zie (rows++[(x,us)])) {j:Nat}{u:Str}{e:Zkv}(hu:us[j]?=some u) (h1:∀ v∈us.take j,v∈rows.map (·.1)++[x]) (h2:(us.take j).Nodup) (h:(u∉rows.map (·.1)++[x]∧e=.noK u)∨(u∈rows.map (·.1)++[x]∧u∈us.take j∧e=.twice u)):Zg1 (rows++[(x,us)]) (some e):=by
 refine .ups f (.bad rows.length j ⟨⟨(x,us),u,Z0g,hu,?_,h2,?_⟩,?_⟩)
 ·rw [Zg6];exact h1
 ·rw [Zg6];exact h
 ·rw [Zla];exact Zqb g
theorem Zy9 (g:Zb0 rows) (f:Zie (rows++[(x,us)])) (h1:∀ v∈us,v∈rows.map (·.1)++[x]) (h2:us.Nodup) (hx:x∈us):Zg1 (rows++[(x,us)]) (some .ring):=by
 have uf:Zl6 (rows++[(x,us)]):=by
  refine ⟨fun r h u hu=>?_,fun r h=>?_⟩
  ·rcases List.mem_append.mp h with z | z
   ·exact (Zqb g r z).1 u hu
   ·rw [List.mem_singleton.mp z] at hu
    rw [Zg6];exact h1 u hu
  ·rcases List.mem_append.mp h with z | z
   ·exact g.upnd r z
   ·rw [List.mem_singleton.mp z];exact h2
 have hm:(x,us)∈rows++[(x,us)]:=by simp
 refine .ring f uf ⟨x,List.mem_map.mpr ⟨(x,us),hm,rfl⟩,x,?_,.refl x⟩
 rw [Zbv f.nd hm]
 exact hx
end
def Zxb:Sp:=fun vs H Q _=>∃ (lw lu:Addr) (rows:List (Str×List Str)) (n:Nat) (x:Str) (us:List Str),vs=[.ref lw,.bl (decide (512<(rows.length + 1) ^ n)),.str x,.ref lu]∧H lw=some (.lst ((rows.map (·.1)).map V.str))∧Zb0 rows∧H lu=some (.lst (us.map V.str))∧us.length≤100∧WOk x∧(∀ u∈us,WOk u) ∧
 ∀ r v H',Zag H H'→RK rows n x us r→Z3q H' r v→Q v H'
theorem Zqi (xs:List V) (k:Nat):Zqk xs none (some (k:Int))=xs.take k:=by
 unfold Zqk
 rw [HT.sIx_none,HT.sIx_nat,List.drop_zero,Nat.sub_zero]
 rcases Nat.le_total k xs.length with h | h
 ·rw [Nat.min_eq_left h]
 ·rw [Nat.min_eq_right h,List.take_of_length_le (Nat.le_refl _),List.take_of_length_le h]
section
variable {P:Program} {w:World} {K:W.Frag} {mg:Str→Option Value} {base:Heap}
abbrev nDk:List Str:=["words","large","word","ups","k"]
theorem Z4a:Zak nDk ["words","large","word","ups"] (Zad Zc5):=⟨rfl,rfl,rfl,by decide +kernel,rfl,by decide +kernel,by decide +kernel⟩
theorem Zyu {f fW:Addr}{fd fdW:FuncData}(F:Def K mg "_law_due_kind" Zc5 ["words","large","word","ups"] f fd) (len:mg "len"=none) (range:mg "range"=none) (int:mg "int"=none) (DW:Def K mg "_law_is_word" Zcr ["text"] fW fdW) (GW:Zaq P w K mg base CX0 1 fW fdW ["text"] Zg4):Zaq P w K mg base CX0 2 f fd ["words","large","word","ups"] Zxb:=by
 refine F.fn.ok Z4a (fun vs H Q E h=>?_) (fun cdv A outer s H vs Q E hr h=>?_)
 ·obtain ⟨lw,lu,rows,n,x,us,rfl,_⟩:=h
  rfl
 ·obtain ⟨lw,lu,rows,n,x,us,rfl,hw,g,hu,ul,wx,wu,q⟩:=h
  have nd:=Z4a.nd
  have gle:=g.le
  have hr1:Zb6 1 _:=hr.mono (by decide)
  refine ⟨_,(pS (Zau (Zap Zvs (Zaj Zaw (by rfl) len PySem.boot_len (pC (pv 0) Zaa)) Zae (Zaz _)) (Zab (Zam (Zav (pC Zae (pC Zae Zaa))))) Zah)
   (pS (Zau (Zb4 (Zce (Zaf DW GW hr1 (pC (pv 2) Zaa)))) (Zab (Zam (Zav (pC Zae (pC (pv 2) Zaa))))) Zah)
   (pS (Zau (Zap (r:=rIn K false) Zdt (pv 2) (pv 0) (by with_unfolding_all rfl)) (Zab (Zam (Zav (pC Zae (pC (pv 2) Zaa))))) Zah)
   (pS (Zau (Zap Zi9 (Zaj Zaw (by rfl) len PySem.boot_len (pC (pv 3) Zaa)) Zae (Zaz _)) (Zab (Zam (Zav (pC Zae (pC Zae Zaa))))) Zah)
   (pS (Zbn PassesOwn.never rfl (Zcf (by rfl) range (pC (Zaj Zaw (by rfl) len PySem.boot_len (pC (pv 3) Zaa)) Zaa)) (Zai (i:=4) nd rfl (Or.inl rfl))
    (pS (Zau (Zap (r:=rIn K true) Zew (Zbd (r:=Zl7 K) Za9 (pv 3) (pv 4) (fun _ _=>rfl)) (Zbs Ztc (pv 0) (Zd0 (pC (pv 2) Zaa))) (by with_unfolding_all rfl)) (Zab (Zam (Zav (pC Zae (pC (Zbd (r:=Zl7 K) Za9 (pv 3) (pv 4) (fun _ _=>rfl)) Zaa))))) Zah)
   (Zab (Zau (Zap (r:=rIn K false) Zdt (Zbd (r:=Zl7 K) Za9 (pv 3) (pv 4) (fun _ _=>rfl)) (Zhf (r:=Zyd K) Zi0 (pv 3) Zlh (Zht (pv 4))) (by with_unfolding_all rfl)) (Zab (Zam (Zav (pC Zae (pC (Zbd (r:=Zl7 K) Za9 (pv 3) (pv 4) (fun _ _=>rfl)) Zaa))))) Zah))))
   (pS (Zau (Zap (r:=rIn K false) Zdt (pv 2) (pv 3) (by with_unfolding_all rfl)) (Zab (Zam (Zav (pC Zae (pC Zae Zaa))))) Zah)
   (Zab (Zam (Zav (pC (Zbd (r:=Zib K) Zb9 (Zav (pC (Zs8 Zma Zae) (pC Zae Zaa))) (Zbo Zjq (by rfl) int PyProof.Rows.boot_int (pC (pv 1) Zaa)) (fun _ _=>rfl)) (pC Zae Zaa))))))))))),?_⟩
  have two:∀ (r:R4) (t2:Addr) (H':Hp),Zag H H'→H' t2=none→RK rows n x us r→Q (.ref t2) (upd H' t2 (.tup [.int r.num,r.fld])):=fun r t2 H' s' h2 hr=>q r _ _ (s'.trans (Zbw h2)) hr ⟨t2,rfl,uS⟩
  refine ⟨_,rfl,lw,_,rfl,.inl (SqL.of hw),_,_,rfl,rfl,_,rfl,?_⟩
  rw [List.length_map,List.length_map]
  refine Zek (fun h24=>?_) (fun h24=>?_)
  ·have h24:(rows.length:Int) ≥ 24:=of_decide_eq_true h24
   exact ⟨sL (by show 2≤100000;decide),fun t2 ht2=>two .many t2 H (Zag.refl _) ht2 (.inl (Zy8 (by omega)))⟩
  have hl:rows.length<24:=by
   have:¬ ((rows.length:Int) ≥ 24):=fun z=>h24 (decide_eq_true z)
   omega
  refine ⟨_,rfl,x,rfl,by have:=wx.sh.1;omega,fun H1 s1=>⟨_,rfl,?_⟩⟩
  cases hiw:Za2 x with
  | false=>exact Ze5 ⟨_,rfl,sL (by show 2≤100000;decide),fun t2 ht2=>two (.noK x) t2 H1 s1 ht2 ⟨Zt0 g hl (.inl ⟨hiw,rfl⟩),wx⟩⟩
  | true =>
   refine Zbz ?_
   have hw1:=s1 _ _ hw
   have hu1:=s1 _ _ hu
   refine ⟨_,rfl,_,rfl,lw,_,rfl,.inl (SqL.of hw1),rfl,Zcg _,_,rfl,?_⟩
   rw [show (if false=true then !inV (V.str x) ((rows.map (·.1)).map V.str) else inV (V.str x) ((rows.map (·.1)).map V.str))=decide (x∈rows.map (·.1)) from by rw [if_neg (by decide),Zdj]]
   refine Zek (fun hin=>?_) (fun hin=>?_)
   ·have hin:=of_decide_eq_true hin
    exact ⟨_,rfl,sL (by show 2≤100000;decide),fun t2 ht2=>two (.twice x) t2 H1 s1 ht2 ⟨Zt0 g hl (.inr (.inl ⟨hiw,hin,rfl⟩)),wx⟩⟩
   have hx:x∉rows.map (·.1):=fun z=>hin (decide_eq_true z)
   refine ⟨_,rfl,lu,_,rfl,.inl (SqL.of hu1),_,_,rfl,rfl,_,rfl,?_⟩
   rw [List.length_map]
   refine Zek (fun h8=>?_) (fun h8=>?_)
   ·have h8:(us.length:Int) > 8:=of_decide_eq_true h8
    exact ⟨sL (by show 2≤100000;decide),fun t2 ht2=>two .many t2 H1 s1 ht2 (.inl (Zt0 g hl (.inr (.inr ⟨hiw,hx,by omega,rfl⟩))))⟩
   have u8:us.length≤8:=by
    have:¬ ((us.length:Int) > 8):=fun z=>h8 (decide_eq_true z)
    omega
   have f:=Zza g hl hiw hx u8
   refine ⟨_,rfl,lu,_,rfl,.inl (SqL.of hu1),_,rfl,by omega,by rw [List.length_map];omega,Za1 Zcz (fun j σ H'=>∃ x4:Option V,σ=[some (.ref lw),some (.bl (decide (512<(rows.length + 1) ^ n))),some (.str x),some (.ref lu),x4]∧Zag H H'∧(∀ v∈us.take j,v∈rows.map (·.1)++[x])∧(us.take j).Nodup)
    ⟨_,rfl,s1,(fun v hv=>by rw [List.take_zero] at hv;cases hv),by rw [List.take_zero];exact .nil⟩ (fun _ _ _ _ _=>trivial) ?_ ?_⟩
   ·rintro j v σ H4 hj ⟨x4,rfl,s4,kn,ndu⟩
    obtain ⟨hj2,rfl⟩:=Zc0 hj
    rw [List.length_map] at hj2
    have hj3:j<us.length:=by omega
    have hy:us[j]?=some us[j]:=List.getElem?_eq_getElem hj3
    generalize us[j]=y at hy
    have hym:=List.mem_of_getElem? hy
    have hat:atI (us.map V.str) (0 + (j:Int))=some (.str y):=by
     rw [Int.zero_add]
     exact Zch (by rw [List.getElem?_map,hy];rfl)
    have hu4:=s4 _ _ hu
    have hw4:=s4 _ _ hw
    refine ⟨_,rfl,_,rfl,lu,_,_,_,rfl,rfl,SqL.of hu4,hat,_,rfl,_,rfl,sL (by show 1≤100000;decide),fun l5 hl5=>?_⟩
    have s5:Zag H4 (upd H4 l5 (.lst [.str x])):=Zbw hl5
    have h5:(upd H4 l5 (.lst [.str x])) l5=some (.lst [.str x]):=uS
    generalize upd H4 l5 (.lst [.str x])=H5 at s5 h5
    refine ⟨lw,l5,_,_,rfl,rfl,s5 _ _ hw4,h5,sL (by rw [List.length_map,List.length_map];show _ + 1≤100000;omega),fun l6 hl6=>?_⟩
    have s6:Zag H5 (upd H5 l6 (.lst ((rows.map (·.1)).map V.str++[.str x]))):=Zbw hl6
    have h6:(upd H5 l6 (.lst ((rows.map (·.1)).map V.str++[.str x]))) l6=some (.lst ((rows.map (·.1)++[x]).map V.str)):=by rw [uS,List.map_append];rfl
    generalize upd H5 l6 (.lst ((rows.map (·.1)).map V.str++[.str x]))=H6 at s6 h6
    have s06:=s4.trans (s5.trans s6)
    have hu6:=s06 _ _ hu
    refine ⟨l6,_,rfl,.inl (SqL.of h6),rfl,Zcg _,_,rfl,?_⟩
    rw [show (if true=true then !inV (V.str y) ((rows.map (·.1)++[x]).map V.str) else inV (V.str y) ((rows.map (·.1)++[x]).map V.str))=!decide (y∈rows.map (·.1)++[x]) from by rw [if_pos rfl,Zdj]]
    refine Zek (fun hn=>?_) (fun hn=>?_)
    ·have hn:y∉rows.map (·.1)++[x]:=fun z=>by rw [decide_eq_true z] at hn;cases hn
     exact ⟨_,rfl,_,rfl,lu,_,_,_,rfl,rfl,SqL.of hu6,hat,sL (by show 2≤100000;decide),fun t2 ht2=>two (.noK y) t2 H6 s06 ht2 ⟨Z1j g f hy kn ndu (.inl ⟨hn,rfl⟩),wu y hym⟩⟩
    ·have hn:y∈rows.map (·.1)++[x]:=Classical.byContradiction fun c=>hn (by rw [decide_eq_false c];rfl)
     refine ⟨_,rfl,_,rfl,lu,_,_,_,rfl,rfl,SqL.of hu6,hat,_,rfl,_,rfl,_,rfl,lu,_,rfl,SqL.of hu6,fun l7 hl7=>?_⟩
     dsimp only [Zir] at *
     rw [show Zqk (us.map V.str) none (some (0 + (j:Int)))=(us.take j).map V.str from by rw [Int.zero_add,Zqi,List.map_take]]
     have s7:Zag H6 (upd H6 l7 (.lst ((us.take j).map V.str))):=Zbw hl7
     have h7:(upd H6 l7 (.lst ((us.take j).map V.str))) l7=some (.lst ((us.take j).map V.str)):=uS
     generalize upd H6 l7 (.lst ((us.take j).map V.str))=H7 at s7 h7
     have s07:=s06.trans s7
     refine ⟨l7,_,rfl,.inl (SqL.of h7),rfl,Zcg _,_,rfl,?_⟩
     rw [show (if false=true then !inV (V.str y) ((us.take j).map V.str) else inV (V.str y) ((us.take j).map V.str))=decide (y∈us.take j) from by rw [if_neg (by decide),Zdj]]
     refine Zek (fun hs=>?_) (fun hs=>?_)
     ·have hs:=of_decide_eq_true hs
      exact ⟨_,rfl,_,rfl,lu,_,_,_,rfl,rfl,SqL.of (s07 _ _ hu),hat,sL (by show 2≤100000;decide),fun t2 ht2=>two (.twice y) t2 H7 s07 ht2 ⟨Z1j g f hy kn ndu (.inr ⟨hn,hs,rfl⟩),wu y hym⟩⟩
     ·have hs:y∉us.take j:=fun z=>hs (decide_eq_true z)
      have e1:us.take (j + 1)=us.take j++[y]:=by rw [List.take_add_one,hy];rfl
      refine ⟨_,rfl,s07,?_,?_⟩
      ·intro v hv
       rw [e1] at hv
       rcases List.mem_append.mp hv with z | z
       ·exact kn v z
       ·rw [List.mem_singleton.mp z];exact hn
      ·rw [e1]
       refine List.nodup_append.mpr ⟨ndu,by simp,fun a ha b hb e=>?_⟩
       rw [e,List.mem_singleton.mp hb] at ha
       exact hs ha
   rintro σ H4 ⟨x4,rfl,s4,kn,ndu⟩
   have ej:us.take (Zft 0 ((us.map V.str).length:Int).toNat).length=us:=by
    rw [Zbm,List.length_map]
    exact List.take_of_length_le (by omega)
   rw [ej] at kn ndu
   refine ⟨_,rfl,_,rfl,lu,_,rfl,.inl (SqL.of (s4 _ _ hu)),rfl,Zcg _,_,rfl,?_⟩
   rw [show (if false=true then !inV (V.str x) (us.map V.str) else inV (V.str x) (us.map V.str))=decide (x∈us) from by rw [if_neg (by decide),Zdj]]
   refine Zek (fun hs=>?_) (fun hs=>?_)
   ·exact ⟨sL (by show 2≤100000;decide),fun t2 ht2=>two .ring t2 H4 s4 ht2 (Zy9 g f kn ndu (of_decide_eq_true hs))⟩
   have xs':x∉us:=fun z=>hs (decide_eq_true z)
   have g2:Zb0 (rows++[(x,us)]):=Zua g hx hiw hl (fun u hu'=>by
    rcases List.mem_append.mp (kn u hu') with z | z
    ·exact z
    ·rw [List.mem_singleton.mp z] at hu';exact absurd hu' xs') ndu u8
   refine ⟨1,rfl,sL (by show 2≤100000;decide),fun tq htq=>⟨_,rfl,.inr ⟨_,rfl,?_⟩⟩⟩
   have s5:Zag H4 (upd H4 tq (.tup [.int (-1),.int 7])):=Zbw htq
   have h5:(upd H4 tq (.tup [.int (-1),.int 7])) tq=some (.tup [.int (-1),.int 7]):=uS
   have large:∀ b:Bool,b=decide (512<(rows.length + 1) ^ n)→∃ r:R4,RK rows n x us r∧r.fld=.int 0∧atI [V.int (-1),V.int 7] (if b then 1 else 0)=some (.int r.num):=fun b hb=>by
    cases b with
    | true=>exact ⟨.many,.inr ⟨.good g2,of_decide_eq_true hb.symm⟩,rfl,rfl⟩
    | false=>exact ⟨.ok,⟨.good g2,by have:=of_decide_eq_false hb.symm;omega⟩,rfl,rfl⟩
   obtain ⟨r,hr4,hf,hat⟩:=large _ rfl
   refine ⟨tq,_,_,_,rfl,rfl,SqT.of h5,hat,sL (by show 2≤100000;decide),fun t2 ht2=>?_⟩
   have:=two r t2 _ (s4.trans s5) ht2 hr4
   rw [hf] at this
   exact this
end
end K54
namespace K54
open PySem L2 Md
section
variable {rows:List (Str×List Str)} {y:Str} {i:Nat} {r:Str×List Str}
theorem Zm7 (nd:(rows.map (·.1)).Nodup) (hr:rows[i]?=some r):r.1∉(rows.take i).map (·.1):=fun h=>by
 obtain ⟨q,hq,e⟩:=List.mem_map.mp h
 obtain ⟨j,hj⟩:=List.getElem?_of_mem hq
 rw [List.getElem?_take] at hj
 split at hj
 ·rename_i lt
  have il:=(List.getElem?_eq_some_iff.mp hr).1
  have a1:(rows.map (·.1))[j]?=some r.1:=by rw [List.getElem?_map,hj,Option.map_some,e]
  have a2:(rows.map (·.1))[i]?=some r.1:=by rw [List.getElem?_map,hr];rfl
  have:=(List.getElem?_inj (by rw [List.length_map];omega) nd).mp (a1.trans a2.symm)
  omega
 ·cases hj
theorem Zig (nd:(rows.map (·.1)).Nodup) (hr:rows[i]?=some r):(Zan rows r.1 y).take i=rows.take i:=by
 unfold Zan
 rw [← List.map_take]
 have:∀ q∈rows.take i,(if q.1=r.1 then (q.1,q.2++[y]) else q)=q:=fun q hq=>if_neg fun e=>Zm7 nd hr (by rw [← e];exact List.mem_map.mpr ⟨q,hq,rfl⟩)
 rw [List.map_congr_left this,List.map_id']
theorem Zsa (hr:rows[i]?=some r):(Zan rows r.1 y)[i]?=some (r.1,r.2++[y]):=by
 unfold Zan
 rw [List.getElem?_map,hr,Option.map_some,if_pos rfl]
theorem Zk0:(Zan rows r.1 y).length=rows.length:=by unfold Zan;rw [List.length_map]
theorem Zkz {q:Str×List Str}(h:q∈Zan rows r.1 y):∃ p∈rows,q.1=p.1∧(q.2=p.2∨(p.1=r.1∧q.2=p.2++[y])):=by
 obtain ⟨p,hp,e⟩:=List.mem_map.mp h
 by_cases z:p.1=r.1
 ·rw [if_pos z] at e
  exact ⟨p,hp,by rw [← e],.inr ⟨z,by rw [← e]⟩⟩
 ·rw [if_neg z] at e
  exact ⟨p,hp,by rw [← e],.inl (by rw [← e])⟩
theorem Zpl (nd:(rows.map (·.1)).Nodup) {p q:Str×List Str}(hp:p∈rows) (hq:q∈rows) (e:p.1=q.1):p.2=q.2:=by
 rw [← Zbv nd hp,← Zbv nd hq,e]
theorem Zx0 (g:Zb0 rows) (hr:rows[i]?=some r) (h8:8≤r.2.length):Zg1 (Zan rows r.1 y) (some .many):=by
 have hm:=List.mem_of_getElem? hr
 refine .rows (.bad i (by rw [Zk0];exact g.ne) (by rw [Zk0];exact g.le) ⟨⟨_,Zsa hr,.inr (.inr ⟨g.word r hm,?_,?_,rfl⟩)⟩,?_,?_⟩)
 ·rw [Zig g.nd hr];exact Zm7 (r:=r) g.nd hr
 ·show 8<(r.2++[y]).length
  rw [List.length_append];show 8<_ + 1;omega
 ·rw [Zig g.nd hr]
  exact fun q hq=>⟨g.word q (List.mem_of_mem_take hq),g.few q (List.mem_of_mem_take hq)⟩
 ·rw [Zig g.nd hr,List.map_take]
  exact g.nd.sublist (List.take_sublist _ _)
theorem Zsb (g:Zb0 rows) (hr:rows[i]?=some r) (h8:r.2.length<8):Zie (Zan rows r.1 y):=by
 have hm:=List.mem_of_getElem? hr
 refine ⟨by rw [Zk0];exact g.ne,by rw [Zk0];exact g.le,fun q hq=>?_,by rw [Zc1];exact g.nd,fun q hq=>?_⟩
 ·obtain ⟨p,hp,e,_⟩:=Zkz hq
  rw [e];exact g.word p hp
 ·obtain ⟨p,hp,e,z | ⟨z1,z2⟩⟩:=Zkz hq
  ·rw [z];exact g.few p hp
  ·rw [z2,Zpl g.nd hp hm z1,List.length_append];show _ + 1≤8;omega
theorem Zu9 (g:Zb0 rows) (hr:rows[i]?=some r) (h8:r.2.length<8) (hy:y∈rows.map (·.1)) (h:y∈r.2):Zg1 (Zan rows r.1 y) (some (.twice y)):=by
 have hm:=List.mem_of_getElem? hr
 have e:(r.2++[y]).take r.2.length=r.2:=List.take_left ..
 refine .ups (Zsb g hr h8) (.bad i r.2.length ⟨⟨_,y,Zsa hr,?_,?_,?_,.inr ⟨?_,?_,rfl⟩⟩,?_⟩)
 ·show (r.2++[y])[r.2.length]?=some y
  rw [List.getElem?_append_right (Nat.le_refl _),Nat.sub_self];rfl
 ·rw [Zc1];show ∀ v∈(r.2++[y]).take r.2.length,_
  rw [e];exact g.known r hm
 ·show ((r.2++[y]).take r.2.length).Nodup
  rw [e];exact g.upnd r hm
 ·rw [Zc1];exact hy
 ·show y∈(r.2++[y]).take r.2.length
  rw [e];exact h
 ·rw [Zig g.nd hr,Zc1]
  exact fun q hq=>⟨g.known q (List.mem_of_mem_take hq),g.upnd q (List.mem_of_mem_take hq)⟩
theorem Zxz (g:Zb0 rows) (hr:rows[i]?=some r) (h8:r.2.length<8) (hy:y∈rows.map (·.1)) (h:y∉r.2) (hc:Graph.Reach (Zat rows) y r.1):Zg1 (Zan rows r.1 y) (some .ring):=by
 have hm:=List.mem_of_getElem? hr
 have f:=Zsb (y:=y) g hr h8
 have uf:Zl6 (Zan rows r.1 y):=by
  refine ⟨fun q hq u hu=>?_,fun q hq=>?_⟩
  ·rw [Zc1]
   obtain ⟨p,hp,e,z | ⟨z1,z2⟩⟩:=Zkz hq
   ·rw [z] at hu;exact g.known p hp u hu
   ·rw [z2] at hu
    rcases List.mem_append.mp hu with c | c
    ·exact g.known p hp u c
    ·rw [List.mem_singleton.mp c];exact hy
  ·obtain ⟨p,hp,e,z | ⟨z1,z2⟩⟩:=Zkz hq
   ·rw [z];exact g.upnd p hp
   ·rw [z2,Zpl g.nd hp hm z1]
    refine List.nodup_append.mpr ⟨g.upnd r hm,by simp,fun a ha b hb e'=>?_⟩
    rw [List.mem_singleton.mp hb] at e'
    rw [e'] at ha
    exact h ha
 have up:∀ a b,b∈Zat rows a→b∈Zat (Zan rows r.1 y) a:=fun a b hb=>by
  obtain ⟨p,hp,rfl,hb2⟩:=Zo9 hb
  have hq:(if p.1=r.1 then (p.1,p.2++[y]) else p)∈Zan rows r.1 y:=List.mem_map.mpr ⟨p,hp,rfl⟩
  have:=Zbv f.nd hq
  by_cases z:p.1=r.1
  ·rw [if_pos z] at this
   rw [show Zat (Zan rows r.1 y) p.1=p.2++[y] from this]
   exact List.mem_append_left _ hb2
  ·rw [if_neg z] at this
   rw [this];exact hb2
 have lift:∀ {a b:Str},Graph.Reach (Zat rows) a b→Graph.Reach (Zat (Zan rows r.1 y)) a b:=fun h=>by
  induction h with
  | refl=>exact .refl _
  | step m _ ih=>exact .step (up _ _ m) ih
 refine .ring f uf ⟨r.1,by rw [Zc1];exact List.mem_map.mpr ⟨r,hm,rfl⟩,y,?_,lift hc⟩
 rw [Zbv f.nd (List.mem_of_getElem? (Zsa (y:=y) hr))]
 simp
theorem Zx1 (g:Zb0 rows) (hr:rows[i]?=some r) (h8:r.2.length<8) (hy:y∈rows.map (·.1)) (h:y∉r.2) (hc:¬ Graph.Reach (Zat rows) y r.1):Zg1 (Zan rows r.1 y) none:=by
 have hm:=List.mem_of_getElem? hr
 have uo:=Zbv g.nd hm
 exact .good (Zwo g (List.mem_map.mpr ⟨r,hm,rfl⟩) hy (by rw [uo];exact h) (by rw [uo];omega) hc)
end
end K54
namespace K54
open PySem L2 Md
theorem Zw0 (l:List V):l.filter (fun _=>true)=l:=List.filter_eq_self.mpr fun _ _=>rfl
theorem Zgq {H H':Hp}{l:Addr}{rows:List (Str×List Str)}(h:Zdw H l rows) (s:Zag H H'):Zdw H' l rows:=by
 obtain ⟨vs,a,p⟩:=h
 exact ⟨vs,s _ _ a,Paired.mapP p fun r v ⟨t,u,e,h1,h2⟩=>⟨t,u,e,s _ _ h1,s _ _ h2⟩⟩
theorem Z0n {H:Hp}{p a:Addr}{o:HO}{ws:List Str}(h:H p=some o) (ho:Zn4 o) (ha:H a=some (.lst (ws.map V.str))):p≠a:=Z05 h ha (by
 obtain ⟨r,b,e,_⟩:=ho
 rw [e]
 intro z
 injection z with z
 have z2:=congrArg (fun l=>l[0]?) z
 cases ws with
 | nil=>simp at z2
 | cons x r=>simp at z2)
theorem Drawn.tup {p:Addr}{H H':Hp}(d:Drawn p H H') {o:HO}(h:H p=some o) (ho:Zn4 o) {t:Addr}{xs:List V}(e:H t=some (.tup xs)):H' t=some (.tup xs):=
 d.keep _ _ (fun z=>by rw [z,h] at e;obtain ⟨_,_,q,_⟩:=ho;rw [q] at e;cases e) e
theorem Zqr {K:W.Frag}{l:Addr}{H2:Hp}{rows:List (Str×List Str)}{σ:St}{te:TE}{Q:VK}(hR:Zdw H2 l rows) (few:rows.length≤100)
  (he:∀ (t u:Addr) (x:Str) H' (R:VK),H' t=some (.tup [.str x,.ref u])→R (.str x) H'→te [some (.ref t)] H' R)
  (hd:∀ D H3,H2 D=none→Zag H2 H3→H3 D=some (.lst ((rows.map (·.1)).map V.str))→Q (.ref D) H3):compBody 1 [] (Zh0 0) Zx3 te σ Q (Itl K l) H2:=by
 obtain ⟨vs,hvs,hpr⟩:=hR
 refine Zfk (Za8 (xs:=vs)) (sL (by rw [← hpr.length];omega)) (fun _=>true) (fun _ x v _=>∀ r,Zrt H2 r x→v=.str r.1) (fun _ _ _ _ _ _ h=>h) (fun H' s=>s.seq (SqL.of hvs)) ?_ ?_ ?_
 ·intro x H3 R _ _ hR'
  exact hR' H3 (Zag.refl _)
 ·intro D x H3 R s3 _ _ hx _ hR'
  obtain ⟨i,hi⟩:=List.mem_iff_getElem?.mp hx
  obtain ⟨r,hr',t,u,rfl,ht,hu'⟩:=Zar hpr hi
  refine he t u r.1 H3 R (s3 _ _ ht) (hR' _ _ (Zag.refl _) fun r' h'=>?_)
  obtain ⟨t',u',e1,e2,_⟩:=h'
  cases e1
  rw [ht] at e2
  have e2:=Option.some.inj e2
  injection e2 with e2
  injection e2 with e2 _
 ·intro D H3 ys hD s23 hlD hpD
  rw [Zw0] at hpD
  have eys:ys=(rows.map (·.1)).map V.str:=by
   have:∀ {rows:List (Str×List Str)} {vs ys:List V},Paired (Zrt H2) rows vs→Paired (fun x v=>∀ r,Zrt H2 r x→v=.str r.1) vs ys→ys=(rows.map (·.1)).map V.str:=by
    intro rows vs ys a
    induction a generalizing ys with
    | nil=>intro b;cases b;rfl
    | cons h t ih =>
     intro b
     cases b with
     | cons h' t'=>rw [List.map_cons,List.map_cons,h' _ h,ih t']
   exact this hpr hpD
  subst eys
  exact hd D H3 hD s23 hlD
def Zxa:Sp:=fun vs H Q _=>∃ (l aa:Addr) (rows:List (Str×List Str)) (avs:List (Key×V)) (n:Nat) (x y:Str),vs=[.ref l,.ref aa,.bl (decide (512<rows.length ^ n)),.str x,.str y]∧Zdw H l rows∧Zb0 rows∧H aa=some (.dK avs)∧Zdc H rows rows avs∧WOk x∧WOk y ∧
 ∀ r v H',Zag H H'→RT rows n x y r→Z3q H' r v→Q v H'
theorem Z21:(["row"]:List Str).Nodup:=by decide +kernel
section
variable {P:Program} {w:World} {K:W.Frag} {mg:Str→Option Value} {base:Heap}
abbrev nDt:List Str:=["rows","above","large","one","other","words","word","ups"]
theorem Z39:Zak nDt ["rows","above","large","one","other"] (Zad Zcs):=⟨rfl,rfl,rfl,by decide +kernel,rfl,by decide +kernel,by decide +kernel⟩
theorem Zyt {f:Addr}{fd:FuncData}(F:Def K mg "_law_due_tie" Zcs ["rows","above","large","one","other"] f fd) (len:mg "len"=none) (int:mg "int"=none):Zaq P w K mg base CX0 1 f fd ["rows","above","large","one","other"] Zxa:=by
 refine F.fn.ok Z39 (fun vs H Q E h=>?_) (fun cdv A outer s H vs Q E hr h=>?_)
 ·obtain ⟨l,aa,rows,avs,n,x,y,rfl,_⟩:=h
  rfl
 ·obtain ⟨l,aa,rows,avs,n,x,y,rfl,hR,g,ha,hA,wx,wy,q⟩:=h
  have nd:=Z39.nd
  have hu:=hr.units
  have hu':=Zgn hr
  have gle:=g.le
  refine' ⟨_,(pS ?e1
   (pS (Zbn PassesOwn.never rfl (Zhe (Zav (pC (pv 3) (pC (pv 4) Zaa)))) (Zai (i:=6) nd rfl (Or.inl rfl)) (Zab (Zau (Zap (r:=rIn K true) Zew (pv 6) (pv 5) (by with_unfolding_all rfl)) (Zab (Zam (Zav (pC Zae (pC (pv 6) Zaa))))) Zah)))
   (pS (Zal (i:=7) nd rfl (Or.inl rfl) (Zbd (r:=Zib K) Zb9 (Zbd (r:=Zl7 K) Za9 (pv 0) (Zic PySem.F.plainAttrs_list PySem.F.slot_list_index PySem.F.type_list_index (Zna (Z13 hr)) (pv 5) (pC (pv 3) Zaa)) (fun _ _=>rfl)) Zae (fun _ _=>rfl)))
   (pS (Zau (Zap Zvs (Zaj Zaw (by rfl) len PySem.boot_len (pC (pv 7) Zaa)) Zae (Zaz _)) (Zab (Zam (Zav (pC Zae (pC Zae Zaa))))) Zah)
   (pS (Zau (Zap (r:=rIn K false) Zdt (pv 4) (pv 7) (by with_unfolding_all rfl)) (Zab (Zam (Zav (pC Zae (pC (pv 4) Zaa))))) Zah)
   (pS (Zau (Zap (r:=rIn K false) Zdt (pv 3) (Zgu hu' (pv 1) (pv 4) (fun _ _=>rfl)) (by with_unfolding_all rfl)) (Zab (Zam (Zav (pC Zae (pC Zae Zaa))))) Zah)
   (Zab (Zam (Zav (pC (Zbd (r:=Zib K) Zb9 (Zav (pC (Zs8 Zma Zae) (pC Zae Zaa))) (Zbo Zjq (by rfl) int PyProof.Rows.boot_int (pC (pv 2) Zaa)) (fun _ _=>rfl)) (pC Zae Zaa))))))))))),?_⟩
  case e1=>exact (Ze7 (k:=5) ["row"] [] [] nd rfl rfl (fun _=>Za5 (osc:=Zad Zcs) (on:=nDt) (by decide +kernel) rfl rfl rfl) (Zb1 (pv 0)) (fun C s H fp=>Zai (i:=0) Z21 rfl (Or.inl rfl) (Or.inr rfl)) (fun C s H fp=>Zcm) (fun C s H fp=>Zbd (r:=Zib K) Zb9 (pv 0) Zae (fun _ _=>rfl)))
  obtain ⟨vs,hvs,hpr⟩:=id hR
  have vl:rows.length=vs.length:=Paired.length hpr
  have two:∀ (r:R4) (t2:Addr) (H':Hp),Zag H H'→H' t2=none→RT rows n x y r→Q (.ref t2) (upd H' t2 (.tup [.int r.num,r.fld])):=fun r t2 H' s' h2 hr=>q r _ _ (s'.trans (Zbw h2)) hr ⟨t2,rfl,uS⟩
  refine ⟨_,rfl,l,rfl,⟨_,SqL.of hvs⟩,Zqr hR (by omega) (fun t u z H' R ht hR'=>⟨_,rfl,t,_,_,_,rfl,rfl,SqT.of ht,rfl,hR'⟩) fun lw H1 hlw s1 hw=>?_⟩
  refine ⟨_,rfl,_,rfl,sL (by show 2≤100000;decide),fun tp htp=>?_⟩
  have s2:Zag H1 (upd H1 tp (.tup [.str x,.str y])):=Zbw htp
  have h2:(upd H1 tp (.tup [.str x,.str y])) tp=some (.tup [.str x,.str y]):=uS
  generalize upd H1 tp (.tup [.str x,.str y])=H2 at s2 h2
  have s02:=s1.trans s2
  have hw2:=s2 _ _ hw
  refine ⟨tp,rfl,⟨_,SqT.of h2⟩,Za1 (Zd6 (xs:=[V.str x,V.str y])) (fun i σ H'=>∃ x6:Option V,σ=[some (.ref l),some (.ref aa),some (.bl (decide (512<rows.length ^ n))),some (.str x),some (.str y),some (.ref lw),x6,none]∧H'=H2∧∀ z∈[x,y].take i,z∈rows.map (·.1))
   ⟨none,rfl,rfl,(fun z hz=>by rw [List.take_zero] at hz;cases hz)⟩ (fun i σ H' _ ⟨_,_,e,_⟩=>by rw [e];exact SqT.of h2) ?_ ?_⟩
  ·rintro i v σ H' hi ⟨x6,rfl,rfl,ah⟩
   obtain ⟨z,hz,rfl⟩:∃ z,[x,y][i]?=some z∧v=.str z:=by
    rw [show [V.str x,V.str y]=[x,y].map V.str from rfl,List.getElem?_map] at hi
    obtain ⟨z,hz,e⟩:=Option.map_eq_some_iff.mp hi
    exact ⟨z,hz,e.symm⟩
   have e1:[x,y].take (i + 1)=[x,y].take i++[z]:=by rw [List.take_add_one,hz];rfl
   refine ⟨_,rfl,_,rfl,lw,_,rfl,.inl (SqL.of hw2),rfl,Zcg _,_,rfl,?_⟩
   rw [show (if true=true then !inV (V.str z) ((rows.map (·.1)).map V.str) else inV (V.str z) ((rows.map (·.1)).map V.str))=!decide (z∈rows.map (·.1)) from by rw [if_pos rfl,Zdj]]
   refine Zek (fun hn=>?_) (fun hn=>?_)
   ·have hn:z∉rows.map (·.1):=fun c=>by rw [decide_eq_true c] at hn;cases hn
    refine ⟨_,rfl,sL (by show 2≤100000;decide),fun t2 ht2=>two (.noK z) t2 _ s02 ht2 ⟨?_,?_⟩⟩
    ·match i,hz,ah with
     | 0,hz,_ =>
      have hz:x=z:=by simpa using hz
      subst hz
      exact .inl ⟨hn,rfl⟩
     | 1,hz,ah =>
      have hz:y=z:=by simpa using hz
      subst hz
      exact .inr ⟨ah x (show x∈[x] from List.mem_singleton.mpr rfl),hn,rfl⟩
     | k + 2,hz,_=>simp at hz
    ·match i,hz with
     | 0,hz =>
      have hz:x=z:=by simpa using hz
      rw [← hz];exact wx
     | 1,hz =>
      have hz:y=z:=by simpa using hz
      rw [← hz];exact wy
     | k + 2,hz=>simp at hz
   ·have hn:z∈rows.map (·.1):=Classical.byContradiction fun c=>hn (by rw [decide_eq_false c];rfl)
    refine ⟨_,rfl,rfl,fun c hc=>?_⟩
    rw [e1] at hc
    rcases List.mem_append.mp hc with d | d
    ·exact ah c d
    ·rw [List.mem_singleton.mp d];exact hn
  rintro σ H' ⟨x6,rfl,rfl,ah⟩
  have hx:x∈rows.map (·.1):=ah x (show x∈[x,y] from List.mem_cons_self)
  have hy:y∈rows.map (·.1):=ah y (show y∈[x,y] from List.mem_cons_of_mem _ (List.mem_singleton.mpr rfl))
  have gw:=Zhz g
  have il:=List.idxOf_lt_length_of_mem hx
  have hat:(rows.map (·.1))[(rows.map (·.1)).idxOf x]?=some x:=by rw [List.getElem?_eq_getElem il,List.getElem_idxOf il]
  generalize ei:(rows.map (·.1)).idxOf x=i at hat il
  have il':i<rows.length:=by rw [List.length_map] at il;exact il
  have hri:rows[i]?=some rows[i]:=List.getElem?_eq_getElem il'
  generalize rows[i]=r at hri
  have ex:r.1=x:=by
   rw [List.getElem?_map,hri] at hat
   have:=Option.some.inj hat
   exact this
  have hm:=List.mem_of_getElem? hri
  have hvi:vs[i]?=some vs[i]:=List.getElem?_eq_getElem (by omega)
  obtain ⟨r',hr',t,u,eu,ht,hut⟩:=Zar hpr hvi
  rw [hri] at hr'
  cases hr'
  rw [eu] at hvi
  have few:=g.few r hm
  refine ⟨_,rfl,_,rfl,.inl ⟨rfl,_,SqL.of hw2⟩,_,rfl,.str x,.str x,(rows.map (·.1)).map W.Dat.str,i,.str x,rfl,.list (SqL.of hw2) (Zhb _),.str x,Zvy (fun z hz=>Zip (gw z hz)) 8,wx.ok,by rw [List.length_map,List.length_map];omega,by rw [List.getElem?_map,hat];rfl,Zim _,fun m' e' hm' he'=>?_,?_⟩
  ·rw [List.getElem?_map] at he'
   obtain ⟨z,hz,rfl⟩:=Option.map_eq_some_iff.mp he'
   refine Zl0 fun c=>?_
   injection c with c
   subst c
   have:=Zfh g.nd hz hat
   omega
  refine ⟨l,_,_,_,rfl,rfl,SqL.of (s02 _ _ hvs),Zch hvi,t,_,_,_,rfl,rfl,SqT.of (s02 _ _ ht),rfl,?_⟩
  have hu2:=s02 _ _ hut
  refine ⟨_,rfl,u,_,rfl,.inr (SqT.of hu2),_,_,rfl,rfl,_,rfl,?_⟩
  rw [List.length_map]
  rw [← ex] at hx
  refine Zek (fun h8=>?_) (fun h8=>?_)
  ·have h8:(r.2.length:Int) ≥ 8:=of_decide_eq_true h8
   exact ⟨sL (by show 2≤100000;decide),fun t2 ht2=>two .many t2 _ s02 ht2 (by rw [← ex];exact ⟨hx,hy,.inl (Zx0 g hri (by omega))⟩)⟩
  have h8:r.2.length<8:=by
   have:¬ ((r.2.length:Int) ≥ 8):=fun z=>h8 (decide_eq_true z)
   omega
  refine ⟨_,rfl,_,rfl,u,_,rfl,.inr (SqT.of hu2),rfl,Zcg _,_,rfl,?_⟩
  rw [show (if false=true then !inV (V.str y) (r.2.map V.str) else inV (V.str y) (r.2.map V.str))=decide (y∈r.2) from by rw [if_neg (by decide),Zdj]]
  refine Zek (fun hs=>?_) (fun hs=>?_)
  ·have hs:=of_decide_eq_true hs
   exact ⟨_,rfl,sL (by show 2≤100000;decide),fun t2 ht2=>two (.twice y) t2 _ s02 ht2 (by rw [← ex];exact ⟨⟨hx,hy,Zu9 g hri h8 hy hs⟩,wy⟩)⟩
  have hs:y∉r.2:=fun z=>hs (decide_eq_true z)
  obtain ⟨ry,hry,ery⟩:=Zct hy
  obtain ⟨ty,fs,hvy,hty,hin⟩:=(hA.mono fun b xs e=>s02 b _ e).val g.nd hry
  rw [ery] at hvy hin
  refine ⟨_,rfl,_,rfl,_,rfl,aa,_,rfl,(by rw [← hvy];exact Zf5.k (k:=Sum.inr y) (s02 _ _ ha)),ty,_,rfl,.inl (SqL.of hty),rfl,Zcg _,_,rfl,?_⟩
  rw [show (if false=true then !inV (V.str x) (fs.map V.str) else inV (V.str x) (fs.map V.str))=decide (x∈fs) from by rw [if_neg (by decide),Zdj]]
  refine Zek (fun hc=>?_) (fun hc=>?_)
  ·have hc:=(hin x).mp (of_decide_eq_true hc)
   rw [← ex] at hc
   exact ⟨sL (by show 2≤100000;decide),fun t2 ht2=>two .ring t2 _ s02 ht2 (by rw [← ex];exact ⟨hx,hy,Zxz g hri h8 hy hs hc⟩)⟩
  have hc:¬ Graph.Reach (Zat rows) y r.1:=fun z=>hc (decide_eq_true ((hin x).mpr (by rw [← ex];exact z)))
  have good:=Zx1 g hri h8 hy hs hc
  refine ⟨1,rfl,sL (by show 2≤100000;decide),fun tq htq=>⟨_,rfl,.inr ⟨_,rfl,?_⟩⟩⟩
  have s5:=Zbw (o:=HO.tup [.int (-1),.int 7]) htq
  have large:∀ b:Bool,b=decide (512<rows.length ^ n)→∃ r':R4,RT rows n r.1 y r'∧r'.fld=.int 0∧atI [V.int (-1),V.int 7] (if b then 1 else 0)=some (.int r'.num):=fun b hb=>by
   cases b with
   | true=>exact ⟨.many,⟨hx,hy,.inr ⟨good,of_decide_eq_true hb.symm⟩⟩,rfl,rfl⟩
   | false=>exact ⟨.ok,⟨hx,hy,good,by have:=of_decide_eq_false hb.symm;omega⟩,rfl,rfl⟩
  obtain ⟨r',hr4,hf,hat'⟩:=large _ rfl
  refine ⟨tq,_,_,_,rfl,rfl,SqT.of uS,hat',sL (by show 2≤100000;decide),fun t2 ht2=>?_⟩
  have:=two r' t2 _ (s02.trans s5) ht2 (by rw [← ex];exact hr4)
  rw [hf] at this
  exact this
end
end K54
namespace K54
open PySem L2 Md
inductive Z1w (K:W.Frag) (C B:Addr) (H:Hp) (b t:Addr):Int→R4→Prop
 | deed {k ta:Addr} {rows:List (Str×List Str)} {n:Nat} {ds:List (List Str)} {xs:List Str} {r:R4} (bd:Za6 C B H b k rows n ds) (g:Zb0 rows) (gd:Zao rows n ds) (n1:1≤n) (n4:n≤4) (ht:H t=some (.tup [.ref ta])) (ha:H ta=some (.tup (xs.map V.str))) (xl:xs.length≤1000) (h:RD rows n ds xs r):Z1w K C B H b t 0 r
 | kind {k lu:Addr} {rows:List (Str×List Str)} {n:Nat} {ds:List (List Str)} {x:Str} {us:List Str} {r:R4} (bd:Za6 C B H b k rows n ds) (g:Zb0 rows) (gd:Zao rows n ds) (n1:1≤n) (n4:n≤4) (ht:H t=some (.tup [.str x,.ref lu])) (hu:Zw2 K H lu us) (sx:Zda x) (su:∀ v∈us,Zda v) (h:RK rows n x us r):Z1w K C B H b t 1 r
 | tie {k:Addr} {rows:List (Str×List Str)} {n:Nat} {ds:List (List Str)} {x y:Str} {r:R4} (bd:Za6 C B H b k rows n ds) (g:Zb0 rows) (gd:Zao rows n ds) (n1:1≤n) (n4:n≤4) (ht:H t=some (.tup [.str x,.str y])) (sx:Zda x) (sy:Zda y) (h:RT rows n x y r):Z1w K C B H b t 2 r
structure Z43 (Ds:Nat→Addr) (E:XK) (H:Hp) (r:R4):Prop where
 many:r=.many→∀ H',Zag H H'→E (.ref (Ds 7)) none H'
 noB:r=.noB→∀ H',Zag H H'→E (.ref (Ds 8)) none H'
 noD:∀ k,r=.noD k→∀ dx H',Zag H H'→H' dx=some (.xd [("number",.int (k:Nat))])→E (.ref (Ds 4)) (some dx) H'
 same:∀ k,r=.same k→∀ dx H',Zag H H'→H' dx=some (.xd [("number",.int (k:Nat))])→E (.ref (Ds 5)) (some dx) H'
 noK:∀ w,r=.noK w→∀ dx H',Zag H H'→H' dx=some (.xd [("word",.str w)])→E (.ref (Ds 0)) (some dx) H'
 twice:∀ w,r=.twice w→∀ dx H',Zag H H'→H' dx=some (.xd [("word",.str w)])→E (.ref (Ds 1)) (some dx) H'
 ring:r=.ring→∀ dx l H',Zag H H'→H' dx=some (.xd [("ring",.ref l)])→E (.ref (Ds 3)) (some dx) H'
def Z0f (K:W.Frag) (C B:Addr) (Ds:Nat→Addr):Sp:=fun vs H Q E=>∃ (wy:Int) (b t:Addr) (r:R4),vs=[.int wy,.ref b,.ref t]∧Z1w K C B H b t wy r∧(r=.ok→∀ H',Zag H H'→Q .non H')∧Z43 Ds E H r
def Zsk (K:W.Frag) (C B:Addr):Sp:=fun vs H Q _=>∃ (wy:Int) (b t d:Addr) (r:R4),vs=[.int wy,.ref b,.ref t,.ref d]∧Z1w K C B H b t wy r∧H d=some (.tup [.int r.num,r.fld])∧∀ H',Zag H H'→Q (.bl true) H'
theorem Zgr {Ds:Nat→Addr}{E:XK}{H:Hp}{r:R4}{rows:List (Str×List Str)}(X:Z43 Ds E H r) {e:Zkv}(h:(e=.many∧r=.many)∨(∃ w,e=.noK w∧r=.noK w)∨(∃ w,e=.twice w∧r=.twice w)∨(e=.ring∧r=.ring)):Zru Ds rows E H e:=by
 refine ⟨fun z H' s=>?_,fun w z dx H' s hd=>?_,fun w z dx H' s hd=>?_,fun z dx l ys H' s hd _ _ _=>?_⟩
 ·subst z
  rcases h with ⟨_,h⟩ | ⟨w,h,_⟩ | ⟨w,h,_⟩ | ⟨h,_⟩
  ·exact X.many h H' s
  ·cases h
  ·cases h
  ·cases h
 ·subst z
  rcases h with ⟨h,_⟩ | ⟨w',h,h'⟩ | ⟨w,h,_⟩ | ⟨h,_⟩
  ·cases h
  ·cases h
   exact X.noK w h' dx H' s hd
  ·cases h
  ·cases h
 ·subst z
  rcases h with ⟨h,_⟩ | ⟨w',h,h'⟩ | ⟨w',h,h'⟩ | ⟨h,_⟩
  ·cases h
  ·cases h
  ·cases h
   exact X.twice w h' dx H' s hd
  ·cases h
 ·subst z
  rcases h with ⟨h,_⟩ | ⟨w',h,h'⟩ | ⟨w',h,h'⟩ | ⟨_,h⟩
  ·cases h
  ·cases h
  ·cases h
  ·exact X.ring h dx l H' s hd
section
variable {P:Program} {w:World} {K:W.Frag} {mg:Str→Option Value} {base:Heap}
abbrev nAs:List Str:=["which","subject","things"]
theorem Z56:Zak nAs nAs (Zad Zgd):=⟨rfl,rfl,rfl,by decide +kernel,rfl,by decide +kernel,by decide +kernel⟩
theorem Z04 {f C B f1 f2 f3:Addr}{Ds:Nat→Addr}{fd d1 d2 d3:FuncData}(F:Def K mg "_law_ask" Zgd nAs f fd)
  (D1:Def K mg "by_deed" Zfs ["board","call"] f1 d1) (G1:Zaq P w K mg base (CX1 P w) 10 f1 d1 ["board","call"] (Ziz C B Ds))
  (D2:Def K mg "by_kind" Zfr ["board","word","ups"] f2 d2) (G2:Zaq P w K mg base (CX1 P w) 10 f2 d2 ["board","word","ups"] (Ziy K C B Ds))
  (D3:Def K mg "by_tie" Zg9 ["board","one","other"] f3 d3) (G3:Zaq P w K mg base (CX1 P w) 10 f3 d3 ["board","one","other"] (Zk5 C B Ds)):Zaq P w K mg base (CX1 P w) 11 f fd nAs (Z0f K C B Ds):=by
 refine F.fn.ok1 Z56 (fun vs H Q E h=>?_) (fun cdv A outer s H vs Q E hr h=>?_)
 ·obtain ⟨wy,b,t,r,rfl,_⟩:=h
  rfl
 ·obtain ⟨wy,b,t,r,rfl,ap,q,X⟩:=h
  refine ⟨_,Zab (Zau (Zap Ze9 (pv 0) Zae (Zaz _)) (Zab (Za3 (Zdi G1 hr (by rfl) D1.m D1.fn.kp D1.b .nil (Zcb Fns.of) (pC (pv 1) (pC (Zbd (r:=Zib K) Zb9 (pv 2) Zae (fun _ _=>rfl)) Zaa)))))
   (Zab (Zau (Zap Ze9 (pv 0) Zae (Zaz _)) (Zab (Za3 (Zdi G2 hr (by rfl) D2.m D2.fn.kp D2.b .nil (Zcb Fns.of) (pC (pv 1) (pC (Zbd (r:=Zib K) Zb9 (pv 2) Zae (fun _ _=>rfl)) (pC (Zbd (r:=Zib K) Zb9 (pv 2) Zae (fun _ _=>rfl)) Zaa))))))
    (Zab (Za3 (Zdi G3 hr (by rfl) D3.m D3.fn.kp D3.b .nil (Zcb Fns.of) (pC (pv 1) (pC (Zbd (r:=Zib K) Zb9 (pv 2) Zae (fun _ _=>rfl)) (pC (Zbd (r:=Zib K) Zb9 (pv 2) Zae (fun _ _=>rfl)) Zaa))))))))),?_⟩
  cases ap with
  | @deed k ta rows n ds xs _ bd g gd n1 n4 ht ha xl h =>
   refine ⟨_,rfl,rfl,_,rfl,Ze5 ?_⟩
   refine ⟨_,rfl,_,rfl,t,_,_,_,rfl,rfl,SqT.of ht,rfl,?_⟩
   have go:∀ r0,Due rows n (ds++[xs]) r0→(r0=none→rows.length ^ n≤512→r=.ok)→(r0=none→512<rows.length ^ n→r=.many)→(∀ i j,r0=some (i,j)→Zu4 Ds E H i j)→Ziz C B Ds [.ref b,.ref ta] H (fun _ H'=>Q .non H') E:=fun r0 due h1 h2 h3 =>
    ⟨b,k,ta,rows,n,ds,xs,r0,rfl,bd,g,gd,n1,n4,ha,xl,due,fun e hc v H' s'=>q (h1 e hc) H' s',fun e hc H' s'=>X.many (h2 e hc) H' s',h3⟩
   cases r with
   | ok=>exact go none h.1 (fun _ _=>rfl) (fun _ hc=>absurd h.2 (by omega)) (fun i j z=>by cases z)
   | many=>exact go none h.1 (fun _ hc=>absurd h.2 (by omega)) (fun _ _=>rfl) (fun i j z=>by cases z)
   | noB=>exact go _ h (fun z=>by cases z) (fun z=>by cases z) (fun i j z=>by cases z;exact ⟨fun _ H' s'=>X.noB rfl H' s',fun z=>absurd rfl z⟩)
   | noD k=>exact go _ h.1 (fun z=>by cases z) (fun z=>by cases z) (fun i j z=>by cases z;exact ⟨(fun z=>by cases z),fun _ dx H' s' hd=>X.noD _ rfl dx H' s' hd⟩)
   | same k=>exact go _ h.1 (fun z=>by cases z) (fun z=>by cases z) (fun i j z=>by cases z;exact ⟨(fun z=>by cases z),fun _ dx H' s' hd=>X.same _ rfl dx H' s' hd⟩)
   | ring=>exact h.elim
   | noK w=>exact h.elim
   | twice w=>exact h.elim
  | @kind k lu rows n ds x us _ bd g gd n1 n4 ht hu sx su h =>
   refine ⟨_,rfl,rfl,_,rfl,Zbz ⟨_,rfl,rfl,_,rfl,Ze5 ?_⟩⟩
   refine ⟨_,rfl,_,rfl,t,_,_,_,rfl,rfl,SqT.of ht,rfl,_,rfl,t,_,_,_,rfl,rfl,SqT.of ht,rfl,?_⟩
   have go:∀ r0,Zg1 (rows++[(x,us)]) r0→(r0=none→(rows.length + 1) ^ n≤512→r=.ok)→(r0=none→512<(rows.length + 1) ^ n→r=.many)→(∀ e,r0=some e→Zru Ds (rows++[(x,us)]) E H e)→Ziy K C B Ds [.ref b,.str x,.ref lu] H (fun _ H'=>Q .non H') E:=fun r0 due h1 h2 h3 =>
    ⟨b,k,lu,rows,n,ds,x,us,r0,rfl,bd,g,gd,n1,n4,hu,sx,su,due,fun e hc v H' s'=>q (h1 e hc) H' s',fun e hc H' s'=>X.many (h2 e hc) H' s',h3⟩
   cases r with
   | ok=>exact go none h.1 (fun _ _=>rfl) (fun _ hc=>absurd h.2 (by omega)) (fun e z=>by cases z)
   | many =>
    rcases h with h | h
    ·exact go _ h (fun z=>by cases z) (fun z=>by cases z) (fun e z=>by cases z;exact Zgr X (.inl ⟨rfl,rfl⟩))
    ·exact go none h.1 (fun _ hc=>absurd h.2 (by omega)) (fun _ _=>rfl) (fun e z=>by cases z)
   | noB=>exact h.elim
   | noD k=>exact h.elim
   | same k=>exact h.elim
   | ring=>exact go _ h (fun z=>by cases z) (fun z=>by cases z) (fun e z=>by cases z;exact Zgr X (.inr (.inr (.inr ⟨rfl,rfl⟩))))
   | noK w=>exact go _ h.1 (fun z=>by cases z) (fun z=>by cases z) (fun e z=>by cases z;exact Zgr X (.inr (.inl ⟨_,rfl,rfl⟩)))
   | twice w=>exact go _ h.1 (fun z=>by cases z) (fun z=>by cases z) (fun e z=>by cases z;exact Zgr X (.inr (.inr (.inl ⟨_,rfl,rfl⟩))))
  | @tie k rows n ds x y _ bd g gd n1 n4 ht sx sy h =>
   refine ⟨_,rfl,rfl,_,rfl,Zbz ⟨_,rfl,rfl,_,rfl,Zbz ?_⟩⟩
   refine ⟨_,rfl,_,rfl,t,_,_,_,rfl,rfl,SqT.of ht,rfl,_,rfl,t,_,_,_,rfl,rfl,SqT.of ht,rfl,?_⟩
   have go:∀ r0,x∈rows.map (·.1)→y∈rows.map (·.1)→Zg1 (Zan rows x y) r0→(r0=none→rows.length ^ n≤512→r=.ok)→(r0=none→512<rows.length ^ n→r=.many)→(∀ e,r0=some e→Zru Ds (Zan rows x y) E H e)→Zk5 C B Ds [.ref b,.str x,.str y] H (fun _ H'=>Q .non H') E:=fun r0 hx hy due h1 h2 h3 =>
    ⟨b,k,rows,n,ds,x,y,rfl,bd,g,gd,n1,n4,sx,sy,.inr ⟨hx,hy,r0,due,fun e hc v H' s'=>q (h1 e hc) H' s',fun e hc H' s'=>X.many (h2 e hc) H' s',h3⟩⟩
   cases r with
   | ok=>exact go none h.1 h.2.1 h.2.2.1 (fun _ _=>rfl) (fun _ hc=>absurd h.2.2.2 (by omega)) (fun e z=>by cases z)
   | many =>
    obtain ⟨hx,hy,h | h⟩:=h
    ·exact go _ hx hy h (fun z=>by cases z) (fun z=>by cases z) (fun e z=>by cases z;exact Zgr X (.inl ⟨rfl,rfl⟩))
    ·exact go none hx hy h.1 (fun _ hc=>absurd h.2 (by omega)) (fun _ _=>rfl) (fun e z=>by cases z)
   | noB=>exact h.elim
   | noD k=>exact h.elim
   | same k=>exact h.elim
   | ring=>exact go _ h.1 h.2.1 h.2.2 (fun z=>by cases z) (fun z=>by cases z) (fun e z=>by cases z;exact Zgr X (.inr (.inr (.inr ⟨rfl,rfl⟩))))
   | noK w=>exact ⟨b,k,rows,n,ds,x,y,rfl,bd,g,gd,n1,n4,sx,sy,.inl ⟨w,h.1,fun dx H' s' hd=>X.noK w rfl dx H' s' hd⟩⟩
   | twice w=>exact go _ h.1.1 h.1.2.1 h.1.2.2 (fun z=>by cases z) (fun z=>by cases z) (fun e z=>by cases z;exact Zgr X (.inr (.inr (.inl ⟨_,rfl,rfl⟩))))
abbrev nRi:List Str:=["which","subject","things","due","found","e"]
abbrev nR4:List Str:=["which","subject","things","due"]
theorem Z3z:Zak nRi nR4 (Zad Zen):=⟨rfl,rfl,rfl,by decide +kernel,rfl,by decide +kernel,by decide +kernel⟩
theorem Zv1 {f C B D fA fAl fW:Addr}{Ds:Nat→Addr}{fd fdA fdAl fdW:FuncData}(F:Def K mg "_law_right" Zen nR4 f fd) (TD:Z3p K mg D) (O0:Zg0 K D Ds 0) (O1:Zg0 K D Ds 1) (O3:Zg0 K D Ds 3) (O4:Zg0 K D Ds 4) (O5:Zg0 K D Ds 5) (O7:Zg0 K D Ds 7) (O8:Zg0 K D Ds 8) (I0:ExI K (Ds 0) D "word") (I1:ExI K (Ds 1) D "word") (I4:ExI K (Ds 4) D "number") (I5:ExI K (Ds 5) D "number")
  (DA:Def K mg "_law_ask" Zgd nAs fA fdA) (GA:Zaq P w K mg base (CX1 P w) 11 fA fdA nAs (Z0f K C B Ds)) (DAl:Def K mg "_law_alone" Zep ["e","place"] fAl fdAl) (GAl:Zaq P w K mg base CX0 1 fAl fdAl ["e","place"] (Zsr K D Ds)) (DW:Def K mg "_law_whole" Zem ["found"] fW fdW) (GW:Zaq P w K mg base CX0 1 fW fdW ["found"] Zsf):Zaq P w K mg base CX0 12 f fd nR4 (Zsk K C B):=by
 refine F.fn.ok Z3z (fun vs H Q E h=>?_) (fun cdv A outer s H vs Q E hr h=>?_)
 ·obtain ⟨wy,b,t,d,r,rfl,_⟩:=h
  rfl
 ·obtain ⟨wy,b,t,d,r,rfl,ap,hd,q⟩:=h
  have nd:=Z3z.nd
  have hr1:Zb6 1 _:=hr.mono (by decide)
  have hr11:Zb6 11 _:=hr.mono (by decide)
  refine ⟨_,(pS (Zal (i:=4) nd rfl (Or.inl rfl) Zkg)
   (pS (Z0m (i:=4) (j:=5) rfl rfl TD.ex nd (by rfl) TD.m rfl (Or.inl rfl) rfl rfl (Zvl (Zvk (Zvo DA GA hr11 (by rfl) (pC (pv 0) (pC (pv 1) (pC (pv 2) Zaa)))))))
   (pS (Zau (PW.pt (Zof (Zap Zta (Zbd (r:=Zib K) Zb9 (pv 3) Zae (fun _ _=>rfl)) Zae (Zaz _)) (Zkd (Zap Zxj (pv 4) Zkg (Zaz _))))) (Zab (Zam (Zkh (Zeg Zta (Zbd (r:=Zib K) Zb9 (pv 3) Zae (fun _ _=>rfl)) Zae (Zaz _)) (Zi5 (Zeg Zxj (pv 4) Zkg (Zaz _)))))) Zah)
   (pS (Zau (Zb4 (Zce (Zaf DAl GAl hr1 (pC (pv 4) (pC (Zbd (r:=Zib K) Zb9 (pv 3) Zae (fun _ _=>rfl)) Zaa))))) (Zab (Zam Ze8)) Zah)
   (pS (Zau (PW.pt (Zof (Zap Ze9 (Zbd (r:=Zib K) Zb9 (pv 3) Zae (fun _ _=>rfl)) Zae (Zaz _)) (Zkd (Zap Ze9 (Zbd (r:=Zib K) Zb9 (pv 3) Zae (fun _ _=>rfl)) Zae (Zaz _))))) (Zab (Zam (Zkh (Zaf DW GW hr1 (pC (Zoh (D:=D) (pv 4)) Zaa)) (Zi5 (Zeg Ze9 (Zoh (D:=D) (pv 4)) (Zbd (r:=Zib K) Zb9 (pv 3) Zae (fun _ _=>rfl)) (Zaz _)))))) Zah)
   (Zab (Zam (Z2p (Zeg Zi9 (Zbd (r:=Zib K) Zb9 (pv 3) Zae (fun _ _=>rfl)) Zae (Zaz _)) (Zi5 (Zeg Ze9 (Zoh (D:=D) (pv 4)) (Zbd (r:=Zib K) Zb9 (pv 3) Zae (fun _ _=>rfl)) (Zaz _))))))))))),?_⟩
  refine ⟨_,rfl,_,rfl,_,rfl,wy,b,t,r,rfl,ap,fun er H1 s1=>?_,?_⟩
  ·subst er
   have hd1:=s1 _ _ hd
   refine ⟨_,rfl,d,_,_,_,rfl,rfl,SqT.of hd1,rfl,_,_,rfl,rfl,_,rfl,Ze5 ?_⟩
   exact ⟨_,rfl,d,_,_,_,rfl,rfl,SqT.of hd1,rfl,_,_,rfl,rfl,_,rfl,Ze5 ⟨_,rfl,rfl,q H1 s1⟩⟩
  refine ⟨fun e H1 s1=>?_,fun e H1 s1=>?_,fun k e dx H1 s1 hx=>?_,fun k e dx H1 s1 hx=>?_,fun w' e dx H1 s1 hx=>?_,fun w' e dx H1 s1 hx=>?_,fun e dx l H1 s1 hx=>?_⟩
  ·subst e
   refine ⟨_,rfl,O7.ex.toExC,O7.sub,fun ea hea=>?_⟩
   have s2:=Zbw (o:=XO ea (Ds 7) none) hea
   have h2:(upd H1 ea (XO ea (Ds 7) none)) ea=some (XO ea (Ds 7) none):=uS
   have hd2:=s2 _ _ (s1 _ _ hd)
   refine ⟨_,rfl,d,_,_,_,rfl,rfl,SqT.of hd2,rfl,_,_,rfl,rfl,_,rfl,Zbz ⟨_,rfl,rfl,_,rfl,Zbz ?_⟩⟩
   refine ⟨_,rfl,_,rfl,d,_,_,_,rfl,rfl,SqT.of hd2,rfl,ea,7,7,none,rfl,h2,.inl rfl,O7,by decide,by decide,fun H3 s3=>⟨_,rfl,Zbz ?_⟩⟩
   have hd3:=s3 _ _ hd2
   have fin:=q H3 (s1.trans (s2.trans s3))
   refine ⟨_,rfl,d,_,_,_,rfl,rfl,SqT.of hd3,rfl,rfl,_,rfl,Zbz ⟨_,rfl,d,_,_,_,rfl,rfl,SqT.of hd3,rfl,rfl,_,rfl,Zbz ?_⟩⟩
   exact ⟨_,rfl,d,_,_,_,rfl,rfl,SqT.of hd3,rfl,_,_,rfl,rfl,_,rfl,Ze5 fin⟩
  ·subst e
   refine ⟨_,rfl,O8.ex.toExC,O8.sub,fun ea hea=>?_⟩
   have s2:=Zbw (o:=XO ea (Ds 8) none) hea
   have h2:(upd H1 ea (XO ea (Ds 8) none)) ea=some (XO ea (Ds 8) none):=uS
   have hd2:=s2 _ _ (s1 _ _ hd)
   refine ⟨_,rfl,d,_,_,_,rfl,rfl,SqT.of hd2,rfl,_,_,rfl,rfl,_,rfl,Zbz ⟨_,rfl,rfl,_,rfl,Zbz ?_⟩⟩
   refine ⟨_,rfl,_,rfl,d,_,_,_,rfl,rfl,SqT.of hd2,rfl,ea,8,8,none,rfl,h2,.inl rfl,O8,by decide,by decide,fun H3 s3=>⟨_,rfl,Zbz ?_⟩⟩
   have hd3:=s3 _ _ hd2
   have fin:=q H3 (s1.trans (s2.trans s3))
   refine ⟨_,rfl,d,_,_,_,rfl,rfl,SqT.of hd3,rfl,rfl,_,rfl,Zbz ⟨_,rfl,d,_,_,_,rfl,rfl,SqT.of hd3,rfl,rfl,_,rfl,Zbz ?_⟩⟩
   exact ⟨_,rfl,d,_,_,_,rfl,rfl,SqT.of hd3,rfl,_,_,rfl,rfl,_,rfl,Ze5 fin⟩
  ·subst e
   refine ⟨_,rfl,O4.ex.toExC,O4.sub,fun ea hea=>?_⟩
   have s2:=Zbw (o:=XO ea (Ds 4) (some dx)) hea
   have h2:(upd H1 ea (XO ea (Ds 4) (some dx))) ea=some (XO ea (Ds 4) (some dx)):=uS
   have hd2:=s2 _ _ (s1 _ _ hd)
   have hx2:=s2 _ _ hx
   refine ⟨_,rfl,d,_,_,_,rfl,rfl,SqT.of hd2,rfl,_,_,rfl,rfl,_,rfl,Zbz ⟨_,rfl,rfl,_,rfl,Zbz ?_⟩⟩
   refine ⟨_,rfl,_,rfl,d,_,_,_,rfl,rfl,SqT.of hd2,rfl,ea,4,4,(some dx),rfl,h2,.inr ⟨dx,_,rfl,hx2⟩,O4,by decide,by decide,fun H3 s3=>⟨_,rfl,Zbz ?_⟩⟩
   have hd3:=s3 _ _ hd2
   have fin:=q H3 (s1.trans (s2.trans s3))
   have h3:=s3 _ _ h2
   have hx3:=s3 _ _ hx2
   refine ⟨_,rfl,d,_,_,_,rfl,rfl,SqT.of hd3,rfl,rfl,_,rfl,Ze5 ?_⟩
   refine ⟨_,rfl,ea,Ds 4,dx,_,_,rfl,h3,hx3,I4,rfl,_,rfl,_,rfl,Ze5 ⟨_,rfl,ea,Ds 4,dx,_,_,rfl,h3,hx3,I4,rfl,_,rfl,d,_,_,_,rfl,rfl,SqT.of hd3,rfl,rfl,?_⟩⟩
   rw [show decide (V.int (k:Nat)=R4.fld (.noD k))=true from decide_eq_true rfl]
   exact fin
  ·subst e
   refine ⟨_,rfl,O5.ex.toExC,O5.sub,fun ea hea=>?_⟩
   have s2:=Zbw (o:=XO ea (Ds 5) (some dx)) hea
   have h2:(upd H1 ea (XO ea (Ds 5) (some dx))) ea=some (XO ea (Ds 5) (some dx)):=uS
   have hd2:=s2 _ _ (s1 _ _ hd)
   have hx2:=s2 _ _ hx
   refine ⟨_,rfl,d,_,_,_,rfl,rfl,SqT.of hd2,rfl,_,_,rfl,rfl,_,rfl,Zbz ⟨_,rfl,rfl,_,rfl,Zbz ?_⟩⟩
   refine ⟨_,rfl,_,rfl,d,_,_,_,rfl,rfl,SqT.of hd2,rfl,ea,5,5,(some dx),rfl,h2,.inr ⟨dx,_,rfl,hx2⟩,O5,by decide,by decide,fun H3 s3=>⟨_,rfl,Zbz ?_⟩⟩
   have hd3:=s3 _ _ hd2
   have fin:=q H3 (s1.trans (s2.trans s3))
   have h3:=s3 _ _ h2
   have hx3:=s3 _ _ hx2
   refine ⟨_,rfl,d,_,_,_,rfl,rfl,SqT.of hd3,rfl,rfl,_,rfl,Zbz ⟨_,rfl,d,_,_,_,rfl,rfl,SqT.of hd3,rfl,rfl,_,rfl,Ze5 ?_⟩⟩
   refine ⟨_,rfl,ea,Ds 5,dx,_,_,rfl,h3,hx3,I5,rfl,_,rfl,_,rfl,Ze5 ⟨_,rfl,ea,Ds 5,dx,_,_,rfl,h3,hx3,I5,rfl,_,rfl,d,_,_,_,rfl,rfl,SqT.of hd3,rfl,rfl,?_⟩⟩
   rw [show decide (V.int (k:Nat)=R4.fld (.same k))=true from decide_eq_true rfl]
   exact fin
  ·subst e
   refine ⟨_,rfl,O0.ex.toExC,O0.sub,fun ea hea=>?_⟩
   have s2:=Zbw (o:=XO ea (Ds 0) (some dx)) hea
   have h2:(upd H1 ea (XO ea (Ds 0) (some dx))) ea=some (XO ea (Ds 0) (some dx)):=uS
   have hd2:=s2 _ _ (s1 _ _ hd)
   have hx2:=s2 _ _ hx
   refine ⟨_,rfl,d,_,_,_,rfl,rfl,SqT.of hd2,rfl,_,_,rfl,rfl,_,rfl,Zbz ⟨_,rfl,rfl,_,rfl,Zbz ?_⟩⟩
   refine ⟨_,rfl,_,rfl,d,_,_,_,rfl,rfl,SqT.of hd2,rfl,ea,0,0,(some dx),rfl,h2,.inr ⟨dx,_,rfl,hx2⟩,O0,by decide,by decide,fun H3 s3=>⟨_,rfl,Zbz ?_⟩⟩
   have hd3:=s3 _ _ hd2
   have fin:=q H3 (s1.trans (s2.trans s3))
   refine ⟨_,rfl,d,_,_,_,rfl,rfl,SqT.of hd3,rfl,rfl,_,rfl,Zbz ⟨_,rfl,d,_,_,_,rfl,rfl,SqT.of hd3,rfl,rfl,_,rfl,Zbz ?_⟩⟩
   have h3:=s3 _ _ h2
   have hx3:=s3 _ _ hx2
   refine ⟨_,rfl,d,_,_,_,rfl,rfl,SqT.of hd3,rfl,_,_,rfl,rfl,_,rfl,Zbz ⟨_,rfl,ea,Ds 0,dx,_,_,rfl,h3,hx3,I0,rfl,_,rfl,d,_,_,_,rfl,rfl,SqT.of hd3,rfl,rfl,?_⟩⟩
   rw [show decide (V.str w'=R4.fld (.noK w'))=true from decide_eq_true rfl]
   exact fin
  ·subst e
   refine ⟨_,rfl,O1.ex.toExC,O1.sub,fun ea hea=>?_⟩
   have s2:=Zbw (o:=XO ea (Ds 1) (some dx)) hea
   have h2:(upd H1 ea (XO ea (Ds 1) (some dx))) ea=some (XO ea (Ds 1) (some dx)):=uS
   have hd2:=s2 _ _ (s1 _ _ hd)
   have hx2:=s2 _ _ hx
   refine ⟨_,rfl,d,_,_,_,rfl,rfl,SqT.of hd2,rfl,_,_,rfl,rfl,_,rfl,Zbz ⟨_,rfl,rfl,_,rfl,Zbz ?_⟩⟩
   refine ⟨_,rfl,_,rfl,d,_,_,_,rfl,rfl,SqT.of hd2,rfl,ea,1,1,(some dx),rfl,h2,.inr ⟨dx,_,rfl,hx2⟩,O1,by decide,by decide,fun H3 s3=>⟨_,rfl,Zbz ?_⟩⟩
   have hd3:=s3 _ _ hd2
   have fin:=q H3 (s1.trans (s2.trans s3))
   refine ⟨_,rfl,d,_,_,_,rfl,rfl,SqT.of hd3,rfl,rfl,_,rfl,Zbz ⟨_,rfl,d,_,_,_,rfl,rfl,SqT.of hd3,rfl,rfl,_,rfl,Zbz ?_⟩⟩
   have h3:=s3 _ _ h2
   have hx3:=s3 _ _ hx2
   refine ⟨_,rfl,d,_,_,_,rfl,rfl,SqT.of hd3,rfl,_,_,rfl,rfl,_,rfl,Zbz ⟨_,rfl,ea,Ds 1,dx,_,_,rfl,h3,hx3,I1,rfl,_,rfl,d,_,_,_,rfl,rfl,SqT.of hd3,rfl,rfl,?_⟩⟩
   rw [show decide (V.str w'=R4.fld (.twice w'))=true from decide_eq_true rfl]
   exact fin
  ·subst e
   refine ⟨_,rfl,O3.ex.toExC,O3.sub,fun ea hea=>?_⟩
   have s2:=Zbw (o:=XO ea (Ds 3) (some dx)) hea
   have h2:(upd H1 ea (XO ea (Ds 3) (some dx))) ea=some (XO ea (Ds 3) (some dx)):=uS
   have hd2:=s2 _ _ (s1 _ _ hd)
   have hx2:=s2 _ _ hx
   refine ⟨_,rfl,d,_,_,_,rfl,rfl,SqT.of hd2,rfl,_,_,rfl,rfl,_,rfl,Zbz ⟨_,rfl,rfl,_,rfl,Zbz ?_⟩⟩
   refine ⟨_,rfl,_,rfl,d,_,_,_,rfl,rfl,SqT.of hd2,rfl,ea,3,3,(some dx),rfl,h2,.inr ⟨dx,_,rfl,hx2⟩,O3,by decide,by decide,fun H3 s3=>⟨_,rfl,Zbz ?_⟩⟩
   have hd3:=s3 _ _ hd2
   have fin:=q H3 (s1.trans (s2.trans s3))
   refine ⟨_,rfl,d,_,_,_,rfl,rfl,SqT.of hd3,rfl,rfl,_,rfl,Zbz ⟨_,rfl,d,_,_,_,rfl,rfl,SqT.of hd3,rfl,rfl,_,rfl,Zbz ?_⟩⟩
   exact ⟨_,rfl,d,_,_,_,rfl,rfl,SqT.of hd3,rfl,_,_,rfl,rfl,_,rfl,Ze5 fin⟩
end
end K54
namespace K54
open PySem L2 Md
theorem Zgk {ws:List Str}{v:Int} (h0:0≤v) (h1:v<(ws.map V.str).length):∃ x∈ws,atI (ws.map V.str) v=some (.str x):=by
 have hl:v.toNat<ws.length:=by rw [List.length_map] at h1;omega
 refine ⟨ws[v.toNat],List.getElem_mem hl,?_⟩
 have e:((v.toNat:Nat):Int)=v:=by omega
 have:=Zch (xs:=ws.map V.str) (j:=v.toNat) (v:=.str ws[v.toNat]) (by rw [List.getElem?_map,List.getElem?_eq_getElem hl];rfl)
 rw [e] at this
 exact this
theorem Zl1 {p:Addr}{n:Nat}{js:List Nat}{te:TE}{σ:St}{Q:VK}{H1:Hp}{tl:St}{B:Str→Prop}(hp:∃ o,H1 p=some o∧Zn4 o) (hn:n≤1000) (hσ:sgC 1 js σ=none :: tl)
  (he:∀ (v:V) (H':Hp) (R:VK),Drawn p H1 H'→(∀ x H'',Drawn p H' H''→B x→R (.str x) H'')→te (some v :: tl) H' R)
  (hd:∀ (D:Addr) (xs:List Str) (H':Hp),H1 D=none→Drawn p H1 H'→H' D=some (.lst (xs.map V.str))→xs.length=n→(∀ x∈xs,B x)→Q (.ref D) H'):compBody 1 js (Zh0 0) Zx3 te σ Q (Itr 0 n) H1:=by
 obtain ⟨o0,hp0,ho0⟩:=hp
 refine Zjp Zcz (by rw [Zbm];exact sL (by omega)) (fun D i ys σ' H'=>Drawn p H1 H'∧H' D=some (.lst ys)∧∃ (xs:List Str) (o:Option V),ys=xs.map V.str∧xs.length=i∧(∀ x∈xs,B x)∧σ'=o :: tl)
  (fun D hD=>⟨(Drawn.refl ⟨o0,hp0,ho0⟩).new hD,uS,[],none,rfl,rfl,(fun x h=>nomatch h),hσ⟩) (fun D i ys σ' H' _ ⟨_,_,xs,_,e,el,_⟩=>⟨trivial,by rw [e,List.length_map];omega⟩) ?_ ?_
 ·rintro D i v ys σ' H' hD hi ⟨d,hl,xs,o,rfl,rfl,hb,rfl⟩
  have pD:p≠D:=nNo hp0 hD
  refine he v H' _ d fun x H'' d2 wx=>⟨d2.keep _ _ (Ne.symm pD) hl,(d.trans d2).sub (o':=.lst []) (q:=D) (fun b o hb e=>by rw [Zac hb];exact e) hD pD,uS,xs++[x],some v,by rw [List.map_append];rfl,by simp,fun y hy=>?_,rfl⟩
  rcases List.mem_append.mp hy with z | z
  ·exact hb y z
  ·rw [List.mem_singleton.mp z];exact wx
 ·rintro D ys σ' H' hD ⟨d,hl,xs,o,rfl,hx,hb,rfl⟩
  rw [Zbm] at hx
  exact hd D xs H' hD d hl hx hb
def Zzp (w0:Str):List Str:=["","zz","A","a b",Zxe w0 9,"none"]
def Wds (ws:List Str):Prop:=(∃ w0 Zbb,ws=w0 :: Zbb∧1≤w0.length∧w0.length≤5∧∀ c∈w0.cps.toList,c<50000)∧(∀ x∈ws,WOk x)∧ws.length≤30
def Zk2:Sp:=fun vs H Q _=>∃ (p lw:Addr) (ws:List Str),vs=[.ref p,.ref lw]∧(∃ o,H p=some o∧Zn4 o)∧H lw=some (.lst (ws.map V.str))∧Wds ws∧lw≠p∧∀ x H',Drawn p H H'→WOk x→Q (.str x) H'
def Zmi:Sp:=fun vs H Q _=>∃ (p lw:Addr) (ws:List Str) (x:Str),vs=[.ref p,.ref lw,.str x]∧(∃ o,H p=some o∧Zn4 o)∧H lw=some (.lst (ws.map V.str))∧Wds ws∧lw≠p∧WOk x∧∀ (l:Addr) (us:List Str) (H':Hp),Drawn p H H'→H l=none→H' l=some (.lst (us.map V.str))→(∀ u∈us,WOk u)→us.length≤9→Q (.ref l) H'
theorem Ztr:(["k","pot","words"]:List Str).Nodup:=by decide +kernel
section
variable {P:Program} {w:World} {K:W.Frag} {mg:Str→Option Value} {base:Heap}
theorem Z5n:Zak ["pot","words"] ["pot","words"] (Zad Zdo):=⟨rfl,rfl,rfl,by decide +kernel,rfl,by decide +kernel,by decide +kernel⟩
theorem Zvu {f fT:Addr}{fd fdT:FuncData}(F:Def K mg "_law_wrong" Zdo ["pot","words"] f fd) (len:mg "len"=none) (DT:Def K mg "_law_take" Zcw ["pot","many"] fT fdT) (GT:Zaq P w K mg base CX0 1 fT fdT ["pot","many"] Zmf):Zaq P w K mg base CX0 2 f fd ["pot","words"] Zk2:=by
 refine F.fn.ok Z5n (fun vs H Q E h=>?_) (fun cdv A outer s H vs Q E hr h=>?_)
 ·obtain ⟨p,lw,ws,rfl,_⟩:=h
  rfl
 ·obtain ⟨p,lw,ws,rfl,⟨o,hp,ho⟩,hw,⟨⟨w0,Zbb,rfl,l1,l5,cs⟩,wok,wl⟩,lp,q⟩:=h
  have hr1:Zb6 1 _:=hr.mono (by decide)
  refine ⟨_,(pS (Zau (Zap Ze9 (Zaf DT GT hr1 (pC (pv 0) (pC Zae Zaa))) Zae (Zaz _)) (Zab (Zam (Zbd (r:=Zib K) Zb9 (Zav (pC Zev (pC Zev (pC Zev (pC Zev (pC (Zbs Zyn (Zbd (r:=Zl7 K) Za9 (pv 1) Zae (fun _ _=>rfl)) Zae) (pC Zev Zaa))))))) (Zaf DT GT hr1 (pC (pv 0) (pC Zae Zaa))) (fun _ _=>rfl)))) Zah)
   (Zab (Zam (Zbd (r:=Zl7 K) Za9 (pv 1) (Zaf DT GT hr1 (pC (pv 0) (pC (Zaj Zaw (by rfl) len PySem.boot_len (pC (pv 1) Zaa)) Zaa))) (fun _ _=>rfl))))),?_⟩
  refine ⟨_,rfl,p,3,o,rfl,hp,ho,by decide,by decide,fun v1 o1 v10 v11 ho1=>?_⟩
  have d1:Drawn p H (upd H p o1):=Drawn.upd ho1
  have hp1:(upd H p o1) p=some o1:=uS
  generalize upd H p o1=H1 at d1 hp1
  have hw1:=d1.keep _ _ lp hw
  refine ⟨rfl,_,rfl,Zek (fun _=>?_) (fun _=>?_)⟩
  ·refine ⟨_,rfl,lw,_,_,_,rfl,rfl,SqL.of hw1,Zch (j:=0) rfl,w0,9,rfl,rfl,by decide,by decide,l1,by omega,sL (by show 6≤100000;decide),fun t2 ht2=>?_⟩
   have s2:Zag H1 (upd H1 t2 (.tup ((Zzp w0).map V.str))):=Zbw ht2
   have h2:(upd H1 t2 (.tup ((Zzp w0).map V.str))) t2=some (.tup ((Zzp w0).map V.str)):=uS
   have hp2:=s2 _ _ hp1
   refine ⟨_,rfl,p,6,o1,rfl,hp2,ho1,by decide,by decide,fun v3 o3 v30 v31 ho3=>?_⟩
   have d3:Drawn p (upd H1 t2 (.tup ((Zzp w0).map V.str))) (upd (upd H1 t2 (.tup ((Zzp w0).map V.str))) p o3):=Drawn.upd ho3
   obtain ⟨x,hx,hat⟩:=Zgk (ws:=(Zzp w0)) v30 v31
   refine ⟨t2,_,_,_,rfl,rfl,SqT.of (Drawn.tup d3 hp2 ho1 h2),hat,q x _ ((d1.same s2).trans d3) ?_⟩
   by_cases e:x=Zxe w0 9
   ·rw [e]
    refine Zr1 ?_
    rw [Bool.and_eq_true,List.all_eq_true,Zpo]
    refine ⟨decide_eq_true (by omega),fun c hc=>decide_eq_true ?_⟩
    rw [Zpp] at hc
    obtain ⟨l,hl,hcl⟩:=List.mem_flatten.mp hc
    rw [List.eq_of_mem_replicate hl] at hcl
    exact cs c hcl
   ·have:x∈(["","zz","A","a b","none"]:List Str):=by
     unfold Zzp at hx
     simp only [List.mem_cons,List.not_mem_nil,or_false] at hx ⊢
     rcases hx with h | h | h | h | h | h
     ·exact .inl h
     ·exact .inr (.inl h)
     ·exact .inr (.inr (.inl h))
     ·exact .inr (.inr (.inr (.inl h)))
     ·exact absurd h e
     ·exact .inr (.inr (.inr (.inr h)))
    exact Zr2 (l:=["","zz","A","a b","none"]) (by decide +kernel) this
  ·have wp:0<((w0 :: Zbb).map V.str).length:=by rw [List.length_map,List.length_cons];omega
   have wl':((w0 :: Zbb).map V.str).length≤30:=by rw [List.length_map];exact wl
   refine ⟨_,rfl,_,rfl,_,rfl,lw,_,rfl,.inl (SqL.of hw1),p,_,o1,rfl,hp1,ho1,by omega,by omega,fun v3 o3 v30 v31 ho3=>?_⟩
   have d3:Drawn p H1 (upd H1 p o3):=Drawn.upd ho3
   obtain ⟨x,hx,hat⟩:=Zgk v30 v31
   exact ⟨lw,_,_,_,rfl,rfl,SqL.of (d3.keep _ _ lp hw1),hat,q x _ (d1.trans d3) (wok x hx)⟩
abbrev nMu:List Str:=["pot","words","word","ups"]
theorem Z32:Zak nMu ["pot","words","word"] (Zad Zbx):=⟨rfl,rfl,rfl,by decide +kernel,rfl,by decide +kernel,by decide +kernel⟩
theorem Zq1 {f fT fW:Addr}{fd fdT fdW:FuncData}(F:Def K mg "_law_more_ups" Zbx ["pot","words","word"] f fd) (range:mg "range"=none) (DT:Def K mg "_law_take" Zcw ["pot","many"] fT fdT) (GT:Zaq P w K mg base CX0 1 fT fdT ["pot","many"] Zmf) (DW:Def K mg "_law_wrong" Zdo ["pot","words"] fW fdW) (GW:Zaq P w K mg base CX0 2 fW fdW ["pot","words"] Zk2):Zaq P w K mg base CX0 3 f fd ["pot","words","word"] Zmi:=by
 refine F.fn.ok Z32 (fun vs H Q E h=>?_) (fun cdv A outer s H vs Q E hr h=>?_)
 ·obtain ⟨p,lw,ws,x,rfl,_⟩:=h
  rfl
 ·obtain ⟨p,lw,ws,x,rfl,⟨o,hp,ho⟩,hw,wds,lp,wx,q⟩:=h
  have nd:=Z32.nd
  have hr1:Zb6 1 _:=hr.mono (by decide)
  have hr2:Zb6 2 _:=hr.mono (by decide)
  refine' ⟨_,(pS (Zau (Zap Ze9 (Zaf DT GT hr1 (pC (pv 0) (pC Zae Zaa))) Zae (Zaz _)) (Zab (Zam ?e1)) Zah)
   (pS ?e2
   (pS (Zau (Zap Ze9 (Zaf DT GT hr1 (pC (pv 0) (pC Zae Zaa))) Zae (Zaz _)) (Zab (Za3 (Zic PySem.F.plainAttrs_list PySem.F.slot_list_append PySem.F.type_list_append Zdu (pv 3) (pC (pv 2) Zaa)))) Zah)
   (Zab (Zam (pv 3)))))),?_⟩
  case e1=>exact (Zb3 ["k"] ["pot","words"] [0,1] (fun _=>Za5 (osc:=Zad Zbx) (on:=nMu) (by decide +kernel) rfl rfl rfl) (Zcf (by rfl) range (pC Zae Zaa)) (fun C s H fp=>Zai (i:=0) Ztr rfl (Or.inl rfl) (Or.inr rfl)) (fun C s H fp=>Zcm) (fun C s H fp=>Zaf DW GW hr2 (pC (pv 1) (pC (pv 2) Zaa))))
  case e2=>exact (Ze7 (k:=3) ["k"] ["pot","words"] [0,1] nd rfl rfl (fun _=>Za5 (osc:=Zad Zbx) (on:=nMu) (by decide +kernel) rfl rfl rfl) (Zcf (by rfl) range (pC (Zaf DT GT hr1 (pC (pv 0) (pC Zae Zaa))) Zaa)) (fun C s H fp=>Zai (i:=0) Ztr rfl (Or.inl rfl) (Or.inr rfl)) (fun C s H fp=>Zcm) (fun C s H fp=>Zaf DW GW hr2 (pC (pv 1) (pC (pv 2) Zaa))))
  refine ⟨_,rfl,p,6,o,rfl,hp,ho,by decide,by decide,fun v1 o1 v10 v11 ho1=>?_⟩
  have d1:Drawn p H (upd H p o1):=Drawn.upd ho1
  have hp1:(upd H p o1) p=some o1:=uS
  generalize upd H p o1=H1 at d1 hp1
  have fr:∀ {H':Hp} {D:Addr},Drawn p H H'→H' D=none→H D=none:=fun {H' D} d hD=>by
   cases e:H D with
   | none=>rfl
   | some u =>
    by_cases z:D=p
    ·obtain ⟨o',h',_⟩:=d.pot
     rw [z,h'] at hD;cases hD
    ·rw [d.keep _ _ z e] at hD;cases hD
  have el:∀ {H0:Hp},Drawn p H H0→∀ (v:V) (H':Hp) (R:VK),Drawn p H0 H'→(∀ x H'',Drawn p H' H''→WOk x→R (.str x) H'')→Zvb Zk2 [] E0 (Zmd (Zx2 1) (Zmd (Zx2 2) Zzw)) (some v :: [some (.ref p),some (.ref lw)]) H' R:=fun {H0} d0 v H' R d' hR =>
   ⟨_,rfl,_,rfl,p,lw,ws,rfl,d'.pot,(d0.trans d').keep _ _ lp hw,wds,lp,hR⟩
  refine ⟨rfl,_,rfl,Zek (fun _=>?_) (fun _=>?_)⟩
  ·refine ⟨9,rfl,by decide,by decide,Zl1 ⟨o1,hp1,ho1⟩ (by decide) rfl (el d1) fun D xs H2 hD d2 hl xl wk=>?_⟩
   exact q D xs H2 (d1.trans d2) (fr d1 hD) hl wk (by rw [xl];decide)
  ·refine ⟨_,rfl,p,4,o1,rfl,hp1,ho1,by decide,by decide,fun v2 o2 v20 v21 ho2=>?_⟩
   have d2:=d1.trans (Drawn.upd (p:=p) (H:=H1) ho2)
   have hp2:(upd H1 p o2) p=some o2:=uS
   generalize upd H1 p o2=H2 at d2 hp2
   obtain ⟨m,rfl⟩:∃ m:Nat,v2=(m:Int):=⟨v2.toNat,by omega⟩
   refine ⟨(m:Int),rfl,by omega,by omega,?_⟩
   rw [Int.toNat_natCast]
   refine Zl1 ⟨o2,hp2,ho2⟩ (by omega) rfl (el d2) fun D xs H3 hD d3 hl xl wk=>?_
   have d03:=d2.trans d3
   obtain ⟨o3,hp3,ho3⟩:=d03.pot
   have Dp:D≠p:=fun z=>by rw [z,hp2] at hD;cases hD
   refine ⟨_,rfl,p,4,o3,rfl,hp3,ho3,by decide,by decide,fun v4 o4 v40 v41 ho4=>?_⟩
   have d34:Drawn p H3 (upd H3 p o4):=Drawn.upd ho4
   have hl4:=d34.keep _ _ Dp hl
   generalize upd H3 p o4=H4 at d34 hl4
   have d04:=d03.trans d34
   refine ⟨rfl,_,rfl,Zek (fun _=>?_) (fun _=>?_)⟩
   ·refine ⟨_,rfl,.inl ⟨rfl,_,SqL.of hl4⟩,_,rfl,D,_,_,rfl,rfl,hl4,Za7 (by rw [List.length_map];omega),?_⟩
    refine ⟨_,rfl,q D (xs++[x]) _ (d04.sub (o':=.lst []) (q:=D) (fun b o hb e=>by rw [Zac hb];exact e) (fr d2 hD) (Ne.symm Dp)) (fr d2 hD) (by rw [uS,List.map_append];rfl) (fun u hu=>?_) (by rw [List.length_append];show _ + 1≤9;omega)⟩
    rcases List.mem_append.mp hu with z | z
    ·exact wk u z
    ·rw [List.mem_singleton.mp z];exact wx
   ·exact ⟨_,rfl,q D xs H4 d04 (fr d2 hD) hl4 wk (by omega)⟩
end
end K54
namespace K54
open PySem L2 Md
def Zu2 (m:Nat):List Str:=(List.range m).map Zbp
theorem Zlt (m:Nat):(Zu2 m).length=m:=by unfold Zu2;rw [List.length_map,List.length_range]
theorem Zy3 {m i:Nat}(h:i<m):(Zu2 m)[i]?=some (Zbp i):=by unfold Zu2;rw [List.getElem?_map,List.getElem?_range h];rfl
theorem Zy2 (m:Nat):(Zu2 m).Nodup:=List.pairwise_map.mpr (List.nodup_range.imp fun h z=>h (Zng z))
theorem Zmp {k:Nat}(h:k<26):k<26 ^ 8:=Nat.lt_of_lt_of_le h (by decide)
theorem Znk {m:Nat}(hm:m≤26):∀ x∈Zu2 m,Za2 x=true:=fun x hx=>by
 obtain ⟨k,hk,rfl⟩:=List.mem_map.mp hx
 have:=List.mem_range.mp hk
 exact Zls (Zmp (by omega))
theorem Zwi {m:Nat} (h1:1≤m) (hm:m≤26):Wds (Zu2 m):=by
 refine ⟨?_,fun x hx=>Zu6 (Znk hm x hx),by rw [Zlt];omega⟩
 obtain ⟨k,rfl⟩:∃ k,m=k + 1:=⟨m - 1,by omega⟩
 have e0:(Zbp 0).cps.toList=[97]:=by rw [Zd9,Zcx];rfl
 refine ⟨Zbp 0,((List.range k).map Nat.succ).map Zbp,?_,?_,?_,fun c hc=>?_⟩
 ·unfold Zu2;rw [List.range_succ_eq_map];rfl
 ·rw [← Zfb,e0];decide
 ·rw [← Zfb,e0];decide
 ·rw [e0] at hc
  rw [List.mem_singleton.mp hc];decide
def Zoc (ws:List Str):List (Str×List Str):=match ws with
 | []=>[]
 | w0 :: r=>(w0,[]):: r.map fun w=>(w,[w0])
theorem Zgp:∀ ws:List Str,(Zoc ws).map (·.1)=ws
 | []=>rfl
 | w0 :: r=>by
  show w0 :: ((r.map fun w=>(w,[w0])).map (·.1))=w0 :: r
  rw [List.map_map]
  congr 1
  exact List.map_id' r
theorem Zub {rows:List (Str×List Str)}{ws:List Str}(e:rows.map (·.1)=ws) (h1:1≤ws.length) (h24:ws.length≤24) (hw:∀ x∈ws,Za2 x=true) (nd:ws.Nodup) (hu:∀ r∈rows,r.2.length≤8∧r.2.Nodup∧∀ u∈r.2,u∈ws) (rk:Str→Nat) (hr:∀ r∈rows,∀ u∈r.2,rk u<rk r.1):Zb0 rows:=by
 have el:rows.length=ws.length:=by rw [← e,List.length_map]
 exact ⟨by omega,by omega,fun r h=>hw _ (by rw [← e];exact List.mem_map.mpr ⟨r,h,rfl⟩),by rw [e];exact nd,fun r h=>(hu r h).1,fun r h u hu'=>by rw [e];exact (hu r h).2.2 u hu',fun r h=>(hu r h).2.1,⟨rk,hr⟩⟩
theorem Zha {w0:Str}{Zbb:List Str}{r:Str×List Str}(h:r∈Zoc (w0 :: Zbb)):r=(w0,[])∨(r.1∈Zbb∧r.2=[w0]):=by
 rcases List.mem_cons.mp h with z | z
 ·exact .inl z
 ·obtain ⟨w,hw,rfl⟩:=List.mem_map.mp z
  exact .inr ⟨hw,rfl⟩
theorem Z1n {ws:List Str} (h1:1≤ws.length) (h24:ws.length≤24) (hw:∀ x∈ws,Za2 x=true) (nd:ws.Nodup):Zb0 (Zoc ws):=by
 match ws,h1,h24,hw,nd with
 | w0 :: Zbb,h1,h24,hw,nd =>
  have hn:=(List.nodup_cons.mp nd).1
  refine Zub (Zgp _) h1 h24 hw nd (fun r h=>?_) (fun z=>if z=w0 then 0 else 1) (fun r h u hu=>?_)
  ·rcases Zha h with rfl | ⟨_,e⟩
   ·exact ⟨Nat.zero_le _,.nil,(fun _ z=>nomatch z)⟩
   ·rw [e]
    exact ⟨by show 1≤8;decide,by simp,fun u hu=>by rw [List.mem_singleton.mp hu];exact List.mem_cons_self⟩
  ·rcases Zha h with rfl | ⟨hr,e⟩
   ·cases hu
   ·rw [e] at hu
    rw [List.mem_singleton.mp hu]
    show (if w0=w0 then 0 else 1)<(if r.1=w0 then 0 else 1)
    rw [if_pos rfl,if_neg (fun z=>hn (by rw [← z];exact hr))]
    decide
def Zsx (ws:List Str) (wl:Str):List (Str×List Str):=(Zoc ws).set (ws.length - 1) (wl,(ws.drop 1).take 8)
theorem Zi1 {ws:List Str}{wl:Str}(hl:ws[ws.length - 1]?=some wl):(Zsx ws wl).map (·.1)=ws:=by
 unfold Zsx
 rw [List.map_set,Zgp]
 refine List.ext_getElem? fun i=>?_
 rw [List.getElem?_set]
 split
 ·rename_i z
  subst z
  rw [hl,if_pos (List.getElem?_eq_some_iff.mp hl).1]
 ·rfl
theorem Z1m {ws:List Str}{wl:Str}(hl:ws[ws.length - 1]?=some wl) (h9:9<ws.length) (h24:ws.length≤24) (hw:∀ x∈ws,Za2 x=true) (nd:ws.Nodup):Zb0 (Zsx ws wl):=by
 have e:=Zi1 hl
 match ws,hl,h9,h24,hw,nd,e with
 | w0 :: Zbb,hl,h9,h24,hw,nd,e =>
  have hn:=(List.nodup_cons.mp nd).1
  have ndr:=(List.nodup_cons.mp nd).2
  have lr:Zbb.length=(w0 :: Zbb).length - 1:=rfl
  have hl':Zbb[Zbb.length - 1]?=some wl:=by
   have:(w0 :: Zbb)[Zbb.length]?=some wl:=hl
   rw [show Zbb.length=(Zbb.length - 1) + 1 from by have:(w0 :: Zbb).length=Zbb.length + 1:=rfl;omega] at this
   exact this
  have nl:wl∉Zbb.take 8:=fun z=>by
   obtain ⟨j,hj⟩:=List.getElem?_of_mem z
   rw [List.getElem?_take] at hj
   split at hj
   ·rename_i lt
    have jl:=(List.getElem?_eq_some_iff.mp hj).1
    have:=(List.getElem?_inj jl ndr).mp (hj.trans hl'.symm)
    have:(w0 :: Zbb).length=Zbb.length + 1:=rfl
    omega
   ·cases hj
  have wlr:wl∈Zbb:=List.mem_of_getElem? hl'
  have row:∀ r∈Zsx (w0 :: Zbb) wl,r=(wl,Zbb.take 8)∨r∈Zoc (w0 :: Zbb):=fun r hr=>by
   rcases List.mem_or_eq_of_mem_set hr with z | z
   ·exact .inr z
   ·exact .inl z
  refine Zub e (by show 1≤Zbb.length + 1;omega) h24 hw nd (fun r h=>?_) (fun z=>if z=w0 then 0 else if z=wl then 2 else 1) (fun r h u hu=>?_)
  ·rcases row r h with rfl | h
   ·exact ⟨by show (Zbb.take 8).length≤8;rw [List.length_take];omega,ndr.sublist (List.take_sublist _ _),fun u hu=>List.mem_cons_of_mem _ (List.mem_of_mem_take hu)⟩
   ·rcases Zha h with rfl | ⟨_,e⟩
    ·exact ⟨Nat.zero_le _,.nil,(fun _ z=>nomatch z)⟩
    ·rw [e]
     exact ⟨by show 1≤8;decide,by simp,fun u hu=>by rw [List.mem_singleton.mp hu];exact List.mem_cons_self⟩
  ·rcases row r h with rfl | h
   ·have u1:u≠w0:=fun z=>hn (by rw [← z];exact List.mem_of_mem_take hu)
    have u2:u≠wl:=fun z=>nl (by rw [← z];exact hu)
    show (if u=w0 then 0 else if u=wl then 2 else 1)<(if wl=w0 then 0 else if wl=wl then 2 else 1)
    rw [if_neg u1,if_neg u2,if_neg (fun z=>hn (by rw [← z];exact wlr)),if_pos rfl]
    decide
   ·rcases Zha h with rfl | ⟨hr,e⟩
    ·cases hu
    ·rw [e] at hu
     rw [List.mem_singleton.mp hu]
     show (if w0=w0 then 0 else if w0=wl then 2 else 1)<(if r.1=w0 then 0 else if r.1=wl then 2 else 1)
     rw [if_pos rfl,if_neg (fun z=>hn (by rw [← z];exact hr))]
     split <;> decide
end K54
namespace K54
open PySem L2 Md
theorem Znf {cs:List (List Str)}{ws:List Str} (h1:cs.Nodup) (h2:ws.Nodup):(Zdb cs ws).Nodup:=by
 unfold Zdb
 refine List.pairwise_flatMap.mpr ⟨fun c _=>?_,?_⟩
 ·refine List.pairwise_map.mpr (h2.imp fun ne z=>ne ?_)
  have:=List.append_cancel_left z
  injection this
 ·refine h1.imp fun {c d} ne x hx y hy z=>ne ?_
  obtain ⟨x1,_,rfl⟩:=List.mem_map.mp hx
  obtain ⟨y1,_,rfl⟩:=List.mem_map.mp hy
  have:=congrArg List.dropLast z
  rwa [List.dropLast_concat,List.dropLast_concat] at this
theorem Zn1 {rows:List (Str×List Str)}(g:(wds rows).Nodup):∀ n,(Zcl rows n).Nodup
 | 0=>by show ([[]]:List (List Str)).Nodup;simp
 | n + 1=>by
  unfold Zcl
  rw [List.replicate_succ',Zdh]
  exact Znf (Zn1 g n) g
def Zrc:List Int:=[3,8,9,22,23,24,24,23,2]
def Zkf:List Int:=[2,2,2,2,2,2,1,2,4]
theorem Zx6 {v:Int} (h0:0≤v) (h1:v<9):∃ m n:Nat,atI (Zrc.map V.int) v=some (.int m)∧atI (Zkf.map V.int) v=some (.int n)∧2≤m∧m≤24∧1≤n∧n≤4∧m ^ n≤600:=by
 obtain ⟨k,rfl⟩:∃ k:Nat,v=(k:Int):=⟨v.toNat,by omega⟩
 match k,h1 with
 | 0,_=>exact ⟨3,2,rfl,rfl,by decide,by decide,by decide,by decide,by decide⟩
 | 1,_=>exact ⟨8,2,rfl,rfl,by decide,by decide,by decide,by decide,by decide⟩
 | 2,_=>exact ⟨9,2,rfl,rfl,by decide,by decide,by decide,by decide,by decide⟩
 | 3,_=>exact ⟨22,2,rfl,rfl,by decide,by decide,by decide,by decide,by decide⟩
 | 4,_=>exact ⟨23,2,rfl,rfl,by decide,by decide,by decide,by decide,by decide⟩
 | 5,_=>exact ⟨24,2,rfl,rfl,by decide,by decide,by decide,by decide,by decide⟩
 | 6,_=>exact ⟨24,1,rfl,rfl,by decide,by decide,by decide,by decide,by decide⟩
 | 7,_=>exact ⟨23,2,rfl,rfl,by decide,by decide,by decide,by decide,by decide⟩
 | 8,_=>exact ⟨2,4,rfl,rfl,by decide,by decide,by decide,by decide,by decide⟩
 | k + 9,h=>omega
theorem Paired.setD {α β:Type}{F:α→β→Prop}{x:α}{y:β}:∀ {l:List α}{m:List β}(k:Nat),Paired F l m→F x y→Paired F (l.set k x) (m.set k y)
 | _,_,_,.nil,_=>.nil
 | _,_,0,.cons _ t,h=>.cons h t
 | _,_,k + 1,.cons r t,h=>.cons r (Paired.setD k t h)
theorem Zzb {n j:Nat}(h:j<n):ixN n (j:Int)=some j:=by
 unfold ixN
 rw [if_pos (Int.natCast_nonneg j),if_pos (Int.ofNat_lt.mpr h),Int.toNat_natCast]
def Z25:V→V
 | .int i=>.str (Zbp i.toNat)
 | _=>.non
theorem Zy4 (m:Nat):((Zft 0 m).filter fun _=>true).map Z25=(Zu2 m).map V.str:=by
 rw [List.filter_eq_self.mpr (fun _ _=>rfl)]
 refine List.ext_getElem? fun i=>?_
 rw [List.getElem?_map,List.getElem?_map]
 by_cases h:i<m
 ·obtain ⟨x,e⟩:∃ x,(Zft 0 m)[i]?=some x:=⟨_,List.getElem?_eq_getElem (by rw [Zbm];exact h)⟩
  obtain ⟨_,e2⟩:=Zc0 e
  rw [e,e2,Zy3 h]
  show some (V.str (Zbp ((0:Int) + (i:Int)).toNat))=some (V.str (Zbp i))
  rw [Int.zero_add,Int.toNat_natCast]
 ·rw [List.getElem?_eq_none (by rw [Zbm];omega),List.getElem?_eq_none (by rw [Zlt];omega)]
  rfl
def Zsq:Sp:=fun vs H Q _=>∃ p:Addr,vs=[.ref p]∧(∃ o,H p=some o∧Zn4 o)∧∀ (t lw lr ld:Addr) (rows:List (Str×List Str)) (n:Nat) (ds:List (List Str)) (us:List V) (H':Hp),Drawn p H H'→H' t=some (.tup [.ref lw,.ref lr,.int (n:Int),.ref ld])→H' lw=some (.lst ((rows.map (·.1)).map V.str))→lw≠p→Wds (rows.map (·.1))→Zdw H' lr rows→lr≠p→Zb0 rows→1≤n→n≤4→H' ld=some (.lst us)→ld≠p→Zas H' ds us→Zao rows n ds→Q (.ref t) H'
structure BdI (p lw lr ld:Addr) (H H':Hp) (rows:List (Str×List Str)) (vs:List V) (n:Nat) (ds:List (List Str)) (us:List V):Prop where
 d:Drawn p H H'
 hw:H' lw=some (.lst ((rows.map (·.1)).map V.str))
 lwp:lw≠p
 hr:H' lr=some (.lst vs)
 lrp:lr≠p
 pr:Paired (Zrt H') rows vs
 hd:H' ld=some (.lst us)
 dd:Zas H' ds us
 gd:Zao rows n ds
 ldH:H ld=none
 ldp:ld≠p
 ldw:ld≠lw
 ldr:ld≠lr
theorem BdI.draw {p lw lr ld:Addr}{H H' H2:Hp}{rows:List (Str×List Str)}{vs:List V}{n:Nat}{ds:List (List Str)}{us:List V}(b:BdI p lw lr ld H H' rows vs n ds us) (k:Drawn p H' H2):BdI p lw lr ld H H2 rows vs n ds us:=by
 obtain ⟨o,ho,po⟩:=b.d.pot
 have kt:∀ {t:Addr} {xs:List V},H' t=some (.tup xs)→H2 t=some (.tup xs):=fun {t xs} e=>Drawn.tup k ho po e
 exact ⟨b.d.trans k,k.keep _ _ b.lwp b.hw,b.lwp,k.keep _ _ b.lrp b.hr,b.lrp,Paired.mapP b.pr fun r v ⟨t,u,e,z1,z2⟩=>⟨t,u,e,kt z1,kt z2⟩,k.keep _ _ b.ldp b.hd,Paired.mapP b.dd fun _ _ ⟨t,e,x⟩=>⟨t,e,kt x⟩,b.gd,b.ldH,b.ldp,b.ldw,b.ldr⟩
theorem BdI.put {p lw lr ld t:Addr}{H H':Hp}{rows:List (Str×List Str)}{vs:List V}{n:Nat}{ds:List (List Str)}{us:List V}{bs:List Str}(b:BdI p lw lr ld H H' rows vs n ds us) (ht:H' t=some (.tup (bs.map V.str))) (gc:Zba rows n bs) (hn:bs∉ds) (hl:ds.length<64):BdI p lw lr ld H (upd H' ld (.lst (us++[.ref t]))) rows vs n (ds++[bs]) (us++[.ref t]):=by
 have kt:∀ {u:Addr} {xs:List V},H' u=some (.tup xs)→(upd H' ld (.lst (us++[.ref t]))) u=some (.tup xs):=fun {u xs} e=>by
  rw [Zac (fun z=>by rw [z,b.hd] at e;cases e)];exact e
 exact ⟨b.d.sub (o':=.lst []) (q:=ld) (fun c o hc e=>by rw [Zac hc];exact e) b.ldH (Ne.symm b.ldp),by rw [Zac (Ne.symm b.ldw)];exact b.hw,b.lwp,by rw [Zac (Ne.symm b.ldr)];exact b.hr,b.lrp,Paired.mapP b.pr fun r v ⟨t,u,e,z1,z2⟩=>⟨t,u,e,kt z1,kt z2⟩,uS,Zas.append (Paired.mapP b.dd fun _ _ ⟨t,e,x⟩=>⟨t,e,kt x⟩) (.cons ⟨t,rfl,kt ht⟩ .nil),b.gd.snoc gc hn hl,b.ldH,b.ldp,b.ldw,b.ldr⟩
theorem Zas.take {H:Hp}:∀ {ds:List (List Str)}{us:List V}(k:Nat),Zas H ds us→Zas H (ds.take k) (us.take k)
 | _,_,0,_=>.nil
 | _,_,_ + 1,.nil=>.nil
 | _,_,k + 1,.cons r t=>.cons r (Zas.take k t)
theorem Z22:(["k"]:List Str).Nodup:=by decide +kernel
theorem Z2x:(["word","words"]:List Str).Nodup:=by decide +kernel
theorem Z07:(["place","words","pot","many"]:List Str).Nodup:=by decide +kernel
structure Z3j (mg:Str→Option Value):Prop where
 len:mg "len"=none
 range:mg "range"=none
 tuple:mg "tuple"=none
section
variable {P:Program} {w:World} {K:W.Frag} {mg:Str→Option Value} {base:Heap}
abbrev nBo:List Str:=["pot","size","many","places","words","rows","deeds","k","deed"]
theorem Z4e:Zak nBo ["pot"] (Zad Zcd):=⟨rfl,rfl,rfl,by decide +kernel,rfl,by decide +kernel,by decide +kernel⟩
theorem Zv5 {f fT fL fC:Addr}{fd fdT fdL fdC:FuncData}(F:Def K mg "_law_board" Zcd ["pot"] f fd) (T:Z3j mg) (DT:Def K mg "_law_take" Zcw ["pot","many"] fT fdT) (GT:Zaq P w K mg base CX0 1 fT fdT ["pot","many"] Zmf) (DL:Def K mg "_law_letters" Zdk ["number"] fL fdL) (GL:Zaq P w K mg base CX0 1 fL fdL ["number"] Zmj) (DC:Def K mg "_law_calls" Zdp ["words","places"] fC fdC) (GC:Zaq P w K mg base CX0 1 fC fdC ["words","places"] Zk3):Zaq P w K mg base CX0 2 f fd ["pot"] Zsq:=by
 refine F.fn.ok Z4e (fun vs H Q E h=>?_) (fun cdv A outer s H vs Q E hr h=>?_)
 ·obtain ⟨p,rfl,_⟩:=h
  rfl
 ·obtain ⟨p,rfl,⟨o,hp,ho⟩,q⟩:=h
  have nd:=Z4e.nd
  have hr1:Zb6 1 _:=hr.mono (by decide)
  refine' ⟨_,pS (Zal (i:=1) nd rfl (Or.inl rfl) (Zaf DT GT hr1 (pC (pv 0) (pC Zae Zaa))))
   (@pS _ _ _ _ _ (@Zpr _ 2 _ _ _ _ _ _ _ Zrc (by decide +kernel) (by decide) nd rfl (Or.inr rfl) (pv 1) (fun _ _=>rfl) (Or.inl rfl))
   (@pS _ _ _ _ _ (@Zpr _ 3 _ _ _ _ _ _ _ Zkf (by decide +kernel) (by decide) nd rfl (Or.inl rfl) (pv 1) (fun _ _=>rfl) (Or.inl rfl))
   (pS (Zal (i:=4) nd rfl (Or.inr rfl) ?e1)
   (pS (Zal (i:=5) nd rfl (Or.inl rfl) (Zbs Ztc (Zd0 (pC (Zav (pC (Zbd (r:=Zl7 K) Za9 (pv 4) Zae (fun _ _=>rfl)) (pC (Zav Zaa) Zaa))) Zaa)) ?e2))
   (Zi2 (Zau (Zap Zi9 (pv 2) Zae (Zaz _)) (Zab (Zps (Zav (pC (Zbd (r:=Zl7 K) Za9 (pv 4) (Zbs Zxi (pv 2) Zae) (fun _ _=>rfl)) (pC (Zbo Zck (by rfl) T.tuple PyProof.Rows.boot_tuple (pC (Zhf (r:=Zyd K) Zi0 (pv 4) (Zht Zae) (Zht Zae)) Zaa)) Zaa))) (Zs6 (pv 5) (Zbs Zxi (pv 2) Zae) Zld))) Zah)
   (pS (Zal (i:=6) nd rfl (Or.inl rfl) (Zd0 Zaa))
   (Zi2 (Zau (PW.pt (Zof (Zap Ze9 (pv 1) Zae (Zaz _)) (Zof (Zap Ze9 (pv 1) Zae (Zaz _)) (Zkd (Zap Ze9 (pv 1) Zae (Zaz _)))))) (Zab (Zal (i:=6) nd rfl (Or.inl rfl) (Zhf (r:=Zyd K) Zi0 (Zaf DC GC hr1 (pC (pv 4) (pC (pv 3) Zaa))) Zlh (Zht Zae)))) Zah)
   (pS (Zbn PassesOwn.never rfl (Zcf (by rfl) T.range (pC (Zaf DT GT hr1 (pC (pv 0) (pC Zae Zaa))) Zaa)) (Zai (i:=7) nd rfl (Or.inl rfl))
    (pS (Zal (i:=8) nd rfl (Or.inl rfl) (Zbo Zck (by rfl) T.tuple PyProof.Rows.boot_tuple (pC ?e3 Zaa)))
   (Zab (Zau (PW.pt (Z0l (Zap (Zs9 (Z13 hr)) (pv 8) (pv 6) (by with_unfolding_all rfl)) (Zyh (Zap Zta (Zaj Zaw (by rfl) T.len PySem.boot_len (pC (pv 6) Zaa)) Zae (Zaz _))))) (Zab (Za3 (Zic PySem.F.plainAttrs_list PySem.F.slot_list_append PySem.F.type_list_append Zdu (pv 6) (pC (pv 8) Zaa)))) Zah))))
   (Zab (Zam (Zav (pC (pv 4) (pC (pv 5) (pC (pv 3) (pC (pv 6) Zaa))))))))))))))),?_⟩
  case e1=>exact (Zb3 ["k"] [] [] (fun _=>Za5 (osc:=Zad Zcd) (on:=nBo) (by decide +kernel) rfl rfl rfl) (Zcf (by rfl) T.range (pC (pv 2) Zaa)) (fun C s H fp=>Zai (i:=0) Z22 rfl (Or.inl rfl) (Or.inr rfl)) (fun C s H fp=>Zcm) (fun C s H fp=>Zaf DL GL hr1 (pC (pv 0) Zaa)))
  case e2=>exact (Zb3 ["word"] ["words"] [4] (fun _=>Za5 (osc:=Zad Zcd) (on:=nBo) (by decide +kernel) rfl rfl rfl) (Zb1 (Zhf (r:=Zyd K) Zi0 (pv 4) (Zht Zae) Zlh)) (fun C s H fp=>Zai (i:=0) Z2x rfl (Or.inl rfl) (Or.inr rfl)) (fun C s H fp=>Zcm) (fun C s H fp=>Zav (pC (pv 0) (pC (Zav (pC (Zbd (r:=Zl7 K) Za9 (pv 1) Zae (fun _ _=>rfl)) Zaa)) Zaa))))
  case e3=>exact (Zb3 ["place"] ["words","pot","many"] [4,0,2] (fun _=>Za5 (osc:=Zad Zcd) (on:=nBo) (by decide +kernel) rfl rfl rfl) (Zcf (by rfl) T.range (pC (pv 3) Zaa)) (fun C s H fp=>Zai (i:=0) Z07 rfl (Or.inl rfl) (Or.inr rfl)) (fun C s H fp=>Zcm) (fun C s H fp=>Zbd (r:=Zl7 K) Za9 (pv 1) (Zaf DT GT hr1 (pC (pv 2) (pC (pv 3) Zaa))) (fun _ _=>rfl)))
  refine ⟨_,rfl,p,9,o,rfl,hp,ho,by decide,by decide,fun sz o1 sz0 sz1 ho1=>?_⟩
  have d1:Drawn p H (upd H p o1):=Drawn.upd ho1
  have hp1:(upd H p o1) p=some o1:=uS
  generalize upd H p o1=H1 at d1 hp1
  obtain ⟨m,n,am,an,m2,m24,n1,n4,mn⟩:=Zx6 sz0 sz1
  intro ta hta
  have s2:Zag H1 (upd H1 ta (.tup (Zrc.map V.int))):=Zbw hta
  have h2:(upd H1 ta (.tup (Zrc.map V.int))) ta=some (.tup (Zrc.map V.int)):=uS
  generalize upd H1 ta (.tup (Zrc.map V.int))=H2 at s2 h2
  refine ⟨_,rfl,ta,_,_,_,rfl,rfl,SqT.of h2,am,?_⟩
  intro tb htb
  have s3:Zag H2 (upd H2 tb (.tup (Zkf.map V.int))):=Zbw htb
  have h3:(upd H2 tb (.tup (Zkf.map V.int))) tb=some (.tup (Zkf.map V.int)):=uS
  generalize upd H2 tb (.tup (Zkf.map V.int))=H3 at s3 h3
  refine ⟨_,rfl,tb,_,_,_,rfl,rfl,SqT.of h3,an,?_⟩
  have d3:=d1.same (s2.trans s3)
  have hp3:=(s2.trans s3) _ _ hp1
  clear d1 hp1 s2 h2 s3 h3 am an hta htb
  refine ⟨_,rfl,(m:Int),rfl,by omega,by omega,?_⟩
  rw [Int.toNat_natCast]
  refine Ze0 Zcz (by rw [Zbm];exact sL (by omega)) (fun _=>true) Z25 (fun _ _=>trivial) ?_ ?_ ?_
  ·intro v H' R s' _ hR
   exact hR H' (Zag.refl _)
  ·intro v H' R s' hv _ hR
   obtain ⟨i,hi⟩:=List.mem_iff_getElem?.mp hv
   obtain ⟨hi2,rfl⟩:=Zc0 hi
   refine ⟨_,rfl,i,by rw [Int.zero_add];rfl,Zmp (by omega),?_⟩
   have:=hR H' (Zag.refl _)
   rw [show Z25 (V.int (0 + (i:Int)))=V.str (Zbp i) from by show V.str (Zbp ((0:Int) + (i:Int)).toNat)=_;rw [Int.zero_add,Int.toNat_natCast]] at this
   exact this
  intro lw H4 hlw s4 hw
  rw [Zy4] at hw
  have d4:=d3.same s4
  have hp4:=s4 _ _ hp3
  have fr:∀ {H':Hp} {D:Addr},Drawn p H H'→H' D=none→H D=none∧D≠p:=fun {H' D} d hD=>by
   have z:D≠p:=fun z=>by obtain ⟨o',h',_⟩:=d.pot;rw [z,h'] at hD;cases hD
   refine ⟨?_,z⟩
   cases e:H D with
   | none=>rfl
   | some u=>rw [d.keep _ _ z e] at hD;cases hD
  obtain ⟨lwH,lwp⟩:=fr d3 hlw
  clear d3 hp3 s4
  have wl:=Zlt m
  have wnd:=Zy2 m
  have www:=Znk (m:=m) (by omega)
  have wwd:=Zwi (m:=m) (by omega) (by omega)
  generalize Zu2 m=ws at hw wl wnd www wwd
  obtain ⟨w0,Zbb,rfl⟩:∃ w0 Zbb,ws=w0 :: Zbb:=by
   cases ws with
   | nil=>simp at wl;omega
   | cons a b=>exact ⟨a,b,rfl⟩
  have rl:Zbb.length + 1=m:=wl
  refine ⟨_,rfl,lw,_,_,_,rfl,rfl,SqL.of hw,Zch (j:=0) rfl,Nat.zero_le _,fun te hte=>⟨sL (by show 2≤100000;decide),fun t0 ht0=>⟨sL (by show 1≤100000;decide),fun l0 hl0=>?_⟩⟩⟩
  have s5:Zag H4 (upd H4 te (.tup [])):=Zbw hte
  have h5:(upd H4 te (.tup [])) te=some (.tup []):=uS
  generalize upd H4 te (.tup [])=H5 at s5 h5 ht0 hl0
  have s6:Zag H5 (upd H5 t0 (.tup [.str w0,.ref te])):=Zbw ht0
  have h6:(upd H5 t0 (.tup [.str w0,.ref te])) t0=some (.tup [.str w0,.ref te]):=uS
  generalize upd H5 t0 (.tup [.str w0,.ref te])=H6 at s6 h6 hl0
  have s7:Zag H6 (upd H6 l0 (.lst [.ref t0])):=Zbw hl0
  have h7:(upd H6 l0 (.lst [.ref t0])) l0=some (.lst [.ref t0]):=uS
  generalize upd H6 l0 (.lst [.ref t0])=H7 at s7 h7
  have s47:=s5.trans (s6.trans s7)
  refine ⟨_,rfl,_,rfl,lw,_,rfl,SqL.of (s47 _ _ hw),fun ls hls=>?_⟩
  dsimp only [Zir] at *
  rw [show Zqk ((w0 :: Zbb).map V.str) (some 1) none=Zbb.map V.str from Zqj ((w0 :: Zbb).map V.str) 1 (by simp)]
  have s8:Zag H7 (upd H7 ls (.lst (Zbb.map V.str))):=Zbw hls
  have h8:(upd H7 ls (.lst (Zbb.map V.str))) ls=some (.lst (Zbb.map V.str)):=uS
  generalize upd H7 ls (.lst (Zbb.map V.str))=H8 at s8 h8
  have s48:=s47.trans s8
  have hw8:=s48 _ _ hw
  refine ⟨ls,rfl,⟨_,SqL.of h8⟩,Zfk (Za8 (xs:=Zbb.map V.str)) (sL (by rw [List.length_map];omega)) (fun _=>true) (fun D x v H'=>∃ y t u,x=.str y∧v=.ref t∧t≠D∧u≠D∧H' t=some (.tup [.str y,.ref u])∧H' u=some (.tup [.str w0])) (fun D x v Ha Hb k h=>?_) (fun H' s'=>s'.seq (SqL.of h8)) ?_ ?_ ?_⟩
  ·obtain ⟨y,t,u,e0,e,nt,nu,h1,h2⟩:=h
   exact ⟨y,t,u,e0,e,nt,nu,k _ _ nt h1,k _ _ nu h2⟩
  ·intro x H3 R _ _ hR'
   exact hR' H3 (Zag.refl _)
  ·intro D x H3 R s3 hDx hDn hx _ hR'
   obtain ⟨y,hy,rfl⟩:=List.mem_map.mp hx
   obtain ⟨ys',hys'⟩:=hDx
   refine ⟨_,rfl,_,rfl,lw,_,_,_,rfl,rfl,SqL.of (s3 _ _ hw8),Zch (j:=0) rfl,sL (by show 1≤100000;decide),fun tu htu=>?_⟩
   have s4:Zag H3 (upd H3 tu (.tup [.str w0])):=Zbw htu
   have nu:tu≠D:=Ne.symm (nNo hys' htu)
   refine ⟨sL (by show 2≤100000;decide),fun tt htt=>?_⟩
   have nt:tt≠D:=Ne.symm (nNo (s4 _ _ hys') htt)
   exact hR' _ _ (s4.trans (Zbw htt)) ⟨y,tt,tu,rfl,rfl,nt,nu,uS,(Zbw htt) _ _ uS⟩
  intro D H9 vs9 hD s9 hl9 hp9
  rw [List.filter_eq_self.mpr (fun _ _=>rfl)] at hp9
  have pr9:Paired (Zrt H9) (Zbb.map fun w=>(w,[w0])) vs9:=by
   have:∀ {l:List Str} {vs:List V},Paired (fun x v=>∃ y t u,x=V.str y∧v=.ref t∧t≠D∧u≠D∧H9 t=some (.tup [.str y,.ref u])∧H9 u=some (.tup [.str w0])) (l.map V.str) vs→Paired (Zrt H9) (l.map fun w=>(w,[w0])) vs:=by
    intro l
    induction l with
    | nil=>intro vs h;cases h;exact .nil
    | cons a r ih =>
     intro vs h
     cases h with
     | cons h t =>
      obtain ⟨y,t',u,e0,e,_,_,h1,h2⟩:=h
      injection e0 with e0
      subst e0
      exact .cons ⟨t',u,e,h1,h2⟩ (ih t)
   exact this hp9
  have vl9:Zbb.length=vs9.length:=by have:=Paired.length pr9;rwa [List.length_map] at this
  have s49:=s48.trans s9
  refine ⟨l0,D,_,_,rfl,rfl,(s8.trans s9) _ _ h7,hl9,sL (by show 1 + _≤100000;omega),fun lr hlr=>?_⟩
  have s10:Zag H9 (upd H9 lr (.lst ([.ref t0]++vs9))):=Zbw hlr
  have h10:(upd H9 lr (.lst ([.ref t0]++vs9))) lr=some (.lst (.ref t0 :: vs9)):=uS
  generalize upd H9 lr (.lst ([.ref t0]++vs9))=H10 at s10 h10
  have s410:=s49.trans s10
  have d10:=d4.same s410
  have hp10:=s410 _ _ hp4
  have hw10:=s410 _ _ hw
  obtain ⟨lrH,lrp⟩:=fr (d4.same s49) hlr
  have pr10:Paired (Zrt H10) (Zoc (w0 :: Zbb)) (.ref t0 :: vs9):=.cons ⟨t0,te,rfl,(s7.trans (s8.trans (s9.trans s10))) _ _ h6,(s6.trans (s7.trans (s8.trans (s9.trans s10)))) _ _ h5⟩ (Paired.mapP pr9 fun r v ⟨t,u,e,z1,z2⟩=>⟨t,u,e,s10 _ _ z1,s10 _ _ z2⟩)
  have g0:=Z1n (ws:=w0 :: Zbb) (by simp) (by omega) www wnd
  have lwr:lw≠lr:=nNo (s49 _ _ hw) hlr
  clear h5 h6 h7 h8 s5 s6 s7 s8 s9 s47 s48 s49 s10 pr9 hp9 hl9 hD hls hte ht0 hl0 hw8
  refine ⟨fun σ' H'=>∃ (rows:List (Str×List Str)) (vs:List V),σ'=[some (.ref p),some (.int sz),some (.int (m:Int)),some (.int (n:Int)),some (.ref lw),some (.ref lr),none,none,none]∧Drawn p H H'∧H' lw=some (.lst ((w0 :: Zbb).map V.str))∧H' lr=some (.lst vs)∧Paired (Zrt H') rows vs∧rows.map (·.1)=w0 :: Zbb∧Zb0 rows,?_,?_⟩
  ·refine ⟨_,rfl,_,_,rfl,rfl,_,rfl,Zek (fun h9=>?_) (fun _=>⟨_,_,rfl,d10,hw10,h10,pr10,Zgp _,g0⟩)⟩
   have h9:9<m:=by have:=of_decide_eq_true h9;omega
   have ml:m - 1<(w0 :: Zbb).length:=by omega
   have hwl:(w0 :: Zbb)[m - 1]?=some (w0 :: Zbb)[m - 1]:=List.getElem?_eq_getElem ml
   generalize (w0 :: Zbb)[m - 1]=wl' at hwl
   have em:(m:Int) - 1=((m - 1:Nat):Int):=by omega
   have hwl2:(w0 :: Zbb)[(w0 :: Zbb).length - 1]?=some wl':=by rw [wl];exact hwl
   refine ⟨_,rfl,_,rfl,_,_,rfl,rfl,lw,_,_,_,rfl,rfl,SqL.of hw10,by rw [em];exact Zch (by rw [List.getElem?_map,hwl];rfl),?_⟩
   refine ⟨_,rfl,_,rfl,_,rfl,lw,_,rfl,SqL.of hw10,fun l11 hl11=>?_⟩
   have e19:Zqk ((w0 :: Zbb).map V.str) (some 1) (some 9)=(Zbb.take 8).map V.str:=by
    have hl:((w0 :: Zbb).map V.str).length=m:=by rw [List.length_map];exact wl
    unfold Zqk
    rw [hl,show (some (1:Int))=some ((1:Nat):Int) from rfl,show (some (9:Int))=some ((9:Nat):Int) from rfl,HT.sIx_nat,HT.sIx_nat,Nat.min_eq_left (by omega:1≤m),Nat.min_eq_left (by omega:9≤m)]
    show (Zbb.map V.str).take 8=_
    rw [List.map_take]
   rw [e19]
   have s11:Zag H10 (upd H10 l11 (.lst ((Zbb.take 8).map V.str))):=Zbw hl11
   have h11:(upd H10 l11 (.lst ((Zbb.take 8).map V.str))) l11=some (.lst ((Zbb.take 8).map V.str)):=uS
   generalize upd H10 l11 (.lst ((Zbb.take 8).map V.str))=H11 at s11 h11
   refine ⟨l11,_,rfl,.inl ⟨SqL.of h11,fun tu htu=>⟨sL (by show 2≤100000;decide),fun tt htt=>?_⟩⟩⟩
   have s12:Zag H11 (upd H11 tu (.tup ((Zbb.take 8).map V.str))):=Zbw htu
   have h12:(upd H11 tu (.tup ((Zbb.take 8).map V.str))) tu=some (.tup ((Zbb.take 8).map V.str)):=uS
   generalize upd H11 tu (.tup ((Zbb.take 8).map V.str))=H12 at s12 h12 htt
   have s13:Zag H12 (upd H12 tt (.tup [.str wl',.ref tu])):=Zbw htt
   have h13:(upd H12 tt (.tup [.str wl',.ref tu])) tt=some (.tup [.str wl',.ref tu]):=uS
   generalize upd H12 tt (.tup [.str wl',.ref tu])=H13 at s13 h13
   have s1013:=s11.trans (s12.trans s13)
   have pr13:Paired (Zrt H13) (Zoc (w0 :: Zbb)) (.ref t0 :: vs9):=Paired.mapP pr10 fun r v ⟨t,u,e,z1,z2⟩=>⟨t,u,e,s1013 _ _ z1,s1013 _ _ z2⟩
   have hr13:=s1013 _ _ h10
   have nt:tt≠lr:=fun z=>by rw [z,hr13] at h13;cases h13
   have nu:tu≠lr:=fun z=>by rw [z] at h12;rw [(s11.trans s12) _ _ h10] at h12;cases h12
   have h12':=s13 _ _ h12
   have xl:(V.ref t0 :: vs9).length=m:=by rw [List.length_cons,← vl9];omega
   refine ⟨_,rfl,_,rfl,_,_,rfl,rfl,lr,_,_,m - 1,rfl,rfl,hr13,by rw [xl,em];exact Zzb (by omega),_,_,rfl,?_,?_,uS,?_,Zi1 hwl2,Z1m hwl2 (by rw [wl];exact h9) (by omega) www wnd⟩
   ·exact (d10.same s1013).sub (o':=.lst []) (q:=lr) (fun b o hb e=>by rw [Zac hb];exact e) lrH (Ne.symm lrp)
   ·rw [Zac lwr];exact s1013 _ _ hw10
   ·unfold Zsx
    rw [wl]
    refine Paired.setD (m - 1) ?_ ?_
    ·refine Paired.mapP pr13 fun r v ⟨t,u,e,z1,z2⟩=>⟨t,u,e,?_,?_⟩
     ·rw [Zac (fun z=>by rw [z,hr13] at z1;cases z1)];exact z1
     ·rw [Zac (fun z=>by rw [z,hr13] at z2;cases z2)];exact z2
    ·exact ⟨tt,tu,rfl,by rw [Zac nt];exact h13,by rw [Zac nu];exact h12'⟩
  rintro σ' H5 ⟨rows,vs,rfl,d5,hw5,hr5,pr5,ew,g⟩
  clear d10 hw10 h10 pr10 g0 hp10 s410 d4 hp4 hw
  refine ⟨Nat.zero_le _,fun l0 hl0=>?_⟩
  have s6:Zag H5 (upd H5 l0 (.lst [])):=Zbw hl0
  have h6:(upd H5 l0 (.lst [])) l0=some (.lst []):=uS
  generalize upd H5 l0 (.lst [])=H6 at s6 h6
  obtain ⟨l0H,l0p⟩:=fr d5 hl0
  have n1':l0≠lw:=Ne.symm (nNo hw5 hl0)
  have n2':l0≠lr:=Ne.symm (nNo hr5 hl0)
  have d6:=d5.same s6
  have hw6:=s6 _ _ hw5
  have hr6:=s6 _ _ hr5
  have pr6:Paired (Zrt H6) rows vs:=Paired.mapP pr5 fun r v ⟨t,u,e,z1,z2⟩=>⟨t,u,e,s6 _ _ z1,s6 _ _ z2⟩
  refine ⟨fun σ' H'=>∃ (ld:Addr) (ds:List (List Str)) (us:List V),σ'=[some (.ref p),some (.int sz),some (.int (m:Int)),some (.int (n:Int)),some (.ref lw),some (.ref lr),some (.ref ld),none,none]∧BdI p lw lr ld H H' rows vs n ds us,?_,?_⟩
  ·have go:∀ {D:Zrx},(∀ (ld:Addr) (us:List V) (H':Hp),BdI p lw lr ld H H' rows vs n ((Zcl rows n).take 64) us→D.nx [some (.ref p),some (.int sz),some (.int (m:Int)),some (.int (n:Int)),some (.ref lw),some (.ref lr),some (.ref ld),none,none] H')→Z1x (tSl (Zyd K) (Zvb Zk3 [] E0 (Zmd (Zx2 4) (Zmd (Zx2 3) Zzw))) Zir (Zz7 (tC (V.int 64)))) (Zh0 6) D [some (.ref p),some (.int sz),some (.int (m:Int)),some (.int (n:Int)),some (.ref lw),some (.ref lr),some (.ref l0),none,none] H6:=fun {D} hX=>by
    refine ⟨_,rfl,_,rfl,lw,w0 :: Zbb,n,rfl,hw6,by rw [wl];omega,by rw [wl];omega,by rw [wl];omega,by omega,fun lf ys H7 hlf s7 hl7 dv7=>⟨_,rfl,lf,_,rfl,SqL.of hl7,fun lg hlg=>?_⟩⟩
    have s8:Zag H7 (upd H7 lg (.lst (Zqk ys none (some 64)))):=Zbw hlg
    have h8:(upd H7 lg (.lst (Zqk ys none (some 64)))) lg=some (.lst (ys.take 64)):=by rw [uS];exact congrArg (fun z=>some (HO.lst z)) (Zqi ys 64)
    have d7:=d6.same s7
    obtain ⟨lgH,lgp⟩:=fr d7 hlg
    have s68:=s7.trans s8
    refine hX lg (ys.take 64) _ ⟨d7.same s8,by rw [ew];exact s68 _ _ hw6,lwp,s68 _ _ hr6,lrp,Paired.mapP pr6 fun r v ⟨t,u,e,z1,z2⟩=>⟨t,u,e,s68 _ _ z1,s68 _ _ z2⟩,h8,?_,⟨fun d hd=>Zgl d (List.mem_of_mem_take hd),(Zn1 (by unfold wds;rw [ew];exact wnd) n).sublist (List.take_sublist _ _),by rw [List.length_take];omega⟩,lgH,lgp,Ne.symm (nNo (s7 _ _ hw6) hlg),Ne.symm (nNo (s7 _ _ hr6) hlg)⟩
    have:Zas H7 (Zcl rows n) ys:=by unfold Zcl wds;rw [ew];exact dv7
    exact (Zas.take 64 this).mono s8
   have b6:BdI p lw lr l0 H H6 rows vs n [] []:=⟨d6,by rw [ew];exact hw6,lwp,hr6,lrp,pr6,h6,.nil,⟨(fun d h=>nomatch h),List.nodup_nil,Nat.zero_le _⟩,l0H,l0p,n1',n2'⟩
   exact ⟨_,rfl,rfl,_,rfl,Zek (fun _=>go fun ld us H' b=>⟨ld,_,us,rfl,b⟩) (fun _=>⟨_,rfl,rfl,_,rfl,Zek (fun _=>go fun ld us H' b=>⟨ld,_,us,rfl,b⟩) (fun _=>⟨_,rfl,rfl,_,rfl,Zek (fun _=>go fun ld us H' b=>⟨ld,_,us,rfl,b⟩) (fun _=>⟨l0,[],[],rfl,b6⟩)⟩)⟩)⟩
  rintro σ' H7 ⟨ld,ds,us,rfl,b7⟩
  obtain ⟨o7,hp7,ho7⟩:=b7.d.pot
  refine ⟨_,rfl,p,3,o7,rfl,hp7,ho7,by decide,by decide,fun v8 o8 v80 v81 ho8=>⟨v8,rfl,by omega,by omega,?_⟩⟩
  have b8:=b7.draw (Drawn.upd (p:=p) (H:=H7) ho8)
  generalize upd H7 p o8=H8 at b8
  clear b7 hp7
  refine Za1 Zcz (fun i σ H'=>∃ (ds:List (List Str)) (us:List V) (x7 x8:Option V),σ=[some (.ref p),some (.int sz),some (.int (m:Int)),some (.int (n:Int)),some (.ref lw),some (.ref lr),some (.ref ld),x7,x8]∧BdI p lw lr ld H H' rows vs n ds us)
   ⟨ds,us,none,none,rfl,b8⟩ (fun _ _ _ _ _=>trivial) ?_ ?_
  ·rintro i v σ H9 hi ⟨ds,us,x7,x8,rfl,b9⟩
   have pot9:=b9.d.pot
   refine ⟨_,rfl,n,rfl,by omega,by omega,Zl1 (B:=fun x=>x∈w0 :: Zbb) pot9 (by omega) rfl (fun v H' R d hR=>?_) fun lb bs H10 hlb d10 hlb10 hbl hb=>?_⟩
   ·obtain ⟨oa,hpp,hoo⟩:=d.pot
    refine ⟨_,rfl,_,rfl,_,rfl,p,m,oa,rfl,hpp,hoo,by omega,by omega,fun v4 ob hv0 hv1 hob=>?_⟩
    obtain ⟨x,hxm,hat⟩:=Zgk (ws:=w0 :: Zbb) hv0 (by rw [List.length_map,wl];omega)
    have db:Drawn p H' (upd H' p ob):=Drawn.upd hob
    exact ⟨lw,_,_,_,rfl,rfl,SqL.of (db.keep _ _ lwp (d.keep _ _ lwp (by rw [← ew];exact b9.hw))),hat,hR x _ db hxm⟩
   rw [Int.toNat_natCast] at hbl
   refine ⟨lb,_,rfl,.inl ⟨SqL.of hlb10,fun t ht=>?_⟩⟩
   have s10:Zag H10 (upd H10 t (.tup (bs.map V.str))):=Zbw ht
   have ht11:(upd H10 t (.tup (bs.map V.str))) t=some (.tup (bs.map V.str)):=uS
   generalize upd H10 t (.tup (bs.map V.str))=H11 at s10 ht11
   have b11:=b9.draw (d10.same s10)
   have okx:∀ y∈bs,Za2 y=true:=fun y hy=>www y (hb y hy)
   refine ⟨_,rfl,_,rfl,Zkq bs,ds.map Zkq,Zle ht11,Zmv b11.hd b11.dd,Zom 8 okx,Zpz 7 (Zkt g b11.gd.call),_,rfl,?_⟩
   show if (Bool.not ((ds.map Zkq).any fun e=>dEq e (Zkq bs)))=true then _ else _
   rw [Zqo]
   refine Zek (fun hn=>?_) (fun _=>⟨ds,us,_,_,rfl,b11⟩)
   have hn:bs∉ds:=by simpa using hn
   have ul:=b11.dd.len
   have gl:=b11.gd.few
   refine ⟨_,rfl,ld,_,rfl,.inl (SqL.of b11.hd),_,_,rfl,rfl,_,rfl,Zek (fun h64=>?_) (fun _=>⟨ds,us,_,_,rfl,b11⟩)⟩
   have h64:ds.length<64:=by have:=of_decide_eq_true h64;omega
   exact ⟨_,rfl,.inl ⟨rfl,_,SqL.of b11.hd⟩,_,rfl,ld,_,_,rfl,rfl,b11.hd,Za7 (by omega),ds++[bs],us++[.ref t],_,_,rfl,b11.put ht11 ⟨hbl,by rw [ew];exact hb⟩ hn h64⟩
  ·rintro σ H9 ⟨ds,us,x7,x8,rfl,b9⟩
   refine ⟨_,rfl,_,rfl,_,rfl,_,rfl,sL (by show 4≤100000;decide),fun t ht=>?_⟩
   have s10:Zag H9 (upd H9 t (.tup [.ref lw,.ref lr,.int (n:Int),.ref ld])):=Zbw ht
   exact q t lw lr ld rows n ds us _ (b9.d.same s10) uS (s10 _ _ b9.hw) lwp (by rw [ew];exact wwd) ⟨vs,s10 _ _ b9.hr,Paired.mapP b9.pr fun r v ⟨t,u,e,z1,z2⟩=>⟨t,u,e,s10 _ _ z1,s10 _ _ z2⟩⟩ lrp g n1 n4 (s10 _ _ b9.hd) b9.ldp (b9.dd.mono s10) b9.gd
end
end K54
namespace K54
open PySem L2 Md
theorem Zmu {p:Addr}{H H':Hp}{o:HO}{l:Addr}{rows:List (Str×List Str)}(h:Zdw H l rows) (hp:H p=some o) (ho:Zn4 o) (lp:l≠p) (d:Drawn p H H'):Zdw H' l rows:=by
 obtain ⟨vs,a,q⟩:=h
 exact ⟨vs,d.keep _ _ lp a,Paired.mapP q fun r v ⟨t,u,e,h1,h2⟩=>⟨t,u,e,Drawn.tup d hp ho h1,Drawn.tup d hp ho h2⟩⟩
theorem Zjo {p:Addr}{H H':Hp}{o:HO}{ds:List (List Str)}{us:List V}(h:Zas H ds us) (hp:H p=some o) (ho:Zn4 o) (d:Drawn p H H'):Zas H' ds us:=Paired.mapP h fun _ _ ⟨t,e,x⟩=>⟨t,e,Drawn.tup d hp ho x⟩
theorem Zo2 {C B:Addr}{H H':Hp}{p k q:Addr}{o:HO}{rows:List (Str×List Str)}{n:Nat}{ds:List (List Str)}(h:Za6 C B H p k rows n ds) (hq:H q=some o) (ho:Zn4 o) (d:Drawn q H H'):Za6 C B H' p k rows n ds:=by
 obtain ⟨dx,t,us,h1,h2,h3,h4⟩:=h.ex
 obtain ⟨r,b,eo,_⟩:=id ho
 have hq':=hq
 rw [eo] at hq'
 have nk:k≠q:=by
  intro z
  obtain ⟨_,_,_,_,_,_,_,e,_⟩:=h2.ex
  rw [z,hq'] at e
  cases e
 exact ⟨dx,t,us,d.keep _ _ (fun z=>by rw [z,hq'] at h1;cases h1) h1,Zkn h2 hq' d.keep nk (fun _ _ z=>by cases z) (fun _ z=>by cases z),d.keep _ _ (fun z=>by rw [z,hq'] at h3;cases h3) h3,Zjo h4 hq ho d⟩
theorem Zo5 {p:Addr}{H H':Hp}{o:HO}{all rows:List (Str×List Str)}{avs:List (Key×V)}(h:Zdc H all rows avs) (hp:H p=some o) (ho:Zn4 o) (d:Drawn p H H'):Zdc H' all rows avs :=
 Paired.mapP h fun _ _ z=>⟨z.1,let ⟨t,fs,e,x,y⟩:=z.2;⟨t,fs,e,d.keep _ _ (Ne.symm (Z0n hp ho x)) x,y⟩⟩
theorem Zwf {K:W.Frag}{C:Addr}{Hx:Hp}{xb dx l:Addr}{rows:List (Str×List Str)}{R:Hp→Prop}{E:XK}(nx:Hx xb=none) (ndx:Hx dx=none) (hR:Zdw Hx l rows) (g:Zb0 rows) (h:∀ H',Zag Hx H'→Za4 C H' xb rows→R H'):
  Zpg K C [.ref xb,.ref l] (upd (upd Hx dx (.own xb)) xb (.ins C dx [])) (fun v H3=>v=.non∧R H3) E:=by
 have s34:Zag Hx (upd (upd Hx dx (.own xb)) xb (.ins C dx [])):=fun b o e=>by
  have e1:(upd Hx dx (.own xb)) b=some o:=by rw [Zac (nNo e ndx)];exact e
  rw [Zac (nNo e nx)];exact e1
 exact ⟨xb,dx,l,rows,rfl,uS,(Zdw.g (Zgq hR s34)),g,fun H4 kd keep=>⟨rfl,h H4 (fun b o e=>keep b o (nNo e nx) (s34 _ _ e)) kd⟩⟩
theorem Zwg {K:W.Frag}{C B:Addr}{Hx:Hp}{xb yb dy lz:Addr}{n:Nat}{rows:List (Str×List Str)}{ds:List (List Str)}{us:List V}{R:Hp→Prop}{E:XK}(ny:Hx yb=none) (ndy:Hx dy=none) (kd:Za4 C Hx xb rows) (g:Zb0 rows) (hz:Hx lz=some (.lst us)) (hD:Zas Hx ds us) (gd:Zao rows n ds) (n1:1≤n) (n4:n≤4) (h:∀ H',Zag Hx H'→Za6 C B H' yb xb rows n ds→R H'):
  Zk7 K C B [.ref yb,.ref xb,.int n,.ref lz] (upd (upd Hx dy (.own yb)) yb (.ins B dy [])) (fun v H3=>v=.non∧R H3) E:=by
 have s34:Zag Hx (upd (upd Hx dy (.own yb)) yb (.ins B dy [])):=fun b o e=>by
  have e1:(upd Hx dy (.own yb)) b=some o:=by rw [Zac (nNo e ndy)];exact e
  rw [Zac (nNo e ny)];exact e1
 exact ⟨yb,dy,xb,lz,n,rows,ds,us,rfl,uS,kd.mono s34,g,.inl (SqL.of (s34 _ _ hz)),hD.mono s34,gd,n1,n4,fun H5 bd keep5=>⟨rfl,h H5 (fun b o e=>keep5 b o (nNo e ny) (s34 _ _ e)) bd⟩⟩
def Zvc (K:W.Frag):Sp:=fun vs H Q _=>∃ (a:Addr) (ns:List Int),vs=[.ref a]∧SqL K H a (ns.map V.int)∧ns.length≤63∧∀ H',Q (.bl true) H'
structure LwI (C B p lw lr ld aa yb xb:Addr) (H:Hp) (rows:List (Str×List Str)) (n:Nat) (ds:List (List Str)) (us:List V) (avs:List (Key×V)):Prop where
 pot:∃ o,H p=some o∧Zn4 o
 hw:H lw=some (.lst ((rows.map (·.1)).map V.str))
 lwp:lw≠p
 hR:Zdw H lr rows
 lrp:lr≠p
 hd:H ld=some (.lst us)
 ldp:ld≠p
 dd:Zas H ds us
 ha:H aa=some (.dK avs)
 hA:Zdc H rows rows avs
 bd:Za6 C B H yb xb rows n ds
theorem LwI.draw {C B p lw lr ld aa yb xb:Addr}{H H':Hp}{rows:List (Str×List Str)}{n:Nat}{ds:List (List Str)}{us:List V}{avs:List (Key×V)}(b:LwI C B p lw lr ld aa yb xb H rows n ds us avs) (k:Drawn p H H'):LwI C B p lw lr ld aa yb xb H' rows n ds us avs:=by
 obtain ⟨o,hp,ho⟩:=b.pot
 have na:aa≠p:=fun z=>by have e:=b.ha;rw [z,hp] at e;obtain ⟨_,_,q,_⟩:=ho;rw [q] at e;cases e
 exact ⟨k.pot,k.keep _ _ b.lwp b.hw,b.lwp,Zmu b.hR hp ho b.lrp k,b.lrp,k.keep _ _ b.ldp b.hd,b.ldp,Zjo b.dd hp ho k,k.keep _ _ na b.ha,Zo5 b.hA hp ho k,Zo2 b.bd hp ho k⟩
theorem LwI.same {C B p lw lr ld aa yb xb:Addr}{H H':Hp}{rows:List (Str×List Str)}{n:Nat}{ds:List (List Str)}{us:List V}{avs:List (Key×V)}(b:LwI C B p lw lr ld aa yb xb H rows n ds us avs) (s:Zag H H'):LwI C B p lw lr ld aa yb xb H' rows n ds us avs:=b.draw ((Drawn.refl b.pot).same s)
theorem Zy1 {v:Int} (h0:0≤v) (h1:v<5):∃ d:Int,atI [V.int 0,V.int 0,V.int 0,V.int 1,V.int (-1)] v=some (.int d)∧-1≤d∧d≤1:=by
 obtain ⟨k,rfl⟩:∃ k:Nat,v=(k:Int):=⟨v.toNat,by omega⟩
 match k,h1 with
 | 0,_=>exact ⟨0,rfl,by decide,by decide⟩
 | 1,_=>exact ⟨0,rfl,by decide,by decide⟩
 | 2,_=>exact ⟨0,rfl,by decide,by decide⟩
 | 3,_=>exact ⟨1,rfl,by decide,by decide⟩
 | 4,_=>exact ⟨-1,rfl,by decide,by decide⟩
 | k + 5,h=>omega
theorem Zy6 {ws:List Str}(h:0<ws.length):∃ x∈ws,atI (ws.map V.str) (-1)=some (.str x):=by
 have hl:ws.length - 1<ws.length:=by omega
 refine ⟨ws[ws.length - 1],List.getElem_mem hl,?_⟩
 unfold atI ixN
 rw [List.length_map,if_neg (by decide),if_pos (by omega)]
 show (ws.map V.str)[((-1:Int) + (ws.length:Int)).toNat]?=_
 rw [show ((-1:Int) + (ws.length:Int)).toNat=ws.length - 1 from by omega,List.getElem?_map,List.getElem?_eq_getElem hl]
 rfl
abbrev Z4o:List Str:=["script","pot","words","rows","places","deeds","above","board","large","turn","long","call","word","ups","due","one","other"]
theorem Z0j:Zak Z4o ["script"] (Zad Zve):=⟨rfl,rfl,rfl,by decide +kernel,rfl,by decide +kernel,by decide +kernel⟩
structure Z3i (mg:Str→Option Value):Prop where
 len:mg "len"=none
 range:mg "range"=none
 tuple:mg "tuple"=none
section
variable {P:Program} {w:World} {K:W.Frag} {mg:Str→Option Value} {base:Heap}
theorem Z03 {f C B fI fBI fP fT fBo fA fLg fW fM fRi fDD fDK fDT:Addr}{fd fdI fdBI fdP fdT fdBo fdA fdLg fdW fdM fdRi fdDD fdDK fdDT:FuncData}(F:Def K mg "law" Zve ["script"] f fd) (T:Z3i mg)
  (M:Mk K C fI) (mgC:mg "Kinds"=some (.ref C)) (bI:Zc9 K fdI ["self","rows"] []) (GI:Zaq P w K mg base CX0 4 fI fdI ["self","rows"] (Zpg K C))
  (MB:Mk K B fBI) (mgB:mg "Board"=some (.ref B)) (bB:Zc9 K fdBI nBI []) (GB:Zaq P w K mg base CX0 4 fBI fdBI nBI (Zk7 K C B))
  (DP:Def K mg "_law_pot" Zgc ["script","k"] fP fdP) (GP:Zaq P w K mg base CX0 1 fP fdP ["script","k"] (Z0e K)) (DT:Def K mg "_law_take" Zcw ["pot","many"] fT fdT) (GT:Zaq P w K mg base CX0 1 fT fdT ["pot","many"] Zmf)
  (DBo:Def K mg "_law_board" Zcd ["pot"] fBo fdBo) (GBo:Zaq P w K mg base CX0 2 fBo fdBo ["pot"] Zsq) (DA:Def K mg "_law_above" Zeq ["rows"] fA fdA) (GA:Zaq P w K mg base CX0 1 fA fdA ["rows"] Zpf)
  (DLg:Def K mg "_law_large" Zeo ["many","places"] fLg fdLg) (GLg:Zaq P w K mg base CX0 1 fLg fdLg ["many","places"] Zsn) (DW:Def K mg "_law_wrong" Zdo ["pot","words"] fW fdW) (GW:Zaq P w K mg base CX0 2 fW fdW ["pot","words"] Zk2)
  (DM:Def K mg "_law_more_ups" Zbx ["pot","words","word"] fM fdM) (GM:Zaq P w K mg base CX0 3 fM fdM ["pot","words","word"] Zmi) (DRi:Def K mg "_law_right" Zen nR4 fRi fdRi) (GRi:Zaq P w K mg base CX0 12 fRi fdRi nR4 (Zsk K C B))
  (DDD:Def K mg "_law_due_deed" Zcc nDd fDD fdDD) (GDD:Zaq P w K mg base CX0 1 fDD fdDD nDd Zxc) (DDK:Def K mg "_law_due_kind" Zc5 ["words","large","word","ups"] fDK fdDK) (GDK:Zaq P w K mg base CX0 2 fDK fdDK ["words","large","word","ups"] Zxb)
  (DDT:Def K mg "_law_due_tie" Zcs ["rows","above","large","one","other"] fDT fdDT) (GDT:Zaq P w K mg base CX0 1 fDT fdDT ["rows","above","large","one","other"] Zxa):Zaq P w K mg base CX0 13 f fd ["script"] (Zvc K):=by
 refine F.fn.ok Z0j (fun vs H Q E h=>?_) (fun cdv A outer s H vs Q E hr h=>?_)
 ·obtain ⟨a,ns,rfl,_⟩:=h
  rfl
 ·obtain ⟨a,ns,rfl,hS,hlen,q⟩:=h
  have nd:=Z0j.nd
  have hr1:Zb6 1 _:=hr.mono (by decide)
  have hr2:Zb6 2 _:=hr.mono (by decide)
  have hr3:Zb6 3 _:=hr.mono (by decide)
  have hr5:Zb6 5 _:=hr.mono (by decide)
  have hr12:Zb6 12 _:=hr.mono (by decide)
  refine' ⟨_,(pS (Zal (i:=1) nd rfl (Or.inr rfl) (Zaf DP GP hr1 (pC (pv 0) (pC Zae Zaa))))
   (pS (Zps (Zaf DBo GBo hr2 (pC (pv 1) Zaa)) (Zfl rfl (gC (Zai (i:=2) nd rfl (Or.inr rfl)) (gC (Zai (i:=3) nd rfl (Or.inl rfl)) (gC (Zai (i:=4) nd rfl (Or.inl rfl)) (gC (Zai (i:=5) nd rfl (Or.inl rfl)) Zdz))))))
   (pS (Zal (i:=6) nd rfl (Or.inl rfl) (Zaf DA GA hr1 (pC (pv 3) Zaa)))
   (pS (Zal (i:=7) nd rfl (Or.inl rfl) (Zhu MB GB hr5 rfl mgB bB .nil Zhh (pC (Zhu M GI hr5 rfl mgC bI .nil Zhh (pC (pv 3) Zaa)) (pC (pv 4) (pC (pv 5) Zaa)))))
   (pS (Zal (i:=8) nd rfl (Or.inl rfl) (Zaf DLg GLg hr1 (pC (Zaj Zaw (by rfl) T.len PySem.boot_len (pC (pv 2) Zaa)) (pC (pv 4) Zaa))))
   (pS (Zbn PassesOwn.never rfl (Zcf (by rfl) T.range (pC Zae Zaa)) (Zai (i:=9) nd rfl (Or.inl rfl)) ?eB)
   (Zab (Zam Ze8)))))))),?_⟩
  case eB=>exact ((pS (Zal (i:=10) nd rfl (Or.inl rfl) (Zbs Zkj (pv 4) (Zbd (r:=Zib K) Zb9 (Zav (pC Zae (pC Zae (pC Zae (pC Zae (pC (Zs8 Zma Zae) Zaa)))))) (Zaf DT GT hr1 (pC (pv 1) (pC Zae Zaa))) (fun _ _=>rfl))))
   (pS (Zal (i:=11) nd rfl (Or.inl rfl) (Zbo Zck (by rfl) T.tuple PyProof.Rows.boot_tuple (pC (Zb3 ["k"] ["pot","words"] [1,2] (fun _=>Za5 (osc:=Zad Zve) (on:=Z4o) (by decide +kernel) rfl rfl rfl) (Zcf (by rfl) T.range (pC (pv 10) Zaa)) (fun C s H fp=>Zai (i:=0) Ztr rfl (Or.inl rfl) (Or.inr rfl)) (fun C s H fp=>Zcm) (fun C s H fp=>Zaf DW GW hr2 (pC (pv 1) (pC (pv 2) Zaa)))) Zaa)))
   (pS (Zau (Zb4 (Zce (Zaf DRi GRi hr12 (pC Zae (pC (pv 7) (pC (Zav (pC (pv 11) Zaa)) (pC (Zaf DDD GDD hr1 (pC (pv 2) (pC (pv 4) (pC (pv 5) (pC (pv 8) (pC (pv 11) Zaa)))))) Zaa))))))) (Zab (Zam Ze8)) Zah)
   (pS (Zal (i:=12) nd rfl (Or.inl rfl) (Zbd (r:=Zib K) Zb9 (Zav (pC (Zaf DW GW hr2 (pC (pv 1) (pC (pv 2) Zaa))) (pC Zev (pC Zev Zaa)))) (Zaf DT GT hr1 (pC (pv 1) (pC Zae Zaa))) (fun _ _=>rfl)))
   (pS (Zal (i:=13) nd rfl (Or.inl rfl) (Zaf DM GM hr3 (pC (pv 1) (pC (pv 2) (pC (pv 12) Zaa)))))
   (pS (Zal (i:=14) nd rfl (Or.inl rfl) (Zaf DDK GDK hr2 (pC (pv 2) (pC (Zaf DLg GLg hr1 (pC (Zbs Zkj (Zaj Zaw (by rfl) T.len PySem.boot_len (pC (pv 2) Zaa)) Zae) (pC (pv 4) Zaa))) (pC (pv 12) (pC (pv 13) Zaa))))))
   (pS (Zau (Zb4 (Zce (Zaf DRi GRi hr12 (pC Zae (pC (pv 7) (pC (Zav (pC (pv 12) (pC (pv 13) Zaa))) (pC (pv 14) Zaa))))))) (Zab (Zam Ze8)) Zah)
   (pS (Zal (i:=15) nd rfl (Or.inl rfl) (Zaf DW GW hr2 (pC (pv 1) (pC (pv 2) Zaa))))
   (pS (Zal (i:=16) nd rfl (Or.inl rfl) (Zaf DW GW hr2 (pC (pv 1) (pC (pv 2) Zaa))))
   (Zi2 (Zau (Zap Ze9 (Zaf DT GT hr1 (pC (pv 1) (pC Zae Zaa))) Zae (Zaz _)) (Zab (Zal (i:=15) nd rfl (Or.inl rfl) (Zbd (r:=Zl7 K) Za9 (pv 2) (Zs8 Zma Zae) (fun _ _=>rfl)))) Zah)
   (Zab (Zau (Zb4 (Zce (Zaf DRi GRi hr12 (pC Zae (pC (pv 7) (pC (Zav (pC (pv 15) (pC (pv 16) Zaa))) (pC (Zaf DDT GDT hr1 (pC (pv 3) (pC (pv 6) (pC (pv 8) (pC (pv 15) (pC (pv 16) Zaa)))))) Zaa))))))) (Zab (Zam Ze8)) Zah)))))))))))))
  refine ⟨_,rfl,a,0,ns,rfl,hS,by omega,by decide,by decide,fun p o hp ho=>?_⟩
  have hp0:(upd H p o) p=some o:=uS
  generalize upd H p o=H0 at hp0
  refine ⟨_,rfl,p,rfl,⟨o,hp0,ho⟩,fun t1 lw lr ld rows n ds us H1 d1 ht1 hw1 lwp wds hR1 lrp g n1 n4 hd1 ldp dd1 gd=>⟨t1,_,rfl,SqT.of ht1,rfl,_,_,rfl,_,_,rfl,_,_,rfl,_,_,rfl,rfl,?_⟩⟩
  have gle:=g.le
  have gne:=g.ne
  refine ⟨_,rfl,lr,rows,rfl,hR1,g,fun aa avs H2 s2 ha2 hA2=>⟨_,rfl,?_⟩⟩
  intro xb dx nx ndx nex
  refine Zwf nx ndx (Zgq hR1 s2) g fun H3 s3 kd3=>⟨_,rfl,_,rfl,?_⟩
  intro yb dy ny ndy ney
  refine Zwg ny ndy kd3 g ((s2.trans s3) _ _ hd1) (dd1.mono (s2.trans s3)) gd n1 n4 fun H4 s4 bd4=>?_
  have s14:=s2.trans (s3.trans s4)
  have s24:=s3.trans s4
  have b4:LwI C B p lw lr ld aa yb xb H4 rows n ds us avs:=⟨(d1.same s14).pot,s14 _ _ hw1,lwp,Zgq hR1 s14,lrp,s14 _ _ hd1,ldp,dd1.mono s14,s24 _ _ ha2,Paired.mapP hA2 fun _ _ z=>⟨z.1,let ⟨t,fs,e,x,y⟩:=z.2;⟨t,fs,e,s24 _ _ x,y⟩⟩,bd4⟩
  clear hp0 d1 ht1 hw1 hR1 hd1 dd1 s2 ha2 hA2 s3 kd3 s4 bd4 s14 s24
  have el:((rows.map (·.1)).map V.str).length=rows.length:=by rw [List.length_map,List.length_map]
  have wok:∀ x∈rows.map (·.1),WOk x:=wds.2.1
  refine ⟨_,rfl,lw,_,rfl,.inl (SqL.of b4.hw),_,rfl,_,n,rfl,by rw [el];omega,n4,?_⟩
  rw [el]
  refine ⟨4,rfl,by decide,by decide,?_⟩
  refine Za1 Zcz (fun i σ H'=>∃ (x9 x10 x11 x12 x13 x14 x15 x16:Option V),σ=[some (.ref a),some (.ref p),some (.ref lw),some (.ref lr),some (.int (n:Int)),some (.ref ld),some (.ref aa),some (.ref yb),some (.bl (decide (512<rows.length ^ n))),x9,x10,x11,x12,x13,x14,x15,x16]∧LwI C B p lw lr ld aa yb xb H' rows n ds us avs)
   ⟨none,none,none,none,none,none,none,none,rfl,b4⟩ (fun _ _ _ _ _=>trivial) ?_ ?_
  ·rintro i v σ H1 hi ⟨x9,x10,x11,x12,x13,x14,x15,x16,rfl,b1⟩
   refine ⟨_,rfl,1,rfl,sL (by show 5≤100000;decide),fun t2 ht2=>?_⟩
   have s2:Zag H1 (upd H1 t2 (.tup [.int 0,.int 0,.int 0,.int 1,.int (-1)])):=Zbw ht2
   have h2:(upd H1 t2 (.tup [.int 0,.int 0,.int 0,.int 1,.int (-1)])) t2=some (.tup [.int 0,.int 0,.int 0,.int 1,.int (-1)]):=uS
   generalize upd H1 t2 (.tup [.int 0,.int 0,.int 0,.int 1,.int (-1)])=H2 at s2 h2
   have b2:=b1.same s2
   obtain ⟨o2,hp2,ho2⟩:=b2.pot
   refine ⟨_,rfl,p,5,o2,rfl,hp2,ho2,by decide,by decide,fun v3 o3 v30 v31 ho3=>?_⟩
   have d3:Drawn p H2 (upd H2 p o3):=Drawn.upd ho3
   generalize upd H2 p o3=H3 at d3
   obtain ⟨dl,hat,l0,l1⟩:=Zy1 v30 v31
   have b3:=b2.draw d3
   refine ⟨t2,_,_,_,rfl,rfl,SqT.of (Drawn.tup d3 hp2 ho2 h2),hat,_,_,rfl,rfl,?_⟩
   refine ⟨_,rfl,(n:Int) + dl,rfl,by omega,by omega,Zl1 (B:=WOk) b3.pot (by omega) rfl (fun v H' R d hR=>⟨_,rfl,_,rfl,p,lw,_,rfl,d.pot,(b3.draw d).hw,wds,lwp,hR⟩) fun lc xs H4 hlc d4 hl4 xl wx=>⟨lc,_,rfl,.inl ⟨SqL.of hl4,fun t5 ht5=>?_⟩⟩⟩
   have s5:Zag H4 (upd H4 t5 (.tup (xs.map V.str))):=Zbw ht5
   have h5:(upd H4 t5 (.tup (xs.map V.str))) t5=some (.tup (xs.map V.str)):=uS
   generalize upd H4 t5 (.tup (xs.map V.str))=H5 at s5 h5
   have b5:=(b3.draw d4).same s5
   have xl5:xs.length≤5:=by omega
   refine ⟨_,rfl,_,rfl,sL (by show 1≤100000;decide),fun t6 ht6=>?_⟩
   have s6:Zag H5 (upd H5 t6 (.tup [.ref t5])):=Zbw ht6
   have h6:(upd H5 t6 (.tup [.ref t5])) t6=some (.tup [.ref t5]):=uS
   generalize upd H5 t6 (.tup [.ref t5])=H6 at s6 h6
   have b6:=b5.same s6
   have h56:=s6 _ _ h5
   refine ⟨_,rfl,_,rfl,_,rfl,_,rfl,_,rfl,lw,ld,t5,rows,n,ds,us,xs,rfl,b6.hw,g,n1,n4,b6.hd,b6.dd,gd,h56,by omega,wx,fun r v7 H7 s7 hr7 ⟨t7,e7,h7⟩=>?_⟩
   subst e7
   have b7:=b6.same s7
   refine ⟨0,yb,t6,t7,r,rfl,.deed b7.bd g gd n1 n4 (s7 _ _ h6) (s7 _ _ h56) (by omega) hr7,h7,fun H8 s8=>⟨true,rfl,Zbz ?_⟩⟩
   have b8:=b7.same s8
   clear b1 b2 b3 b5 b6 b7 s2 h2 hp2 d3 hat d4 hl4 s5 h5 s6 h6 h56 s7 h7 s8 hlc ht2 ht5 ht6
   refine ⟨_,rfl,_,rfl,p,lw,_,rfl,b8.pot,b8.hw,wds,lwp,fun w9 H9 d9 wk9=>⟨sL (by show 3≤100000;decide),fun t9 ht9=>?_⟩⟩
   have s9:Zag H9 (upd H9 t9 (.tup (([w9,"zz","zzz"]:List Str).map V.str))):=Zbw ht9
   have h9:(upd H9 t9 (.tup (([w9,"zz","zzz"]:List Str).map V.str))) t9=some (.tup (([w9,"zz","zzz"]:List Str).map V.str)):=uS
   have b9:=(b8.draw d9).same s9
   clear b8 d9
   obtain ⟨o9,hp9,ho9⟩:=b9.pot
   refine ⟨_,rfl,p,3,o9,rfl,hp9,ho9,by decide,by decide,fun v1 o1 v10 v11 ho1=>?_⟩
   have d1:Drawn p (upd H9 t9 (.tup (([w9,"zz","zzz"]:List Str).map V.str))) (upd (upd H9 t9 (.tup (([w9,"zz","zzz"]:List Str).map V.str))) p o1):=Drawn.upd ho1
   obtain ⟨x,hx,hat⟩:=Zgk (ws:=[w9,"zz","zzz"]) v10 v11
   have b1:=b9.draw d1
   refine ⟨t9,_,_,_,rfl,rfl,SqT.of (Drawn.tup d1 hp9 ho9 h9),hat,?_⟩
   have wx:WOk x:=by
    rcases List.mem_cons.mp hx with z | z
    ·rw [z];exact wk9
    ·exact Zr2 (l:=["zz","zzz"]) (by decide +kernel) z
   clear b9 s9 h9 hp9 d1 hat hx ht9
   refine ⟨_,rfl,_,rfl,_,rfl,p,lw,_,x,rfl,b1.pot,b1.hw,wds,lwp,wx,fun lu ups H2 d2 hlu hu2 wu ul=>?_⟩
   have b2:=b1.draw d2
   refine ⟨_,rfl,_,rfl,lw,_,rfl,.inl (SqL.of b2.hw),_,_,rfl,rfl,_,rfl,((rows.map (·.1)).map V.str).length + 1,n,rfl,by rw [el];omega,n4,?_⟩
   rw [el]
   refine ⟨_,rfl,_,rfl,lw,lu,rows,n,x,ups,rfl,b2.hw,g,hu2,by omega,wx,wu,fun r v3 H3 s3 hr3 ⟨t3,e3,h3⟩=>?_⟩
   subst e3
   have b3:=b2.same s3
   refine ⟨_,rfl,_,rfl,_,rfl,sL (by show 2≤100000;decide),fun t4 ht4=>?_⟩
   have s4:Zag H3 (upd H3 t4 (.tup [.str x,.ref lu])):=Zbw ht4
   have h4:(upd H3 t4 (.tup [.str x,.ref lu])) t4=some (.tup [.str x,.ref lu]):=uS
   generalize upd H3 t4 (.tup [.str x,.ref lu])=H4 at s4 h4
   have b4:=b3.same s4
   refine ⟨_,rfl,1,yb,t4,t3,r,rfl,.kind b4.bd g gd n1 n4 h4 (.inr (SqL.of ((s3.trans s4) _ _ hu2))) wx.1 (fun u hu=>(wu u hu).1) hr3,s4 _ _ h3,fun H5 s5=>⟨true,rfl,Zbz ?_⟩⟩
   have b5:=b4.same s5
   clear b1 d2 hlu hu2 b2 s3 h3 b3 s4 h4 b4 s5
   refine ⟨_,rfl,_,rfl,p,lw,_,rfl,b5.pot,b5.hw,wds,lwp,fun x1 H6 d6 wx1=>?_⟩
   have b6:=b5.draw d6
   refine ⟨_,rfl,_,rfl,p,lw,_,rfl,b6.pot,b6.hw,wds,lwp,fun y1 H7 d7 wy1=>?_⟩
   have b7:=b6.draw d7
   refine ⟨fun σ' H'=>∃ (z1:Str) (x9 x10 x11 x12 x13 x14:Option V),σ'=[some (.ref a),some (.ref p),some (.ref lw),some (.ref lr),some (.int (n:Int)),some (.ref ld),some (.ref aa),some (.ref yb),some (.bl (decide (512<rows.length ^ n))),x9,x10,x11,x12,x13,x14,some (.str z1),some (.str y1)]∧LwI C B p lw lr ld aa yb xb H' rows n ds us avs∧WOk z1,?_,?_⟩
   ·obtain ⟨o7,hp7,ho7⟩:=b7.pot
    refine ⟨_,rfl,p,3,o7,rfl,hp7,ho7,by decide,by decide,fun v8 o8 v80 v81 ho8=>?_⟩
    have b8:=b7.draw (Drawn.upd (p:=p) (H:=H7) ho8)
    refine ⟨rfl,_,rfl,Zek (fun _=>?_) (fun _=>⟨x1,_,_,_,_,_,_,rfl,b8,wx1⟩)⟩
    obtain ⟨z1,hz1,hat⟩:=Zy6 (ws:=rows.map (·.1)) (by rw [List.length_map];omega)
    exact ⟨_,rfl,1,rfl,lw,_,_,_,rfl,rfl,SqL.of b8.hw,hat,z1,_,_,_,_,_,_,rfl,b8,wok z1 hz1⟩
   rintro σ' H8 ⟨z1,x9,x10,x11,x12,x13,x14,rfl,b8,wz⟩
   refine ⟨_,rfl,_,rfl,_,rfl,sL (by show 2≤100000;decide),fun t9 ht9=>?_⟩
   have s9:Zag H8 (upd H8 t9 (.tup [.str z1,.str y1])):=Zbw ht9
   have h9:(upd H8 t9 (.tup [.str z1,.str y1])) t9=some (.tup [.str z1,.str y1]):=uS
   generalize upd H8 t9 (.tup [.str z1,.str y1])=H9 at s9 h9
   have b9:=b8.same s9
   refine ⟨_,rfl,_,rfl,_,rfl,_,rfl,_,rfl,lr,aa,rows,avs,n,z1,y1,rfl,b9.hR,g,b9.ha,b9.hA,wz,wy1,fun r v3 H3 s3 hr3 ⟨t3,e3,h3⟩=>?_⟩
   subst e3
   have b3:=b9.same s3
   exact ⟨2,yb,t9,t3,r,rfl,.tie b3.bd g gd n1 n4 (s3 _ _ h9) wz.1 wy1.1 hr3,h3,fun H5 s5=>⟨true,rfl,Zbz ⟨_,_,_,_,_,_,_,_,rfl,b3.same s5⟩⟩⟩
  ·rintro σ H1 ⟨x9,x10,x11,x12,x13,x14,x15,x16,rfl,b1⟩
   exact q _
end
end K54
namespace K54
open PySem L2
theorem md {K:W.Frag}{C:Addr}{m q:Str}{st:Stmt}{ps:List Str}{f:Addr}{fd:FuncData}(T:Mp K C m q st f fd) (b:Zc9 K fd ps []):Zn6 K C m q st ps f fd:=⟨T.fn,b,T.a,T.i,T.fn.kp⟩
def tq:=@tp
set_option maxHeartbeats 4000000 in
theorem all_mk {l:W.OpenLaw}{w:World}{K:W.Frag}{h:Heap}{mg:Str→Option Value}{fa C B QD Q0 Q1 Q2 Q3 Q4 Q5 Q6 Q7 Q8 Q9 Q10 Q11 Q12 Q13 Q14 f_mI f_mH f_mC f_mUn f_mW f_mM f_mT f_mR f_bI f_bK f_bP f_bD f_bM f_bO f_bC f_bS f_x0 f_x1 f_x3 f_x4 f_x5 f_w f_cr f_cu f_fa f_en f_fr f_aa f_P f_T f_Le f_A f_ic f_cd f_cc f_wi f_fi f_nw f_na f_ne f_to f_td f_oe f_lc f_al f_ot f_hu f_bd f_bk f_bt f_wh f_bo f_wr f_mu f_dd f_iw f_dk f_dt f_lg f_as f_ri f_L:Addr}{d_mI d_mH d_mC d_mUn d_mW d_mM d_mT d_mR d_bI d_bK d_bP d_bD d_bM d_bO d_bC d_bS d_x0 d_x1 d_x3 d_x4 d_x5 d_w d_cr d_cu d_fa d_en d_fr d_aa d_P d_T d_Le d_A d_ic d_cd d_cc d_wi d_fi d_nw d_na d_ne d_to d_td d_oe d_lc d_al d_ot d_hu d_bd d_bk d_bt d_wh d_bo d_wr d_mu d_dd d_iw d_dk d_dt d_lg d_as d_ri d_L:FuncData}(X:K.In h) (G:h.Ns mainGlobals mg) (hfa:mg "law"=some (.ref fa))
  {T_LETTERS T_MOST_LETTERS T_MOST_KINDS T_MOST_UPS T_MOST_PLACES T_MOST_DEEDS T_MOST_CALLS:Tok}
  (a_QD:W.nsIn K mainGlobals "DeedError"=some (some (.ref QD)))
  (cl_QD:W.isClsIn K QD=true)
  (ty_QD:W.typeIn K (.ref QD)=some (.type "type"))
  {nm_QD q_QD:Str} {N_QD:Addr} {bs_QD sub_QD:List Value} {ab_QD:Bool} {sn_QD:List Str} {col_QD:Option Bool} {dd_QD:Option Addr} {k0_QD k1_QD k2_QD k3_QD k5_QD:Option Value}
  {bm_QD:List Value} {hd_QD:Bool}
  (l_QD:K.lookup QD=some (excClassObj nm_QD q_QD QD N_QD bs_QD bm_QD hd_QD sn_QD sub_QD ab_QD col_QD dd_QD k0_QD k1_QD k2_QD k3_QD k5_QD "ValueError.__new__"))
  (val_QD:W.subIn K (.ref QD) (.type "ValueError")=some true)
  (bas_QD:W.subIn K (.ref QD) (.type "BaseException")=some true)
  (att_QD:W.subIn K (.ref QD) (.type "AttributeError")=some false)
  (nam_QD:W.subIn K (.ref QD) (.type "NameError")=some false)
  (kp_QD:W.keepIn K (.ref QD)=true)
  (a_Q0:W.nsIn K mainGlobals "NoKind"=some (some (.ref Q0)))
  (cl_Q0:W.isClsIn K Q0=true)
  (ty_Q0:W.typeIn K (.ref Q0)=some (.type "type"))
  {nm_Q0 q_Q0:Str} {N_Q0:Addr} {bs_Q0 sub_Q0:List Value} {ab_Q0:Bool} {sn_Q0:List Str} {col_Q0:Option Bool} {dd_Q0:Option Addr} {k0_Q0 k1_Q0 k2_Q0 k3_Q0 k5_Q0:Option Value}
  (l_Q0:K.lookup Q0=some (excClassObj nm_Q0 q_Q0 Q0 N_Q0 bs_Q0 [.ref QD,.type "ValueError",.type "Exception",.type "BaseException",.type "object"] true sn_Q0 sub_Q0 ab_Q0 col_Q0 dd_Q0 k0_Q0 k1_Q0 k2_Q0 k3_Q0 k5_Q0 "ValueError.__new__"))
  (val_Q0:W.subIn K (.ref Q0) (.type "ValueError")=some true)
  (bas_Q0:W.subIn K (.ref Q0) (.type "BaseException")=some true)
  (att_Q0:W.subIn K (.ref Q0) (.type "AttributeError")=some false)
  (nam_Q0:W.subIn K (.ref Q0) (.type "NameError")=some false)
  (kp_Q0:W.keepIn K (.ref Q0)=true)
  (a_Q1:W.nsIn K mainGlobals "Twice"=some (some (.ref Q1)))
  (cl_Q1:W.isClsIn K Q1=true)
  (ty_Q1:W.typeIn K (.ref Q1)=some (.type "type"))
  {nm_Q1 q_Q1:Str} {N_Q1:Addr} {bs_Q1 sub_Q1:List Value} {ab_Q1:Bool} {sn_Q1:List Str} {col_Q1:Option Bool} {dd_Q1:Option Addr} {k0_Q1 k1_Q1 k2_Q1 k3_Q1 k5_Q1:Option Value}
  (l_Q1:K.lookup Q1=some (excClassObj nm_Q1 q_Q1 Q1 N_Q1 bs_Q1 [.ref QD,.type "ValueError",.type "Exception",.type "BaseException",.type "object"] true sn_Q1 sub_Q1 ab_Q1 col_Q1 dd_Q1 k0_Q1 k1_Q1 k2_Q1 k3_Q1 k5_Q1 "ValueError.__new__"))
  (val_Q1:W.subIn K (.ref Q1) (.type "ValueError")=some true)
  (bas_Q1:W.subIn K (.ref Q1) (.type "BaseException")=some true)
  (att_Q1:W.subIn K (.ref Q1) (.type "AttributeError")=some false)
  (nam_Q1:W.subIn K (.ref Q1) (.type "NameError")=some false)
  (kp_Q1:W.keepIn K (.ref Q1)=true)
  (a_Q2:W.nsIn K mainGlobals "NoName"=some (some (.ref Q2)))
  (cl_Q2:W.isClsIn K Q2=true)
  (ty_Q2:W.typeIn K (.ref Q2)=some (.type "type"))
  (a_Q3:W.nsIn K mainGlobals "Ring"=some (some (.ref Q3)))
  (cl_Q3:W.isClsIn K Q3=true)
  (ty_Q3:W.typeIn K (.ref Q3)=some (.type "type"))
  {nm_Q3 q_Q3:Str} {N_Q3:Addr} {bs_Q3 sub_Q3:List Value} {ab_Q3:Bool} {sn_Q3:List Str} {col_Q3:Option Bool} {dd_Q3:Option Addr} {k0_Q3 k1_Q3 k2_Q3 k3_Q3 k5_Q3:Option Value}
  (l_Q3:K.lookup Q3=some (excClassObj nm_Q3 q_Q3 Q3 N_Q3 bs_Q3 [.ref QD,.type "ValueError",.type "Exception",.type "BaseException",.type "object"] true sn_Q3 sub_Q3 ab_Q3 col_Q3 dd_Q3 k0_Q3 k1_Q3 k2_Q3 k3_Q3 k5_Q3 "ValueError.__new__"))
  (val_Q3:W.subIn K (.ref Q3) (.type "ValueError")=some true)
  (bas_Q3:W.subIn K (.ref Q3) (.type "BaseException")=some true)
  (att_Q3:W.subIn K (.ref Q3) (.type "AttributeError")=some false)
  (nam_Q3:W.subIn K (.ref Q3) (.type "NameError")=some false)
  (kp_Q3:W.keepIn K (.ref Q3)=true)
  (a_Q4:W.nsIn K mainGlobals "NoDeed"=some (some (.ref Q4)))
  (cl_Q4:W.isClsIn K Q4=true)
  (ty_Q4:W.typeIn K (.ref Q4)=some (.type "type"))
  {nm_Q4 q_Q4:Str} {N_Q4:Addr} {bs_Q4 sub_Q4:List Value} {ab_Q4:Bool} {sn_Q4:List Str} {col_Q4:Option Bool} {dd_Q4:Option Addr} {k0_Q4 k1_Q4 k2_Q4 k3_Q4 k5_Q4:Option Value}
  (l_Q4:K.lookup Q4=some (excClassObj nm_Q4 q_Q4 Q4 N_Q4 bs_Q4 [.ref QD,.type "ValueError",.type "Exception",.type "BaseException",.type "object"] true sn_Q4 sub_Q4 ab_Q4 col_Q4 dd_Q4 k0_Q4 k1_Q4 k2_Q4 k3_Q4 k5_Q4 "ValueError.__new__"))
  (val_Q4:W.subIn K (.ref Q4) (.type "ValueError")=some true)
  (bas_Q4:W.subIn K (.ref Q4) (.type "BaseException")=some true)
  (att_Q4:W.subIn K (.ref Q4) (.type "AttributeError")=some false)
  (nam_Q4:W.subIn K (.ref Q4) (.type "NameError")=some false)
  (kp_Q4:W.keepIn K (.ref Q4)=true)
  (a_Q5:W.nsIn K mainGlobals "Same"=some (some (.ref Q5)))
  (cl_Q5:W.isClsIn K Q5=true)
  (ty_Q5:W.typeIn K (.ref Q5)=some (.type "type"))
  {nm_Q5 q_Q5:Str} {N_Q5:Addr} {bs_Q5 sub_Q5:List Value} {ab_Q5:Bool} {sn_Q5:List Str} {col_Q5:Option Bool} {dd_Q5:Option Addr} {k0_Q5 k1_Q5 k2_Q5 k3_Q5 k5_Q5:Option Value}
  (l_Q5:K.lookup Q5=some (excClassObj nm_Q5 q_Q5 Q5 N_Q5 bs_Q5 [.ref QD,.type "ValueError",.type "Exception",.type "BaseException",.type "object"] true sn_Q5 sub_Q5 ab_Q5 col_Q5 dd_Q5 k0_Q5 k1_Q5 k2_Q5 k3_Q5 k5_Q5 "ValueError.__new__"))
  (val_Q5:W.subIn K (.ref Q5) (.type "ValueError")=some true)
  (bas_Q5:W.subIn K (.ref Q5) (.type "BaseException")=some true)
  (att_Q5:W.subIn K (.ref Q5) (.type "AttributeError")=some false)
  (nam_Q5:W.subIn K (.ref Q5) (.type "NameError")=some false)
  (kp_Q5:W.keepIn K (.ref Q5)=true)
  (a_Q6:W.nsIn K mainGlobals "NoText"=some (some (.ref Q6)))
  (cl_Q6:W.isClsIn K Q6=true)
  (ty_Q6:W.typeIn K (.ref Q6)=some (.type "type"))
  (a_Q7:W.nsIn K mainGlobals "TooMany"=some (some (.ref Q7)))
  (cl_Q7:W.isClsIn K Q7=true)
  (ty_Q7:W.typeIn K (.ref Q7)=some (.type "type"))
  {nm_Q7 q_Q7:Str} {N_Q7:Addr} {bs_Q7 sub_Q7:List Value} {ab_Q7:Bool} {sn_Q7:List Str} {col_Q7:Option Bool} {dd_Q7:Option Addr} {k0_Q7 k1_Q7 k2_Q7 k3_Q7 k5_Q7:Option Value}
  {bm_Q7:List Value} {hd_Q7:Bool}
  (l_Q7:K.lookup Q7=some (excClassObj nm_Q7 q_Q7 Q7 N_Q7 bs_Q7 bm_Q7 hd_Q7 sn_Q7 sub_Q7 ab_Q7 col_Q7 dd_Q7 k0_Q7 k1_Q7 k2_Q7 k3_Q7 k5_Q7 "ValueError.__new__"))
  (val_Q7:W.subIn K (.ref Q7) (.type "ValueError")=some true)
  (bas_Q7:W.subIn K (.ref Q7) (.type "BaseException")=some true)
  (att_Q7:W.subIn K (.ref Q7) (.type "AttributeError")=some false)
  (nam_Q7:W.subIn K (.ref Q7) (.type "NameError")=some false)
  (kp_Q7:W.keepIn K (.ref Q7)=true)
  (a_Q8:W.nsIn K mainGlobals "NoBoard"=some (some (.ref Q8)))
  (cl_Q8:W.isClsIn K Q8=true)
  (ty_Q8:W.typeIn K (.ref Q8)=some (.type "type"))
  {nm_Q8 q_Q8:Str} {N_Q8:Addr} {bs_Q8 sub_Q8:List Value} {ab_Q8:Bool} {sn_Q8:List Str} {col_Q8:Option Bool} {dd_Q8:Option Addr} {k0_Q8 k1_Q8 k2_Q8 k3_Q8 k5_Q8:Option Value}
  {bm_Q8:List Value} {hd_Q8:Bool}
  (l_Q8:K.lookup Q8=some (excClassObj nm_Q8 q_Q8 Q8 N_Q8 bs_Q8 bm_Q8 hd_Q8 sn_Q8 sub_Q8 ab_Q8 col_Q8 dd_Q8 k0_Q8 k1_Q8 k2_Q8 k3_Q8 k5_Q8 "ValueError.__new__"))
  (val_Q8:W.subIn K (.ref Q8) (.type "ValueError")=some true)
  (bas_Q8:W.subIn K (.ref Q8) (.type "BaseException")=some true)
  (att_Q8:W.subIn K (.ref Q8) (.type "AttributeError")=some false)
  (nam_Q8:W.subIn K (.ref Q8) (.type "NameError")=some false)
  (kp_Q8:W.keepIn K (.ref Q8)=true)
  (a_Q9:W.nsIn K mainGlobals "NoCall"=some (some (.ref Q9)))
  (cl_Q9:W.isClsIn K Q9=true)
  (ty_Q9:W.typeIn K (.ref Q9)=some (.type "type"))
  (a_Q10:W.nsIn K mainGlobals "NoLine"=some (some (.ref Q10)))
  (cl_Q10:W.isClsIn K Q10=true)
  (ty_Q10:W.typeIn K (.ref Q10)=some (.type "type"))
  (a_Q11:W.nsIn K mainGlobals "NoPlace"=some (some (.ref Q11)))
  (cl_Q11:W.isClsIn K Q11=true)
  (ty_Q11:W.typeIn K (.ref Q11)=some (.type "type"))
  (a_Q12:W.nsIn K mainGlobals "NoWeights"=some (some (.ref Q12)))
  (cl_Q12:W.isClsIn K Q12=true)
  (ty_Q12:W.typeIn K (.ref Q12)=some (.type "type"))
  (a_Q13:W.nsIn K mainGlobals "NoTerm"=some (some (.ref Q13)))
  (cl_Q13:W.isClsIn K Q13=true)
  (ty_Q13:W.typeIn K (.ref Q13)=some (.type "type"))
  (a_Q14:W.nsIn K mainGlobals "NoRow"=some (some (.ref Q14)))
  (cl_Q14:W.isClsIn K Q14=true)
  (ty_Q14:W.typeIn K (.ref Q14)=some (.type "type"))
  (cg_Q:W.specialIn K (.builtin "object.__class__") "__get__"=some (some (.builtin "getset_descriptor.__get__")))
  (ct_Q:W.takesIn K (.builtin "object.__class__")=some true)
  (ga_Q0:W.findIn K (.ref Q0) "__getattribute__"=some (some (.builtin "BaseException.__getattribute__")))
  (gt_Q0:W.findIn K (.ref Q0) "__getattr__"=some none)
  (ca_Q0:W.findIn K (.ref Q0) "__class__"=some (some (.builtin "object.__class__")))
  (ob_Q0:W.mroIn K Q0 (.type "object")=some true)
  (sd_Q0:W.subIn K (.ref Q0) (.ref QD)=some true)
  (s_Q0_0:W.subIn K (.ref Q0) (.ref Q0)=some true)
  (s_Q0_1:W.subIn K (.ref Q0) (.ref Q1)=some false)
  (s_Q0_2:W.subIn K (.ref Q0) (.ref Q2)=some false)
  (s_Q0_3:W.subIn K (.ref Q0) (.ref Q3)=some false)
  (s_Q0_4:W.subIn K (.ref Q0) (.ref Q4)=some false)
  (s_Q0_5:W.subIn K (.ref Q0) (.ref Q5)=some false)
  (s_Q0_6:W.subIn K (.ref Q0) (.ref Q6)=some false)
  (s_Q0_7:W.subIn K (.ref Q0) (.ref Q7)=some false)
  (s_Q0_8:W.subIn K (.ref Q0) (.ref Q8)=some false)
  (s_Q0_9:W.subIn K (.ref Q0) (.ref Q9)=some false)
  (s_Q0_10:W.subIn K (.ref Q0) (.ref Q10)=some false)
  (s_Q0_11:W.subIn K (.ref Q0) (.ref Q11)=some false)
  (s_Q0_12:W.subIn K (.ref Q0) (.ref Q12)=some false)
  (s_Q0_13:W.subIn K (.ref Q0) (.ref Q13)=some false)
  (s_Q0_14:W.subIn K (.ref Q0) (.ref Q14)=some false)
  (ga_Q1:W.findIn K (.ref Q1) "__getattribute__"=some (some (.builtin "BaseException.__getattribute__")))
  (gt_Q1:W.findIn K (.ref Q1) "__getattr__"=some none)
  (ca_Q1:W.findIn K (.ref Q1) "__class__"=some (some (.builtin "object.__class__")))
  (ob_Q1:W.mroIn K Q1 (.type "object")=some true)
  (sd_Q1:W.subIn K (.ref Q1) (.ref QD)=some true)
  (s_Q1_0:W.subIn K (.ref Q1) (.ref Q0)=some false)
  (s_Q1_1:W.subIn K (.ref Q1) (.ref Q1)=some true)
  (s_Q1_2:W.subIn K (.ref Q1) (.ref Q2)=some false)
  (s_Q1_3:W.subIn K (.ref Q1) (.ref Q3)=some false)
  (s_Q1_4:W.subIn K (.ref Q1) (.ref Q4)=some false)
  (s_Q1_5:W.subIn K (.ref Q1) (.ref Q5)=some false)
  (s_Q1_6:W.subIn K (.ref Q1) (.ref Q6)=some false)
  (s_Q1_7:W.subIn K (.ref Q1) (.ref Q7)=some false)
  (s_Q1_8:W.subIn K (.ref Q1) (.ref Q8)=some false)
  (s_Q1_9:W.subIn K (.ref Q1) (.ref Q9)=some false)
  (s_Q1_10:W.subIn K (.ref Q1) (.ref Q10)=some false)
  (s_Q1_11:W.subIn K (.ref Q1) (.ref Q11)=some false)
  (s_Q1_12:W.subIn K (.ref Q1) (.ref Q12)=some false)
  (s_Q1_13:W.subIn K (.ref Q1) (.ref Q13)=some false)
  (s_Q1_14:W.subIn K (.ref Q1) (.ref Q14)=some false)
  (ga_Q3:W.findIn K (.ref Q3) "__getattribute__"=some (some (.builtin "BaseException.__getattribute__")))
  (gt_Q3:W.findIn K (.ref Q3) "__getattr__"=some none)
  (ca_Q3:W.findIn K (.ref Q3) "__class__"=some (some (.builtin "object.__class__")))
  (ob_Q3:W.mroIn K Q3 (.type "object")=some true)
  (sd_Q3:W.subIn K (.ref Q3) (.ref QD)=some true)
  (s_Q3_0:W.subIn K (.ref Q3) (.ref Q0)=some false)
  (s_Q3_1:W.subIn K (.ref Q3) (.ref Q1)=some false)
  (s_Q3_2:W.subIn K (.ref Q3) (.ref Q2)=some false)
  (s_Q3_3:W.subIn K (.ref Q3) (.ref Q3)=some true)
  (s_Q3_4:W.subIn K (.ref Q3) (.ref Q4)=some false)
  (s_Q3_5:W.subIn K (.ref Q3) (.ref Q5)=some false)
  (s_Q3_6:W.subIn K (.ref Q3) (.ref Q6)=some false)
  (s_Q3_7:W.subIn K (.ref Q3) (.ref Q7)=some false)
  (s_Q3_8:W.subIn K (.ref Q3) (.ref Q8)=some false)
  (s_Q3_9:W.subIn K (.ref Q3) (.ref Q9)=some false)
  (s_Q3_10:W.subIn K (.ref Q3) (.ref Q10)=some false)
  (s_Q3_11:W.subIn K (.ref Q3) (.ref Q11)=some false)
  (s_Q3_12:W.subIn K (.ref Q3) (.ref Q12)=some false)
  (s_Q3_13:W.subIn K (.ref Q3) (.ref Q13)=some false)
  (s_Q3_14:W.subIn K (.ref Q3) (.ref Q14)=some false)
  (ga_Q4:W.findIn K (.ref Q4) "__getattribute__"=some (some (.builtin "BaseException.__getattribute__")))
  (gt_Q4:W.findIn K (.ref Q4) "__getattr__"=some none)
  (ca_Q4:W.findIn K (.ref Q4) "__class__"=some (some (.builtin "object.__class__")))
  (ob_Q4:W.mroIn K Q4 (.type "object")=some true)
  (sd_Q4:W.subIn K (.ref Q4) (.ref QD)=some true)
  (s_Q4_0:W.subIn K (.ref Q4) (.ref Q0)=some false)
  (s_Q4_1:W.subIn K (.ref Q4) (.ref Q1)=some false)
  (s_Q4_2:W.subIn K (.ref Q4) (.ref Q2)=some false)
  (s_Q4_3:W.subIn K (.ref Q4) (.ref Q3)=some false)
  (s_Q4_4:W.subIn K (.ref Q4) (.ref Q4)=some true)
  (s_Q4_5:W.subIn K (.ref Q4) (.ref Q5)=some false)
  (s_Q4_6:W.subIn K (.ref Q4) (.ref Q6)=some false)
  (s_Q4_7:W.subIn K (.ref Q4) (.ref Q7)=some false)
  (s_Q4_8:W.subIn K (.ref Q4) (.ref Q8)=some false)
  (s_Q4_9:W.subIn K (.ref Q4) (.ref Q9)=some false)
  (s_Q4_10:W.subIn K (.ref Q4) (.ref Q10)=some false)
  (s_Q4_11:W.subIn K (.ref Q4) (.ref Q11)=some false)
  (s_Q4_12:W.subIn K (.ref Q4) (.ref Q12)=some false)
  (s_Q4_13:W.subIn K (.ref Q4) (.ref Q13)=some false)
  (s_Q4_14:W.subIn K (.ref Q4) (.ref Q14)=some false)
  (ga_Q5:W.findIn K (.ref Q5) "__getattribute__"=some (some (.builtin "BaseException.__getattribute__")))
  (gt_Q5:W.findIn K (.ref Q5) "__getattr__"=some none)
  (ca_Q5:W.findIn K (.ref Q5) "__class__"=some (some (.builtin "object.__class__")))
  (ob_Q5:W.mroIn K Q5 (.type "object")=some true)
  (sd_Q5:W.subIn K (.ref Q5) (.ref QD)=some true)
  (s_Q5_0:W.subIn K (.ref Q5) (.ref Q0)=some false)
  (s_Q5_1:W.subIn K (.ref Q5) (.ref Q1)=some false)
  (s_Q5_2:W.subIn K (.ref Q5) (.ref Q2)=some false)
  (s_Q5_3:W.subIn K (.ref Q5) (.ref Q3)=some false)
  (s_Q5_4:W.subIn K (.ref Q5) (.ref Q4)=some false)
  (s_Q5_5:W.subIn K (.ref Q5) (.ref Q5)=some true)
  (s_Q5_6:W.subIn K (.ref Q5) (.ref Q6)=some false)
  (s_Q5_7:W.subIn K (.ref Q5) (.ref Q7)=some false)
  (s_Q5_8:W.subIn K (.ref Q5) (.ref Q8)=some false)
  (s_Q5_9:W.subIn K (.ref Q5) (.ref Q9)=some false)
  (s_Q5_10:W.subIn K (.ref Q5) (.ref Q10)=some false)
  (s_Q5_11:W.subIn K (.ref Q5) (.ref Q11)=some false)
  (s_Q5_12:W.subIn K (.ref Q5) (.ref Q12)=some false)
  (s_Q5_13:W.subIn K (.ref Q5) (.ref Q13)=some false)
  (s_Q5_14:W.subIn K (.ref Q5) (.ref Q14)=some false)
  (ga_Q7:W.findIn K (.ref Q7) "__getattribute__"=some (some (.builtin "BaseException.__getattribute__")))
  (gt_Q7:W.findIn K (.ref Q7) "__getattr__"=some none)
  (ca_Q7:W.findIn K (.ref Q7) "__class__"=some (some (.builtin "object.__class__")))
  (ob_Q7:W.mroIn K Q7 (.type "object")=some true)
  (sd_Q7:W.subIn K (.ref Q7) (.ref QD)=some true)
  (s_Q7_0:W.subIn K (.ref Q7) (.ref Q0)=some false)
  (s_Q7_1:W.subIn K (.ref Q7) (.ref Q1)=some false)
  (s_Q7_2:W.subIn K (.ref Q7) (.ref Q2)=some false)
  (s_Q7_3:W.subIn K (.ref Q7) (.ref Q3)=some false)
  (s_Q7_4:W.subIn K (.ref Q7) (.ref Q4)=some false)
  (s_Q7_5:W.subIn K (.ref Q7) (.ref Q5)=some false)
  (s_Q7_6:W.subIn K (.ref Q7) (.ref Q6)=some false)
  (s_Q7_7:W.subIn K (.ref Q7) (.ref Q7)=some true)
  (s_Q7_8:W.subIn K (.ref Q7) (.ref Q8)=some false)
  (s_Q7_9:W.subIn K (.ref Q7) (.ref Q9)=some false)
  (s_Q7_10:W.subIn K (.ref Q7) (.ref Q10)=some false)
  (s_Q7_11:W.subIn K (.ref Q7) (.ref Q11)=some false)
  (s_Q7_12:W.subIn K (.ref Q7) (.ref Q12)=some false)
  (s_Q7_13:W.subIn K (.ref Q7) (.ref Q13)=some false)
  (s_Q7_14:W.subIn K (.ref Q7) (.ref Q14)=some false)
  (in_Q7:W.findIn K (.ref Q7) "__init__"=some (some (.builtin "ValueError.__init__")))
  (ga_Q8:W.findIn K (.ref Q8) "__getattribute__"=some (some (.builtin "BaseException.__getattribute__")))
  (gt_Q8:W.findIn K (.ref Q8) "__getattr__"=some none)
  (ca_Q8:W.findIn K (.ref Q8) "__class__"=some (some (.builtin "object.__class__")))
  (ob_Q8:W.mroIn K Q8 (.type "object")=some true)
  (sd_Q8:W.subIn K (.ref Q8) (.ref QD)=some true)
  (s_Q8_0:W.subIn K (.ref Q8) (.ref Q0)=some false)
  (s_Q8_1:W.subIn K (.ref Q8) (.ref Q1)=some false)
  (s_Q8_2:W.subIn K (.ref Q8) (.ref Q2)=some false)
  (s_Q8_3:W.subIn K (.ref Q8) (.ref Q3)=some false)
  (s_Q8_4:W.subIn K (.ref Q8) (.ref Q4)=some false)
  (s_Q8_5:W.subIn K (.ref Q8) (.ref Q5)=some false)
  (s_Q8_6:W.subIn K (.ref Q8) (.ref Q6)=some false)
  (s_Q8_7:W.subIn K (.ref Q8) (.ref Q7)=some false)
  (s_Q8_8:W.subIn K (.ref Q8) (.ref Q8)=some true)
  (s_Q8_9:W.subIn K (.ref Q8) (.ref Q9)=some false)
  (s_Q8_10:W.subIn K (.ref Q8) (.ref Q10)=some false)
  (s_Q8_11:W.subIn K (.ref Q8) (.ref Q11)=some false)
  (s_Q8_12:W.subIn K (.ref Q8) (.ref Q12)=some false)
  (s_Q8_13:W.subIn K (.ref Q8) (.ref Q13)=some false)
  (s_Q8_14:W.subIn K (.ref Q8) (.ref Q14)=some false)
  (in_Q8:W.findIn K (.ref Q8) "__init__"=some (some (.builtin "ValueError.__init__")))
  (sa_Q0:W.findIn K (.ref Q0) "__setattr__"=some (some (.builtin "object.__setattr__")))
  (na_Q0:W.findIn K (.ref Q0) "word"=some none)
  (sa_Q1:W.findIn K (.ref Q1) "__setattr__"=some (some (.builtin "object.__setattr__")))
  (na_Q1:W.findIn K (.ref Q1) "word"=some none)
  (sa_Q3:W.findIn K (.ref Q3) "__setattr__"=some (some (.builtin "object.__setattr__")))
  (na_Q3:W.findIn K (.ref Q3) "ring"=some none)
  (sa_Q4:W.findIn K (.ref Q4) "__setattr__"=some (some (.builtin "object.__setattr__")))
  (na_Q4:W.findIn K (.ref Q4) "number"=some none)
  (sa_Q5:W.findIn K (.ref Q5) "__setattr__"=some (some (.builtin "object.__setattr__")))
  (na_Q5:W.findIn K (.ref Q5) "number"=some none)
  (ga_QD:W.specialIn K (.ref QD) "__getattribute__"=some (some (.builtin "type.__getattribute__")))
  (rd_QD:W.readsIn K QD (.type "type")=true)
  (fi_QD:W.findCls K (.ref QD) (.type "type") "__init__"=some (.val (.builtin "ValueError.__init__")))
  (TC:Cp K "Kinds" C)
  (TB:Cp K "Board" B)
  (T_mI:Mp K C "__init__" "Kinds.__init__" Zcu f_mI d_mI)
  (T_mH:Mp K C "has" "Kinds.has" Zfe f_mH d_mH)
  (T_mC:Mp K C "check" "Kinds.check" Zcj f_mC d_mC)
  (T_mUn:Mp K C "under" "Kinds.under" Zd2 f_mUn d_mUn)
  (T_mW:Mp K C "words" "Kinds.words" Zd1 f_mW d_mW)
  (T_mM:Mp K C "more" "Kinds.more" Zes f_mM d_mM)
  (T_mT:Mp K C "tied" "Kinds.tied" Zdq f_mT d_mT)
  (T_mR:Mp K C "rows" "Kinds.rows" Zer f_mR d_mR)
  (T_bI:Mp K B "__init__" "Board.__init__" Zcv f_bI d_bI)
  (T_bK:Mp K B "kinds" "Board.kinds" Zd3 f_bK d_bK)
  (T_bP:Mp K B "places" "Board.places" Zdl f_bP d_bP)
  (T_bD:Mp K B "deeds" "Board.deeds" Zd4 f_bD d_bD)
  (T_bM:Mp K B "more" "Board.more" Zeu f_bM d_bM)
  (T_bO:Mp K B "over" "Board.over" Zet f_bO d_bO)
  (T_bC:Mp K B "calls" "Board.calls" Zd5 f_bC d_bC)
  (T_bS:Mp K B "check_size" "Board.check_size" Zb8 f_bS d_bS)
  (T_x0:Mp K Q0 "__init__" "NoKind.__init__" Zdf f_x0 d_x0)
  (T_x1:Mp K Q1 "__init__" "Twice.__init__" Zdx f_x1 d_x1)
  (T_x3:Mp K Q3 "__init__" "Ring.__init__" Zee f_x3 d_x3)
  (T_x4:Mp K Q4 "__init__" "NoDeed.__init__" Zdg f_x4 d_x4)
  (T_x5:Mp K Q5 "__init__" "Same.__init__" Zed f_x5 d_x5)
  (tf_x0:W.typeIn K (.ref f_x0)=some (.type "function"))
  (tf_x1:W.typeIn K (.ref f_x1)=some (.type "function"))
  (tf_x3:W.typeIn K (.ref f_x3)=some (.type "function"))
  (tf_x4:W.typeIn K (.ref f_x4)=some (.type "function"))
  (tf_x5:W.typeIn K (.ref f_x5)=some (.type "function"))
  (T_w:Tp K "is_word" Zdn f_w d_w)
  (T_cr:Tp K "check_rows" Zcy f_cr d_cr)
  (T_cu:Tp K "check_ups" Zde f_cu d_cu)
  (T_fa:Tp K "first_among" Zbi f_fa d_fa)
  (T_en:Tp K "endless" Zcq f_en d_en)
  (T_fr:Tp K "find_ring" Zdd f_fr d_fr)
  (T_aa:Tp K "all_above" Zfd f_aa d_aa)
  (T_P:Tp K "_law_pot" Zgc f_P d_P)
  (T_T:Tp K "_law_take" Zcw f_T d_T)
  (T_Le:Tp K "_law_letters" Zdk f_Le d_Le)
  (T_A:Tp K "_law_above" Zeq f_A d_A)
  (T_ic:Tp K "is_call" Zcp f_ic d_ic)
  (T_cd:Tp K "check_deeds" Zci f_cd d_cd)
  (T_cc:Tp K "check_call" Zel f_cc d_cc)
  (T_wi:Tp K "within" Zfc f_wi d_wi)
  (T_fi:Tp K "fitting" Zfq f_fi d_fi)
  (T_nw:Tp K "nearest_with" Zb5 f_nw d_nw)
  (T_na:Tp K "nearest_among" Zc4 f_na d_na)
  (T_ne:Tp K "nearest" Zg8 f_ne d_ne)
  (T_to:Tp K "told_of" Zg7 f_to d_to)
  (T_td:Tp K "told" Zms f_td d_td)
  (T_oe:Tp K "one_of_each" Zc3 f_oe d_oe)
  (T_lc:Tp K "_law_calls" Zdp f_lc d_lc)
  (T_al:Tp K "_law_alone" Zep f_al d_al)
  (T_ot:Tp K "told_otherwise" Zbh f_ot d_ot)
  (T_hu:Tp K "has_under" Zec f_hu d_hu)
  (T_bd:Tp K "by_deed" Zfs f_bd d_bd)
  (T_bk:Tp K "by_kind" Zfr f_bk d_bk)
  (T_bt:Tp K "by_tie" Zg9 f_bt d_bt)
  (T_wh:Tp K "_law_whole" Zem f_wh d_wh)
  (T_bo:Tp K "_law_board" Zcd f_bo d_bo)
  (T_wr:Tp K "_law_wrong" Zdo f_wr d_wr)
  (T_mu:Tp K "_law_more_ups" Zbx f_mu d_mu)
  (T_dd:Tp K "_law_due_deed" Zcc f_dd d_dd)
  (T_iw:Tp K "_law_is_word" Zcr f_iw d_iw)
  (T_dk:Tp K "_law_due_kind" Zc5 f_dk d_dk)
  (T_dt:Tp K "_law_due_tie" Zcs f_dt d_dt)
  (T_lg:Tp K "_law_large" Zeo f_lg d_lg)
  (T_as:Tp K "_law_ask" Zgd f_as d_as)
  (T_ri:Tp K "_law_right" Zen f_ri d_ri)
  (T_L:Tp K "law" Zve f_L d_L)
  (n_ups_of:W.findIn K (.ref C) "ups_of"=some none)
  (n_above_of:W.findIn K (.ref C) "above_of"=some none)
  (n_book_B:W.findIn K (.ref B) "book"=some none)
  (n_width_B:W.findIn K (.ref B) "width"=some none)
  (n_stands_B:W.findIn K (.ref B) "stands"=some none)
  (n_has_B:W.findIn K (.ref B) "has"=some none)
  (g_LETTERS:W.nsIn K mainGlobals "LETTERS"=some (some (.str Md.letters T_LETTERS)))
  (g_MOST_LETTERS:W.nsIn K mainGlobals "MOST_LETTERS"=some (some (.int 8 T_MOST_LETTERS)))
  (g_MOST_KINDS:W.nsIn K mainGlobals "MOST_KINDS"=some (some (.int 24 T_MOST_KINDS)))
  (g_MOST_UPS:W.nsIn K mainGlobals "MOST_UPS"=some (some (.int 8 T_MOST_UPS)))
  (g_MOST_PLACES:W.nsIn K mainGlobals "MOST_PLACES"=some (some (.int 4 T_MOST_PLACES)))
  (g_MOST_DEEDS:W.nsIn K mainGlobals "MOST_DEEDS"=some (some (.int 64 T_MOST_DEEDS)))
  (g_MOST_CALLS:W.nsIn K mainGlobals "MOST_CALLS"=some (some (.int 512 T_MOST_CALLS)))
  (z_len:W.nsIn K mainGlobals "len"=some none)
  (z_all:W.nsIn K mainGlobals "all"=some none)
  (z_any:W.nsIn K mainGlobals "any"=some none)
  (z_list:W.nsIn K mainGlobals "list"=some none)
  (z_tuple:W.nsIn K mainGlobals "tuple"=some none)
  (z_range:W.nsIn K mainGlobals "range"=some none)
  (z_int:W.nsIn K mainGlobals "int"=some none)
  (z_isinstance:W.nsIn K mainGlobals "isinstance"=some none)
  (z_zip:W.nsIn K mainGlobals "zip"=some none)
  (z_enumerate:W.nsIn K mainGlobals "enumerate"=some none)
  (z_bool:W.nsIn K mainGlobals "bool"=some none)
  (z_ValueError:W.nsIn K mainGlobals "ValueError"=some none)
  : ∃ fd:FuncData,(∀ (s:Shared) (v:Value),BindsTo s fd ⟨[v],[]⟩ [("script",v)])∧∀ base:Heap,K.In base→base.Ns mainGlobals mg→Zaq l.prog w K mg base CX0 13 fa fd ["script"] (Zvc K):=by
 have e:=hfa.symm.trans (W.mg_of X G T_L.a)
 cases e
 obtain ⟨_,_,_,_,_,_,rfl⟩:=Tp.ex T_L.fn
 have mgC_LETTERS:=W.mg_of X G g_LETTERS
 have mgC_MOST_LETTERS:=W.mg_of X G g_MOST_LETTERS
 have mgC_MOST_KINDS:=W.mg_of X G g_MOST_KINDS
 have mgC_MOST_UPS:=W.mg_of X G g_MOST_UPS
 have mgC_MOST_PLACES:=W.mg_of X G g_MOST_PLACES
 have mgC_MOST_DEEDS:=W.mg_of X G g_MOST_DEEDS
 have mgC_MOST_CALLS:=W.mg_of X G g_MOST_CALLS
 have mgN_len:=W.mg_none_of X G z_len
 have mgN_all:=W.mg_none_of X G z_all
 have mgN_any:=W.mg_none_of X G z_any
 have mgN_list:=W.mg_none_of X G z_list
 have mgN_tuple:=W.mg_none_of X G z_tuple
 have mgN_range:=W.mg_none_of X G z_range
 have mgN_int:=W.mg_none_of X G z_int
 have mgN_isinstance:=W.mg_none_of X G z_isinstance
 have mgN_zip:=W.mg_none_of X G z_zip
 have mgN_enumerate:=W.mg_none_of X G z_enumerate
 have mgN_bool:=W.mg_none_of X G z_bool
 have mgN_ValueError:=W.mg_none_of X G z_ValueError
 obtain ⟨aC,pg,hd,po,sa,mk,kc⟩:=TC
 have mgC:=W.mg_of X G aC
 have M:Mk K C f_mI:=⟨mk,T_mI.a,T_mI.i,kc⟩
 obtain ⟨aB,pg_B,hd_B,po_B,sa_B,mk_B,kc_B⟩:=TB
 have mgB:=W.mg_of X G aB
 have M_B:Mk K B f_bI:=⟨mk_B,T_bI.a,T_bI.i,kc_B⟩
 have F_mI:=T_mI.fn
 have b_mI:=bn2 "self" "rows" T_mI.fn
 have a_mH:=T_mH.a
 have M_mH:=md T_mH (bn2 "self" "word" T_mH.fn)
 have M_mC:=md T_mC (bn2 "self" "word" T_mC.fn)
 have M_mUn:=md T_mUn (bn3 "self" "one" "other" T_mUn.fn)
 have M_mW:=md T_mW (bn1 "self" T_mW.fn)
 have M_mM:=md T_mM (bn3 "self" "word" "ups" T_mM.fn)
 have M_mT:=md T_mT (bn3 "self" "one" "other" T_mT.fn)
 have M_mR:=md T_mR (bn1 "self" T_mR.fn)
 have F_bI:=T_bI.fn
 have b_bI:=bn4 "self" "kinds" "places" "deeds" T_bI.fn
 have M_bK:=md T_bK (bn1 "self" T_bK.fn)
 have M_bP:=md T_bP (bn1 "self" T_bP.fn)
 have M_bD:=md T_bD (bn1 "self" T_bD.fn)
 have M_bM:=md T_bM (bn2 "self" "call" T_bM.fn)
 have M_bO:=md T_bO (bn2 "self" "kinds" T_bO.fn)
 have M_bC:=md T_bC (bn1 "self" T_bC.fn)
 have M_bS:=md T_bS (bn1 "self" T_bS.fn)
 have F_x0:=T_x0.fn
 have a_x0:=T_x0.a
 have b_x0:=bn2 "self" "word" T_x0.fn
 have F_x1:=T_x1.fn
 have a_x1:=T_x1.a
 have b_x1:=bn2 "self" "word" T_x1.fn
 have F_x3:=T_x3.fn
 have a_x3:=T_x3.a
 have b_x3:=bn2 "self" "ring" T_x3.fn
 have F_x4:=T_x4.fn
 have a_x4:=T_x4.a
 have b_x4:=bn2 "self" "number" T_x4.fn
 have F_x5:=T_x5.fn
 have a_x5:=T_x5.a
 have b_x5:=bn2 "self" "number" T_x5.fn
 have D_w:=df X G T_w (bn1 "text" T_w.fn)
 have D_cr:=df X G T_cr (bn1 "rows" T_cr.fn)
 have D_cu:=df X G T_cu (bn1 "ups_of" T_cu.fn)
 have D_fa:=df X G T_fa (bn2 "words" "others" T_fa.fn)
 have D_en:=df X G T_en (bn1 "ups_of" T_en.fn)
 have D_fr:=df X G T_fr (bn1 "ups_of" T_fr.fn)
 have D_aa:=df X G T_aa (bn2 "ups_of" "word" T_aa.fn)
 have D_P:=df X G T_P (bn2 "script" "k" T_P.fn)
 have D_T:=df X G T_T (bn2 "pot" "many" T_T.fn)
 have D_Le:=df X G T_Le (bn1 "number" T_Le.fn)
 have D_A:=df X G T_A (bn1 "rows" T_A.fn)
 have D_ic:=df X G T_ic (bn3 "kinds" "places" "call" T_ic.fn)
 have D_cd:=df X G T_cd (bn3 "kinds" "places" "deeds" T_cd.fn)
 have D_cc:=df X G T_cc (bn3 "kinds" "places" "call" T_cc.fn)
 have D_wi:=df X G T_wi (bn3 "kinds" "one" "other" T_wi.fn)
 have D_fi:=df X G T_fi (bn2 "board" "call" T_fi.fn)
 have D_nw:=df X G T_nw (bn4 "kinds" "deeds" "near" "number" T_nw.fn)
 have D_na:=df X G T_na (bn2 "board" "numbers" T_na.fn)
 have D_ne:=df X G T_ne (bn2 "board" "call" T_ne.fn)
 have D_to:=df X G T_to (bn1 "near" T_to.fn)
 have D_td:=df X G T_td (bn2 "board" "call" T_td.fn)
 have D_oe:=df X G T_oe (bn1 "rows" T_oe.fn)
 have D_lc:=df X G T_lc (bn2 "words" "places" T_lc.fn)
 have D_al:=df X G T_al (bn2 "e" "place" T_al.fn)
 have D_ot:=df X G T_ot (bn3 "before" "after" "calls" T_ot.fn)
 have D_hu:=df X G T_hu (bn3 "kinds" "call" "high" T_hu.fn)
 have D_bd:=df X G T_bd (bn2 "board" "call" T_bd.fn)
 have D_bk:=df X G T_bk (bn3 "board" "word" "ups" T_bk.fn)
 have D_bt:=df X G T_bt (bn3 "board" "one" "other" T_bt.fn)
 have D_wh:=df X G T_wh (bn1 "found" T_wh.fn)
 have D_bo:=df X G T_bo (bn1 "pot" T_bo.fn)
 have D_wr:=df X G T_wr (bn2 "pot" "words" T_wr.fn)
 have D_mu:=df X G T_mu (bn3 "pot" "words" "word" T_mu.fn)
 have D_dd:=df X G T_dd (bn5 "words" "places" "deeds" "large" "call" T_dd.fn)
 have D_iw:=df X G T_iw (bn1 "text" T_iw.fn)
 have D_dk:=df X G T_dk (bn4 "words" "large" "word" "ups" T_dk.fn)
 have D_dt:=df X G T_dt (bn5 "rows" "above" "large" "one" "other" T_dt.fn)
 have D_lg:=df X G T_lg (bn2 "many" "places" T_lg.fn)
 have D_as:=df X G T_as (bn3 "which" "subject" "things" T_as.fn)
 have D_ri:=df X G T_ri (bn4 "which" "subject" "things" "due" T_ri.fn)
 have D_L:=df X G T_L (bn1 "script" T_L.fn)
 have DD:DIn K QD:=⟨ga_QD,rd_QD,fi_QD⟩
 have TD:Z3p K mg QD:=⟨W.mg_of X G a_QD,⟨⟨_,_,_,_,_,_,_,_,_,_,_,_,_,_,_,_,l_QD⟩,val_QD,bas_QD,att_QD,nam_QD,kp_QD⟩,cl_QD,ty_QD⟩
 have TF:Zuz K mg (fif Q0 Q1 Q2 Q3 Q4 Q5 Q6 Q7 Q8 Q9 Q10 Q11 Q12 Q13 Q14):=⟨W.mg_of X G a_Q0,W.mg_of X G a_Q1,W.mg_of X G a_Q2,W.mg_of X G a_Q3,W.mg_of X G a_Q4,W.mg_of X G a_Q5,W.mg_of X G a_Q6,W.mg_of X G a_Q7,W.mg_of X G a_Q8,W.mg_of X G a_Q9,W.mg_of X G a_Q10,W.mg_of X G a_Q11,W.mg_of X G a_Q12,W.mg_of X G a_Q13,W.mg_of X G a_Q14,Zl5 cl_Q0 cl_Q1 cl_Q2 cl_Q3 cl_Q4 cl_Q5 cl_Q6 cl_Q7 cl_Q8 cl_Q9 cl_Q10 cl_Q11 cl_Q12 cl_Q13 cl_Q14,Zl5 ty_Q0 ty_Q1 ty_Q2 ty_Q3 ty_Q4 ty_Q5 ty_Q6 ty_Q7 ty_Q8 ty_Q9 ty_Q10 ty_Q11 ty_Q12 ty_Q13 ty_Q14⟩
 have O0:Zg0 K QD (fif Q0 Q1 Q2 Q3 Q4 Q5 Q6 Q7 Q8 Q9 Q10 Q11 Q12 Q13 Q14) 0:=⟨⟨⟨⟨_,_,_,_,_,_,_,_,_,_,_,_,_,_,_,_,l_Q0⟩,val_Q0,bas_Q0,att_Q0,nam_Q0,kp_Q0⟩,ga_Q0,gt_Q0,ca_Q0,cg_Q,ct_Q,ob_Q0⟩,sd_Q0,Zl5 s_Q0_0 s_Q0_1 s_Q0_2 s_Q0_3 s_Q0_4 s_Q0_5 s_Q0_6 s_Q0_7 s_Q0_8 s_Q0_9 s_Q0_10 s_Q0_11 s_Q0_12 s_Q0_13 s_Q0_14⟩
 have I0:ExI K Q0 QD "word":=⟨⟨⟨⟨_,_,_,_,_,_,_,_,_,_,_,_,_,_,_,_,l_Q0⟩,val_Q0,bas_Q0,att_Q0,nam_Q0,kp_Q0⟩,ga_Q0,gt_Q0,ca_Q0,cg_Q,ct_Q,ob_Q0⟩,⟨_,_,_,_,_,_,_,_,_,_,_,_,_,_,l_Q0⟩,sa_Q0,na_Q0⟩
 have mgQ0:=W.mg_of X G a_Q0
 have O1:Zg0 K QD (fif Q0 Q1 Q2 Q3 Q4 Q5 Q6 Q7 Q8 Q9 Q10 Q11 Q12 Q13 Q14) 1:=⟨⟨⟨⟨_,_,_,_,_,_,_,_,_,_,_,_,_,_,_,_,l_Q1⟩,val_Q1,bas_Q1,att_Q1,nam_Q1,kp_Q1⟩,ga_Q1,gt_Q1,ca_Q1,cg_Q,ct_Q,ob_Q1⟩,sd_Q1,Zl5 s_Q1_0 s_Q1_1 s_Q1_2 s_Q1_3 s_Q1_4 s_Q1_5 s_Q1_6 s_Q1_7 s_Q1_8 s_Q1_9 s_Q1_10 s_Q1_11 s_Q1_12 s_Q1_13 s_Q1_14⟩
 have I1:ExI K Q1 QD "word":=⟨⟨⟨⟨_,_,_,_,_,_,_,_,_,_,_,_,_,_,_,_,l_Q1⟩,val_Q1,bas_Q1,att_Q1,nam_Q1,kp_Q1⟩,ga_Q1,gt_Q1,ca_Q1,cg_Q,ct_Q,ob_Q1⟩,⟨_,_,_,_,_,_,_,_,_,_,_,_,_,_,l_Q1⟩,sa_Q1,na_Q1⟩
 have mgQ1:=W.mg_of X G a_Q1
 have O3:Zg0 K QD (fif Q0 Q1 Q2 Q3 Q4 Q5 Q6 Q7 Q8 Q9 Q10 Q11 Q12 Q13 Q14) 3:=⟨⟨⟨⟨_,_,_,_,_,_,_,_,_,_,_,_,_,_,_,_,l_Q3⟩,val_Q3,bas_Q3,att_Q3,nam_Q3,kp_Q3⟩,ga_Q3,gt_Q3,ca_Q3,cg_Q,ct_Q,ob_Q3⟩,sd_Q3,Zl5 s_Q3_0 s_Q3_1 s_Q3_2 s_Q3_3 s_Q3_4 s_Q3_5 s_Q3_6 s_Q3_7 s_Q3_8 s_Q3_9 s_Q3_10 s_Q3_11 s_Q3_12 s_Q3_13 s_Q3_14⟩
 have I3:ExI K Q3 QD "ring":=⟨⟨⟨⟨_,_,_,_,_,_,_,_,_,_,_,_,_,_,_,_,l_Q3⟩,val_Q3,bas_Q3,att_Q3,nam_Q3,kp_Q3⟩,ga_Q3,gt_Q3,ca_Q3,cg_Q,ct_Q,ob_Q3⟩,⟨_,_,_,_,_,_,_,_,_,_,_,_,_,_,l_Q3⟩,sa_Q3,na_Q3⟩
 have mgQ3:=W.mg_of X G a_Q3
 have O4:Zg0 K QD (fif Q0 Q1 Q2 Q3 Q4 Q5 Q6 Q7 Q8 Q9 Q10 Q11 Q12 Q13 Q14) 4:=⟨⟨⟨⟨_,_,_,_,_,_,_,_,_,_,_,_,_,_,_,_,l_Q4⟩,val_Q4,bas_Q4,att_Q4,nam_Q4,kp_Q4⟩,ga_Q4,gt_Q4,ca_Q4,cg_Q,ct_Q,ob_Q4⟩,sd_Q4,Zl5 s_Q4_0 s_Q4_1 s_Q4_2 s_Q4_3 s_Q4_4 s_Q4_5 s_Q4_6 s_Q4_7 s_Q4_8 s_Q4_9 s_Q4_10 s_Q4_11 s_Q4_12 s_Q4_13 s_Q4_14⟩
 have I4:ExI K Q4 QD "number":=⟨⟨⟨⟨_,_,_,_,_,_,_,_,_,_,_,_,_,_,_,_,l_Q4⟩,val_Q4,bas_Q4,att_Q4,nam_Q4,kp_Q4⟩,ga_Q4,gt_Q4,ca_Q4,cg_Q,ct_Q,ob_Q4⟩,⟨_,_,_,_,_,_,_,_,_,_,_,_,_,_,l_Q4⟩,sa_Q4,na_Q4⟩
 have mgQ4:=W.mg_of X G a_Q4
 have O5:Zg0 K QD (fif Q0 Q1 Q2 Q3 Q4 Q5 Q6 Q7 Q8 Q9 Q10 Q11 Q12 Q13 Q14) 5:=⟨⟨⟨⟨_,_,_,_,_,_,_,_,_,_,_,_,_,_,_,_,l_Q5⟩,val_Q5,bas_Q5,att_Q5,nam_Q5,kp_Q5⟩,ga_Q5,gt_Q5,ca_Q5,cg_Q,ct_Q,ob_Q5⟩,sd_Q5,Zl5 s_Q5_0 s_Q5_1 s_Q5_2 s_Q5_3 s_Q5_4 s_Q5_5 s_Q5_6 s_Q5_7 s_Q5_8 s_Q5_9 s_Q5_10 s_Q5_11 s_Q5_12 s_Q5_13 s_Q5_14⟩
 have I5:ExI K Q5 QD "number":=⟨⟨⟨⟨_,_,_,_,_,_,_,_,_,_,_,_,_,_,_,_,l_Q5⟩,val_Q5,bas_Q5,att_Q5,nam_Q5,kp_Q5⟩,ga_Q5,gt_Q5,ca_Q5,cg_Q,ct_Q,ob_Q5⟩,⟨_,_,_,_,_,_,_,_,_,_,_,_,_,_,l_Q5⟩,sa_Q5,na_Q5⟩
 have mgQ5:=W.mg_of X G a_Q5
 have O7:Zg0 K QD (fif Q0 Q1 Q2 Q3 Q4 Q5 Q6 Q7 Q8 Q9 Q10 Q11 Q12 Q13 Q14) 7:=⟨⟨⟨⟨_,_,_,_,_,_,_,_,_,_,_,_,_,_,_,_,l_Q7⟩,val_Q7,bas_Q7,att_Q7,nam_Q7,kp_Q7⟩,ga_Q7,gt_Q7,ca_Q7,cg_Q,ct_Q,ob_Q7⟩,sd_Q7,Zl5 s_Q7_0 s_Q7_1 s_Q7_2 s_Q7_3 s_Q7_4 s_Q7_5 s_Q7_6 s_Q7_7 s_Q7_8 s_Q7_9 s_Q7_10 s_Q7_11 s_Q7_12 s_Q7_13 s_Q7_14⟩
 have TP7:Zzu K mg "TooMany" Q7:=⟨W.mg_of X G a_Q7,⟨⟨_,_,_,_,_,_,_,_,_,_,_,_,_,_,_,_,l_Q7⟩,val_Q7,bas_Q7,att_Q7,nam_Q7,kp_Q7⟩,in_Q7⟩
 have O8:Zg0 K QD (fif Q0 Q1 Q2 Q3 Q4 Q5 Q6 Q7 Q8 Q9 Q10 Q11 Q12 Q13 Q14) 8:=⟨⟨⟨⟨_,_,_,_,_,_,_,_,_,_,_,_,_,_,_,_,l_Q8⟩,val_Q8,bas_Q8,att_Q8,nam_Q8,kp_Q8⟩,ga_Q8,gt_Q8,ca_Q8,cg_Q,ct_Q,ob_Q8⟩,sd_Q8,Zl5 s_Q8_0 s_Q8_1 s_Q8_2 s_Q8_3 s_Q8_4 s_Q8_5 s_Q8_6 s_Q8_7 s_Q8_8 s_Q8_9 s_Q8_10 s_Q8_11 s_Q8_12 s_Q8_13 s_Q8_14⟩
 have TP8:Zzu K mg "NoBoard" Q8:=⟨W.mg_of X G a_Q8,⟨⟨_,_,_,_,_,_,_,_,_,_,_,_,_,_,_,_,l_Q8⟩,val_Q8,bas_Q8,att_Q8,nam_Q8,kp_Q8⟩,in_Q8⟩
 have TK:Zu3 mg:=⟨⟨_,mgC_LETTERS⟩,⟨_,mgC_MOST_LETTERS⟩,⟨_,mgC_MOST_KINDS⟩,⟨_,mgC_MOST_UPS⟩,mgN_len,mgN_all,mgN_list,mgN_tuple⟩
 have TC:Zio K C:=⟨⟨pg,hd,po,sa⟩,n_ups_of,n_above_of⟩
 have TBd:Zho K B:=⟨⟨pg_B,hd_B,po_B,sa_B⟩,n_book_B,n_width_B,n_stands_B⟩
 have TBm:Zw3 mg:=⟨⟨_,mgC_MOST_PLACES⟩,⟨_,mgC_MOST_DEEDS⟩,mgN_len,mgN_all,mgN_tuple,mgN_list,mgN_enumerate⟩
 have hBC:B≠C:=fun z=>by rw [z,a_mH] at n_has_B;cases n_has_B
 have TS:Z3h mg:=⟨⟨_,mgC_MOST_CALLS⟩,mgN_len,mgN_range,mgN_list⟩
 exact ⟨_,fun s v=>.of_eq rfl,fun base _ _=>have GI:=Zys (P:=l.prog) (w:=w) (base:=base) F_mI TK TC D_cr D_w D_cu D_fr D_en D_fa D_aa;have GB:=Zv6 (P:=l.prog) (w:=w) (base:=base) F_bI TBm TBd TC D_cd D_ic M_mH hBC;have GP:=Z01 (P:=l.prog) (w:=w) (base:=base) D_P mgN_len;have GT:=Zyq (P:=l.prog) (w:=w) (base:=base) D_T;have E0:Zu0 l.prog w K mg base "NoKind" ((fif Q0 Q1 Q2 Q3 Q4 Q5 Q6 Q7 Q8 Q9 Q10 Q11 Q12 Q13 Q14) 0) "word" (Zn5 ((fif Q0 Q1 Q2 Q3 Q4 Q5 Q6 Q7 Q8 Q9 Q10 Q11 Q12 Q13 Q14) 0) "word" okS) f_x0 _:=⟨mgQ0,I0.toExA.toExC,a_x0,tf_x0,b_x0,Z0y F_x0 I0 DD TD.m⟩;have E1:Zu0 l.prog w K mg base "Twice" ((fif Q0 Q1 Q2 Q3 Q4 Q5 Q6 Q7 Q8 Q9 Q10 Q11 Q12 Q13 Q14) 1) "word" (Zn5 ((fif Q0 Q1 Q2 Q3 Q4 Q5 Q6 Q7 Q8 Q9 Q10 Q11 Q12 Q13 Q14) 1) "word" okS) f_x1 _:=⟨mgQ1,I1.toExA.toExC,a_x1,tf_x1,b_x1,Z0v F_x1 I1 DD TD.m⟩;have E3:Zu0 l.prog w K mg base "Ring" ((fif Q0 Q1 Q2 Q3 Q4 Q5 Q6 Q7 Q8 Q9 Q10 Q11 Q12 Q13 Q14) 3) "ring" (Z0d ((fif Q0 Q1 Q2 Q3 Q4 Q5 Q6 Q7 Q8 Q9 Q10 Q11 Q12 Q13 Q14) 3) "ring") f_x3 _:=⟨mgQ3,I3.toExA.toExC,a_x3,tf_x3,b_x3,Z0x F_x3 mgN_list I3 DD TD.m⟩;have GIT:Zaq l.prog w K mg base (CX1 l.prog w) 4 f_mI _ ["self","rows"] (Zsp K C (fif Q0 Q1 Q2 Q3 Q4 Q5 Q6 Q7 Q8 Q9 Q10 Q11 Q12 Q13 Q14)):=(GI.any (CX:=CX1 l.prog w)).or (Zv4 (C:=C) F_mI TK D_cr D_w D_cu D_fr D_en D_fa E0 E1 E3 TP7);have E4:Zzz l.prog w K mg base "NoDeed" ((fif Q0 Q1 Q2 Q3 Q4 Q5 Q6 Q7 Q8 Q9 Q10 Q11 Q12 Q13 Q14) 4) "number" okN f_x4 _:=⟨mgQ4,I4.toExA.toExC,a_x4,tf_x4,b_x4,Z0z F_x4 I4 DD TD.m⟩;have E5:Zzz l.prog w K mg base "Same" ((fif Q0 Q1 Q2 Q3 Q4 Q5 Q6 Q7 Q8 Q9 Q10 Q11 Q12 Q13 Q14) 5) "number" okN f_x5 _:=⟨mgQ5,I5.toExA.toExC,a_x5,tf_x5,b_x5,Z0w F_x5 I5 DD TD.m⟩;have GBx:=Ztm (B:=B) (Ds:=(fif Q0 Q1 Q2 Q3 Q4 Q5 Q6 Q7 Q8 Q9 Q10 Q11 Q12 Q13 Q14)) F_bI TBm TC D_cd D_ic M_mH E4 E5 TP8;have GBT:Zaq l.prog w K mg base (CX1 l.prog w) 4 f_bI _ nBI (Zpi K C B (fif Q0 Q1 Q2 Q3 Q4 Q5 Q6 Q7 Q8 Q9 Q10 Q11 Q12 Q13 Q14)):=(GB.any (CX:=CX1 l.prog w)).or GBx;have GMo:=Ztl M_bM.fn TBd M_B mgB b_bI GBT;have GOv:=Ztk M_bO.fn TBd M_B mgB b_bI GBT;have GC:=Zth (Ds:=(fif Q0 Q1 Q2 Q3 Q4 Q5 Q6 Q7 Q8 Q9 Q10 Q11 Q12 Q13 Q14)) M_mC.fn TC M_mH E0;have GKM:=Zv2 M_mM.fn TC mgN_list M_mR M mgC b_mI GIT;have GKT:=Zvx M_mT.fn TC M_mC M_mH M mgC b_mI GIT;have GKX:=Zvw M_mT.fn TC M_mC GC;have GCa:=Zti (P:=l.prog) (w:=w) (base:=base) M_bC.fn TS TBd TC TP7 M_mW M_bS D_oe;have GW:=Zm1 (P:=l.prog) (w:=w) (base:=base) D_wi mgN_zip TC M_mUn M_mC M_mH;have GF:=Zq4 (P:=l.prog) (w:=w) (base:=base) D_fi TBm mgN_zip TC TBd M_bK M_bP M_bD D_cc D_wi D_ic M_mUn M_mC M_mH;have GA:=Zlk D_na mgN_list mgN_any TBd M_bK M_bD D_nw D_wi GW;have GN:=Zq0 D_ne D_na GA D_fi GF;have GTd:=Zyp D_td D_ne GN D_to mgN_len;have GOt:=Z02 D_ot D_td GTd;have GHu:=Zm4 D_hu mgN_any TC M_mUn (Zpx M_mUn.fn TC M_mC M_mH);have GBd:=Zq7 D_bd TBd M_bM GMo M_bK M_bC GCa D_wi GW D_ot GOt;have GBt:=Ztj D_bt TBd TC M_mT GKT GKX M_bO GOv M_bK M_bC GCa D_hu GHu D_ot GOt;have GBk:=Zq6 D_bk TBd TC M_mM GKM M_bO GOv M_bK M_bC GCa D_td GTd;have GAs:=Z04 D_as D_bd GBd D_bk GBk D_bt GBt;have GAl:=Zv7 D_al TD TF mgN_isinstance mgN_ValueError;have GWh:=Zvv D_wh ⟨mgN_isinstance,mgN_int,mgN_bool⟩;have GRi:=Zv1 D_ri TD O0 O1 O3 O4 O5 O7 O8 I0 I1 I4 I5 D_as GAs D_al GAl D_wh GWh;have GWr:=Zvu D_wr mgN_len D_T GT;have GLg:=Zv3 D_lg mgN_range;Z03 D_L ⟨mgN_len,mgN_range,mgN_tuple⟩ M mgC b_mI GI M_B mgB b_bI GB D_P GP D_T GT D_bo (Zv5 D_bo ⟨mgN_len,mgN_range,mgN_tuple⟩ D_T GT D_Le (Zq3 D_Le) D_lc (Zte D_lc mgN_range)) D_A (Ztf D_A mgN_len) D_lg GLg D_wr GWr D_mu (Zq1 D_mu mgN_range D_T GT D_wr GWr) D_ri GRi D_dd (Zyv D_dd mgN_len mgN_all mgN_int) D_dk (Zyu D_dk mgN_len mgN_range mgN_int D_iw (Zq2 D_iw mgN_len mgN_all)) D_dt (Zyt D_dt mgN_len mgN_int)⟩
theorem walk {l:W.OpenLaw}{q:Program}{loose:List Str}{XP:(Str→Option Value)→Heap→Prop}{YP:World→Heap→Prop}{d:DefRec}{K:Params→W.Frag}(hn:l.most=some 63) (hdf:d.params.defaults=[])
  (hY:∀ (w:World) (h:Heap),YP w h→(K w.params).In h)
  (F:∀ (w:World) (mg:Str→Option Value) (fa:Addr) (h:Heap),(K w.params).In h→h.Ns mainGlobals mg→mg d.name=some (.ref fa) →
   ∃ fd:FuncData,(∀ (s:Shared) (u:Value),BindsTo s fd ⟨[u],[]⟩ [("script",u)])∧∀ base:Heap,(K w.params).In base→base.Ns mainGlobals mg→Zaq l.prog w (K w.params) mg base CX0 13 fa fd ["script"] (Zvc (K w.params))):
  W.WalkO q loose XP YP l.row.toRowW d [] (fun f vs=>PySem.call f vs):=
 L2.walk_of (n:=63) (k:=13) (x:="script") (CX:=fun _=>CX0) (sp:=fun w=>Zvc (K w.params)) hn (by decide) hdf ⟨rfl,by decide,by decide,rfl⟩ hY F (fun _ _ a ns hl _ hS=>⟨a,ns,rfl,hS,hl,fun _=>rfl⟩) fun _ _ _ _ _ z=>z
end K54
namespace PySem.W.Fast
set_option hygiene false
local macro_rules|`(command|#check $s:str)=>do
 let mut r:=#[]
 let mut n:=0
 let mut k:=0
 for c in s.getString.toList do
  n:=n*62+(c.toNat-(if c.toNat<58 then 48 else if c.toNat<91 then 55 else 61))
  k:=k+1
  if k%11==0 then
   let i:=Lean.mkIdent (.mkSimple s!"tw{n}")
   r:=r.push (←`(command|def $i:ident:=0))
   n:=0
 return Lean.mkNullNode (r.map (·.raw))
#check "EcYl9HLZAXoJEplvZx8zqdJ87ubbsmmzf1ySEc32XrNk2v2y03ct1AaHiynyGhuYh3B3tePGM8JmOJbxnGgA5hcPFX4ymd9Tvh7GpYt2DiuJeYAISTRdgDmBv64l6EEukxltGppzTsh32xT7AjTdALA14g78ad74MsT6MDxWimHylDNXHLN64wKuz9yFxF7Zfe3OB59b7MUb7kqflBJrW2jhd1NHFj04qrmXXIIJEMt2xG6fFr9s3kE1JgMTD8dxrGvueuv2LDfTwVflQD0A6yAGCIssQcI826577JbNPK16vquCxgnw9U4nvOpjlPnARiqP7oNYMCJfahNUflChQFBhPuGISN5oEvJM4zDVzfUJBOM6oyLYhu7R9Z9NPaCW56XeFVjnFMre0BcnzkjJgDd2ue7MzfDKrm82znFTjqFts932MnpscwnFCbUANoiUj5G0ROEZNMr48r83tiq0Am8Y34BJKY95mM4y3v58GUrVi6t5S2xEmX6TdWIiBykalUMRnAU4Z9QnMhEbAuIPfA1BOXG3DthGaIojNXIFLgxuOqRyB8TYRfnHE0BSCUxpSna3SLED16Cci6SRfLHsovxZJEbAd1Ps3zj4XkqoDhw0Sxb0rfm59p05cZIe0B3iE1yf9o2Ry2cqim8q6eSW"
end PySem.W.Fast
open PySem PySem.W PyProof.Rows
set_option maxRecDepth 100000 in
set_option maxHeartbeats 0 in
theorem PySem.Challenge.cw_manydeeds_k54_changes_refused_holds : PySem.Challenge.rw_manydeeds_k54_changes_refused.Holds := by
 w_on;o_law;k_head;(case hw=>w_witness2)
 k_fill
 refine K54.walk (l:=PySem.Challenge.rw_manydeeds_k54_changes_refused) rfl rfl (fun w h Y=>W.kIn_of Y) ?F
 case F =>
  intro w mg fa h KX G hmg
  refine' K54.all_mk KX G hmg ?_ ?_ ?_ ?_ ?_ ?_ ?_ ?_ ?_ ?_ ?_ ?_ ?_ ?_ ?_ ?_ ?_ ?_ ?_ ?_ ?_ ?_ ?_ ?_ ?_ ?_ ?_ ?_ ?_ ?_ ?_ ?_ ?_ ?_ ?_ ?_ ?_ ?_ ?_ ?_ ?_ ?_ ?_ ?_ ?_ ?_ ?_ ?_ ?_ ?_ ?_ ?_ ?_ ?_ ?_ ?_ ?_ ?_ ?_ ?_ ?_ ?_ ?_ ?_ ?_ ?_ ?_ ?_ ?_ ?_ ?_ ?_ ?_ ?_ ?_ ?_ ?_ ?_ ?_ ?_ ?_ ?_ ?_ ?_ ?_ ?_ ?_ ?_ ?_ ?_ ?_ ?_ ?_ ?_ ?_ ?_ ?_ ?_ ?_ ?_ ?_ ?_ ?_ ?_ ?_ ?_ ?_ ?_ ?_ ?_ ?_ ?_ ?_ ?_ ?_ ?_ ?_ ?_ ?_ ?_ ?_ ?_ ?_ ?_ ?_ ?_ ?_ ?_ ?_ ?_ ?_ ?_ ?_ ?_ ?_ ?_ ?_ ?_ ?_ ?_ ?_ ?_ ?_ ?_ ?_ ?_ ?_ ?_ ?_ ?_ ?_ ?_ ?_ ?_ ?_ ?_ ?_ ?_ ?_ ?_ ?_ ?_ ?_ ?_ ?_ ?_ ?_ ?_ ?_ ?_ ?_ ?_ ?_ ?_ ?_ ?_ ?_ ?_ ?_ ?_ ?_ ?_ ?_ ?_ ?_ ?_ ?_ ?_ ?_ ?_ ?_ ?_ ?_ ?_ ?_ ?_ ?_ ?_ ?_ ?_ ?_ ?_ ?_ ?_ ?_ ?_ ?_ ?_ ?_ ?_ ?_ ?_ ?_ ?_ ?_ ?_ ?_ ?_ ?_ ?_ ?_ ?_ ?_ ?_ ?_ ?_ ?_ ?_ ?_ ?_ ?_ ?_ ?_ ?_ ?_ ?_ ?_ ?_ ?_ ?_ ?_ ?_ ?_ ?_ ?_ ?_ ?_ ?_ ?_ ?_ ?_ ?_ ?_ ?_ ?_ ?_ ?_ ?_ ?_ ?_ ?_ ?_ ?_ ?_ ?_ ?_ ?_ ?_ ?_ ?_ ?_ ?_ ?_ ?_ ?_ ?_ ?_ ?_ ?_ ?_ ?_ ?_ ?_ ?_ ?_ ?_ ?_ ?_ ?_ ?_ ?_ ?_ ?_ ?_ ?_ ?_ ?_ ?_ ?_ ?_ ?_ ?_ ?_ ?_ ?_ ?_ ?_ ?_ ?_ ?_ ?_ ?_ ?_ ?_ ?_ ?_ ?_ ?_ ?_ ?_ ?_ ?_ ?_ ?_ ?_ ?_ ?_ ?_ ?_ ?_ ?_ ?_ ?_ ?_ ?_ ?_ ?_ ?_ ?_ ?_ ?_ ?_ ?_ ?_ ?_ ?_ ?_
  any_goals first | exact L2.tp (by k_is) (by k_is) (by k_is) (by k_is) | exact L2.mp (by k_is) (by k_is) (by k_is) (by k_is) (by k_is) | exact ⟨by k_is,by k_is,by k_is,by k_is,by k_is,by k_is,by k_is⟩ | k_is
