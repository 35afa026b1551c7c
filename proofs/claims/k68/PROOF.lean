import PyProof.Rows.All
import Wide.All
import OpenK.AllK
import Wide.FinOn
import Lean
import PyProof.EqAt
import PyProof.EqKinds
import PyProof.TupleCall
import PySem.Challenge.RW_manydeeds_k68_what_comes_of_a_term
set_option Elab.async false
set_option linter.all false
set_option maxRecDepth 100000
namespace L2
open PySem PySem.Spec PyProof.Rows
abbrev Key:=Sum Int Str
def keyIs:Key→Value→Bool
 | .inl k,v=>Value.isInt k v
 | .inr x,v=>Value.isStrOf x v
def keyH (w:World):Key→Int
 | .inl k=>hashInt k
 | .inr x=>hashStr w x
theorem Zb0:∀ {k:Key}{v:Value},keyIs k v=true→(∃ i t,k=Sum.inl i∧v=Value.int i t)∨(∃ x t,k=Sum.inr x∧v=Value.str x t)
 | .inl i,v,h=>by
  obtain ⟨t,e⟩:=Value.isInt_shape (k:=i) (v:=v) h
  exact .inl ⟨i,t,rfl,e⟩
 | .inr x,v,h=>by
  obtain ⟨t,e⟩:=Value.isStrOf_shape (x:=x) (v:=v) h
  exact .inr ⟨x,t,rfl,e⟩
theorem keyIs_int (i:Int) (t:Tok):keyIs (.inl i) (.int i t)=true:=by simp [keyIs,Value.isInt]
theorem keyIs_str (x:Str) (t:Tok):keyIs (.inr x) (.str x t)=true:=by simp [keyIs,Value.isStrOf]
theorem key_ll (a b:Int):decide ((Sum.inl a:Key)=Sum.inl b)=(a == b):=by
 by_cases e:a=b
 ·subst e;simp
 ·have h:¬ (Sum.inl a:Key)=Sum.inl b:=fun q=>e (Sum.inl.inj q)
  rw [decide_eq_false h]
  exact (beq_eq_false_iff_ne.mpr e).symm
theorem key_rr (a b:Str):decide ((Sum.inr a:Key)=Sum.inr b)=decide (a=b):=by
 by_cases e:a=b
 ·subst e;simp
 ·have h:¬ (Sum.inr a:Key)=Sum.inr b:=fun q=>e (Sum.inr.inj q)
  rw [decide_eq_false h,decide_eq_false e]
theorem key_lr (a:Int) (b:Str):decide ((Sum.inl a:Key)=Sum.inr b)=false:=decide_eq_false (fun q=>nomatch q)
theorem key_rl (a:Str) (b:Int):decide ((Sum.inr a:Key)=Sum.inl b)=false:=decide_eq_false (fun q=>nomatch q)
def Zbx (prog:Program) (w:World):PySem.KeyKind prog w Key where
 is:=keyIs
 hash:=keyH w
 inj:=fun v a b ha hb=>by
  rcases Zb0 ha with ⟨i,t,rfl,rfl⟩ | ⟨x,t,rfl,rfl⟩
  ·rcases Zb0 hb with ⟨j,u,rfl,e⟩ | ⟨y,u,rfl,e⟩
   ·injection e with e1 _;rw [e1]
   ·exact nomatch e
  ·rcases Zb0 hb with ⟨j,u,rfl,e⟩ | ⟨y,u,rfl,e⟩
   ·exact nomatch e
   ·injection e with e1 _;rw [e1]
 byValue:=fun k v h=>by
  rcases Zb0 h with ⟨i,t,rfl,rfl⟩ | ⟨x,t,rfl,rfl⟩ <;> rfl
 pyHash:=fun hv h=>by
  rcases Zb0 hv with ⟨i,t,rfl,rfl⟩ | ⟨x,t,rfl,rfl⟩
  ·exact wpAny_pyHash_int h
  ·exact wpAny_pyHash_str h
 eqBool:=fun hu hv h=>by
  rcases Zb0 hu with ⟨i,t,rfl,rfl⟩ | ⟨x,t,rfl,rfl⟩
  ·rcases Zb0 hv with ⟨j,u,rfl,rfl⟩ | ⟨y,u,rfl,rfl⟩
   ·rw [key_ll] at h;exact wpAny_eqBool_int h
   ·rw [key_lr] at h;exact SeqAt.EqAt.int_str i t y u _ _ _ _ h
  ·rcases Zb0 hv with ⟨j,u,rfl,rfl⟩ | ⟨y,u,rfl,rfl⟩
   ·rw [key_rl] at h;exact SeqAt.EqAt.str_int x t j u _ _ _ _ h
   ·rw [key_rr] at h;exact wpAny_eqBool_str h
 «strs»:=fun k x t v h=>by
  rcases Zb0 h with ⟨i,u,rfl,e⟩ | ⟨y,u,rfl,e⟩
  ·exact nomatch e
  ·injection e with e1 _
   subst e1
   cases v <;> rfl
theorem mixKind_int (prog:Program) (w:World) (i:Int) (t:Tok):(Zbx prog w).is (.inl i) (.int i t)=true:=keyIs_int i t
theorem mixKind_str (prog:Program) (w:World) (x:Str) (t:Tok):(Zbx prog w).is (.inr x) (.str x t)=true:=keyIs_str x t
end L2
namespace L2
open PySem PySem.Spec PyProof.Rows
inductive V where
 | non | bl (b:Bool) | int (i:Int) | str (x:Str) | byt (b:Array UInt8) | flt (b:UInt64) | ref (a:Addr) | ty (n:String)
 deriving DecidableEq
def Zcf:V→Value→Prop
 | .non,u=>u=Value.none
 | .bl b,u=>u=Value.bool b
 | .int i,u=>∃ t,u=Value.int i t
 | .str x,u=>∃ t,u=Value.str x t
 | .byt b,u=>∃ t,u=Value.bytes b t
 | .flt b,u=>∃ t,u=Value.float b t
 | .ref a,u=>u=Value.ref a
 | .ty n,u=>u=Value.type n
abbrev Zb7:List V→List Value→Prop:=Paired Zcf
theorem Zb7.length {xs:List V}{us:List Value}(r:Zb7 xs us):xs.length=us.length:=Paired.length r
theorem Zb7.get:∀ {xs:List V}{us:List Value}{i:Nat}{x:V},Zb7 xs us→xs[i]?=some x→∃ u,us[i]?=some u∧Zcf x u
 | _,_,_,_,.nil,e=>by simp at e
 | _,_,0,_,.cons r _,e=>by simp at e;subst e;exact ⟨_,rfl,r⟩
 | _,_,i + 1,x,.cons _ t,e=>by
  obtain ⟨u,h1,h2⟩:=Zb7.get (i:=i) (x:=x) t (by simpa using e)
  exact ⟨u,by simpa using h1,h2⟩
theorem Zb7.set {x:V}{u:Value}(r:Zcf x u):∀ {xs:List V}{us:List Value}(i:Nat),Zb7 xs us→Zb7 (xs.set i x) (us.set i u)
 | _,_,_,.nil=>.nil
 | _,_,0,.cons _ t=>.cons r t
 | _,_,i + 1,.cons q t=>.cons q (Zb7.set r i t)
theorem Zb7.append:∀ {xs ys:List V}{us ws:List Value},Zb7 xs us→Zb7 ys ws→Zb7 (xs++ys) (us++ws)
 | _,_,_,_,.nil,s=>s
 | _,_,_,_,.cons r t,s=>.cons r (Zb7.append t s)
theorem Zb7.take:∀ {xs:List V}{us:List Value}(n:Nat),Zb7 xs us→Zb7 (xs.take n) (us.take n)
 | _,_,0,_=>.nil
 | _,_,_ + 1,.nil=>.nil
 | _,_,n + 1,.cons r t=>.cons r (Zb7.take n t)
theorem Zb7.drop:∀ {xs:List V}{us:List Value}(n:Nat),Zb7 xs us→Zb7 (xs.drop n) (us.drop n)
 | _,_,0,r=>r
 | _,_,_ + 1,.nil=>.nil
 | _,_,n + 1,.cons _ t=>Zb7.drop n t
def RelO:Option V→Option Value→Prop
 | some v,some u=>Zcf v u
 | none,none=>True
 | _,_=>False
def KV {κ:Type}:List (κ×V)→List (κ×Value)→Prop:=Paired fun (p:κ×V) (q:κ×Value)=>p.1=q.1∧Zcf p.2 q.2
def kV:Key→V
 | .inl i=>.int i
 | .inr x=>.str x
inductive HO where
 | lst (xs:List V)
 | tup (xs:List V)
 | dK (kvs:List (Key×V)) | dT (kvs:List (List Key×V))
 | set (S:Int→Bool) (n:Nat)
 | ins (C dx:Addr) (fs:List (Str×V))
 | own (x:Addr)
 | xd (fs:List (Str×V))
 | met (f x:Addr)
 | rng (lo hi:Int)
 | frz (o:Obj) (u:HO)
 | tbl (ps:Array Value)
 | ext (φ:Heap→Prop)
abbrev Hp:=Addr→Option HO
def upd (H:Hp) (a:Addr) (o:HO):Hp:=fun b=>if b=a then some o else H b
theorem uS {H:Hp}{a:Addr}{o:HO}:upd H a o a=some o:=by unfold upd;rw [if_pos rfl]
theorem Zab {H:Hp}{a b:Addr}{o:HO}(h:b≠a):upd H a o b=H b:=by unfold upd;rw [if_neg h]
theorem upd_upd {H:Hp}{a:Addr}{o u:HO}:upd (upd H a o) a u=upd H a u:=by
 funext b;unfold upd;split <;> rfl
theorem ne_of {H:Hp}{a b:Addr}{o u:HO}(h:H a=some o) (h':H b=some u) (d:o≠u):a≠b:=by
 intro e;subst e;rw [h] at h';exact d (Option.some.inj h')
theorem nNo {H:Hp}{a b:Addr}{o:HO}(h:H a=some o) (h':H b=none):a≠b:=by
 intro e;subst e;rw [h] at h';cases h'
section
variable (P:Program) (w:World)
def Zcn (H:Hp) (h:Heap) (a:Addr):HO→Prop
 | .lst xs=>xs.length≤sizeLine∧∃ (its:List Value) (n:Nat),Zb7 xs its∧h.get? a=some { cls:=.type "list",data:=.seq its.toArray n }
 | .tup xs=>xs.length≤sizeLine∧∃ its:List Value,Zb7 xs its∧IsTup h a its.toArray
 | .dK kvs=>kvs.length≤sizeLine∧(a == sysModules)=false∧∃ vs,KV kvs vs∧h.DictOf (Zbx P w) a vs
 | .dT kvs=>kvs.length≤sizeLine∧(a == sysModules)=false∧∃ xs:List (List Key×Addr×Value),
   Paired (fun (p:List Key×V) (q:List Key×Addr×Value)=>p.1=q.1∧H q.2.1=some (.tup (p.1.map kV))∧Zcf p.2 q.2.2) kvs xs ∧
   ∃ o es ep,h.get? a=some o∧o.ExactDict∧o.data=.dict es ep∧es.toList=xs.map (entryOfKey (tupleKind (Zbx P w)))∧(xs.map (·.1)).Nodup
 | .set S n=>h.SetOf (intKind P w) a S n
 | .ins C dx fs=>H dx=some (.own a)∧fs.length≤1000∧dx≠a∧h.get? a=some (W.instObj C dx) ∧
   ∃ mA,h.Ns1 dx mA∧(∀ f,RelO (fs.lookup f) (mA f))∧PySem.Within mA (fs.map (·.1))
 | .own _=>∃ o,h.get? a=some o
 | .xd fs=>∃ mA,h.Ns1 a mA∧∀ f,RelO (fs.lookup f) (mA f)
 | .rng lo hi=>∃ t u v,h.get? a=some { cls:=.type "range",data:=.fields #[.int lo t,.int hi u,.int 1 v] }
 | .frz o u=>h.get? a=some o∧Zcn H h a u
 | .tbl ps=>h.get? a=some { cls:=.none,data:=.fields ps }
 | .met f x=>h.get? a=some (W.methodObj (.ref f) (.ref x))
 | .ext φ=>φ h∧(∃ o,h.get? a=some o)∧∀ h1 h2:Heap,φ h1→(∀ o,h1.get? a=some o→h2.get? a=some o)→φ h2
def HOk (H:Hp) (h:Heap):Prop:=∀ a o,H a=some o→Zcn P w H h a o
end
section
variable {P:Program} {w:World} {H H':Hp} {h h':Heap} {a:Addr} {o:HO}
theorem Zcn.lt (x:Zcn P w H h a o):a<h.objs.size:=by
 cases o with
 | lst xs=>obtain ⟨_,_,_,_,e⟩:=x;exact Heap.lt_size e
 | tup xs=>obtain ⟨_,_,_,p⟩:=x;exact p.lt
 | dK kvs=>obtain ⟨_,_,_,_,o,_,_,e,_⟩:=x;exact Heap.lt_size e
 | dT kvs=>obtain ⟨_,_,_,_,o,_,_,e,_⟩:=x;exact Heap.lt_size e
 | set S n=>obtain ⟨o,_,_,_,e,_⟩:=x;exact Heap.lt_size e
 | ins C dx fs=>obtain ⟨_,_,_,e,_⟩:=x;exact Heap.lt_size e
 | own y=>obtain ⟨_,e⟩:=x;exact Heap.lt_size e
 | xd fs=>obtain ⟨_,⟨_,_,_,e,_⟩,_⟩:=x;exact Heap.lt_size e
 | rng lo hi=>obtain ⟨_,_,_,e⟩:=x;exact Heap.lt_size e
 | frz ob u=>obtain ⟨e,_⟩:=x;exact Heap.lt_size e
 | tbl ps=>exact Heap.lt_size (show h.get? a=some _ from x)
 | met f y=>exact Heap.lt_size (show h.get? a=some _ from x)
 | ext φ=>obtain ⟨_,⟨_,e⟩,_⟩:=x;exact Heap.lt_size e
theorem Paired.mapP {α β:Type}{F G:α→β→Prop}:∀ {l₁:List α}{l₂:List β},Paired F l₁ l₂→(∀ a b,F a b→G a b)→Paired G l₁ l₂
 | _,_,.nil,_=>.nil
 | _,_,.cons r t,f=>.cons (f _ _ r) (Paired.mapP t f)
theorem Zcn.stay (x:Zcn P w H h a o) (k:∀ b u,(b=a∨H b=some (.own a))→h.get? b=some u→h'.get? b=some u)
  (ho:∀ b,H b=some (.own a)→H' b=some (.own a)) (ht:∀ b xs,H b=some (.tup xs)→H' b=some (.tup xs)):Zcn P w H' h' a o:=by
 induction o with
 | lst xs=>obtain ⟨z,its,n,r,e⟩:=x;exact ⟨z,its,n,r,k _ _ (.inl rfl) e⟩
 | tup xs=>obtain ⟨z,its,r,ob,e,c⟩:=x;exact ⟨z,its,r,ob,k _ _ (.inl rfl) e,c⟩
 | dK kvs=>obtain ⟨z,y,vs,r,ob,es,ep,e,c⟩:=x;exact ⟨z,y,vs,r,ob,es,ep,k _ _ (.inl rfl) e,c⟩
 | dT kvs =>
  obtain ⟨z,y,xs,r,ob,es,ep,e,c⟩:=x
  exact ⟨z,y,xs,Paired.mapP r fun p q z=>⟨z.1,ht _ _ z.2.1,z.2.2⟩,ob,es,ep,k _ _ (.inl rfl) e,c⟩
 | set S n=>obtain ⟨ob,es,ep,t,e,c⟩:=x;exact ⟨ob,es,ep,t,k _ _ (.inl rfl) e,c⟩
 | ins C dx fs =>
  obtain ⟨d,z,ne,e,mA,⟨od,es,ep,e2,c⟩,r⟩:=x
  exact ⟨ho _ d,z,ne,k _ _ (.inl rfl) e,mA,⟨od,es,ep,k _ _ (.inr d) e2,c⟩,r⟩
 | own y=>obtain ⟨ob,e⟩:=x;exact ⟨ob,k _ _ (.inl rfl) e⟩
 | xd fs=>obtain ⟨mA,⟨od,es,ep,e,c⟩,r⟩:=x;exact ⟨mA,⟨od,es,ep,k _ _ (.inl rfl) e,c⟩,r⟩
 | rng lo hi=>obtain ⟨t,u,v,e⟩:=x;exact ⟨t,u,v,k _ _ (.inl rfl) e⟩
 | frz ob u ih=>obtain ⟨e,q⟩:=x;exact ⟨k _ _ (.inl rfl) e,ih q⟩
 | tbl ps =>
  have e:h.get? a=some { cls:=.none,data:=.fields ps }:=x
  show h'.get? a=some { cls:=.none,data:=.fields ps }
  exact k a _ (.inl rfl) e
 | met f y =>
  have e:h.get? a=some (W.methodObj (.ref f) (.ref y)):=x
  show h'.get? a=some (W.methodObj (.ref f) (.ref y))
  exact k a _ (.inl rfl) e
 | ext φ=>obtain ⟨p,⟨o,e⟩,st⟩:=x;exact ⟨st _ _ p fun o q=>k _ _ (.inl rfl) q,⟨o,k _ _ (.inl rfl) e⟩,st⟩
theorem HOk.lt (x:HOk P w H h) (e:H a=some o):a<h.objs.size:=(x a o e).lt
theorem HOk.fresh (x:HOk P w H h) (e:h.objs.size≤a):H a=none:=by
 cases q:H a with
 | none=>rfl
 | some u=>exact absurd (Nat.lt_of_lt_of_le (x.lt q) e) (Nat.lt_irrefl _)
theorem HOk.kept (x:HOk P w H h) (k:∀ b u,h.get? b=some u→h'.get? b=some u):HOk P w H h':=fun a o e =>
 (x a o e).stay (fun b u _ q=>k b u q) (fun _ q=>q) fun _ _ q=>q
theorem HOk.laid (x:HOk P w H h) (k:∀ b u,h.get? b=some u→h'.get? b=some u) (hp:h.objs.size≤a) (new:Zcn P w (upd H a o) h' a o):HOk P w (upd H a o) h':=fun b u e=>by
 have hn:=x.fresh hp
 by_cases hb:b=a
 ·subst hb;rw [uS] at e;cases e;exact new
 ·rw [Zab hb] at e
  exact (x b u e).stay (fun c v _ q=>k c v q) (fun c q=>by rw [Zab (nNo q hn)];exact q) fun c xs q=>by rw [Zab (nNo q hn)];exact q
end
def Rd (H:Hp) (a:Addr) (u:HO):Prop:=H a=some u∨∃ o,H a=some (.frz o u)
theorem Rd.ok {P:Program}{w:World}{H:Hp}{h:Heap}{a:Addr}{u:HO}(r:Rd H a u) (x:HOk P w H h):Zcn P w H h a u:=by
 rcases r with r | ⟨o,r⟩
 ·exact x a u r
 ·obtain ⟨_,q⟩:=x a _ r
  exact q
def Mut:Option HO→Prop
 | some (.lst _)=>True
 | some (.dK _)=>True
 | some (.dT _)=>True
 | some (.set _ _)=>True
 | some (.ins _ _ _)=>True
 | some (.ext _)=>True
 | _=>False
section
variable {P:Program} {w:World} {H:Hp} {h h':Heap} {x e:Addr} {o':HO}
theorem HOk.write (ok:HOk P w H h) (mu:Mut (H x)) (he:e=x∨H e=some (.own x)) (k:∀ b u,b≠e→h.get? b=some u→h'.get? b=some u) (heo:∃ u,h'.get? e=some u)
  (new:Zcn P w (upd H x o') h' x o'):HOk P w (upd H x o') h':=fun b u q=>by
 have nown:∀ c y,H c=some (.own y)→c≠x:=fun c y r z=>by subst z;rw [r] at mu;exact mu
 have ntup:∀ c xs,H c=some (.tup xs)→c≠x:=fun c xs r z=>by subst z;rw [r] at mu;exact mu
 by_cases hb:b=x
 ·subst hb;rw [uS] at q;cases q;exact new
 ·rw [Zab hb] at q
  by_cases hbe:b=e
  ·have q':H b=some (.own x):=by
    rcases he with z | z
    ·exact absurd (hbe.trans z) hb
    ·rw [hbe];exact z
   rw [q] at q';cases q'
   obtain ⟨v,hv⟩:=heo
   exact ⟨v,by rw [hbe];exact hv⟩
  ·refine (ok b u q).stay (fun c v hc r=>k c v ?_ r) (fun c r=>by rw [Zab (nown c b r)];exact r) fun c xs r=>by rw [Zab (ntup c xs r)];exact r
   rcases hc with rfl | hc
   ·exact hbe
   ·rintro rfl
    rcases he with z | z
    ·exact nown c b hc z
    ·rw [hc] at z;cases z;exact hb rfl
end
structure Un (fs ex:List Addr) (H H':Hp) (h h':Heap):Prop where
 keep:∀ b o,h.get? b=some o→H b=none→b∉fs→b∉ex→h'.get? b=some o
 slot:∀ b o,h.get? b=some o→H b=none→b∈fs→b∉ex→∃ sl,h'.get? b=some { o with slots:=sl }
 free:∀ b o,h.get? b=some o→H b=none→b∉ex→H' b=none
 there:∀ b o,h.get? b=some o→b∉ex→∃ o',h'.get? b=some o'
 tups:∀ b xs,H b=some (.tup xs)→H' b=some (.tup xs)
 frzs:∀ b o u,H b=some (.frz o u)→H' b=some (.frz o u)
 tbls:∀ b ps,H b=some (.tbl ps)→∃ more,H' b=some (.tbl (ps++more))
section
variable {fs fs' ex ex':List Addr} {H H1 H2:Hp} {h h1 h2 h':Heap} {a x e:Addr} {o:HO}
theorem Un.any (u:Un fs ex H H1 h h1) {b:Addr}{ob:Obj}(q:h.get? b=some ob) (n:H b=none) (hx:b∉ex):∃ sl,h1.get? b=some { ob with slots:=sl }:=by
 by_cases hb:b∈fs
 ·exact u.slot b ob q n hb hx
 ·exact ⟨ob.slots,u.keep b ob q n hb hx⟩
theorem Un.kept (k:∀ b u,h.get? b=some u→h'.get? b=some u):Un fs ex H H h h' :=
 ⟨fun b ob q _ _ _=>k b ob q,fun b ob q _ _ _=>⟨ob.slots,k b ob q⟩,fun _ _ _ n _=>n,fun b ob q _=>⟨ob,k b ob q⟩,fun _ _ q=>q,fun _ _ _ q=>q,fun _ ps q=>⟨#[],by rw [q];simp⟩⟩
theorem Un.refl:Un fs ex H H h h:=Un.kept fun _ _ q=>q
theorem Un.laid (k:∀ b u,h.get? b=some u→h'.get? b=some u) (hp:h.objs.size≤a) (hn:H a=none):Un fs ex H (upd H a o) h h' where
 keep:=fun b u q _ _ _=>k b u q
 slot:=fun b u q _ _ _=>⟨u.slots,k b u q⟩
 free:=fun b u q n _=>by rw [Zab (Nat.ne_of_lt (Nat.lt_of_lt_of_le (Heap.lt_size q) hp))];exact n
 there:=fun b u q _=>⟨u,k b u q⟩
 tups:=fun b xs q=>by rw [Zab (nNo q hn)];exact q
 frzs:=fun b u xs q=>by rw [Zab (nNo q hn)];exact q
 tbls:=fun b ps q=>⟨#[],by rw [Zab (nNo q hn),q];simp⟩
theorem Un.write (mu:Mut (H x)) (he:e=x∨H e=some (.own x)) (k:∀ b u,b≠e→h.get? b=some u→h'.get? b=some u) (heo:∃ u,h'.get? e=some u):Un fs ex H (upd H x o) h h':=by
 have hx:∀ b,H b=none→b≠x:=fun b n z=>by subst z;rw [n] at mu;exact mu
 have hb:∀ b,H b=none→b≠e:=fun b n z=>by
  subst z
  rcases he with r | r
  ·exact hx b n r
  ·rw [n] at r;cases r
 have hm:∀ b u,H b=some u→¬ Mut (some u)→b≠x:=fun b u q nm z=>by subst z;rw [q] at mu;exact nm mu
 refine ⟨fun b u q n _ _=>k b u (hb b n) q,fun b u q n _ _=>⟨u.slots,k b u (hb b n) q⟩,fun b u q n _=>by rw [Zab (hx b n)];exact n,fun b u q _=>?_,
  fun b xs q=>by rw [Zab (hm b _ q fun z=>z)];exact q,fun b u xs q=>by rw [Zab (hm b _ q fun z=>z)];exact q,fun b ps q=>⟨#[],by rw [Zab (hm b _ q fun z=>z),q];simp⟩⟩
 by_cases hbe:b=e
 ·subst hbe;exact heo
 ·exact ⟨u,k b u hbe q⟩
end
def trk (h:Heap) (H:Hp):List Addr:=(List.range h.objs.size).filter fun a=>(H a).isSome
def hidT (h:Heap) (H:Hp):Heap:=W.hideAll h (trk h H)
theorem hidT_size (h:Heap) (H:Hp):(hidT h H).objs.size=h.objs.size:=W.hideAll_size _ _
theorem hidT_get {h:Heap}{H:Hp}{b:Addr}{o:Obj}(e:h.get? b=some o) (n:H b=none):(hidT h H).get? b=some o :=
 W.hideAll_get _ e fun hm=>by
  have q:(H b).isSome=true:=(List.mem_filter.mp hm).2
  rw [n] at q;simp at q
theorem of_hidT {h:Heap}{H:Hp}{b:Addr}{o:Obj}(e:(hidT h H).get? b=some o):h.get? b=some o∧H b=none:=by
 have e':h.get? b=some o:=W.of_hideAll (trk h H) e
 refine ⟨e',?_⟩
 cases q:H b with
 | none=>rfl
 | some x =>
  have hm:b∈trk h H:=List.mem_filter.mpr ⟨List.mem_range.mpr (Heap.lt_size e'),by simp [q]⟩
  have z:(hidT h H).get? b=none:=W.hideAll_none (trk h H) hm
  rw [z] at e;cases e
def allNews (g h:Heap) (L:Addr):List (Addr×Obj):=(List.range h.objs.size).filterMap fun a=>if a=L∨(g.get? a).isSome=true then none else (h.get? a).map fun o=>(a,o)
def rest (g h:Heap) (L d:Addr):List (Addr×Obj):=(allNews g h L).filter fun p=>decide (p.1≠d)
end L2
namespace L2
open PySem PySem.Spec PyProof.Rows
structure Mod (K:W.Frag) (mg:Str→Option Value) (base:Heap):Prop where
 kin:K.In base
 glob:base.Ns mainGlobals mg
 blt:∃ mb,base.Ns builtinsNs mb∧∀ x:Str,x≠"__name__"→mb x=bootBuiltins x
 nolimit:base.NoLimit
structure Cx where
 prog:Program
 w:World
 K:W.Frag
 mg:Str→Option Value
 base:Heap
 A:Around
 N:List Str
 s₀:Shared
 H₀:Hp
 env:Env
 outer:List Env
 stack:List Env
 ex:List Addr
 fn:Str→Bool
 calm:Bool
 pn:List (Addr×Obj)
 xe:Value→Shared→Prop
def frs (l:List Env):List Addr:=l.filterMap (·.frame)
abbrev Cx.fs (X:Cx):List Addr:=frs X.outer
def Vis (sc:Scope) (x:Str):Prop:=sc.names.lookup x=some .local∨sc.names.lookup x=some .cell∨sc.names.lookup x=some .free
def Loc (sc:Scope) (x:Str):Prop:=sc.names.lookup x=some .local∨sc.names.lookup x=some .cell
def Look (env:Env) (h:Heap) (m:Str→Option Value) (x:Str) (u:Value):Prop :=
 (env.kindOf x=some .local∧m x=some u)∨((env.kindOf x=some .cell∨env.kindOf x=some .free)∧∃ c,env.cells.lookup x=some c∧h.IsCell c (some u))
structure Cx.Ok (X:Cx):Prop where
 mod:Mod X.K X.mg X.base
 kind:X.env.scope.kind=.function
 glob:X.env.globals=mainGlobals
 blt:X.env.builtins=builtinsNs
 above:X.s₀.heap.objs.size≤X.env.locals
 inj:∀ x y c,X.env.cells.lookup x=some c→X.env.cells.lookup y=some c→x=y
 has:∀ x,(X.env.kindOf x=some .cell∨X.env.kindOf x=some .free)→∃ c,X.env.cells.lookup x=some c
 cab:∀ x c,X.fn x=true→X.env.cells.lookup x=some c→X.s₀.heap.objs.size≤c
 hd:X.calm=true→X.A.handled=none
 frames:X.A.frames=some X.stack
 stk:X.stack=X.outer∨(X.stack=X.env :: X.outer∧X.env.frame=some X.env.locals)
 exf:∀ b∈X.ex,b≠X.env.locals∧∀ x c,X.env.cells.lookup x=some c→c≠b
 bs:∀ b o,X.base.get? b=some o→X.s₀.heap.get? b=some o∧X.H₀ b=none
 bsz:X.base.objs.size≤X.s₀.heap.objs.size
 noex:∀ b o,X.base.get? b=some o→b∉X.ex
 exfs:∀ b∈X.ex,b∉X.fs
 funs:X.s₀.heap.FunFrames X.base X.outer
 frf:∀ b∈X.fs,X.H₀ b=none
structure Inv (X:Cx) (pins:List (Addr×Obj)) (σ:List (Option V)) (H:Hp) (s:Shared):Prop where
 ok:X.Ok
 os:s.os=X.s₀.os
 bare:AllBare s.gens
 base:Un X.fs X.ex X.H₀ H X.s₀.heap s.heap
 loc:∃ m,s.heap.Ns X.env.locals m∧∀ (i:Nat) (x:Str) (v:V),X.N[i]?=some x→σ[i]?=some (some v)→Vis X.env.scope x→∃ u,Zcf v u∧Look X.env s.heap m x u
 cell:∀ x c,X.env.cells.lookup x=some c→∃ v,s.heap.IsCell c v
 free:H X.env.locals=none
 freeC:∀ x c,X.env.cells.lookup x=some c→H c=none
 pin:∀ p∈X.pn++pins,s.heap.get? p.1=some p.2∧H p.1=none∧p.1≠X.env.locals∧p.1∉X.fs∧∀ v,p.2.data≠.cell v
 hok:HOk X.prog X.w H s.heap
 len:σ.length=X.N.length
section
variable {X:Cx} {pins:List (Addr×Obj)} {σ:List (Option V)} {H H':Hp} {s:Shared} {h':Heap}
theorem Cx.Ok.nofr (ok:X.Ok) {b:Addr}{o:Obj}(e:X.base.get? b=some o):b∉X.fs:=fun hb=>by
 have:=(ok.funs.mem hb).1
 rw [e] at this;cases this
theorem Inv.bs (I:Inv X pins σ H s):∀ b o,X.base.get? b=some o→s.heap.get? b=some o∧H b=none:=fun b o e =>
 ⟨I.base.keep b o (I.ok.bs b o e).1 (I.ok.bs b o e).2 (I.ok.nofr e) (I.ok.noex b o e),I.base.free b o (I.ok.bs b o e).1 (I.ok.bs b o e).2 (I.ok.noex b o e)⟩
theorem Inv.bk (I:Inv X pins σ H s):∀ b o,X.base.get? b=some o→s.heap.get? b=some o:=fun b o e=>(I.bs b o e).1
theorem Inv.mod (I:Inv X pins σ H s):Mod X.K X.mg X.base:=I.ok.mod
theorem Inv.kIn (I:Inv X pins σ H s):X.K.In s.heap:=I.ok.mod.kin.keeps I.bk
theorem Inv.lt (I:Inv X pins σ H s):X.env.locals<s.heap.objs.size:=let ⟨_,hn,_⟩:=I.loc;hn.lt
theorem Inv.sz (I:Inv X pins σ H s):X.s₀.heap.objs.size≤s.heap.objs.size:=Nat.le_trans I.ok.above (Nat.le_of_lt I.lt)
theorem Inv.nofs (I:Inv X pins σ H s) {a:Addr}(h:s.heap.objs.size≤a):a∉X.fs:=fun hb=>by
 obtain ⟨_,o,ho,_⟩:=I.ok.funs.mem hb
 exact absurd (Nat.lt_of_lt_of_le (Heap.lt_size ho) (Nat.le_trans I.sz h)) (Nat.lt_irrefl _)
theorem Inv.cne (I:Inv X pins σ H s):∀ x c,X.env.cells.lookup x=some c→c≠X.env.locals:=fun x c e z=>by
 obtain ⟨v,o,ho,hd⟩:=I.cell x c e
 obtain ⟨m,⟨o',es,ep,ho',hd',_⟩,_⟩:=I.loc
 rw [z,ho'] at ho;cases ho;rw [hd'] at hd;cases hd
theorem Inv.funs (I:Inv X pins σ H s):s.heap.FunFrames X.base X.outer:=by
 have all:∀ (l:List Env),(∀ b∈frs l,b∈X.fs)→X.s₀.heap.FunFrames X.base l→s.heap.FunFrames X.base l:=by
  intro l
  induction l with
  | nil=>intro _ _;trivial
  | cons env r ih =>
   intro hs hl
   obtain ⟨hk,⟨L,o,hf,hn,ho,hd⟩,hr⟩:=hl
   have hL:L∈X.fs:=hs L (by unfold frs;rw [List.filterMap_cons,hf];exact List.mem_cons_self)
   obtain ⟨sl,e⟩:=I.base.slot L o ho (I.ok.frf L hL) hL fun z=>I.ok.exfs L z hL
   exact ⟨hk,⟨L,_,hf,hn,e,hd⟩,ih (fun b hb=>hs b (by unfold frs;rw [List.filterMap_cons,hf];exact List.mem_cons_of_mem _ hb)) hr⟩
 exact all X.outer (fun _ hb=>hb) I.ok.funs
theorem Inv.stack (I:Inv X pins σ H s):s.heap.FunFrames X.base X.stack:=by
 rcases I.ok.stk with e | ⟨e,hf⟩
 ·rw [e];exact I.funs
 ·rw [e]
  obtain ⟨m,hn,_⟩:=I.loc
  refine .cons (by rw [I.ok.kind];decide) hf hn ?_ I.funs
  exact Heap.get?_none_of_le (Nat.le_trans I.ok.bsz I.ok.above)
theorem Inv.stkSub (I:Inv X pins σ H s):∀ b∈frs X.stack,b∈X.env.locals :: X.fs:=fun b hb=>by
 rcases I.ok.stk with e | ⟨e,hf⟩
 ·rw [e] at hb;exact List.mem_cons_of_mem _ hb
 ·rw [e] at hb
  unfold frs at hb
  rw [List.filterMap_cons,hf] at hb
  exact hb
theorem Inv.stkFree (I:Inv X pins σ H s):∀ b∈frs X.stack,H b=none:=fun b hb=>by
 rcases List.mem_cons.mp (I.stkSub b hb) with e | hb
 ·rw [e];exact I.free
 ·obtain ⟨_,o,ho,_⟩:=I.ok.funs.mem hb
  exact I.base.free b o ho (I.ok.frf b hb) fun z=>I.ok.exfs b z hb
theorem Inv.step {g':Array GenState}{t':Nat}{d':Drawn}{ch:List Addr}(I:Inv X pins σ H s)
  (hch:∀ b∈ch,(b∈X.ex∨X.s₀.heap.objs.size≤b)∧b≠X.env.locals∧(∀ x c,X.env.cells.lookup x=some c→c≠b)∧∀ p∈X.pn++pins,p.1≠b)
  (keep:∀ b o,b≠X.env.locals→b∉X.fs→b∉ch→s.heap.get? b=some o→H b=none→h'.get? b=some o)
  (slot:∀ b o,b≠X.env.locals→b∈X.fs→b∉ch→s.heap.get? b=some o→H b=none→∃ sl,h'.get? b=some { o with slots:=sl }) (free:∀ b o,b∉ch→s.heap.get? b=some o→H b=none→H' b=none)
  (there:∀ b o,b∉ch→s.heap.get? b=some o→∃ o',h'.get? b=some o')
  (tups:∀ b xs,H b=some (.tup xs)→H' b=some (.tup xs)) (frzs:∀ b o u,H b=some (.frz o u)→H' b=some (.frz o u)) (tbls:∀ b ps,H b=some (.tbl ps)→∃ more,H' b=some (.tbl (ps++more)))
  (ns:∀ m,s.heap.Ns X.env.locals m→h'.Ns X.env.locals m) (hok:HOk X.prog X.w H' h') (hg:AllBare g'):
  Inv X pins σ H' { s with heap:=h',gens:=g',drawn:=d',toks:=t' }:=by
 have neL:∀ b o,X.s₀.heap.get? b=some o→b≠X.env.locals:=fun b o e=>Nat.ne_of_lt (Nat.lt_of_lt_of_le (Heap.lt_size e) I.ok.above)
 have neC:∀ b o,X.s₀.heap.get? b=some o→b∉X.ex→b∉ch:=fun b o e hx hb=>by
  rcases (hch b hb).1 with z | z
  ·exact hx z
  ·exact absurd (Nat.lt_of_lt_of_le (Heap.lt_size e) z) (Nat.lt_irrefl _)
 have cellK:∀ x c,X.env.cells.lookup x=some c→∀ v,s.heap.IsCell c v→h'.IsCell c v:=fun x c e v ⟨o,ho,hd⟩=>by
  have nch:c∉ch:=fun z=>(hch c z).2.2.1 x c e rfl
  by_cases hc:c∈X.fs
  ·obtain ⟨sl,q⟩:=slot c o (I.cne x c e) hc nch ho (I.freeC x c e)
   exact ⟨_,q,hd⟩
  ·exact ⟨o,keep c o (I.cne x c e) hc nch ho (I.freeC x c e),hd⟩
 refine ⟨I.ok,I.os,hg,⟨fun b o e n hb hx=>?_,fun b o e n hb hx=>?_,fun b o e n hx=>?_,fun b o e hx=>?_,fun b xs e=>tups b xs (I.base.tups b xs e),fun b o xs e=>frzs b o xs (I.base.frzs b o xs e),fun b ps e=>?_⟩,?_,fun x c e=>?_,?_,fun x c e=>?_,fun p hp=>?_,hok,I.len⟩
 ·exact keep b o (neL b o e) hb (neC b o e hx) (I.base.keep b o e n hb hx) (I.base.free b o e n hx)
 ·obtain ⟨sl,e1⟩:=I.base.slot b o e n hb hx
  obtain ⟨sl',e2⟩:=slot b _ (neL b o e) hb (neC b o e hx) e1 (I.base.free b o e n hx)
  exact ⟨sl',e2⟩
 ·obtain ⟨o',e1⟩:=I.base.there b o e hx
  exact free b o' (neC b o e hx) e1 (I.base.free b o e n hx)
 ·obtain ⟨o',e1⟩:=I.base.there b o e hx
  exact there b o' (neC b o e hx) e1
 ·obtain ⟨m1,e1⟩:=I.base.tbls b ps e
  obtain ⟨m2,e2⟩:=tbls b _ e1
  exact ⟨m1++m2,by rw [e2,Array.append_assoc]⟩
 ·obtain ⟨m,hn,hl⟩:=I.loc
  refine ⟨m,ns m hn,fun i x v e1 e2 e3=>?_⟩
  obtain ⟨u,r,l⟩:=hl i x v e1 e2 e3
  refine ⟨u,r,?_⟩
  rcases l with l | ⟨k,c,e,z⟩
  ·exact .inl l
  ·exact .inr ⟨k,c,e,cellK x c e _ z⟩
 ·obtain ⟨v,z⟩:=I.cell x c e
  exact ⟨v,cellK x c e v z⟩
 ·obtain ⟨m,⟨o,_,_,ho,_⟩,_⟩:=I.loc
  exact free _ o (fun z=>(hch _ z).2.1 rfl) ho I.free
 ·obtain ⟨v,o,ho,hd⟩:=I.cell x c e
  exact free c o (fun z=>(hch c z).2.2.1 x c e rfl) ho (I.freeC x c e)
 ·obtain ⟨e,n,ne,nf,d⟩:=I.pin p hp
  have nch:p.1∉ch:=fun z=>(hch p.1 z).2.2.2 p hp rfl
  exact ⟨keep p.1 p.2 ne nf nch e n,free p.1 p.2 nch e n,ne,nf,d⟩
theorem Inv.un {t':Nat}(I:Inv X pins σ H s) (u:Un X.fs [] H H' s.heap h') (hok:HOk X.prog X.w H' h'):Inv X pins σ H' { s with heap:=h',toks:=t' }:=by
 obtain ⟨m,⟨o,es,ep,ho,r⟩,_⟩:=id I.loc
 obtain ⟨sl,hL⟩:=u.any ho I.free (by simp)
 exact I.step (g':=s.gens) (d':=s.drawn) (ch:=[]) (fun _ z=>nomatch z) (fun b o _ hb _ e n=>u.keep b o e n hb (by simp)) (fun b o _ hb _ e n=>u.slot b o e n hb (by simp)) (fun b o _ e n=>u.free b o e n (by simp)) (fun b o _ e=>u.there b o e (by simp)) u.tups u.frzs u.tbls (fun m' hm=>by
  obtain ⟨o',es',ep',ho',r'⟩:=hm
  rw [ho] at ho';cases ho'
  exact ⟨_,es',ep',hL,r'⟩) hok I.bare
theorem Inv.call {g':Array GenState}{t':Nat}{d':Drawn}{ch:List Addr}(I:Inv X pins σ H s) (u:Un (frs X.stack) ch H H' s.heap h') (hok:HOk X.prog X.w H' h') (hg:AllBare g')
  (hch:∀ b∈ch,(b∈X.ex∨X.s₀.heap.objs.size≤b)∧b≠X.env.locals∧(∀ x c,X.env.cells.lookup x=some c→c≠b)∧∀ p∈X.pn++pins,p.1≠b):
  Inv X pins σ H' { s with heap:=h',gens:=g',drawn:=d',toks:=t' }:=by
 obtain ⟨m,⟨o,es,ep,ho,r⟩,_⟩:=id I.loc
 obtain ⟨sl,hL⟩:=u.any ho I.free fun z=>(hch _ z).2.1 rfl
 exact I.step (ch:=ch) hch (fun b o hL hb hc e n=>u.keep b o e n (fun z=>(List.mem_cons.mp (I.stkSub b z)).elim hL hb) hc) (fun b o _ _ hc e n=>u.any e n hc) (fun b o hc e n=>u.free b o e n hc) (fun b o hc e=>u.there b o e hc) u.tups u.frzs u.tbls (fun m' hm=>by
  obtain ⟨o',es',ep',ho',r'⟩:=hm
  rw [ho] at ho';cases ho'
  exact ⟨_,es',ep',hL,r'⟩) hok hg
theorem Inv.turned {t':Nat}{it:Addr}(I:Inv X pins σ H s) (k:∀ b o,b≠it→s.heap.get? b=some o→h'.get? b=some o) (hn:H it=none) (hL:it≠X.env.locals)
  (h1:it∈X.ex∨X.s₀.heap.objs.size≤it) (h2:∀ x c,X.env.cells.lookup x=some c→c≠it) (h3:∀ p∈X.pn++pins,p.1≠it):Inv X pins σ H { s with heap:=h',toks:=t' }:=by
 have nit:∀ b u,H b=some u→b≠it:=fun b u e z=>by rw [z,hn] at e;cases e
 refine I.step (g':=s.gens) (d':=s.drawn) (ch:=[it]) (fun b hb=>?_) (fun b o _ _ hc e _=>k b o (fun z=>hc (by simp [z])) e) (fun b o _ _ hc e _=>⟨o.slots,k b o (fun z=>hc (by simp [z])) e⟩) (fun _ _ _ _ n=>n)
  (fun b o hc e=>⟨o,k b o (fun z=>hc (by simp [z])) e⟩) (fun _ _ e=>e) (fun _ _ _ e=>e) (fun b ps e=>⟨#[],by rw [e];simp⟩) (fun m hm=>?_) (fun b u e=>?_) I.bare
 ·have e:b=it:=by simpa using hb
  subst e
  exact ⟨h1,hL,h2,h3⟩
 ·obtain ⟨o,es,ep,ho,r⟩:=hm
  exact ⟨o,es,ep,k _ o (Ne.symm hL) ho,r⟩
 ·refine (I.hok b u e).stay (fun c v hc q=>k c v ?_ q) (fun _ q=>q) fun _ _ q=>q
  rcases hc with z | z
  ·rw [z];exact nit b u e
  ·exact nit c _ z
theorem Inv.tok (I:Inv X pins σ H s) (t:Nat):Inv X pins σ H { s with toks:=t }:=I.un (h':=s.heap) (t':=t) Un.refl I.hok
theorem Inv.kept {t':Nat}(I:Inv X pins σ H s) (k:∀ b u,s.heap.get? b=some u→h'.get? b=some u):Inv X pins σ H { s with heap:=h',toks:=t' }:=I.un (Un.kept k) (I.hok.kept k)
theorem Inv.laid {a:Addr}{o:HO}{t':Nat}(I:Inv X pins σ H s) (k:∀ b u,s.heap.get? b=some u→h'.get? b=some u) (hp:s.heap.objs.size≤a) (new:Zcn X.prog X.w (upd H a o) h' a o):
  Inv X pins σ (upd H a o) { s with heap:=h',toks:=t' }:=I.un (Un.laid k hp (I.hok.fresh hp)) (I.hok.laid k hp new)
theorem Inv.write {x e:Addr}{o:HO}{t':Nat}(I:Inv X pins σ H s) (mu:Mut (H x)) (he:e=x∨H e=some (.own x)) (k:∀ b u,b≠e→s.heap.get? b=some u→h'.get? b=some u) (heo:∃ u,h'.get? e=some u)
  (new:Zcn X.prog X.w (upd H x o) h' x o):Inv X pins σ (upd H x o) { s with heap:=h',toks:=t' }:=I.un (Un.write mu he k heo) (I.hok.write mu he k heo new)
theorem Inv.pins_of {pins':List (Addr×Obj)}(I:Inv X pins σ H s) (h:∀ p∈pins',s.heap.get? p.1=some p.2∧H p.1=none∧p.1≠X.env.locals∧p.1∉X.fs∧∀ v,p.2.data≠.cell v):Inv X pins' σ H s :=
 ⟨I.ok,I.os,I.bare,I.base,I.loc,I.cell,I.free,I.freeC,fun p hp=>(List.mem_append.mp hp).elim (fun z=>I.pin p (List.mem_append_left _ z)) (h p),I.hok,I.len⟩
theorem nodup_ix {N:List Str}(hN:N.Nodup) {i j:Nat}{x:Str}(a:N[i]?=some x) (b:N[j]?=some x):i=j:=by
 obtain ⟨h1,e1⟩:=List.getElem?_eq_some_iff.mp a
 obtain ⟨h2,e2⟩:=List.getElem?_eq_some_iff.mp b
 exact (List.getElem_inj hN).mp (e1.trans e2.symm)
theorem store_ok2 {M:Model}{A:Around}{E:Value→Shared→Prop}{i:Nat}{x:Str}{v:V}{u:Value}{Q:Unit→Shared→Prop}(I:Inv X pins σ H s) (hN:X.N.Nodup) (hi:X.N[i]?=some x) (hx:Loc X.env.scope x) (r:Zcf v u)
  (h:∀ s',Inv X pins (σ.set i (some v)) H s'→(∃ a,Heap.SameBut a s.heap s'.heap∧(a=X.env.locals∨X.env.cells.lookup x=some a))→Q () s') (hf:X.fn x=true∨X.env.scope.names.lookup x=some .local:=by first | exact .inl rfl | exact .inr rfl | assumption):wpAny M A (storeName X.env x u) Q E s:=by
 obtain ⟨m,hn,hl⟩:=id I.loc
 have hcls:(X.env.scope.kind == .class || (X.env.scope.kind == .module&&X.env.locals != X.env.globals))=false:=by rw [I.ok.kind];rfl
 have hiσ:i<σ.length:=by rw [I.len];exact (List.getElem?_eq_some_iff.mp hi).1
 have cne:=I.cne
 have tracked:∀ {a:Addr} {h':Heap},(∃ o,s.heap.get? a=some o∧H a=none)→Heap.SameBut a s.heap h'→HOk X.prog X.w H h':=fun {a h'} ha hs b ob e=>by
  obtain ⟨_,_,hfree⟩:=ha
  refine (I.hok b ob e).stay (fun c w' hc q=>(hs.2 c ?_).trans q) (fun _ q=>q) fun _ _ q=>q
  rintro rfl
  rcases hc with rfl | hc
  ·rw [hfree] at e;cases e
  ·rw [hfree] at hc;cases hc
 rcases hx with hk | hk
 ·refine wpAny_storeName_local hk hn (fun h' hn' hs=>?_) hcls
  obtain ⟨oL,_,_,hoL,_⟩:=id hn
  refine h _ ⟨I.ok,I.os,I.bare,⟨fun b o e n hb hx=>?_,fun b o e n hb hx=>?_,I.base.free,fun b o e hx=>?_,I.base.tups,I.base.frzs,I.base.tbls⟩,⟨_,hn',fun j y v' e1 e2 e3=>?_⟩,fun y c e=>?_,I.free,I.freeC,fun p hp=>?_,tracked ⟨oL,hoL,I.free⟩ hs,by simpa using I.len⟩ ⟨_,hs,.inl rfl⟩
  ·exact (hs.2 b (Nat.ne_of_lt (Nat.lt_of_lt_of_le (Heap.lt_size e) I.ok.above))).trans (I.base.keep b o e n hb hx)
  ·obtain ⟨sl,e1⟩:=I.base.slot b o e n hb hx
   exact ⟨sl,(hs.2 b (Nat.ne_of_lt (Nat.lt_of_lt_of_le (Heap.lt_size e) I.ok.above))).trans e1⟩
  ·obtain ⟨o',e1⟩:=I.base.there b o e hx
   exact ⟨o',(hs.2 b (Nat.ne_of_lt (Nat.lt_of_lt_of_le (Heap.lt_size e) I.ok.above))).trans e1⟩
  ·by_cases hj:j=i
   ·subst hj
    rw [hi] at e1;cases e1
    rw [List.getElem?_set_self hiσ] at e2
    cases e2
    exact ⟨u,r,.inl ⟨hk,by simp⟩⟩
   ·rw [List.getElem?_set_ne (Ne.symm hj)] at e2
    obtain ⟨u',r',q⟩:=hl j y v' e1 e2 e3
    refine ⟨u',r',?_⟩
    rcases q with ⟨k,e⟩ | ⟨k,c,e,z⟩
    ·refine .inl ⟨k,?_⟩
     have:y≠x:=fun e=>hj (nodup_ix hN e1 (e ▸ hi))
     simp [this,e]
    ·exact .inr ⟨k,c,e,z.sameBut hs (cne y c e)⟩
  ·obtain ⟨w',z⟩:=I.cell y c e
   exact ⟨w',z.sameBut hs (cne y c e)⟩
  ·obtain ⟨e,n,ne,nf,d⟩:=I.pin p hp
   exact ⟨(hs.2 p.1 ne).trans e,n,ne,nf,d⟩
 ·have hfn:X.fn x=true:=by
   rcases hf with z | z
   ·exact z
   ·rw [z] at hk;cases hk
  obtain ⟨c,hc⟩:=I.ok.has x (.inl hk)
  obtain ⟨w',z⟩:=I.cell x c hc
  refine wpAny_storeName_cell I.ok.kind hk hc z (fun h' hc' hs=>?_)
  obtain ⟨oc,hoc,hocd⟩:=id z
  refine h { s with heap:=h' } ⟨I.ok,I.os,I.bare,⟨fun b o e n hb hx=>?_,fun b o e n hb hx=>?_,I.base.free,fun b o e hx=>?_,I.base.tups,I.base.frzs,I.base.tbls⟩,⟨m,hn.sameBut hs (Ne.symm (cne x c hc)),fun j y v' e1 e2 e3=>?_⟩,fun y c' e=>?_,I.free,I.freeC,fun p hp=>?_,tracked ⟨oc,hoc,I.freeC x c hc⟩ hs,by simpa using I.len⟩ ⟨c,hs,.inr hc⟩
  ·exact (hs.2 b (Nat.ne_of_lt (Nat.lt_of_lt_of_le (Heap.lt_size e) (I.ok.cab x c hfn hc)))).trans (I.base.keep b o e n hb hx)
  ·obtain ⟨sl,e1⟩:=I.base.slot b o e n hb hx
   exact ⟨sl,(hs.2 b (Nat.ne_of_lt (Nat.lt_of_lt_of_le (Heap.lt_size e) (I.ok.cab x c hfn hc)))).trans e1⟩
  ·obtain ⟨o',e1⟩:=I.base.there b o e hx
   exact ⟨o',(hs.2 b (Nat.ne_of_lt (Nat.lt_of_lt_of_le (Heap.lt_size e) (I.ok.cab x c hfn hc)))).trans e1⟩
  ·by_cases hj:j=i
   ·subst hj
    rw [hi] at e1;cases e1
    rw [List.getElem?_set_self hiσ] at e2
    cases e2
    exact ⟨u,r,.inr ⟨.inl hk,c,hc,hc'⟩⟩
   ·rw [List.getElem?_set_ne (Ne.symm hj)] at e2
    obtain ⟨u',r',q⟩:=hl j y v' e1 e2 e3
    refine ⟨u',r',?_⟩
    rcases q with q | ⟨k,c',e,z'⟩
    ·exact .inl q
    ·refine .inr ⟨k,c',e,z'.sameBut hs ?_⟩
     rintro rfl
     exact hj (nodup_ix hN e1 (I.ok.inj _ _ _ e hc ▸ hi))
  ·by_cases hcc:c'=c
   ·subst hcc;exact ⟨_,hc'⟩
   ·obtain ⟨w2,z2⟩:=I.cell y c' e
    exact ⟨w2,z2.sameBut hs hcc⟩
  ·obtain ⟨e,n,ne,nf,d⟩:=I.pin p hp
   refine ⟨(hs.2 p.1 ?_).trans e,n,ne,nf,d⟩
   intro q
   rw [q,hoc] at e
   have q':oc=p.2:=Option.some.inj e
   exact d w' (by rw [← q'];exact hocd)
theorem store_ok {M:Model}{A:Around}{E:Value→Shared→Prop}{i:Nat}{x:Str}{v:V}{u:Value}{Q:Unit→Shared→Prop}(I:Inv X pins σ H s) (hN:X.N.Nodup) (hi:X.N[i]?=some x) (hx:Loc X.env.scope x) (r:Zcf v u)
  (h:∀ s',Inv X pins (σ.set i (some v)) H s'→Q () s') (hf:X.fn x=true∨X.env.scope.names.lookup x=some .local:=by first | exact .inl rfl | exact .inr rfl | assumption):wpAny M A (storeName X.env x u) Q E s :=
 store_ok2 I hN hi hx r (fun s' I' _=>h s' I') hf
theorem Inv.call' {s':Shared}{ch:List Addr}(I:Inv X pins σ H s) (ho:s'.os=s.os) (u:Un (frs X.stack) ch H H' s.heap s'.heap) (hok:HOk X.prog X.w H' s'.heap) (hg:AllBare s'.gens)
  (hch:∀ b∈ch,(b∈X.ex∨X.s₀.heap.objs.size≤b)∧b≠X.env.locals∧(∀ x c,X.env.cells.lookup x=some c→c≠b)∧∀ p∈X.pn++pins,p.1≠b):Inv X pins σ H' s':=by
 obtain ⟨h',g',d',t',o'⟩:=s'
 have e:o'=s.os:=ho
 subst e
 exact I.call (g':=g') (t':=t') (d':=d') u hok hg hch
end
abbrev XK:=Value→Option Addr→Hp→Prop
abbrev St:=List (Option V)
abbrev VK:=V→Hp→Prop
abbrev TE:=St→Hp→VK→Prop
abbrev TT:=St→Hp→(Bool→Hp→Prop)→Prop
abbrev TA:=St→Hp→(List V→Hp→Prop)→Prop
structure Ends where
 nx:St→Hp→Prop
 rt:VK
 bk:St→Hp→Prop:=fun _ _=>False
 ct:St→Hp→Prop:=fun _ _=>False
abbrev TS:=Ends→St→Hp→Prop
def EP (X:Cx) (pins:List (Addr×Obj)) (σ:St) (Q:VK) (u:Value) (s':Shared):Prop:=∃ v H',Inv X pins σ H' s'∧Zcf v u∧Q v H'
def TP (X:Cx) (pins:List (Addr×Obj)) (σ:St) (Q:Bool→Hp→Prop) (b:Bool) (s':Shared):Prop:=∃ H',Inv X pins σ H' s'∧Q b H'
def AP (X:Cx) (pins:List (Addr×Obj)) (σ:St) (Q:List V→Hp→Prop) (us:List Value) (s':Shared):Prop:=∃ vs H',Inv X pins σ H' s'∧Zb7 vs us∧Q vs H'
def SP (X:Cx) (pins:List (Addr×Obj)) (D:Ends) (f:Flow) (s':Shared):Prop :=
 match f with
 | .next=>∃ σ' H',Inv X pins σ' H' s'∧D.nx σ' H'
 | .brk=>∃ σ' H',Inv X pins σ' H' s'∧D.bk σ' H'
 | .cont=>∃ σ' H',Inv X pins σ' H' s'∧D.ct σ' H'
 | .ret u=>∃ v σ' H',Inv X pins σ' H' s'∧Zcf v u∧D.rt v H'
def PE (X:Cx) (e:Expr) (t:TE):Prop :=
 ∀ (pins:List (Addr×Obj)) (s:Shared) (σ:St) (H:Hp) (Q:VK),Inv X pins σ H s→t σ H Q→wpAny (model X.prog X.w) X.A (eval e X.env) (EP X pins σ Q) X.xe s
def PT (X:Cx) (e:Expr) (t:TT):Prop :=
 ∀ (pins:List (Addr×Obj)) (s:Shared) (σ:St) (H:Hp) (Q:Bool→Hp→Prop),Inv X pins σ H s→t σ H Q→wpAny (model X.prog X.w) X.A (isTrue e X.env (eval e X.env)) (TP X pins σ Q) X.xe s
def PW (X:Cx) (e:Expr) (t:TT):Prop :=
 ∀ (whole:Sem Value) (pins:List (Addr×Obj)) (s:Shared) (σ:St) (H:Hp) (Q:Bool→Hp→Prop),Inv X pins σ H s→t σ H Q→wpAny (model X.prog X.w) X.A (isTrue e X.env whole) (TP X pins σ Q) X.xe s
theorem PW.pt {X:Cx}{e:Expr}{t:TT}(h:PW X e t):PT X e t:=h _
def PA (X:Cx) (es:List Expr) (t:TA):Prop :=
 ∀ (pos:Pos) (pins:List (Addr×Obj)) (s:Shared) (σ:St) (H:Hp) (Q:List V→Hp→Prop),Inv X pins σ H s→t σ H Q→wpAny (model X.prog X.w) X.A (spliced (backTo pos (starEach es X.env))) (AP X pins σ Q) X.xe s
def PS (X:Cx) (st:Stmt) (t:TS):Prop :=
 ∀ (pins:List (Addr×Obj)) (s:Shared) (σ:St) (H:Hp) (D:Ends),Inv X pins σ H s→t D σ H→wpAny (model X.prog X.w) X.A (exec st X.env) (SP X pins D) X.xe s
def PSs (X:Cx) (st:List Stmt) (t:TS):Prop :=
 ∀ (pins:List (Addr×Obj)) (s:Shared) (σ:St) (H:Hp) (D:Ends),Inv X pins σ H s→t D σ H→wpAny (model X.prog X.w) X.A (execs st X.env) (SP X pins D) X.xe s
theorem thn {α:Type}{t:Sem α}{Q Q':α→Shared→Prop}{M:Model}{A:Around}{E:Value→Shared→Prop}{s:Shared}(h:wpAny M A t Q E s) (hQ:∀ a s,Q a s→Q' a s):wpAny M A t Q' E s:=wpAny_mono h hQ fun _ _ x=>x
end L2
namespace L2
open PySem PySem.Spec PyProof.Rows
section
variable {X:Cx}
def tVar (i:Nat):TE:=fun σ H Q=>∃ v,σ[i]?=some (some v)∧Q v H
def tC (v:V):TE:=fun _ H Q=>Q v H
theorem pe_var {i:Nat}{x:Str}{pos:Pos}(hN:X.N[i]?=some x) (hv:Vis X.env.scope x) (hd:(x == ("__debug__":Str))=false:=by decide) (hcd:(x == ("__classdict__":Str))=false:=by decide):PE X (.Name x pos) (tVar i):=by
 intro pins s σ H Q I h
 obtain ⟨v,e,h⟩:=h
 obtain ⟨m,hn,hl⟩:=I.loc
 obtain ⟨u,r,l⟩:=hl i x v hN e hv
 have fin:EP X pins σ Q u s:=⟨v,H,I,r,h⟩
 rcases l with ⟨hk,hm⟩ | ⟨hk,c,hc,hcell⟩
 ·exact wpAny_Name (wpAny_loadName_local I.ok.kind hk hn hm fin) hd
 ·rcases hk with hk | hk
  ·exact wpAny_Name (wpAny_loadName_cell I.ok.kind hk hc hcell fin) hd
  ·exact wpAny_Name (wpAny_loadName_free I.ok.kind hk hc hcell fin hcd) hd
theorem Zaf {i j pos}:PE X (.Constant (.int i) j pos) (tC (.int i)):=fun _ _ _ H _ I h=>wpAny_Constant_int ⟨.int i,H,I.tok _,⟨_,rfl⟩,h⟩
theorem pe_bl {b j pos}:PE X (.Constant (.bool b) j pos) (tC (.bl b)):=fun _ _ _ H _ I h=>Constant_bool ⟨.bl b,H,I,rfl,h⟩
theorem pe_non {j pos}:PE X (.Constant .none j pos) (tC .non):=fun _ _ _ H _ I h=>Constant_none ⟨.non,H,I,rfl,h⟩
theorem Zb3 {x j pos}:PE X (.Constant (.str x) j pos) (tC (.str x)):=fun _ _ _ H _ I h=>Calls.Constant_str ⟨.str x,H,I.tok _,⟨_,rfl⟩,h⟩
def Gl (X:Cx) (x:Str):Prop:=X.env.kindOf x=some .globalImplicit
theorem ld_glob {E:Value→Shared→Prop}{pins:List (Addr×Obj)}{s:Shared}{σ:St}{H:Hp}{x:Str}{u:Value}{pos:Pos}{Q:Value→Shared→Prop}(I:Inv X pins σ H s) (hg:Gl X x) (hm:X.mg x=some u) (h:Q u s)
  (hd:(x == ("__debug__":Str))=false:=by decide):wpAny (model X.prog X.w) X.A (eval (.Name x pos) X.env) Q E s :=
 Calls.Name_function_global I.ok.kind hg (Calls.loadGlobal_global (by rw [I.ok.glob];exact I.mod.glob.keeps I.bk) hm h) hd
theorem ld_blt {E:Value→Shared→Prop}{pins:List (Addr×Obj)}{s:Shared}{σ:St}{H:Hp}{x:Str}{u:Value}{pos:Pos}{Q:Value→Shared→Prop}(I:Inv X pins σ H s) (hg:Gl X x) (hm:X.mg x=none) (hv:bootBuiltins x=some u) (h:Q u s)
  (hn:x≠"__name__":=by decide) (hd:(x == ("__debug__":Str))=false:=by decide):wpAny (model X.prog X.w) X.A (eval (.Name x pos) X.env) Q E s:=by
 obtain ⟨mb,h1,h2⟩:=I.mod.blt
 exact Calls.Name_function_global I.ok.kind hg (Calls.loadGlobal_builtin (by rw [I.ok.glob];exact I.mod.glob.keeps I.bk) hm (by rw [I.ok.blt];exact h1.keeps I.bk) ((h2 x hn).trans hv) h) hd
theorem Zeo {x:Str}{v:V}{u:Value}{pos:Pos}(hg:Gl X x) (hm:X.mg x=some u) (r:Zcf v u) (hd:(x == ("__debug__":Str))=false:=by decide):PE X (.Name x pos) (tC v):=
 fun _ _ _ H _ I h=>ld_glob I hg hm ⟨v,H,I,r,h⟩ hd
theorem pe_bltn {x:Str}{v:V}{u:Value}{pos:Pos}(hg:Gl X x) (hm:X.mg x=none) (hv:bootBuiltins x=some u) (r:Zcf v u) (hn:x≠"__name__":=by decide) (hd:(x == ("__debug__":Str))=false:=by decide):PE X (.Name x pos) (tC v):=
 fun _ _ _ H _ I h=>ld_blt I hg hm hv ⟨v,H,I,r,h⟩ hn hd
variable {a b:Expr} {ta tb:TE} {pos:Pos}
def PC (X:Cx) (op:CmpOp) (a b:Expr) (t:TE):Prop :=
 ∀ (pins:List (Addr×Obj)) (s:Shared) (σ:St) (H:Hp) (Q:VK),Inv X pins σ H s→t σ H Q →
  wpAny (model X.prog X.w) X.A (eval a X.env) (fun v s₁=>wpAny (model X.prog X.w) X.A (eval b X.env) (fun u s₂=>wpAny (model X.prog X.w) X.A (compareOp op v u) (EP X pins σ Q) X.xe s₂) X.xe s₁) X.xe s
theorem nobehind (b:Expr) {op:CmpOp}(h:op≠.In) (h2:op≠.NotIn):behindInMarks op b=false:=by
 have e1:(op == CmpOp.In)=false:=by cases op <;> first | rfl | exact absurd rfl h
 have e2:(op == CmpOp.NotIn)=false:=by cases op <;> first | rfl | exact absurd rfl h2
 cases b <;> simp [behindInMarks,e1,e2]
def tNotN (ta:TE):TE:=fun σ H Q=>ta σ H fun x H1=>Q (.bl (!decide (x=.non))) H1
theorem Zcf.none_iff {x:V}{v:Value}(r:Zcf x v):(v == Value.none)=decide (x=.non):=by
 cases x with
 | non=>cases r;rfl
 | bl _=>cases r;rfl
 | int _=>obtain ⟨t,rfl⟩:=r;rfl
 | str _=>obtain ⟨t,rfl⟩:=r;rfl
 | byt _=>obtain ⟨t,rfl⟩:=r;rfl
 | flt _=>obtain ⟨t,rfl⟩:=r;rfl
 | ref _=>cases r;rfl
 | ty _=>cases r;rfl
theorem pc_notN {j pos'}(ha:PE X a ta):PC X .IsNot a (.Constant .none j pos') (tNotN ta):=by
 intro pins s σ H Q I h
 refine thn (ha pins s σ H _ I h) fun v s1 ⟨x,H1,I1,r1,q1⟩=>?_
 exact Constant_none (isnot_none_gen ⟨.bl _,H1,I1,by rw [r1.none_iff];rfl,q1⟩)
def tB (t:TE):TT:=fun σ H Q=>t σ H fun x H1=>∃ c,x=.bl c∧Q c H1
theorem pe_cmp {op:CmpOp}{t:TE}(h:PC X op a b t) (h1:behindInMarks op b=false:=by first | exact nobehind _ (by decide) (by decide) | rfl):PE X (.Compare a [op] [b] pos) t:=fun pins s σ H Q I hw=>wpAny_Compare1 (h pins s σ H Q I hw) h1
theorem pt_cmp {op:CmpOp}{t:TE}(h:PC X op a b t) (h1:behindInMarks op b=false:=by first | exact nobehind _ (by decide) (by decide) | rfl):PT X (.Compare a [op] [b] pos) (tB t):=by
 intro pins s σ H Q I hw
 refine wpAny_isTrue_Compare1 (thn (h pins s σ H _ I hw) fun v s1 h1=>thn h1 fun u s2 h2=>thn h2 fun c s3 ⟨x,H1,I1,r1,q1⟩=>?_) h1
 obtain ⟨d,rfl,q⟩:=q1
 cases r1
 exact wpAny_truthy_bool ⟨H1,I1,q⟩
theorem Zcz {e:Expr}{t:TE}(h:PE X e t) (he:∀ whole,isTrue e X.env whole=(do let v ← whole;standAt e.pos;holding [v] (truthy v)):=by intro _;rfl):PT X e (tB t):=by
 intro pins s σ H Q I hw
 refine isTrue_plain (thn (h pins s σ H _ I hw) fun v s1 ⟨x,H1,I1,r1,q1⟩=>?_) (he _)
 obtain ⟨d,rfl,q⟩:=q1
 cases r1
 exact wpAny_truthy_bool ⟨H1,I1,q⟩
variable {tA tB':TT} {rest:List Expr}
def tAnd (t u:TT):TT:=fun σ H Q=>t σ H fun c H1=>if c=true then u σ H1 Q else Q false H1
def tOr (t u:TT):TT:=fun σ H Q=>t σ H fun c H1=>if c=true then Q true H1 else u σ H1 Q
def tNot (t:TT):TT:=fun σ H Q=>t σ H fun c H1=>Q (!c) H1
theorem pw_and1 (ha:PT X a tA):PW X (.BoolOp .And [a] pos) tA:=by
 intro wh pins s σ H Q I h
 refine isTrue_and (thn (ha pins s σ H Q I h) fun c s1 e=>?_)
 cases c with
 | true=>exact isTrue_and_nil e
 | false=>exact e
theorem pw_or1 (ha:PT X a tA):PW X (.BoolOp .Or [a] pos) tA:=by
 intro wh pins s σ H Q I h
 refine isTrue_or (thn (ha pins s σ H Q I h) fun c s1 e=>?_)
 cases c with
 | false=>exact isTrue_or_nil e
 | true=>exact e
theorem pw_and (ha:PT X a tA) (hb:PW X (.BoolOp .And (b :: rest) pos) tB'):PW X (.BoolOp .And (a :: b :: rest) pos) (tAnd tA tB'):=by
 intro wh pins s σ H Q I h
 refine isTrue_and (thn (ha pins s σ H _ I h) fun c s1 ⟨H1,I1,q1⟩=>?_)
 cases c with
 | true=>exact hb wh pins s1 σ H1 Q I1 q1
 | false=>exact ⟨H1,I1,q1⟩
theorem pw_or (ha:PT X a tA) (hb:PW X (.BoolOp .Or (b :: rest) pos) tB'):PW X (.BoolOp .Or (a :: b :: rest) pos) (tOr tA tB'):=by
 intro wh pins s σ H Q I h
 refine isTrue_or (thn (ha pins s σ H _ I h) fun c s1 ⟨H1,I1,q1⟩=>?_)
 cases c with
 | true=>exact ⟨H1,I1,q1⟩
 | false=>exact hb wh pins s1 σ H1 Q I1 q1
theorem Zc8 (ha:PT X a tA):PT X (.UnaryOp .Not a pos) (tNot tA):=by
 intro pins s σ H Q I h
 exact isTrue_not (ha pins s σ H (fun c H1=>Q (!c) H1) I h)
def tAndV (ta tb:TE):TE:=fun σ H Q=>ta σ H fun x H1=>∃ c,x=.bl c∧if c=true then tb σ H1 Q else Q (.bl false) H1
def tNotV (ta:TE):TE:=fun σ H Q=>ta σ H fun x H1=>∃ c,x=.bl c∧Q (.bl (!c)) H1
theorem pe_one {op}{t:TE}(h:PE X a t):PE X (.BoolOp op [a] pos) t:=fun pins s σ H Q I hw=>BoolOp_one (h pins s σ H Q I hw)
theorem pe_and (ha:PE X a ta) (hb:PE X (.BoolOp .And (b :: rest) pos) tb):PE X (.BoolOp .And (a :: b :: rest) pos) (tAndV ta tb):=by
 intro pins s σ H Q I h
 refine BoolOp_and (thn (ha pins s σ H _ I h) fun v s1 ⟨x,H1,I1,r1,q1⟩=>?_)
 obtain ⟨c,rfl,q1⟩:=q1
 cases r1
 refine wpAny_truthy_bool ?_
 cases c with
 | true=>exact hb pins s1 σ H1 Q I1 q1
 | false=>exact ⟨.bl false,H1,I1,rfl,q1⟩
theorem pe_not (ha:PE X a ta):PE X (.UnaryOp .Not a pos) (tNotV ta):=by
 intro pins s σ H Q I h
 refine UnaryOp_ (thn (ha pins s σ H _ I h) fun v s1 ⟨x,H1,I1,r1,q1⟩=>?_)
 obtain ⟨c,rfl,q1⟩:=q1
 cases r1
 exact not_of (wpAny_truthy_bool ⟨.bl (!c),H1,I1,rfl,q1⟩)
end
end L2
namespace L2
open PySem PySem.Spec PyProof.Rows
def SqL (K:W.Frag) (H:Hp) (a:Addr) (xs:List V):Prop :=
 Rd H a (.lst xs) ∨
  ∃ (o:Obj) (its:Array Value) (n:Nat),K.lookup a=some o∧o.cls=.type "list"∧o.dict=none∧o.data=.seq its n∧its.size≤sizeLine∧Zb7 xs its.toList
def SqT (K:W.Frag) (H:Hp) (a:Addr) (xs:List V):Prop :=
 Rd H a (.tup xs) ∨
  ∃ (o:Obj) (its:Array Value) (n:Nat),K.lookup a=some o∧o.cls=.type "tuple"∧o.data=.seq its n∧its.size≤sizeLine∧Zb7 xs its.toList
def absV:Value→Option V
 | .none=>some .non
 | .bool b=>some (.bl b)
 | .int i _=>some (.int i)
 | .str x _=>some (.str x)
 | .bytes b _=>some (.byt b)
 | .float b _=>some (.flt b)
 | .ref a=>some (.ref a)
 | .type n=>some (.ty n)
 | _=>none
theorem Zcf.abs {x:V}{u:Value}(r:Zcf x u):absV u=some x:=by
 cases x with
 | non=>cases r;rfl
 | bl _=>cases r;rfl
 | int _=>obtain ⟨t,rfl⟩:=r;rfl
 | str _=>obtain ⟨t,rfl⟩:=r;rfl
 | byt _=>obtain ⟨t,rfl⟩:=r;rfl
 | flt _=>obtain ⟨t,rfl⟩:=r;rfl
 | ref _=>cases r;rfl
 | ty _=>cases r;rfl
theorem Zcf.inj {x y:V}{u:Value}(r:Zcf x u) (q:Zcf y u):x=y:=Option.some.inj (r.abs.symm.trans q.abs)
theorem Zb7.inj:∀ {xs ys:List V}{us:List Value},Zb7 xs us→Zb7 ys us→xs=ys
 | _,_,_,.nil,.nil=>rfl
 | _,_,_,.cons r t,.cons r' t'=>by rw [r.inj r',Zb7.inj t t']
section
variable {X:Cx} {pins:List (Addr×Obj)} {σ:St} {H:Hp} {s:Shared} {a:Addr} {xs ys:List V}
theorem SqL.of {K:W.Frag}(h:H a=some (.lst xs)):SqL K H a xs:=.inl (.inl h)
theorem SqT.of {K:W.Frag}(h:H a=some (.tup xs)):SqT K H a xs:=.inl (.inl h)
theorem Inv.list (I:Inv X pins σ H s) (h:SqL X.K H a xs):∃ its:List Value,Zb7 xs its∧PlainL s.heap a its.toArray∧xs.length≤sizeLine:=by
 rcases h with h | ⟨o,its,n,hk,hc,hd,hs,hz,r⟩
 ·obtain ⟨z,its,n,r,e⟩:=h.ok I.hok
  exact ⟨its,r,⟨_,n,e,rfl,rfl,rfl⟩,z⟩
 ·refine ⟨its.toList,r,⟨o,n,I.kIn a o hk,hc,hd,by simpa using hs⟩,?_⟩
  have e:=r.length
  simp only [Array.length_toList] at e
  omega
theorem Inv.tuple (I:Inv X pins σ H s) (h:SqT X.K H a xs):∃ its:List Value,Zb7 xs its∧IsTup s.heap a its.toArray∧xs.length≤sizeLine:=by
 rcases h with h | ⟨o,its,n,hk,hc,hs,hz,r⟩
 ·obtain ⟨z,its,r,p⟩:=h.ok I.hok
  exact ⟨its,r,p,z⟩
 ·refine ⟨its.toList,r,⟨o,I.kIn a o hk,hc,n,by simpa using hs⟩,?_⟩
  have e:=r.length
  simp only [Array.length_toList] at e
  omega
theorem Inv.list_inj (I:Inv X pins σ H s) (h:SqL X.K H a xs) (h':SqL X.K H a ys):xs=ys:=by
 obtain ⟨its,r,⟨o,n,e,_,_,d⟩,_⟩:=I.list h
 obtain ⟨its',r',⟨o',n',e',_,_,d'⟩,_⟩:=I.list h'
 rw [e] at e';cases e'
 rw [d] at d'
 injection d' with d1 _
 have:its=its':=by simpa using congrArg Array.toList d1
 subst this
 exact r.inj r'
theorem Inv.tuple_inj (I:Inv X pins σ H s) (h:SqT X.K H a xs) (h':SqT X.K H a ys):xs=ys:=by
 obtain ⟨its,r,⟨o,e,_,n,d⟩,_⟩:=I.tuple h
 obtain ⟨its',r',⟨o',e',_,n',d'⟩,_⟩:=I.tuple h'
 rw [e] at e';cases e'
 rw [d] at d'
 injection d' with d1 _
 have:its=its':=by simpa using congrArg Array.toList d1
 subst this
 exact r.inj r'
end
abbrev Cx.wish (X:Cx) (E:Value→Shared→Prop):Cx:={ X with xe:=E }
abbrev Cx.nox (X:Cx):Cx:=X.wish fun _ _=>False
theorem Cx.Ok.wish {X:Cx}(ok:X.Ok) (E:Value→Shared→Prop):(X.wish E).Ok :=
 ⟨ok.mod,ok.kind,ok.glob,ok.blt,ok.above,ok.inj,ok.has,ok.cab,ok.hd,ok.frames,ok.stk,ok.exf,ok.bs,ok.bsz,ok.noex,ok.exfs,ok.funs,ok.frf⟩
theorem Cx.Ok.unwish {X:Cx}{E:Value→Shared→Prop}(ok:(X.wish E).Ok):X.Ok :=
 ⟨ok.mod,ok.kind,ok.glob,ok.blt,ok.above,ok.inj,ok.has,ok.cab,ok.hd,ok.frames,ok.stk,ok.exf,ok.bs,ok.bsz,ok.noex,ok.exfs,ok.funs,ok.frf⟩
section
variable {X:Cx} {pins:List (Addr×Obj)} {σ:St} {H:Hp} {s:Shared} {E:Value→Shared→Prop}
theorem Inv.wish (I:Inv X pins σ H s) (E:Value→Shared→Prop):Inv (X.wish E) pins σ H s:=⟨I.ok.wish E,I.os,I.bare,I.base,I.loc,I.cell,I.free,I.freeC,I.pin,I.hok,I.len⟩
theorem Inv.unwish (I:Inv (X.wish E) pins σ H s):Inv X pins σ H s:=⟨I.ok.unwish,I.os,I.bare,I.base,I.loc,I.cell,I.free,I.freeC,I.pin,I.hok,I.len⟩
theorem SP.unwish {D:Ends}{f:Flow}{s':Shared}(h:SP (X.wish E) pins D f s'):SP X pins D f s':=by
 cases f with
 | next=>obtain ⟨σ',H',I,q⟩:=h;exact ⟨σ',H',I.unwish,q⟩
 | brk=>obtain ⟨σ',H',I,q⟩:=h;exact ⟨σ',H',I.unwish,q⟩
 | cont=>obtain ⟨σ',H',I,q⟩:=h;exact ⟨σ',H',I.unwish,q⟩
 | ret u=>obtain ⟨v,σ',H',I,r,q⟩:=h;exact ⟨v,σ',H',I.unwish,r,q⟩
theorem PSs.nox {st:List Stmt}{t:TS}(h:PSs X.nox st t):PSs X st t:=fun pins s σ H D I hw =>
 wpAny_mono (h pins s σ H D (I.wish _) hw) (fun _ _ q=>q.unwish) fun _ _ z=>False.elim z
end
section
variable {X:Cx} {st:Stmt} {rest:List Stmt} {t u:TS} {e:Expr} {te:TE} {pos:Pos}
def tNext:TS:=fun D σ H=>D.nx σ H
def tSeq (t u:TS):TS:=fun D σ H=>t { D with nx:=u D } σ H
theorem Zak:PSs X [] tNext:=fun _ _ σ H _ I h=>wpAny_execs_nil ⟨σ,H,I,h⟩
theorem pS (h1:PS X st t) (h2:PSs X rest u):PSs X (st :: rest) (tSeq t u):=by
 intro pins s σ H D I h
 refine wpAny_execs_cons (thn (h1 pins s σ H { D with nx:=u D } I h) fun f s1 q=>?_)
 cases f with
 | next =>
  obtain ⟨σ',H',I',q⟩:=q
  exact h2 pins s1 σ' H' D I' q
 | ret v=>exact q
 | brk=>exact q
 | cont=>exact q
theorem Zac (h1:PS X st t):PSs X [st] t:=by
 intro pins s σ H D I h
 refine wpAny_execs_cons (thn (h1 pins s σ H D I h) fun f s1 q=>?_)
 cases f with
 | next=>exact wpAny_execs_nil q
 | ret v=>exact q
 | brk=>exact q
 | cont=>exact q
theorem Inv.quiet {pins:List (Addr×Obj)}{σ:St}{H:Hp}{s:Shared}(I:Inv X pins σ H s):interactive X.env=false:=by simp [interactive,I.ok.kind]
def tDrop (te:TE):TS:=fun D σ H=>te σ H fun _ H1=>D.nx σ H1
theorem Za3 (he:PE X e te) (hs:swapsWith e none pos.line X.env=pure false:=by rfl):PS X (.Expr e pos) (tDrop te):=by
 intro pins s σ H D I h
 exact wpAny_Expr_any (thn (he pins s σ H _ I h) fun v s1 ⟨x,H1,I1,r1,q1⟩=>⟨σ,H1,I1,q1⟩) I.quiet hs
def tRet (te:TE):TS:=fun D σ H=>te σ H D.rt
theorem Zal (he:PE X e te):PS X (.Return (some e) pos) (tRet te):=by
 intro pins s σ H D I h
 exact wpAny_Return_some (thn (he pins s σ H _ I h) fun v s1 ⟨x,H1,I1,r1,q1⟩=>⟨x,σ,H1,I1,r1,q1⟩)
def tIfS (c:TT) (t u:TS):TS:=fun D σ H=>c σ H fun b H1=>if b=true then t D σ H1 else u D σ H1
theorem Za4 {c:Expr}{a b:List Stmt}{tc:TT}(hc:PT X c tc) (ha:PSs X a t) (hb:PSs X b u):PS X (.If c a b pos) (tIfS tc t u):=by
 intro pins s σ H D I h
 refine wpAny_If (thn (hc pins s σ H _ I h) fun d s1 ⟨H1,I1,q1⟩=>?_)
 cases d with
 | true=>exact ha pins s1 σ H1 D I1 q1
 | false=>exact hb pins s1 σ H1 D I1 q1
def tNever:TS:=fun _ _ _=>False
theorem Za5 {sts:List Stmt}:PSs X sts tNever:=fun _ _ _ _ _ _ h=>h.elim
end
abbrev TG:=V→St→Hp→(St→Hp→Prop)→Prop
abbrev TGs:=List V→St→Hp→(St→Hp→Prop)→Prop
def PG (X:Cx) (target:Expr) (t:TG):Prop :=
 ∀ (pins:List (Addr×Obj)) (s:Shared) (σ:St) (H:Hp) (v:V) (u:Value) (Q:St→Hp→Prop),Inv X pins σ H s→Zcf v u→t v σ H Q →
  wpAny (model X.prog X.w) X.A (assign target X.env u) (fun _ s'=>∃ σ' H',Inv X pins σ' H' s'∧Q σ' H') X.xe s
def PGs (X:Cx) (ts:List Expr) (t:TGs):Prop :=
 ∀ (pins:List (Addr×Obj)) (s:Shared) (σ:St) (H:Hp) (vs:List V) (us:List Value) (Q:St→Hp→Prop),Inv X pins σ H s→Zb7 vs us→t vs σ H Q →
  wpAny (model X.prog X.w) X.A (assignInOrder ((assignEach ts X.env).map (·.2)) us) (fun _ s'=>∃ σ' H',Inv X pins σ' H' s'∧Q σ' H') X.xe s
abbrev TSet:=V→V→V→Hp→(Hp→Prop)→Prop
def PSet (X:Cx) (t:TSet):Prop :=
 ∀ (pins:List (Addr×Obj)) (s:Shared) (σ:St) (H:Hp) (o i v:V) (ov iv u:Value) (Q:Hp→Prop),Inv X pins σ H s→Zcf o ov→Zcf i iv→Zcf v u→t o i v H Q →
  wpAny (model X.prog X.w) X.A (setItem ov iv u) (fun _ s'=>∃ H',Inv X pins σ H' s'∧Q H') X.xe s
section
variable {X:Cx} {pos:Pos}
def gName (i:Nat):TG:=fun v σ H Q=>Q (σ.set i (some v)) H
theorem Zah {i:Nat}{x:Str}(hN:X.N.Nodup) (hi:X.N[i]?=some x) (hx:Loc X.env.scope x) (hf:X.fn x=true∨X.env.scope.names.lookup x=some .local:=by first | exact .inl rfl | exact .inr rfl | assumption):PG X (.Name x pos) (gName i):=by
 intro pins s σ H v u Q I r h
 exact wpAny_assign_Name (store_ok I hN hi hx r (fun s' I'=>⟨_,H,I',h⟩) hf)
def gNil:TGs:=fun vs σ H Q=>vs=[]∧Q σ H
def gCons (t:TG) (u:TGs):TGs:=fun vs σ H Q=>∃ v r,vs=v :: r∧t v σ H fun σ' H'=>u r σ' H' Q
theorem Zd3:PGs X [] gNil:=by
 intro pins s σ H vs us Q I r h
 obtain ⟨e,h⟩:=h
 subst e
 cases r
 exact assignInOrder_nil ⟨σ,H,I,h⟩
theorem gC {e:Expr}{es:List Expr}{t:TG}{u:TGs} (h1:PG X e t) (h2:PGs X es u)
  (hs:(assignEach (e :: es) X.env).map (·.2)=assign e X.env :: (assignEach es X.env).map (·.2):=by rfl):PGs X (e :: es) (gCons t u):=by
 intro pins s σ H vs us Q I r h
 obtain ⟨v,vr,e1,h⟩:=h
 subst e1
 cases r with
 | cons r rr =>
  rw [hs]
  refine assignInOrder_cons (thn (h1 pins s σ H _ _ _ I r h) fun _ s1 ⟨σ1,H1,I1,q1⟩=>?_)
  exact h2 pins s1 σ1 H1 _ _ Q I1 rr q1
def gTup (K:W.Frag) (n:Nat) (t:TGs):TG:=fun v σ H Q=>∃ a xs,v=.ref a∧SqT K H a xs∧xs.length=n∧t xs σ H Q
theorem pg_tup {es:List Expr}{k:Nat}{t:TGs}{n:Nat}(hc:X.calm=true) (h:PGs X es t)
  (hn:(assignEach es X.env).length=n:=by rfl) (hst:(assignEach es X.env).findIdx? (·.1)=none:=by rfl):PG X (.Tuple es k pos) (gTup X.K n t):=by
 intro pins s σ H v u Q I r hw
 obtain ⟨a,xs,e1,hq,hl,hw⟩:=hw
 subst e1
 cases r
 obtain ⟨its,rv,ht,hz⟩:=I.tuple hq
 refine assign_Tuple_tuple (I.ok.hd hc) ht (by simp [hn,← hl,rv.length]) hst fun h' hx=>?_
 have I1:Inv X pins σ H { s with heap:=h' }:=I.kept (t':=s.toks) fun b o e=>hx b o (Nat.ne_of_lt (Heap.lt_size e)) e
 exact h pins _ σ H xs _ Q I1 (by simpa using rv) hw
def gSub (to ti:TE) (t:TSet):TG:=fun v σ H Q=>to σ H fun o H1=>ti σ H1 fun i H2=>t o i v H2 fun H3=>Q σ H3
theorem pg_sub {o i:Expr}{to ti:TE}{t:TSet}(ho:PE X o to) (hi:PE X i ti) (hs:PSet X t)
  (ha:∀ v,assign (.Subscript o i pos) X.env v=(do
   let ov ← holding [v] (eval o X.env)
   let iv ← holding [v,ov] (eval i X.env)
   standAt pos
   holding [v,ov,iv] (setItem ov iv v)
   release [v,ov,iv] []):=by intro _;rfl):PG X (.Subscript o i pos) (gSub to ti t):=by
 intro pins s σ H v u Q I r h
 rw [ha]
 refine wpAny_bind (wpAny_holding (thn (ho pins s σ H _ I h) fun ov s1 ⟨x,H1,I1,r1,q1⟩=>?_))
 refine wpAny_bind (wpAny_holding (thn (hi pins s1 σ H1 _ I1 q1) fun iv s2 ⟨y,H2,I2,r2,q2⟩=>?_))
 refine wpAny_bind (wpAny_standAt (wpAny_bind (wpAny_holding (thn (hs pins s2 σ H2 x y v ov iv u _ I2 r1 r2 r q2) fun _ s3 ⟨H3,I3,q3⟩=>?_))))
 exact wpAny_release ⟨σ,H3,I3,q3⟩
def tAsg (te:TE) (g:TG):TS:=fun D σ H=>te σ H fun x H1=>g x σ H1 D.nx
theorem ps_asg {tg e:Expr}{te:TE}{g:TG}(he:PE X e te) (hg:PG X tg g) (hs:swapsWithSole [tg] e pos.line X.env=pure false:=by rfl) (hw:swappedStores [tg] e X.env=pure none:=by rfl)
  (h1:(assignEach [tg] X.env).map (·.2)=[assign tg X.env]:=by rfl):PS X (.Assign [tg] e pos) (tAsg te g):=by
 intro pins s σ H D I h
 refine wpAny_Assign_stores (thn (he pins s σ H _ I h) fun v s1 ⟨x,H1,I1,r1,q1⟩=>?_) hs hw
 rw [h1]
 exact thn (hg pins s1 σ H1 x v _ I1 r1 q1) fun _ s2 q=>q
theorem Zag {i:Nat}{x:Str}{e:Expr}{te:TE}{pos':Pos}(hN:X.N.Nodup) (hi:X.N[i]?=some x) (hx:Loc X.env.scope x) (he:PE X e te) (hs:swapsWith e (some (.Name x pos')) pos.line X.env=pure false:=by rfl) (hf:X.fn x=true∨X.env.scope.names.lookup x=some .local:=by first | exact .inl rfl | exact .inr rfl | assumption):
  PS X (.Assign [.Name x pos'] e pos) (tAsg te (gName i)):=by
 intro pins s σ H D I h
 refine wpAny_Assign_Name (thn (he pins s σ H _ I h) fun v s1 ⟨y,H1,I1,r1,q1⟩=>?_) hs
 exact store_ok I1 hN hi hx r1 (fun s2 I2=>⟨_,H1,I2,q1⟩) hf
end
section
variable {X:Cx} {pos:Pos}
def tWhile (c:TT) (tb:TS):TS:=fun D σ H=>∃ W:Nat→St→Hp→Prop,(∃ m,W m σ H)∧∀ m σ H,W m σ H →
 c σ H fun b H1=>if b=true then ∃ N:St→Hp→Prop,(∀ σ' H',N σ' H'→∃ m',m'<m∧W m' σ' H')∧tb { D with nx:=N,ct:=N,bk:=D.nx } σ H1 else D.nx σ H1
theorem ps_while {c:Expr}{body:List Stmt}{tc:TT}{tb:TS}(hp:PassesOwn (model X.prog X.w) X.A X.env X.xe) (hc:PT X c tc) (hb:PSs X body tb):PS X (.While c body [] pos) (tWhile tc tb):=by
 intro pins s σ H D I h
 obtain ⟨W,⟨m0,w0⟩,turn⟩:=h
 refine wpAny_While (codeAny_whileLoop (fun n s'=>∃ σ' H',Inv X pins σ' H' s'∧W n σ' H') ?_ m0 ⟨σ,H,I,w0⟩)
 rintro n s1 ⟨σ1,H1,I1,w1⟩
 refine wpAny_passesOwn hp (thn (hc pins s1 σ1 H1 _ I1 (turn n σ1 H1 w1)) fun b s2 ⟨H2,I2,q2⟩=>?_)
 cases b with
 | true =>
  obtain ⟨N,hN,q2⟩:=q2
  rw [if_pos rfl]
  refine wpAny_passesOwn hp (thn (hb pins s2 σ1 H2 _ I2 q2) fun f s3 q3=>?_)
  cases f with
  | next =>
   obtain ⟨σ3,H3,I3,n3⟩:=q3
   obtain ⟨m',hm,w3⟩:=hN σ3 H3 n3
   exact ⟨m',hm,σ3,H3,I3,w3⟩
  | cont =>
   obtain ⟨σ3,H3,I3,n3⟩:=q3
   obtain ⟨m',hm,w3⟩:=hN σ3 H3 n3
   exact ⟨m',hm,σ3,H3,I3,w3⟩
  | brk=>exact q3
  | ret v=>exact q3
 | false =>
  rw [if_neg Bool.false_ne_true]
  exact wpAny_execs_nil ⟨σ1,H2,I2,q2⟩
end
structure It where
 go:Nat→Hp→Prop
 yld:Nat→Hp→V→Hp→Prop
 stop:Nat→Hp→Prop
def FpOk (X:Cx) (pins:List (Addr×Obj)) (H:Hp) (b:Addr):Prop :=
 H b=none∧b≠X.env.locals∧b∉X.fs∧(b∈X.ex∨X.s₀.heap.objs.size≤b)∧(∀ x c,X.env.cells.lookup x=some c→c≠b)∧∀ p∈X.pn++pins,p.1≠b
theorem Inv.fpOk {X:Cx}{pins:List (Addr×Obj)}{σ:St}{H H':Hp}{s:Shared}{b:Addr}(I:Inv X pins σ H s) (hb:s.heap.objs.size≤b) (hn:H' b=none):FpOk X pins H' b:=by
 refine ⟨hn,Nat.ne_of_gt (Nat.lt_of_lt_of_le I.lt hb),I.nofs hb,.inr (Nat.le_trans I.sz hb),fun x c e z=>?_,fun p hp z=>?_⟩
 ·obtain ⟨v,q⟩:=I.cell x c e
  exact absurd (Nat.lt_of_lt_of_le q.lt (by rw [z];exact hb)) (Nat.lt_irrefl _)
 ·exact absurd (Nat.lt_of_lt_of_le (Heap.lt_size (I.pin p hp).1) (by rw [z];exact hb)) (Nat.lt_irrefl _)
structure Turn (P:Program) (w:World) (K:W.Frag) (tg:Expr) (J:It) (fp:List Addr) (it:Addr) (tn:Nat→Heap→Prop):Prop where
 mem:it∈fp
 obj:∀ i h,tn i h→∀ b∈fp,∃ o,h.get? b=some o∧∀ v,o.data≠.cell v
 keep:∀ i h h',tn i h→(∀ b∈fp,∀ o,h.get? b=some o→h'.get? b=some o)→tn i h'
 item:∀ (X:Cx),X.prog=P→X.w=w→X.K=K→X.calm=true→∀ (i:Nat) (pins:List (Addr×Obj)) (s:Shared) (σ:St) (H:Hp) (E:Value→Shared→Prop),Inv X pins σ H s→(∀ b∈fp,FpOk X pins H b)→tn i s.heap→J.go i H →
  wpAny (model P w) X.A (pyNext (.ref it)) (fun r s1=>∃ u,r=some u ∧
   wpAny (model P w) X.A (letOwnedTupleGo tg (.ref it) u) (fun _ s2=>∃ x H',Inv X pins σ H' s2∧Zcf x u∧J.yld i H x H'∧tn (i + 1) s2.heap∧∀ b∈fp,H' b=none) E s1) E s
 done:∀ (X:Cx),X.prog=P→X.w=w→X.K=K→X.calm=true→∀ (i:Nat) (pins:List (Addr×Obj)) (s:Shared) (σ:St) (H:Hp) (E:Value→Shared→Prop),Inv X pins σ H s→(∀ b∈fp,FpOk X pins H b)→tn i s.heap→J.stop i H →
  wpAny (model P w) X.A (pyNext (.ref it)) (fun r s1=>r=none∧Inv X pins σ H s1) E s
 self:∀ (A:Around) (i:Nat) (s:Shared) (Q:Value→Shared→Prop) (E:Value→Shared→Prop),tn i s.heap→Q (.ref it) s→wpAny (model P w) A (pyIter (.ref it)) Q E s
abbrev TI:=St→Hp→(It→Hp→Prop)→Prop
def PIE (X:Cx) (pins:List (Addr×Obj)) (σ:St) (tg:Expr) (R:It→Hp→Prop) (itv:Value) (s2:Shared):Prop :=
 ∃ (it:Addr) (fp:List Addr) (tn:Nat→Heap→Prop) (J:It) (H':Hp),itv=.ref it∧Inv X pins σ H' s2∧Turn X.prog X.w X.K tg J fp it tn∧tn 0 s2.heap∧(∀ b∈fp,FpOk X pins H' b)∧R J H'
def PI (X:Cx) (tg iter:Expr) (wi:TI):Prop :=
 ∀ (pins:List (Addr×Obj)) (s:Shared) (σ:St) (H:Hp) (R:It→Hp→Prop),Inv X pins σ H s→wi σ H R →
  wpAny (model X.prog X.w) X.A (eval iter X.env) (fun v s1=>wpAny (model X.prog X.w) X.A (pyIter v) (PIE X pins σ tg R) X.xe s1) X.xe s
theorem go_of {M:Model}{A:Around}{E:Value→Shared→Prop}{s:Shared}{tg:Expr}{it:Addr}{u:Value}{o:Obj}{n:String}{vs:Array Value}{Q:Unit→Shared→Prop}(ho:s.heap.get? it=some o) (hc:o.cls=.type n) (hd:o.data=.fields vs)
  (hn:["enumerate","zip","dict_itemiterator","dict_reverseitemiterator","odict_iterator","itertools.zip_longest","itertools.pairwise"].contains n=false) (hQ:Q () s):wpAny M A (letOwnedTupleGo tg (.ref it) u) Q E s:=by
 unfold letOwnedTupleGo
 cases tg <;> first
  | exact wpAny_pure hQ
  | (cases u <;> first
    | exact wpAny_pure hQ
    | (refine wpAny_bind (wpAny_load ho ?_)
       rw [hc,hd]
       show wpAny M A (if (["enumerate","zip","dict_itemiterator","dict_reverseitemiterator","odict_iterator","itertools.zip_longest","itertools.pairwise"].contains n&&vs[0]? == some (rawInt _))=true then _ else _) Q E s
       rw [if_neg (by intro h;rw [hn,Bool.false_and] at h;cases h)]
       exact wpAny_pure hQ))
def Itl (K:W.Frag) (a:Addr):It :=
 ⟨fun i H=>∃ xs x,SqL K H a xs∧xs[i]?=some x,fun i H x H'=>H'=H∧∀ xs,SqL K H a xs→xs[i]?=some x,fun i H=>∃ xs,SqL K H a xs∧xs.length≤i⟩
def Itt (K:W.Frag) (a:Addr):It :=
 ⟨fun i H=>∃ xs x,SqT K H a xs∧xs[i]?=some x,fun i H x H'=>H'=H∧∀ xs,SqT K H a xs→xs[i]?=some x,fun i H=>∃ xs,SqT K H a xs∧xs.length≤i⟩
def Itr (lo:Int) (n:Nat):It:=⟨fun i _=>i<n,fun i H x H'=>H'=H∧x=.int (lo + i),fun i _=>n≤i⟩
theorem turn_list {P:Program}{w:World}{K:W.Frag}{tg:Expr} (a it:Addr):Turn P w K tg (Itl K a) [it] it (fun i h=>h.IsListIter it a i) where
 mem:=by simp
 obj:=fun i h st b hb=>by
  have e:b=it:=by simpa using hb
  subst e
  obtain ⟨o,e,c,d⟩:=st
  exact ⟨o,e,fun v z=>by rw [d] at z;cases z⟩
 keep:=fun i h h' st k=>st.at fun o e=>k it (by simp) o e
 item:=by
  intro X hP hw hK hc i pins s σ H E I hf st hg
  subst hP hw hK
  obtain ⟨xs,x,hq,hx⟩:=hg
  obtain ⟨its,rv,p,hz⟩:=I.list hq
  obtain ⟨u,hu,ru⟩:=rv.get hx
  obtain ⟨f0,f1,f2,f3,f4,f5⟩:=hf it (by simp)
  refine wpAny_pyNext_list_item st p.isList (x:=u) (by simpa using hu) fun h' st' sb=>?_
  have I1:Inv X pins σ H { s with heap:=h' }:=I.turned (t':=s.toks) (fun b o hb e=>(sb.2 b hb).trans e) f0 f1 f3 f4 f5
  obtain ⟨o,e,c,d⟩:=id st'
  exact ⟨u,rfl,go_of (s:={ s with heap:=h' }) e c d (by decide) ⟨x,H,I1,ru,⟨rfl,fun ys hy=>by rw [I.list_inj hy hq];exact hx⟩,st',fun b hb=>(hf b hb).1⟩⟩
 done:=by
  intro X hP hw hK hc i pins s σ H E I hf st hg
  subst hP hw hK
  obtain ⟨xs,hq,hx⟩:=hg
  obtain ⟨its,rv,p,hz⟩:=I.list hq
  obtain ⟨f0,f1,f2,f3,f4,f5⟩:=hf it (by simp)
  have hl:=rv.length
  exact wpAny_pyNext_list_end (I.ok.hd hc) st p.isList (by simp;omega) fun h' eb=>⟨rfl,I.turned (t':=s.toks) (fun b o hb e=>eb b o hb e) f0 f1 f3 f4 f5⟩
 self:=fun _ _ _ _ _ st h=>wpAny_pyIter_listiter st h
theorem turn_tuple {P:Program}{w:World}{K:W.Frag}{tg:Expr} (a it:Addr):Turn P w K tg (Itt K a) [it] it (fun i h=>h.IsTupleIter it a i) where
 mem:=by simp
 obj:=fun i h st b hb=>by
  have e:b=it:=by simpa using hb
  subst e
  obtain ⟨o,e,c,d⟩:=st
  exact ⟨o,e,fun v z=>by rw [d] at z;cases z⟩
 keep:=fun i h h' st k=>st.at fun o e=>k it (by simp) o e
 item:=by
  intro X hP hw hK hc i pins s σ H E I hf st hg
  subst hP hw hK
  obtain ⟨xs,x,hq,hx⟩:=hg
  obtain ⟨its,rv,p,hz⟩:=I.tuple hq
  obtain ⟨u,hu,ru⟩:=rv.get hx
  obtain ⟨f0,f1,f2,f3,f4,f5⟩:=hf it (by simp)
  refine wpAny_pyNext_tuple_item st (show s.heap.IsTuple a its.toArray from p) (x:=u) (by simpa using hu) fun h' st' sb=>?_
  have I1:Inv X pins σ H { s with heap:=h' }:=I.turned (t':=s.toks) (fun b o hb e=>(sb.2 b hb).trans e) f0 f1 f3 f4 f5
  obtain ⟨o,e,c,d⟩:=id st'
  exact ⟨u,rfl,go_of (s:={ s with heap:=h' }) e c d (by decide) ⟨x,H,I1,ru,⟨rfl,fun ys hy=>by rw [I.tuple_inj hy hq];exact hx⟩,st',fun b hb=>(hf b hb).1⟩⟩
 done:=by
  intro X hP hw hK hc i pins s σ H E I hf st hg
  subst hP hw hK
  obtain ⟨xs,hq,hx⟩:=hg
  obtain ⟨its,rv,p,hz⟩:=I.tuple hq
  obtain ⟨f0,f1,f2,f3,f4,f5⟩:=hf it (by simp)
  have hl:=rv.length
  exact wpAny_pyNext_tuple_end (I.ok.hd hc) st (show s.heap.IsTuple a its.toArray from p) (by simp;omega) fun h' eb=>⟨rfl,I.turned (t':=s.toks) (fun b o hb e=>eb b o hb e) f0 f1 f3 f4 f5⟩
 self:=fun _ _ _ _ _ st h=>wpAny_pyIter_tupleiter st h
theorem turn_range {P:Program}{w:World}{K:W.Frag}{tg:Expr}(it:Addr) (lo:Int) (n:Nat):Turn P w K tg (Itr lo n) [it] it (fun i h=>IsRangeIter h it (lo + (i:Nat) * 1) ((n:Int) - (i:Nat)) 1) where
 mem:=by simp
 obj:=fun i h st b hb=>by
  have e:b=it:=by simpa using hb
  subst e
  exact ⟨_,st,fun v z=>by
   have z':Data.fields _=Data.cell v:=z
   cases z'⟩
 keep:=fun i h h' st k=>k it (by simp) _ st
 item:=by
  intro X hP hw hK hc i pins s σ H E I hf st hg
  subst hP hw hK
  obtain ⟨f0,f1,f2,f3,f4,f5⟩:=hf it (by simp)
  have W:=Walks.range (prog:=X.prog) (w:=X.w) (I.ok.hd hc) it lo 1 n
  refine W.item i s _ _ hg st fun v h' tk hv st' kk=>?_
  obtain ⟨t,rfl⟩:=hv
  have I1:Inv X pins σ H { s with heap:=h',toks:=tk }:=I.turned (fun b o hb e=>kk b o (by simpa using hb) e) f0 f1 f3 f4 f5
  refine ⟨_,rfl,go_of (s:={ s with heap:=h',toks:=tk }) (n:="range_iterator") st' rfl rfl (by decide) ⟨.int (lo + i),H,I1,⟨t,?_⟩,⟨rfl,rfl⟩,st',fun b hb=>(hf b hb).1⟩⟩
  rw [Int.mul_one]
 done:=by
  intro X hP hw hK hc i pins s σ H E I hf st hg
  subst hP hw hK
  obtain ⟨f0,f1,f2,f3,f4,f5⟩:=hf it (by simp)
  exact wpAny_pyNext_range_end (I.ok.hd hc) st (by have:n≤i:=hg;omega) fun h' eb=>⟨rfl,I.turned (t':=s.toks) (fun b o hb e=>eb b o hb e) f0 f1 f3 f4 f5⟩
 self:=fun _ _ _ _ _ st h=>wpAny_pyIter_rangeiter st h
end L2
namespace L2
open PySem PySem.Spec PyProof.Rows
section
variable {X:Cx} {tg:Expr}
def iList (K:W.Frag) (tl:TE):TI:=fun σ H R=>tl σ H fun x H1=>∃ a,x=.ref a∧(∃ xs,SqL K H1 a xs)∧R (Itl K a) H1
def iTup (K:W.Frag) (tl:TE):TI:=fun σ H R=>tl σ H fun x H1=>∃ a,x=.ref a∧(∃ xs,SqT K H1 a xs)∧R (Itt K a) H1
theorem Za7 {l:Expr}{tl:TE}(hl:PE X l tl):PI X tg l (iList X.K tl):=by
 intro pins s σ H R I h
 refine thn (hl pins s σ H _ I h) fun v s1 ⟨x,H1,I1,r1,q1⟩=>?_
 obtain ⟨a,e,⟨xs,hq⟩,q⟩:=q1
 subst e
 cases r1
 obtain ⟨its,rv,p,hz⟩:=I1.list hq
 refine wpAny_pyIter_list p.isList ?_
 refine ⟨s1.heap.objs.size,[s1.heap.objs.size],_,_,H1,rfl,I1.kept (t':=s1.toks) fun b o e=>Heap.get?_push_of_some _ e,turn_list a _,⟨_,Heap.get?_push_size _ rfl,rfl,rfl⟩,fun b hb=>?_,q⟩
 have e:b=s1.heap.objs.size:=by simpa using hb
 subst e
 exact I1.fpOk (Nat.le_refl _) (I1.hok.fresh (Nat.le_refl _))
theorem pi_tup {l:Expr}{tl:TE}(hl:PE X l tl):PI X tg l (iTup X.K tl):=by
 intro pins s σ H R I h
 refine thn (hl pins s σ H _ I h) fun v s1 ⟨x,H1,I1,r1,q1⟩=>?_
 obtain ⟨a,e,⟨xs,hq⟩,q⟩:=q1
 subst e
 cases r1
 obtain ⟨its,rv,p,hz⟩:=I1.tuple hq
 refine wpAny_pyIter_tuple (show s1.heap.IsTuple a its.toArray from p) ?_
 refine ⟨s1.heap.objs.size,[s1.heap.objs.size],_,_,H1,rfl,I1.kept (t':=s1.toks) fun b o e=>Heap.get?_push_of_some _ e,turn_tuple a _,⟨_,Heap.get?_push_size _ rfl,rfl,rfl⟩,fun b hb=>?_,q⟩
 have e:b=s1.heap.objs.size:=by simpa using hb
 subst e
 exact I1.fpOk (Nat.le_refl _) (I1.hok.fresh (Nat.le_refl _))
theorem range_it {pins:List (Addr×Obj)}{σ:St}{H:Hp}{s:Shared}{R:It→Hp→Prop}{E:Value→Shared→Prop}{lo hi:Int}{t u v:Tok}{tk:Nat}(I:Inv X pins σ H s) (h1:-(2 ^ 62)≤lo) (h2:lo<2 ^ 62) (h3:-(2 ^ 62)≤hi) (h4:hi<2 ^ 62)
  (q:R (Itr lo (hi - lo).toNat) H):wpAny (model X.prog X.w) X.A (pyIter (.ref s.heap.objs.size)) (PIE X pins σ tg R) E { s with heap:=s.heap.push { cls:=.type "range",data:=.fields #[.int lo t,.int hi u,.int 1 v] },toks:=tk }:=by
 refine wpAny_pyIter_range (IsRange.new ..) (small_one h1 h2 h3 h4) ?_
 have I1:Inv X pins σ H { s with heap:=s.heap.push { cls:=.type "range",data:=.fields #[.int lo t,.int hi u,.int 1 v] },toks:=tk }:=I.kept fun b o e=>Heap.get?_push_of_some _ e
 refine ⟨(s.heap.push { cls:=.type "range",data:=.fields #[.int lo t,.int hi u,.int 1 v] }).objs.size,[(s.heap.push { cls:=.type "range",data:=.fields #[.int lo t,.int hi u,.int 1 v] }).objs.size],_,_,H,rfl,
  I1.kept (t':=tk) fun b o e=>Heap.get?_push_of_some _ e,turn_range _ lo (hi - lo).toNat,?_,fun b hb=>?_,q⟩
 ·have e1:lo + ((0:Nat):Int) * 1=lo:=by simp
  have e2:(((hi - lo).toNat:Nat):Int) - ((0:Nat):Int)=Builtin.Range.rangeSize lo hi 1:=by rw [rangeSize_one];split <;> omega
  show IsRangeIter _ _ (lo + ((0:Nat):Int) * 1) ((((hi - lo).toNat:Nat):Int) - ((0:Nat):Int)) 1
  rw [e1,e2]
  exact Heap.get?_push_size _ rfl
 ·have e:b=(s.heap.push { cls:=.type "range",data:=.fields #[.int lo t,.int hi u,.int 1 v] }).objs.size:=by simpa using hb
  subst e
  exact I1.fpOk (Nat.le_refl _) (I1.hok.fresh (Nat.le_refl _))
def iRng1 (ta:TA):TI:=fun σ H R=>ta σ H fun vs H1=>∃ j:Int,vs=[.int j]∧-(2 ^ 62)≤j∧j<2 ^ 62∧R (Itr 0 j.toNat) H1
def iRng2 (ta:TA):TI:=fun σ H R=>ta σ H fun vs H1=>∃ i j:Int,vs=[.int i,.int j]∧(-(2 ^ 62)≤i∧i<2 ^ 62∧-(2 ^ 62)≤j∧j<2 ^ 62)∧R (Itr i (j - i).toNat) H1
theorem Zbu {a:Expr}{ta:TA}{p pos:Pos}(hg:Gl X "range") (hm:X.mg "range"=none) (ha:PA X [a] ta) (hs:starEach [a] X.env=[(false,eval a X.env)]:=by rfl):PI X tg (.Call (.Name "range" p) [a] [] pos) (iRng1 ta):=by
 intro pins s σ H R I h
 refine Call_ (ld_blt I hg hm boot_range (PyProof.Rows.callWith_type1 (thn (ha pos pins s σ H _ I h) fun us s1 ⟨vs,H1,I1,r1,q1⟩=>?_) hs rfl))
 obtain ⟨j,e,q1,q2,q⟩:=q1
 subst e
 cases r1 with
 | cons r rr =>
  cases rr
  obtain ⟨t,rfl⟩:=r
  exact call_range_1 (range_it I1 (by omega) (by omega) q1 q2 (by simpa using q))
theorem pi_range2 {a b:Expr}{ta:TA}{p pos:Pos}(hg:Gl X "range") (hm:X.mg "range"=none) (ha:PA X [a,b] ta) (hs:starEach [a,b] X.env=[(false,eval a X.env),(false,eval b X.env)]:=by rfl) (hs2:starEach [b] X.env=[(false,eval b X.env)]:=by rfl):
  PI X tg (.Call (.Name "range" p) [a,b] [] pos) (iRng2 ta):=by
 intro pins s σ H R I h
 refine Call_ (ld_blt I hg hm boot_range (PyProof.Rows.callWith_type1 (thn (ha pos pins s σ H _ I h) fun us s1 ⟨vs,H1,I1,r1,q1⟩=>?_) (by rw [hs,hs2]) (by rw [hs2];rfl)))
 obtain ⟨i,j,e,⟨q1,q2,q3,q4⟩,q⟩:=q1
 subst e
 cases r1 with
 | cons r rr =>
  cases rr with
  | cons r' rr =>
   cases rr
   obtain ⟨t,rfl⟩:=r
   obtain ⟨t',rfl⟩:=r'
   exact call_range_2 (range_it I1 q1 q2 q3 q4 q)
def tFor (wi:TI) (g:TG) (tb:TS):TS:=fun D σ H=>wi σ H fun J H1=>∃ W:Nat→Nat→St→Hp→Prop,(∃ m,W 0 m σ H1)∧∀ i m σ H,W i m σ H →
 (J.stop i H∧D.nx σ H)∨(J.go i H∧∃ N:St→Hp→Prop,(∀ σ' H',N σ' H'→∃ m',m'<m∧W (i + 1) m' σ' H')∧∀ x H',J.yld i H x H'→g x σ H' fun σ2 H2=>tb { D with nx:=N,ct:=N,bk:=D.nx } σ2 H2)
def pinsAt (fp:List Addr) (h:Heap):List (Addr×Obj):=fp.filterMap fun b=>(h.get? b).map fun o=>(b,o)
theorem mem_pinsAt {fp:List Addr}{h:Heap}{b:Addr}{o:Obj}(hb:b∈fp) (e:h.get? b=some o):(b,o)∈pinsAt fp h:=List.mem_filterMap.mpr ⟨b,hb,by rw [e];rfl⟩
theorem of_pinsAt {fp:List Addr}{h:Heap}{p:Addr×Obj}(hp:p∈pinsAt fp h):p.1∈fp∧h.get? p.1=some p.2:=by
 obtain ⟨b,hb,e⟩:=List.mem_filterMap.mp hp
 cases q:h.get? b with
 | none=>rw [q] at e;cases e
 | some o =>
  rw [q] at e
  have e':(b,o)=p:=Option.some.inj e
  subst e'
  exact ⟨hb,q⟩
theorem Inv.pinned {pins:List (Addr×Obj)}{σ:St}{H:Hp}{s:Shared}{fp:List Addr}(I:Inv X pins σ H s) (hf:∀ b∈fp,FpOk X pins H b) (ho:∀ b∈fp,∃ o,s.heap.get? b=some o∧∀ v,o.data≠.cell v):Inv X (pins++pinsAt fp s.heap) σ H s :=
 I.pins_of fun p hp=>(List.mem_append.mp hp).elim (fun z=>I.pin p (List.mem_append_right _ z)) fun z=>by
  obtain ⟨hb,e⟩:=of_pinsAt z
  obtain ⟨f0,f1,f2,_⟩:=hf p.1 hb
  obtain ⟨o,e',d⟩:=ho p.1 hb
  rw [e] at e';cases e'
  exact ⟨e,f0,f1,f2,d⟩
theorem Inv.unpinned {pins pl:List (Addr×Obj)}{σ:St}{H:Hp}{s:Shared}(I:Inv X (pins++pl) σ H s):Inv X pins σ H s:=I.pins_of fun p hp=>I.pin p (List.mem_append_right _ (List.mem_append_left _ hp))
theorem Za8 {iter:Expr}{body:List Stmt}{wi:TI}{g:TG}{tb:TS}{pos:Pos}(hp:PassesOwn (model X.prog X.w) X.A X.env X.xe) (hc:X.calm=true) (hi:PI X tg iter wi) (hg:PG X tg g) (hb:PSs X body tb)
  (hs:∀ x,foldedSetIterable iter X.env x=pure x:=by intro _;rfl):PS X (.For tg iter body [] pos) (tFor wi g tb):=by
 intro pins s σ H D I h
 refine wpAny_For (thn (hi pins s σ H _ I h) fun v s1 h1=>thn h1 fun itv s2 h2=>?_) hs
 obtain ⟨it,fp,tn,J,H2,e,I2,T,st2,f2,W,⟨m0,w0⟩,turn⟩:=h2
 subst e
 have stat:∀ {H':Hp},(∀ b∈fp,H' b=none)→∀ b∈fp,FpOk X pins H' b:=fun hn b hb=>⟨hn b hb,(f2 b hb).2⟩
 refine codeAny_forLoop_any (fun n s'=>∃ i σ' H',Inv X pins σ' H' s'∧tn i s'.heap∧(∀ b∈fp,H' b=none)∧W i n σ' H') ?_ m0 ⟨0,σ,H2,I2,st2,fun b hb=>(f2 b hb).1,w0⟩
 rintro n s3 ⟨i,σ3,H3,I3,st3,fr3,w3⟩
 rcases turn i n σ3 H3 w3 with ⟨stop,qn⟩ | ⟨go,N,hN,step⟩
 ·refine wpAny_passesOwn hp (thn (T.done X rfl rfl rfl hc i pins s3 σ3 H3 X.xe I3 (stat fr3) st3 stop) fun r s4 ⟨hr,I4⟩=>?_)
  subst hr
  exact wpAny_execs_nil ⟨σ3,H3,I4,qn⟩
 ·refine wpAny_passesOwn hp (thn (T.item X rfl rfl rfl hc i pins s3 σ3 H3 X.xe I3 (stat fr3) st3 go) fun r s4 ⟨u,hr,h4⟩=>?_)
  subst hr
  refine wpAny_passesOwn hp (thn h4 fun _ s5 ⟨x,H5,I5,r5,y5,st5,fr5⟩=>?_)
  have I5':=I5.pinned (stat fr5) (T.obj _ _ st5)
  refine wpAny_passesOwn hp (thn (hg _ s5 σ3 H5 x u _ I5' r5 (step x H5 y5)) fun _ s6 ⟨σ6,H6,I6,q6⟩=>?_)
  refine wpAny_passesOwn hp (thn (hb _ s6 σ6 H6 _ I6 q6) fun f s7 q7=>?_)
  have again:∀ {σ7:St} {H7:Hp},Inv X (pins++pinsAt fp s5.heap) σ7 H7 s7→N σ7 H7→∃ m,m<n∧∃ i σ' H',Inv X pins σ' H' s7∧tn i s7.heap∧(∀ b∈fp,H' b=none)∧W i m σ' H':=fun {σ7 H7} I7 n7=>by
   obtain ⟨m',hm,w7⟩:=hN σ7 H7 n7
   refine ⟨m',hm,i + 1,σ7,H7,I7.unpinned,T.keep _ _ _ st5 fun b hb o e=>(I7.pin (b,o) (List.mem_append_right _ (List.mem_append_right _ (mem_pinsAt hb e)))).1,fun b hb=>?_,w7⟩
   obtain ⟨o,e,d⟩:=T.obj _ _ st5 b hb
   exact (I7.pin (b,o) (List.mem_append_right _ (List.mem_append_right _ (mem_pinsAt hb e)))).2.1
  cases f with
  | next=>obtain ⟨σ7,H7,I7,n7⟩:=q7;exact again I7 n7
  | cont=>obtain ⟨σ7,H7,I7,n7⟩:=q7;exact again I7 n7
  | brk=>obtain ⟨σ7,H7,I7,q7⟩:=q7;exact ⟨σ7,H7,I7.unpinned,q7⟩
  | ret v=>obtain ⟨x7,σ7,H7,I7,r7,q7⟩:=q7;exact ⟨x7,σ7,H7,I7.unpinned,r7,q7⟩
end
end L2
namespace L2
open PySem PySem.Spec PyProof.Rows
abbrev R2:=V→V→Hp→VK→Prop
def OpR (X:Cx) (f:Value→Value→Sem Value) (r:R2):Prop :=
 ∀ (pins:List (Addr×Obj)) (s:Shared) (σ:St) (H:Hp) (x y:V) (v u:Value) (Q:VK),Inv X pins σ H s→Zcf x v→Zcf y u→r x y H Q →
  wpAny (model X.prog X.w) X.A (f v u) (EP X pins σ Q) X.xe s
def CallR (X:Cx) (f:Value) (r:List V→Hp→VK→Prop):Prop :=
 ∀ (pins:List (Addr×Obj)) (s:Shared) (σ:St) (H:Hp) (xs:List V) (us:List Value) (Q:VK),Inv X pins σ H s→Zb7 xs us→r xs H Q →
  wpAny (model X.prog X.w) X.A (call f us) (EP X pins σ Q) X.xe s
def TruR (X:Cx) (r:V→Hp→(Bool→Hp→Prop)→Prop):Prop :=
 ∀ (pins:List (Addr×Obj)) (s:Shared) (σ:St) (H:Hp) (x:V) (v:Value) (Q:Bool→Hp→Prop),Inv X pins σ H s→Zcf x v→r x H Q →
  wpAny (model X.prog X.w) X.A (truthy v) (TP X pins σ Q) X.xe s
def tOp (r:R2) (ta tb:TE):TE:=fun σ H Q=>ta σ H fun x H1=>tb σ H1 fun y H2=>r x y H2 Q
def rI (C:Int→Int→Prop) (g:Int→Int→V):R2:=fun x y H Q=>∃ i j,x=.int i∧y=.int j∧C i j∧Q (g i j) H
def rI0 (g:Int→Int→V):R2:=fun x y H Q=>∃ i j,x=.int i∧y=.int j∧Q (g i j) H
section
variable {X:Cx} {a b c:Expr} {ta tb tc:TE} {pos:Pos}
theorem binT (ha:PE X a ta) (hb:PE X b tb) {pins:List (Addr×Obj)}{s:Shared}{σ:St}{H:Hp}{R:V→V→Hp→Prop}(I:Inv X pins σ H s)
  (h:ta σ H fun x H1=>tb σ H1 fun y H2=>R x y H2) {Q:Value→Shared→Prop} {f:Value→Value→Sem Value}
  (hf:∀ v u s2 x y H2,Inv X pins σ H2 s2→Zcf x v→Zcf y u→R x y H2→wpAny (model X.prog X.w) X.A (f v u) Q X.xe s2):
  wpAny (model X.prog X.w) X.A (eval a X.env) (fun v s₁=>wpAny (model X.prog X.w) X.A (eval b X.env) (fun u s₂=>wpAny (model X.prog X.w) X.A (f v u) Q X.xe s₂) X.xe s₁) X.xe s:=by
 refine thn (ha pins s σ H _ I h) fun v s1 ⟨x,H1,I1,r1,q1⟩=>?_
 refine thn (hb pins s1 σ H1 _ I1 q1) fun u s2 ⟨y,H2,I2,r2,q2⟩=>?_
 exact hf v u s2 x y H2 I2 r1 r2 q2
theorem Za0 {op:Operator}{r:R2}(ho:OpR X (binaryOp op) r) (ha:PE X a ta) (hb:PE X b tb):PE X (.BinOp a op b pos) (tOp r ta tb):=by
 intro pins s σ H Q I h
 exact wpAny_BinOp (binT ha hb I h fun v u s2 x y H2 I2 rx ry q=>ho pins s2 σ H2 x y v u Q I2 rx ry q)
theorem opI {f:Value→Value→Sem Value}{C:Int→Int→Prop}{g:Int→Int→Int}
  (rule:∀ (i j:Int) (t u:Tok) (s:Shared) (Q:Value→Shared→Prop) (E:Value→Shared→Prop),C i j→Q (.int (g i j) s.toks) { s with toks:=s.toks + 1 }→wpAny (model X.prog X.w) X.A (f (.int i t) (.int j u)) Q E s):
  OpR X f (rI C fun i j=>.int (g i j)):=by
 intro pins s σ H x y v u Q I rx ry h
 obtain ⟨i,j,rfl,rfl,hc,q⟩:=h
 obtain ⟨t,rfl⟩:=rx
 obtain ⟨t',rfl⟩:=ry
 exact rule i j t t' s _ _ hc ⟨.int (g i j),H,I.tok _,⟨_,rfl⟩,q⟩
theorem opI0 {f:Value→Value→Sem Value}{g:Int→Int→Int}
  (rule:∀ (i j:Int) (t u:Tok) (s:Shared) (Q:Value→Shared→Prop) (E:Value→Shared→Prop),Q (.int (g i j) s.toks) { s with toks:=s.toks + 1 }→wpAny (model X.prog X.w) X.A (f (.int i t) (.int j u)) Q E s):
  OpR X f (rI0 fun i j=>.int (g i j)):=by
 intro pins s σ H x y v u Q I rx ry h
 obtain ⟨i,j,rfl,rfl,q⟩:=h
 obtain ⟨t,rfl⟩:=rx
 obtain ⟨t',rfl⟩:=ry
 exact rule i j t t' s _ _ ⟨.int (g i j),H,I.tok _,⟨_,rfl⟩,q⟩
theorem opB0 {f:Value→Value→Sem Value}{g:Int→Int→Bool}
  (rule:∀ (i j:Int) (t u:Tok) (s:Shared) (Q:Value→Shared→Prop) (E:Value→Shared→Prop),Q (.bool (g i j)) s→wpAny (model X.prog X.w) X.A (f (.int i t) (.int j u)) Q E s):
  OpR X f (rI0 fun i j=>.bl (g i j)):=by
 intro pins s σ H x y v u Q I rx ry h
 obtain ⟨i,j,rfl,rfl,q⟩:=h
 obtain ⟨t,rfl⟩:=rx
 obtain ⟨t',rfl⟩:=ry
 exact rule i j t t' s _ _ ⟨.bl (g i j),H,I,rfl,q⟩
def CDiv (i j:Int):Prop:=0<j∧j<1073741824
def CPow (i j:Int):Prop:=0≤j∧j≤1000000∧i.natAbs<2 ^ 64
def CMul (i j:Int):Prop:=(-(2 ^ 64)<i∧i<2 ^ 64)∨(-(2 ^ 64)<j∧j<2 ^ 64)
theorem CMul.ok {i j:Int}(h:CMul i j):IntMulOk i j:=by
 rcases h with ⟨h1,h2⟩ | ⟨h1,h2⟩
 ·exact .of_left (intBits_le_64 h1 h2)
 ·exact .of_right (intBits_le_64 h1 h2)
theorem Zck:OpR X (binaryOp .Add) (rI0 fun i j=>.int (i + j)):=opI0 fun _ _ _ _ _ _ _ q=>add_int q
theorem op_sub:OpR X (binaryOp .Sub) (rI0 fun i j=>.int (i - j)):=opI0 fun _ _ _ _ _ _ _ q=>sub_int q
theorem op_mul:OpR X (binaryOp .Mult) (rI CMul fun i j=>.int (i * j)):=opI fun _ _ _ _ _ _ _ hc q=>mul_int q hc.ok
theorem op_fdiv:OpR X (binaryOp .FloorDiv) (rI CDiv fun i j=>.int (i / j)):=opI fun i j _ _ _ _ _ hc q=>by
 have h1:(0:Int)<j:=hc.1
 have h2:j<1073741824:=hc.2
 exact floordiv_int (by omega) (by rw [Int.fdiv_eq_ediv_of_nonneg i (by omega)];exact q) (.inl (PyProof.noPylong_small (by omega)))
theorem op_mod:OpR X (binaryOp .Mod) (rI (fun _ j=>0<j) fun i j=>.int (i % j)):=opI fun i j _ _ _ _ _ hc q=>by
 have h1:(0:Int)<j:=hc
 exact mod_int' (by omega) (by rw [Int.fmod_eq_emod_of_nonneg i (by omega)];exact q)
theorem op_pow:OpR X (binaryOp .Pow) (rI CPow fun i j=>.int (i ^ j.toNat)):=opI fun _ _ _ _ _ _ _ hc q=>pow_int_small hc.1 hc.2.1 hc.2.2 q
end
def scal:V→V→Bool
 | .non,.non=>true | .non,.int _=>true | .int _,.non=>true | .non,.bl _=>true | .bl _,.non=>true | .non,.str _=>true | .str _,.non=>true
 | .int _,.int _=>true | .bl _,.bl _=>true | .str _,.str _=>true | .byt _,.byt _=>true
 | .int _,.str _=>true | .str _,.int _=>true | .bl _,.str _=>true | .str _,.bl _=>true
 | _,_=>false
def rEq:R2:=fun x y H Q=>scal x y=true∧Q (.bl (decide (x=y))) H
def rNe:R2:=fun x y H Q=>scal x y=true∧Q (.bl (!decide (x=y))) H
theorem dec_int {i j:Int}:decide (V.int i=V.int j)=(i == j):=by
 rw [Bool.eq_iff_iff]
 simp
theorem dec_bl {i j:Bool}:decide (V.bl i=V.bl j)=(i == j):=by
 rw [Bool.eq_iff_iff]
 simp
theorem dec_str {i j:Str}:decide (V.str i=V.str j)=(i == j):=by
 rw [Bool.eq_iff_iff]
 simp
theorem dec_byt {i j:Array UInt8}:decide (V.byt i=V.byt j)=(i.toList == j.toList):=by
 rw [Bool.eq_iff_iff]
 cases i
 cases j
 simp
section
variable {X:Cx} {a b c:Expr} {ta tb tc:TE} {pos:Pos}
theorem Zbp {pins:List (Addr×Obj)}{σ:St}{H:Hp}{s:Shared}{Q:VK}{k k':Bool}(I:Inv X pins σ H s) (q:Q (.bl k) H) (e:k=k'):EP X pins σ Q (.bool k') s:=by
 subst e
 exact ⟨.bl k,H,I,rfl,q⟩
theorem Zec:OpR X (compareOp .Eq) rEq:=by
 intro pins s σ H x y v u Q I rx ry h
 obtain ⟨hs,q⟩:=h
 cases x with
 | non =>
  cases rx
  cases y with
  | non=>cases ry;exact PySem.EqNone.eq_none_none (Zbp I q (by simp))
  | bl j=>cases ry;exact PySem.EqNone.eq_none_bool (Zbp I q (by simp))
  | int j=>obtain ⟨t',rfl⟩:=ry;exact PySem.EqNone.eq_none_int (Zbp I q (by simp))
  | str j=>obtain ⟨t',rfl⟩:=ry;exact PySem.EqNone.eq_none_str (Zbp I q (by simp))
  | _=>exact absurd (show false=true from hs) Bool.false_ne_true
 | bl i =>
  cases rx
  cases y with
  | non=>cases ry;exact PySem.EqNone.eq_bool_none (Zbp I q (by simp))
  | bl j=>cases ry;exact eq_bool (Zbp I q dec_bl)
  | str j=>obtain ⟨t',rfl⟩:=ry;exact PySem.EqMixed.eq_bool_str (Zbp I q (by simp))
  | _=>exact absurd (show false=true from hs) Bool.false_ne_true
 | int i =>
  obtain ⟨t,rfl⟩:=rx
  cases y with
  | non=>cases ry;exact PySem.EqNone.eq_int_none (Zbp I q (by simp))
  | int j=>obtain ⟨t',rfl⟩:=ry;exact eq_int (Zbp I q dec_int)
  | str j=>obtain ⟨t',rfl⟩:=ry;exact PySem.EqMixed.eq_int_str (Zbp I q (by simp))
  | _=>exact absurd (show false=true from hs) Bool.false_ne_true
 | str i =>
  obtain ⟨t,rfl⟩:=rx
  cases y with
  | non=>cases ry;exact PySem.EqNone.eq_str_none (Zbp I q (by simp))
  | bl j=>cases ry;exact PySem.EqMixed.eq_str_bool (Zbp I q (by simp))
  | int j=>obtain ⟨t',rfl⟩:=ry;exact PySem.EqMixed.eq_str_int (Zbp I q (by simp))
  | str j=>obtain ⟨t',rfl⟩:=ry;exact eq_str (Zbp I q dec_str)
  | _=>exact absurd (show false=true from hs) Bool.false_ne_true
 | byt i =>
  obtain ⟨t,rfl⟩:=rx
  cases y with
  | byt j=>obtain ⟨t',rfl⟩:=ry;exact W.eq_bytes (Zbp I q dec_byt)
  | _=>exact absurd (show false=true from hs) Bool.false_ne_true
 | _=>cases y <;> exact absurd (show false=true from hs) Bool.false_ne_true
theorem op_ne:OpR X (compareOp .NotEq) rNe:=by
 intro pins s σ H x y v u Q I rx ry h
 obtain ⟨hs,q⟩:=h
 cases x with
 | non =>
  cases rx
  cases y with
  | non=>cases ry;exact PySem.EqNone.ne_none_none (Zbp I q (by simp))
  | bl j=>cases ry;exact PySem.EqNone.ne_none_bool (Zbp I q (by simp))
  | int j=>obtain ⟨t',rfl⟩:=ry;exact PySem.EqNone.ne_none_int (Zbp I q (by simp))
  | str j=>obtain ⟨t',rfl⟩:=ry;exact PySem.EqNone.ne_none_str (Zbp I q (by simp))
  | _=>exact absurd (show false=true from hs) Bool.false_ne_true
 | bl i =>
  cases rx
  cases y with
  | non=>cases ry;exact PySem.EqNone.ne_bool_none (Zbp I q (by simp))
  | bl j=>cases ry;exact ne_bool (Zbp I q (congrArg not dec_bl))
  | str j=>obtain ⟨t',rfl⟩:=ry;exact PySem.EqMixed.ne_bool_str (Zbp I q (by simp))
  | _=>exact absurd (show false=true from hs) Bool.false_ne_true
 | int i =>
  obtain ⟨t,rfl⟩:=rx
  cases y with
  | non=>cases ry;exact PySem.EqNone.ne_int_none (Zbp I q (by simp))
  | int j=>obtain ⟨t',rfl⟩:=ry;exact ne_int (Zbp I q (congrArg not dec_int))
  | str j=>obtain ⟨t',rfl⟩:=ry;exact PySem.EqMixed.ne_int_str (Zbp I q (by simp))
  | _=>exact absurd (show false=true from hs) Bool.false_ne_true
 | str i =>
  obtain ⟨t,rfl⟩:=rx
  cases y with
  | non=>cases ry;exact PySem.EqNone.ne_str_none (Zbp I q (by simp))
  | bl j=>cases ry;exact PySem.EqMixed.ne_str_bool (Zbp I q (by simp))
  | int j=>obtain ⟨t',rfl⟩:=ry;exact PySem.EqMixed.ne_str_int (Zbp I q (by simp))
  | str j=>obtain ⟨t',rfl⟩:=ry;exact ne_str (Zbp I q (congrArg not dec_str))
  | _=>exact absurd (show false=true from hs) Bool.false_ne_true
 | byt i =>
  obtain ⟨t,rfl⟩:=rx
  cases y with
  | byt j=>obtain ⟨t',rfl⟩:=ry;exact W.ne_bytes (Zbp I q (congrArg not dec_byt))
  | _=>exact absurd (show false=true from hs) Bool.false_ne_true
 | _=>cases y <;> exact absurd (show false=true from hs) Bool.false_ne_true
theorem op_lt:OpR X (compareOp .Lt) (rI0 fun i j=>.bl (decide (i<j))):=opB0 fun _ _ _ _ _ _ _ q=>lt_int q
theorem op_le:OpR X (compareOp .LtE) (rI0 fun i j=>.bl (decide (i≤j))):=opB0 fun _ _ _ _ _ _ _ q=>le_int q
theorem op_gt:OpR X (compareOp .Gt) (rI0 fun i j=>.bl (decide (j<i))):=opB0 fun _ _ _ _ _ _ _ q=>gt_int q
theorem op_ge:OpR X (compareOp .GtE) (rI0 fun i j=>.bl (decide (j≤i))):=opB0 fun _ _ _ _ _ _ _ q=>ge_int q
theorem op_in_str:OpR X (compareOp .In) (fun x y H Q=>∃ i j,x=.str i∧y=.str j∧Q (.bl (!(Builtin.Str.occurrences j i 0 j.length 1).isEmpty)) H):=by
 intro pins s σ H x y v u Q I rx ry h
 obtain ⟨i,j,rfl,rfl,q⟩:=h
 obtain ⟨t,rfl⟩:=rx
 obtain ⟨t',rfl⟩:=ry
 exact in_str (Zbp I q rfl)
theorem Zau (b:Expr) {op:CmpOp}(h:op≠.In:=by decide) (h2:op≠.NotIn:=by decide):behindInMarks op b=false:=by
 have e1:(op == CmpOp.In)=false:=by cases op <;> first | rfl | exact absurd rfl h
 have e2:(op == CmpOp.NotIn)=false:=by cases op <;> first | rfl | exact absurd rfl h2
 cases b <;> simp [behindInMarks,e1,e2]
theorem pe_cmpR {op:CmpOp}{r:R2}(ho:OpR X (compareOp op) r) (ha:PE X a ta) (hb:PE X b tb) (hm:behindInMarks op b=false):PE X (.Compare a [op] [b] pos) (tOp r ta tb):=by
 intro pins s σ H Q I h
 exact wpAny_Compare1 (binT ha hb I h fun v u s2 x y H2 I2 rx ry q=>ho pins s2 σ H2 x y v u Q I2 rx ry q) hm
def tTest (t:TE):TT:=fun σ H Q=>t σ H fun x H'=>∃ k,x=.bl k∧Q k H'
theorem Zan {op:CmpOp}{r:R2}(ho:OpR X (compareOp op) r) (ha:PE X a ta) (hb:PE X b tb) (hm:behindInMarks op b=false):PT X (.Compare a [op] [b] pos) (tTest (tOp r ta tb)):=by
 intro pins s σ H Q I h
 refine wpAny_isTrue_Compare1 (thn (ha pins s σ H _ I h) fun v s1 ⟨x,H1,I1,r1,q1⟩=>thn (hb pins s1 σ H1 _ I1 q1) fun u s2 ⟨y,H2,I2,r2,q2⟩ =>
  thn (ho pins s2 σ H2 x y v u _ I2 r1 r2 q2) fun c s3 ⟨z,H3,I3,r3,k,e,q3⟩=>?_) hm
 subst e
 cases r3
 exact wpAny_truthy_bool ⟨H3,I3,q3⟩
def tChain (r r':R2) (ta tb tc:TE):TE:=fun σ H Q=>ta σ H fun x H1=>tb σ H1 fun y H2=>r x y H2 fun z H3=>∃ k,z=.bl k ∧
 (if k=true then tc σ H3 fun w' H4=>r' y w' H4 Q else Q (.bl false) H3)
theorem pe_chain {op op':CmpOp}{r r':R2}(ho:OpR X (compareOp op) r) (ho':OpR X (compareOp op') r') (ha:PE X a ta) (hb:PE X b tb) (hc:PE X c tc)
  (hm:lastMarks [op,op'] [b,c]=false:=by with_unfolding_all rfl):PE X (.Compare a [op,op'] [b,c] pos) (tChain r r' ta tb tc):=by
 intro pins s σ H Q I h
 refine Compare_chain (thn (ha pins s σ H _ I h) fun v s1 ⟨x,H1,I1,r1,q1⟩=>chain_link (thn (hb pins s1 σ H1 _ I1 q1) fun u s2 ⟨y,H2,I2,r2,q2⟩ =>
  thn (ho pins s2 σ H2 x y v u _ I2 r1 r2 q2) fun d s3 ⟨z,H3,I3,r3,k,e,q3⟩=>?_)) hm
 subst e
 cases r3
 refine wpAny_truthy_bool ?_
 cases k with
 | false=>exact ite_ff ⟨.bl false,H3,I3,rfl,q3⟩
 | true=>exact ite_tt (chain_last (thn (hc pins s3 σ H3 _ I3 q3) fun w' s4 ⟨z',H4,I4,r4,q4⟩=>ho' pins s4 σ H4 y z' u w' Q I4 r2 r4 q4))
theorem pt_chain {op op':CmpOp}{r r':R2}(ho:OpR X (compareOp op) r) (ho':OpR X (compareOp op') r') (ha:PE X a ta) (hb:PE X b tb) (hc:PE X c tc)
  (hm:lastMarks [op,op'] [b,c]=false:=by with_unfolding_all rfl):PT X (.Compare a [op,op'] [b,c] pos) (tTest (tChain r r' ta tb tc)):=by
 intro pins s σ H Q I h
 refine isTrue_chain (thn (ha pins s σ H _ I h) fun v s1 ⟨x,H1,I1,r1,q1⟩=>test_link (thn (hb pins s1 σ H1 _ I1 q1) fun u s2 ⟨y,H2,I2,r2,q2⟩ =>
  thn (ho pins s2 σ H2 x y v u _ I2 r1 r2 q2) fun d s3 ⟨z,H3,I3,r3,k,e,q3⟩=>?_)) hm
 subst e
 cases r3
 refine wpAny_truthy_bool ?_
 cases k with
 | false =>
  obtain ⟨k',e',q'⟩:=q3
  cases e'
  exact ite_ff ⟨H3,I3,q'⟩
 | true =>
  refine ite_tt (test_last (thn (hc pins s3 σ H3 _ I3 q3) fun w' s4 ⟨z',H4,I4,r4,q4⟩=>thn (ho' pins s4 σ H4 y z' u w' _ I4 r2 r4 q4) fun d' s5 ⟨z2,H5,I5,r5,k2,e2,q5⟩=>?_))
  subst e2
  cases r5
  exact wpAny_truthy_bool ⟨H5,I5,q5⟩
def TruV (K:W.Frag) (x:V) (H:Hp) (k:Bool):Prop :=
 match x with
 | .non=>k=false
 | .bl b=>k=b
 | .int i=>k=(i != 0)
 | .str y=>y.length≤sizeLine∧k=((y.length:Int) != 0)
 | .byt y=>y.size≤sizeLine∧k=((y.size:Int) != 0)
 | .ref p=>(∃ xs,SqL K H p xs∧k=!xs.isEmpty)∨(∃ xs,SqT K H p xs∧k=!xs.isEmpty)∨∃ kvs,H p=some (.dK kvs)∧k=!kvs.isEmpty
 | _=>False
theorem isEmpty_kv {κ:Type}{kvs:List (κ×V)}{vs:List (κ×Value)}(r:KV kvs vs):(!vs.isEmpty)=!kvs.isEmpty:=by
 cases r <;> rfl
theorem isEmpty_of {xs:List V}{its:List Value}(r:Zb7 xs its):(!its.toArray.isEmpty)=!xs.isEmpty:=by
 cases r <;> simp
theorem line63:(sizeLine:Nat)<2 ^ 63:=by rw [sizeLine_eq];decide
theorem tru_ok:TruR X (fun x H Q=>∃ k,TruV X.K x H k∧Q k H):=by
 intro pins s σ H x v Q I rx h
 obtain ⟨k,e,q⟩:=h
 have hl:=line63
 have hs:sizeLine=16777216:=sizeLine_eq
 cases x with
 | non =>
  cases rx
  have e':k=false:=e
  subst e'
  exact truthy_none ⟨H,I,q⟩
 | bl b =>
  cases rx
  have e':k=b:=e
  subst e'
  exact wpAny_truthy_bool ⟨H,I,q⟩
 | int i =>
  obtain ⟨t,rfl⟩:=rx
  have e':k=(i != 0):=e
  subst e'
  exact PySem.P.truthy_int ⟨H,I,q⟩
 | str y =>
  obtain ⟨t,rfl⟩:=rx
  obtain ⟨hy,e'⟩:y.length≤sizeLine∧k=((y.length:Int) != 0):=e
  subst e'
  exact PySem.P.truthy_str (by omega) ⟨H,I.tok _,q⟩
 | byt y =>
  obtain ⟨t,rfl⟩:=rx
  obtain ⟨hy,e'⟩:y.size≤sizeLine∧k=((y.size:Int) != 0):=e
  subst e'
  exact W.truthy_bytes (by omega) ⟨H,I.tok _,q⟩
 | ref p =>
  cases rx
  have e':(∃ xs,SqL X.K H p xs∧k=!xs.isEmpty)∨(∃ xs,SqT X.K H p xs∧k=!xs.isEmpty)∨∃ kvs,H p=some (.dK kvs)∧k=!kvs.isEmpty:=e
  rcases e' with ⟨xs,hx,e'⟩ | ⟨xs,hx,e'⟩ | ⟨kvs,hx,e'⟩
  ·subst e'
   obtain ⟨its,r,pl,hz⟩:=I.list hx
   have hlen:=r.length
   exact wpAny_truthy_list pl.isList (by simp only [List.size_toArray];omega) ⟨H,I.tok _,by rw [isEmpty_of r];exact q⟩
  ·subst e'
   obtain ⟨its,r,pl,hz⟩:=I.tuple hx
   have hlen:=r.length
   exact truthy_tuple pl (by simp only [List.size_toArray];omega) ⟨H,I.tok _,by rw [isEmpty_of r];exact q⟩
  ·subst e'
   obtain ⟨hz,hS,vs,r,m⟩:kvs.length≤sizeLine∧(p == sysModules)=false∧∃ vs,KV kvs vs∧s.heap.DictOf (Zbx X.prog X.w) p vs:=I.hok p _ hx
   have hlen:kvs.length=vs.length:=Paired.length r
   exact wpAny_truthy_dict hS m (by omega) ⟨H,I.tok _,by rw [isEmpty_kv r];exact q⟩
 | _=>exact (show False from e).elim
theorem pt_truth (ha:PE X a ta) (he:∀ whole,isTrue a X.env whole=(do let v ← whole;standAt a.pos;holding [v] (truthy v))):
  PT X a (fun σ H Q=>ta σ H fun x H'=>∃ k,TruV X.K x H' k∧Q k H'):=by
 intro pins s σ H Q I h
 exact isTrue_plain (thn (ha pins s σ H _ I h) fun v s1 ⟨x,H1,I1,r1,q1⟩=>tru_ok pins s1 σ H1 x v Q I1 r1 q1) (he _)
theorem op_add_str:OpR X (binaryOp .Add) (fun x y H Q=>∃ i j,x=.str i∧y=.str j∧i.length + j.length≤sizeLine∧Q (.str (i++j)) H):=by
 intro pins s σ H x y v u Q I rx ry h
 obtain ⟨i,j,rfl,rfl,hz,q⟩:=h
 obtain ⟨t,rfl⟩:=rx
 obtain ⟨t',rfl⟩:=ry
 exact add_str (fun t' tk=>⟨.str (i++j),H,I.tok _,⟨_,rfl⟩,q⟩) hz
theorem vals1 {x:V}{us:List Value}(r:Zb7 [x] us):∃ u,us=[u]∧Zcf x u:=by
 cases r with
 | cons r1 r2=>cases r2;exact ⟨_,rfl,r1⟩
theorem vals2 {x y:V}{us:List Value}(r:Zb7 [x,y] us):∃ u w',us=[u,w']∧Zcf x u∧Zcf y w':=by
 cases r with
 | cons r1 r2 =>
  cases r2 with
  | cons r3 r4=>cases r4;exact ⟨_,_,rfl,r1,r3⟩
theorem call_int1:CallR X (.type "int") (fun xs H Q=>(∃ i,xs=[.int i]∧Q (.int i) H)∨∃ k,xs=[.bl k]∧Q (.int (if k then 1 else 0)) H):=by
 intro pins s σ H xs us Q I r h
 rcases h with ⟨i,rfl,q⟩ | ⟨k,rfl,q⟩
 ·obtain ⟨u,rfl,t,rfl⟩:=vals1 r
  exact call_int_int ⟨.int i,H,I,⟨_,rfl⟩,q⟩
 ·obtain ⟨u,rfl,r1⟩:=vals1 r
  cases r1
  exact call_int_bool ⟨.int (if k then 1 else 0),H,I.tok _,⟨_,rfl⟩,q⟩
def LenV (K:W.Frag) (x:V) (H:Hp) (n:Nat):Prop :=
 match x with
 | .str y=>y.length≤sizeLine∧n=y.length
 | .byt y=>y.size≤sizeLine∧n=y.size
 | .ref p=>(∃ xs,SqL K H p xs∧n=xs.length)∨∃ xs,SqT K H p xs∧n=xs.length
 | _=>False
theorem Zcs:CallR X (.builtin "len") (fun xs H Q=>∃ x n,xs=[x]∧LenV X.K x H n∧Q (.int n) H):=by
 intro pins s σ H xs us Q I r h
 obtain ⟨x,n,rfl,e,q⟩:=h
 obtain ⟨u,rfl,rx⟩:=vals1 r
 have hl:=line63
 have hs:sizeLine=16777216:=sizeLine_eq
 cases x with
 | str y =>
  obtain ⟨t,rfl⟩:=rx
  obtain ⟨hy,e'⟩:y.length≤sizeLine∧n=y.length:=e
  subst e'
  exact len_str (by omega) ⟨.int _,H,I.tok _,⟨_,rfl⟩,q⟩
 | byt y =>
  obtain ⟨t,rfl⟩:=rx
  obtain ⟨hy,e'⟩:y.size≤sizeLine∧n=y.size:=e
  subst e'
  exact W.len_bytes (by omega) ⟨.int _,H,I.tok _,⟨_,rfl⟩,q⟩
 | ref p =>
  cases rx
  have e':(∃ xs,SqL X.K H p xs∧n=xs.length)∨∃ xs,SqT X.K H p xs∧n=xs.length:=e
  rcases e' with ⟨xs,hx,e'⟩ | ⟨xs,hx,e'⟩
  ·subst e'
   obtain ⟨its,r',pl,hz⟩:=I.list hx
   have hlen:=r'.length
   exact Calls.call_len_list pl.isList (by simp only [List.size_toArray];omega) ⟨.int xs.length,H,I.tok _,⟨_,by simp only [List.size_toArray];rw [hlen]⟩,q⟩
  ·subst e'
   obtain ⟨its,r',pl,hz⟩:=I.tuple hx
   have hlen:=r'.length
   exact len_tuple pl (by simp only [List.size_toArray];omega) ⟨.int xs.length,H,I.tok _,⟨_,by simp only [List.size_toArray];rw [hlen]⟩,q⟩
 | _=>exact (show False from e).elim
end
end L2
namespace L2
open PySem PySem.Spec PyProof.Rows
structure ObjM (h:Heap) (x dx C:Addr) (mA:Str→Option Value):Prop where
 obj:h.get? x=some (W.instObj C dx)
 ns:h.Ns1 dx mA
 ne:dx≠x
theorem lookIn_ns {h:Heap}{dx:Addr}{mA:Str→Option Value}(n:h.Ns1 dx mA):∃ od,h.get? dx=some od∧∀ name,W.lookIn name od=some (mA name):=by
 obtain ⟨o,es,ep,ho,hd,hk,_,hm⟩:=n
 refine ⟨o,ho,fun name=>?_⟩
 have e:=hm name
 unfold nsFind findBy at e
 rw [← Array.find?_toList] at e
 unfold W.lookIn
 rw [hd]
 dsimp only
 split
 ·rename_i y q
  rw [q] at e
  exact congrArg some e
 ·rename_i q
  rw [q] at e
  have a:es.toList.any (·.refKey)=false:=by
   rw [List.any_eq_false]
   intro y hy
   obtain ⟨z,t,hkey⟩:=hk y (Array.mem_toList_iff.mp hy)
   simp [DictEntry.refKey,hkey]
  have a':¬ es.toList.any (·.refKey)=true:=by rw [a];exact Bool.false_ne_true
  rw [if_neg a']
  exact congrArg some e
theorem ObjM.look {h:Heap}{x dx C:Addr}{mA:Str→Option Value}(I:ObjM h x dx C mA):∃ od,W.InstAt h x (W.instObj C dx) C (some od)∧∀ name,W.lookIn name od=some (mA name):=
 let ⟨od,ho,hl⟩:=lookIn_ns I.ns
 ⟨od,⟨I.obj,rfl,rfl,ho⟩,hl⟩
section
variable {prog:Program} {w:World} {A:Around} {E:Value→Shared→Prop} {s:Shared} {K:W.Frag} {x dx C f:Addr} {mA:Str→Option Value} {name:Str} {v:Value}
theorem get_map {expr:Bool}{Q:Value→Shared→Prop}(X:K.In s.heap) (I:ObjM s.heap x dx C mA) (hg:W.plainGet K C name=true) (hh:W.hasDictIn K C=true)
  (ha:W.findIn K (.ref C) name=some none) (hv:mA name=some v) (hv':W.handedIn v=true) (h:Q v { s with toks:=s.toks + 1 }):
  wpAny (model prog w) A (getAttr (.ref x) name expr) Q E s:=by
 obtain ⟨od,J,hl⟩:=I.look
 exact W.get_value X J (W.plainGet_of hg).1 (W.findObj_own hh ha rfl (by rw [hl,hv])) hv' h
theorem get_meth {pl:Sem Bool}{Q:Value×List Value→Shared→Prop}(X:K.In s.heap) (I:ObjM s.heap x dx C mA) (hg:W.plainGet K C name=true)
  (hf:W.findIn K (.ref C) name=some (some (.ref f))) (ht:W.isFn K (.ref f)=true) (hv:mA name=none) (h:Q (.ref f,[.ref x]) s):
  wpAny (model prog w) A (getMethod (.ref x) name pl) Q E s:=by
 obtain ⟨od,J,hl⟩:=I.look
 exact W.method_fn X J (W.plainGet_of hg).1 (W.plainGet_of hg).2 hf (beq_iff_eq.mp ht) (by show (W.lookIn name od).map (·.isSome)=some false;rw [hl,hv];rfl) h
theorem set_map {ns:List Str}{Q:Unit→Shared→Prop}(X:K.In s.heap) (I:ObjM s.heap x dx C mA)
  (hs:W.findIn K (.ref C) "__setattr__"=some (some (.builtin "object.__setattr__"))) (hp:W.plainOver K C=true) (ht:W.takerIn K C name=some none) (hh:W.hasDictIn K C=true)
  (hw:PySem.Within mA ns) (hsz:ns.length≤sizeLine)
  (h:∀ h',ObjM h' x dx C (fun y=>if y=name then some v else mA y)→Heap.SameBut dx s.heap h'→Q () { s with heap:=h',toks:=s.toks + 2 }):
  wpAny (model prog w) A (setAttr (.ref x) name v) Q E s:=by
 obtain ⟨od,J,hl⟩:=I.look
 refine W.set_plain X J hs (W.osa_open (s:={ s with toks:=s.toks + 1 }) (r:=none) X J hp ht fun b=>?_)
 obtain ⟨cd,hc,hd'⟩:=W.any_some hh
 have hx:s.heap.get? x=some ⟨.ref C,some dx,.plain,#[]⟩:=I.obj
 refine wpAny_bind (wpAny_pure (wpAny_bind (wpAny_bind (wpAny_loadPart hx (wpAny_bind (W.Looks.here (s:={ s with toks:=s.toks + 1 }) (W.looks_clsIn X hc) ?_))))))
 rw [hd']
 refine wpAny_pure (a:=some dx) (wpAny_bind (wpAny_pure (wpAny_bind ?_)))
 refine wpAny_nsSet1 (s:={ s with toks:=s.toks + 1 }) I.ns fun h' hn2 hs2=>?_
 obtain ⟨oD,esD,epD,hoD,hdD,hcD⟩:=hn2.count (PySem.Within.cons name v hw)
 refine wpAny_bind (wpAny_lookBehind hoD (by rw [hdD];exact pastItsLine_dict (Nat.le_trans hcD (by rw [List.length_cons];omega))) ?_)
 exact wpAny_pure (h _ ⟨(hs2.2 _ (Ne.symm I.ne)).trans I.obj,hn2,I.ne⟩ hs2)
theorem make_map {R:Result→Shared→Prop}{vs:List Value}{kw:List (Str×Value)}(X:K.In s.heap) (hm:W.makesIn K C=true)
  (hi:W.findIn K (.ref C) "__init__"=some (some (.ref f))) (hf:W.typeIn K (.ref f)=some (.type "function"))
  (h:codeAny (model prog w) (A.under (.builtin "type.__call__" ⟨.ref C :: vs,kw⟩)) (.call (.ref f) ⟨.ref (s.heap.objs.size + 1):: vs,kw⟩) (W.InitBack (s.heap.objs.size + 1) R)
   { s with heap:=(s.heap.push W.emptyDict).push (W.instObj C s.heap.objs.size) }):
  codeAny (model prog w) A (.call (.ref C) ⟨vs,kw⟩) R s:=by
 obtain ⟨hh,g,d,t,os⟩:=s
 exact W.make_core (W.makes_of X hm) (W.looks_findIn X hi) (fun self=>W.bind_fn X self hf) (.inl rfl) h
end
def putF (f:Str) (v:V):List (Str×V)→List (Str×V)
 | []=>[(f,v)]
 | (g,x):: r=>if g=f then (g,v):: r else (g,x):: putF f v r
theorem Zap (f g:Str) (v:V):∀ fs:List (Str×V),(putF f v fs).lookup g=if g=f then some v else fs.lookup g
 | []=>by
  show List.lookup g [(f,v)]=_
  by_cases h:g=f
  ·have hb:(g == f)=true:=beq_iff_eq.mpr h
   simp only [List.lookup,hb,if_pos h]
  ·have hb:(g == f)=false:=beq_eq_false_iff_ne.mpr h
   simp only [List.lookup,hb,if_neg h]
 | (k,x):: r=>by
  have ih:=Zap f g v r
  rw [show putF f v ((k,x):: r)=(if k=f then (k,v):: r else (k,x):: putF f v r) from rfl]
  by_cases hk:k=f
  ·rw [if_pos hk]
   by_cases h:g=k
   ·have hb:(g == k)=true:=beq_iff_eq.mpr h
    simp only [List.lookup,hb,if_pos (h.trans hk)]
   ·have hb:(g == k)=false:=beq_eq_false_iff_ne.mpr h
    simp only [List.lookup,hb,if_neg (fun e:g=f=>h (e.trans hk.symm))]
  ·rw [if_neg hk]
   by_cases h:g=k
   ·have hb:(g == k)=true:=beq_iff_eq.mpr h
    simp only [List.lookup,hb,if_neg (fun e:g=f=>hk (h.symm.trans e))]
   ·have hb:(g == k)=false:=beq_eq_false_iff_ne.mpr h
    simp only [List.lookup,hb]
    exact ih
theorem keys_putF (f:Str) (v:V):∀ fs:List (Str×V),f∈(putF f v fs).map (·.1)∧∀ g,g∈fs.map (·.1)→g∈(putF f v fs).map (·.1)
 | []=>⟨by simp [putF],fun g h=>by simp at h⟩
 | (k,x):: r=>by
  obtain ⟨i1,i2⟩:=keys_putF f v r
  rw [show putF f v ((k,x):: r)=(if k=f then (k,v):: r else (k,x):: putF f v r) from rfl]
  by_cases hk:k=f
  ·rw [if_pos hk]
   subst hk
   exact ⟨by simp,fun g h=>by simpa using h⟩
  ·rw [if_neg hk]
   refine ⟨?_,fun g h=>?_⟩
   ·rw [List.map_cons]
    exact List.mem_cons_of_mem _ i1
   ·rw [List.map_cons] at h ⊢
    rcases List.mem_cons.mp h with e | e
    ·exact List.mem_cons.mpr (.inl e)
    ·exact List.mem_cons_of_mem _ (i2 g e)
theorem length_putF (f:Str) (v:V):∀ fs:List (Str×V),(putF f v fs).length≤fs.length + 1
 | []=>by simp [putF]
 | (k,x):: r=>by
  have ih:=length_putF f v r
  rw [show putF f v ((k,x):: r)=(if k=f then (k,v):: r else (k,x):: putF f v r) from rfl]
  by_cases hk:k=f
  ·rw [if_pos hk,List.length_cons,List.length_cons];omega
  ·rw [if_neg hk,List.length_cons,List.length_cons];omega
theorem RelO.some_of {v:V}{o:Option Value}(r:RelO (some v) o):∃ u,o=some u∧Zcf v u:=by
 cases o with
 | none=>exact (show False from r).elim
 | some u=>exact ⟨u,rfl,r⟩
theorem RelO.none_of {o:Option Value}(r:RelO none o):o=none:=by
 cases o with
 | none=>rfl
 | some u=>exact (show False from r).elim
theorem handed_of {v:V}{u:Value}(r:Zcf v u):W.handedIn u=true:=by
 cases v with
 | non=>cases (show u=Value.none from r);rfl
 | bl b=>cases (show u=Value.bool b from r);rfl
 | int i=>obtain ⟨t,e⟩:=(show ∃ t,u=Value.int i t from r);cases e;rfl
 | str x=>obtain ⟨t,e⟩:=(show ∃ t,u=Value.str x t from r);cases e;rfl
 | byt b=>obtain ⟨t,e⟩:=(show ∃ t,u=Value.bytes b t from r);cases e;rfl
 | flt b=>obtain ⟨t,e⟩:=(show ∃ t,u=Value.float b t from r);cases e;rfl
 | ref a=>cases (show u=Value.ref a from r);rfl
 | ty n=>cases (show u=Value.type n from r);rfl
section
variable {P:Program} {w:World} {H H':Hp} {h h':Heap} {a C dx:Addr} {fs fs':List (Str×V)}
theorem ins_get (hok:HOk P w H h) (e:H a=some (.ins C dx fs)):∃ mA,ObjM h a dx C mA∧(∀ f,RelO (fs.lookup f) (mA f))∧PySem.Within mA (fs.map (·.1))∧fs.length≤1000∧H dx=some (.own a):=by
 obtain ⟨d,z,ne,ob,mA,n,r,q⟩:=(show Zcn P w H h a (.ins C dx fs) from hok a _ e)
 exact ⟨mA,⟨ob,n,ne⟩,r,q,z,d⟩
end
structure Cls (K:W.Frag) (C:Addr):Prop where
 pg:W.plainGet K C Str.empty=true
 hd:W.hasDictIn K C=true
 po:W.plainOver K C=true
 sa:W.findIn K (.ref C) "__setattr__"=some (some (.builtin "object.__setattr__"))
theorem Cls.get {K:W.Frag}{C:Addr}(c:Cls K C) (f:Str):W.plainGet K C f=true:=c.pg
def Zfa (K:W.Frag) (C:Addr) (f:Str):Prop:=W.findIn K (.ref C) f=some none
theorem Zfa.taker {K:W.Frag}{C:Addr}{f:Str}(n:Zfa K C f):W.takerIn K C f=some none:=by
 unfold W.takerIn
 rw [show W.findIn K (.ref C) f=some none from n]
 rfl
structure Con (K:W.Frag) (C:Addr) (f:Str) (v:V) (u:Value):Prop where
 at_:W.findIn K (.ref C) f=some (some u)
 rel:Zcf v u
 get:W.specialIn K u "__get__"=some none
 cp:W.copiedNames.contains f=false
structure Meth (K:W.Frag) (C:Addr) (m:Str) (f:Addr):Prop where
 at_:W.findIn K (.ref C) m=some (some (.ref f))
 fn:W.isFn K (.ref f)=true
 kp:W.keepIn K (.ref f)=true
section
variable {X:Cx} {pins:List (Addr×Obj)} {σ:St} {H:Hp} {s:Shared} {a C dx:Addr} {fs:List (Str×V)} {f:Str} {v:V} {A:Around} {E:Value→Shared→Prop}
theorem getattr_ok {b:Bool}{Q:Value→Shared→Prop}(I:Inv X pins σ H s) (e:H a=some (.ins C dx fs)) (c:Cls X.K C) (n:Zfa X.K C f) (l:fs.lookup f=some v)
  (h:∀ u s',Inv X pins σ H s'→Zcf v u→Q u s'):wpAny (model X.prog X.w) A (getAttr (.ref a) f b) Q E s:=by
 obtain ⟨mA,O,r,_,_,_⟩:=ins_get I.hok e
 obtain ⟨u,hu,ru⟩:=RelO.some_of (v:=v) (o:=mA f) (by rw [← l];exact r f)
 exact get_map I.kIn O (c.get f) c.hd n hu (handed_of ru) (h u _ (I.tok _) ru)
theorem getmeth_ok {m:Str}{g:Addr}{pl:Sem Bool}{Q:Value×List Value→Shared→Prop}(I:Inv X pins σ H s) (e:H a=some (.ins C dx fs)) (c:Cls X.K C) (k:Meth X.K C m g) (l:fs.lookup m=none)
  (h:Q (.ref g,[.ref a]) s):wpAny (model X.prog X.w) A (getMethod (.ref a) m pl) Q E s:=by
 obtain ⟨mA,O,r,_,_,_⟩:=ins_get I.hok e
 have hn:mA m=none:=RelO.none_of (by rw [← l];exact r m)
 exact get_meth I.kIn O (c.get m) k.at_ k.fn hn h
theorem setattr_ok {y:V}{u:Value}{Q:Unit→Shared→Prop}(I:Inv X pins σ H s) (e:H a=some (.ins C dx fs)) (c:Cls X.K C) (n:Zfa X.K C f) (hl:fs.length<1000) (ry:Zcf y u)
  (h:∀ s',Inv X pins σ (upd H a (.ins C dx (putF f y fs))) s'→Q () s'):wpAny (model X.prog X.w) A (setAttr (.ref a) f u) Q E s:=by
 obtain ⟨mA,O,r,wi,_,ho⟩:=ins_get I.hok e
 have hz:(fs.map (·.1)).length≤sizeLine:=by rw [List.length_map,sizeLine_eq];omega
 refine set_map I.kIn O c.sa c.po n.taker c.hd wi hz fun h' O' sb=>h _ ?_
 have hd:∃ o,h'.get? dx=some o:=let ⟨o,_,_,e',_⟩:=O'.ns;⟨o,e'⟩
 refine I.write (x:=a) (e:=dx) (by rw [e];exact True.intro) (.inr ho) (fun b q hb z=>(sb.2 b hb).trans z) hd ?_
 refine ⟨by rw [Zab O.ne];exact ho,?_,O.ne,O'.obj,_,O'.ns,fun g=>?_,fun g hg=>?_⟩
 ·have:=length_putF f y fs;omega
 ·show RelO ((putF f y fs).lookup g) (if g=f then some u else mA g)
  rw [Zap]
  by_cases q:g=f
  ·rw [if_pos q,if_pos q];exact ry
  ·rw [if_neg q,if_neg q];exact r g
 ·by_cases q:g=f
  ·rw [q];exact (keys_putF f y fs).1
  ·refine (keys_putF f y fs).2 g (wi g fun z=>hg ?_)
   show (if g=f then some u else mA g)=none
   rw [if_neg q];exact z
theorem Inv.made (I:Inv X pins σ H s):Inv X pins σ (upd (upd H s.heap.objs.size (.own (s.heap.objs.size + 1))) (s.heap.objs.size + 1) (.ins C s.heap.objs.size []))
  { s with heap:=(s.heap.push W.emptyDict).push (W.instObj C s.heap.objs.size) }:=by
 have e1:(s.heap.push W.emptyDict).get? s.heap.objs.size=some W.emptyDict:=Heap.get?_push_size s.heap rfl
 have e2:((s.heap.push W.emptyDict).push (W.instObj C s.heap.objs.size)).get? (s.heap.objs.size + 1)=some (W.instObj C s.heap.objs.size):=by
  have:=Heap.get?_push_size (s.heap.push W.emptyDict) (o:=W.instObj C s.heap.objs.size) rfl
  rwa [Heap.size_push] at this
 have e3:(s.heap.push W.emptyDict).Ns s.heap.objs.size (fun _=>none):=⟨W.emptyDict,#[],_,e1,rfl,(fun e he=>absurd he (by simp)),fun _=>rfl⟩
 have I1:=I.laid (a:=s.heap.objs.size) (o:=.own (s.heap.objs.size + 1)) (h':=s.heap.push W.emptyDict) (t':=s.toks) (fun b u q=>Heap.get?_push_of_some _ q) (Nat.le_refl _) ⟨_,e1⟩
 refine I1.laid (a:=s.heap.objs.size + 1) (o:=.ins C s.heap.objs.size []) (t':=s.toks) (fun b u q=>Heap.get?_push_of_some _ q) (Nat.le_of_eq (Heap.size_push _ _)) ?_
 have ne:s.heap.objs.size≠s.heap.objs.size + 1:=Nat.ne_of_lt (Nat.lt_succ_self _)
 refine ⟨by rw [Zab ne,uS],Nat.zero_le _,ne,e2,fun _=>none,(Heap.Ns1.of_empty e3).at fun o q=>Heap.get?_push_of_some _ q,fun _=>True.intro,fun y hy=>absurd rfl hy⟩
theorem attr_of {prog:Program}{w:World}{env:Env}{e:Expr}{f:Str}{pos:Pos}{s:Shared}{Q:Value→Shared→Prop}(hb:attributeBase e f env (eval e env)=eval e env)
  (h:wpAny (model prog w) A (eval e env) (fun o s₁=>wpAny (model prog w) A (getAttr o f true) Q E s₁) E s):wpAny (model prog w) A (eval (.Attribute e f pos) env) Q E s :=
 Attribute_any_ h (by rw [arm_eval_Attribute,hb])
end
def tFld (K:W.Frag) (ta:TE) (f:Str):TE:=fun σ H Q=>ta σ H fun x H1=>∃ a C dx fs v,x=.ref a∧H1 a=some (.ins C dx fs)∧Cls K C∧Zfa K C f∧fs.lookup f=some v∧Q v H1
def sFld (K:W.Frag) (ta tv:TE) (f:Str):TS:=fun D σ H=>tv σ H fun y H1=>ta σ H1 fun x H2=>∃ a C dx fs,x=.ref a∧H2 a=some (.ins C dx fs)∧Cls K C∧Zfa K C f∧fs.length<1000 ∧
 D.nx σ (upd H2 a (.ins C dx (putF f y fs)))
section
variable {X:Cx} {o e value:Expr} {f:Str} {pos pos' tpos:Pos} {ta tv:TE}
theorem Zfn (he:PE X e ta) (hb:attributeBase e f X.env (eval e X.env)=eval e X.env):PE X (.Attribute e f pos) (tFld X.K ta f):=by
 intro pins s σ H Q I h
 refine attr_of hb (thn (he pins s σ H _ I h) fun u s1 ⟨x,H1,I1,rx,a,C,dx,fs,v,ex,ea,c,n,l,q⟩=>?_)
 subst ex
 obtain rfl:u=Value.ref a:=rx
 exact getattr_ok I1 ea c n l fun u' s2 I2 ru=>⟨v,H1,I2,ru,q⟩
theorem ps_fld (ha:PE X o ta) (hv:PE X value tv) (hs:swapsWith value (some (.Attribute o f pos')) pos.line X.env=pure false):PS X (.Assign [.Attribute o f pos'] value pos) (sFld X.K ta tv f):=by
 intro pins s σ H D I h
 refine plainObj_wpAny_Assign_Attribute (thn (hv pins s σ H _ I h) fun u s1 ⟨y,H1,I1,ry,q⟩=>thn (ha pins s1 σ H1 _ I1 q) fun ov s2 ⟨x,H2,I2,rx,a,C,dx,fs,ex,ea,c,n,l,q2⟩=>?_) hs
 subst ex
 obtain rfl:ov=Value.ref a:=rx
 exact setattr_ok I2 ea c n l ry fun s3 I3=>⟨σ,_,I3,q2⟩
end
section
variable {X:Cx} {pins:List (Addr×Obj)} {σ:St} {H:Hp} {s:Shared} {A:Around} {E:Value→Shared→Prop} {Q:Value→Shared→Prop} {c:Value} {b:Bool}
inductive TyOf (K:W.Frag) (H:Hp):V→Value→Prop where
 | non:TyOf K H .non (.type "NoneType")
 | bl (x:Bool):TyOf K H (.bl x) (.type "bool")
 | int (i:Int):TyOf K H (.int i) (.type "int")
 | str (x:Str):TyOf K H (.str x) (.type "str")
 | flt (x:UInt64):TyOf K H (.flt x) (.type "float")
 | lst {a:Addr} {xs:List V} (e:H a=some (.lst xs)):TyOf K H (.ref a) (.type "list")
 | frz {a:Addr} {o:Obj} {xs:List V} (e:H a=some (.frz o (.lst xs))):TyOf K H (.ref a) (.type "list")
 | tup {a:Addr} {xs:List V} (e:H a=some (.tup xs)):TyOf K H (.ref a) (.type "tuple")
 | dK {a:Addr} {kvs:List (Key×V)} (e:H a=some (.dK kvs)):TyOf K H (.ref a) (.type "dict")
 | dT {a:Addr} {kvs:List (List Key×V)} (e:H a=some (.dT kvs)):TyOf K H (.ref a) (.type "dict")
 | ins {a C dx:Addr} {fs:List (Str×V)} (e:H a=some (.ins C dx fs)) (cl:Cls K C) (ha:W.findIn K (.ref C) "__class__"=some (some (.builtin "object.__class__")))
   (hn:W.specialIn K (.builtin "object.__class__") "__get__"=some (some (.builtin "getset_descriptor.__get__"))) (htk:W.takesIn K (.builtin "object.__class__")=some true)
   (hm:W.mroIn K C (.type "object")=some true):TyOf K H (.ref a) (.ref C)
theorem isinst_ok {x:V}{u t:Value}(I:Inv X pins σ H s) (rx:Zcf x u) (ty:TyOf X.K H x t) (e:W.kitOne X.K t c=some b) (h:∀ tk,Q (.bool b) { s with toks:=tk }):
  wpAny (model X.prog X.w) A (call (.builtin "isinstance") [u,c]) Q E s:=by
 cases ty with
 | non=>cases (show u=Value.none from rx);exact W.kia_one W.kitx_none I.kIn True.intro e (fun z=>nomatch z) h
 | bl y=>cases (show u=Value.bool y from rx);exact W.kia_one W.kitx_bool I.kIn True.intro e (fun z=>nomatch z) h
 | int i=>obtain ⟨t,q⟩:=(show ∃ t,u=Value.int i t from rx);cases q;exact W.kia_one W.kitx_int I.kIn True.intro e (fun z=>nomatch z) h
 | str y=>obtain ⟨t,q⟩:=(show ∃ t,u=Value.str y t from rx);cases q;exact W.kia_one W.kitx_str I.kIn True.intro e (fun z=>nomatch z) h
 | flt y=>obtain ⟨t,q⟩:=(show ∃ t,u=Value.float y t from rx);cases q;exact W.kia_one W.kitx_float I.kIn True.intro e (fun z=>nomatch z) h
 | @lst a xs ea =>
  cases (show u=Value.ref a from rx)
  obtain ⟨_,_,n,_,h1⟩:=(show Zcn X.prog X.w H s.heap a (.lst xs) from I.hok a _ ea)
  exact W.kia_one W.kitx_list I.kIn ⟨_,h1,rfl⟩ e (fun z=>nomatch z) h
 | @frz a ob xs ea =>
  cases (show u=Value.ref a from rx)
  obtain ⟨_,_,_,n,_,h1⟩:=(show Zcn X.prog X.w H s.heap a (.frz ob (.lst xs)) from I.hok a _ ea)
  exact W.kia_one W.kitx_list I.kIn ⟨_,h1,rfl⟩ e (fun z=>nomatch z) h
 | @tup a xs ea =>
  cases (show u=Value.ref a from rx)
  obtain ⟨_,_,_,p⟩:=(show Zcn X.prog X.w H s.heap a (.tup xs) from I.hok a _ ea)
  obtain ⟨o,h1,h2,_⟩:=p
  exact W.kia_one W.kitx_tuple I.kIn ⟨o,h1,h2⟩ e (fun z=>nomatch z) h
 | @dK a kvs ea =>
  cases (show u=Value.ref a from rx)
  obtain ⟨_,_,vs,_,p⟩:=(show Zcn X.prog X.w H s.heap a (.dK kvs) from I.hok a _ ea)
  obtain ⟨o,es,ep,h1,h2,_⟩:=p
  exact W.kia_one W.kitx_dict I.kIn ⟨o,h1,h2.1⟩ e (fun z=>nomatch z) h
 | @dT a kvs ea =>
  cases (show u=Value.ref a from rx)
  obtain ⟨_,_,xs,_,o,es,ep,h1,h2,_⟩:=(show Zcn X.prog X.w H s.heap a (.dT kvs) from I.hok a _ ea)
  exact W.kia_one W.kitx_dict I.kIn ⟨o,h1,h2.1⟩ e (fun z=>nomatch z) h
 | @ins a C dx fs ea cl ha hn htk hm =>
  cases (show u=Value.ref a from rx)
  obtain ⟨mA,O,_⟩:=ins_get I.hok ea
  obtain ⟨od,J,_⟩:=O.look
  exact W.kia_one (W.kitx_own (cl.get _) cl.hd ha hn htk hm) I.kIn J e (fun z=>nomatch z) h
end
end L2
namespace L2
open PySem PySem.Spec PyProof.Rows
structure Zcm (k:Nat) (A:Around):Prop where
 hd:A.handled=none
 dp:A.depth + 3 * k + 5<recursionLimit
 un:A.units + 16 * k + 200<cLine
 gd:A.guards=some []
theorem Zcm.mono {j k:Nat}{A:Around}(r:Zcm k A) (h:j≤k):Zcm j A:=⟨r.hd,by have:=r.dp;omega,by have:=r.un;omega,r.gd⟩
theorem Zcm.deeper {k:Nat}{A:Around}(r:Zcm (k + 1) A) (env:Env):Zcm k (A.deeper env):=
 ⟨r.hd,by have:=r.dp;show A.depth + 1 + 3 * k + 5<_;omega,by have:=r.un;show A.units + 3 + 16 * k + 200<_;omega,r.gd⟩
theorem make_depth {A:Around}{C:Addr}{us:List Value}{kw:List (Str×Value)}:(A.under (.builtin "type.__call__" ⟨.ref C :: us,kw⟩)).depth=A.depth + 1:=by
 first | rfl | simp [Around.under,Code.weight,Code.isCreation,Code.isGuard,Code.isCaller,Code.frames,Code.isFrame,guardIds]
theorem make_units {A:Around}{C:Addr}{us:List Value}{kw:List (Str×Value)}:(A.under (.builtin "type.__call__" ⟨.ref C :: us,kw⟩)).units=A.units + 1:=by
 first | rfl | simp [Around.under,Code.cUnits,Code.frames,Code.isFrame]
theorem Zcm.make {k:Nat}{A:Around}(r:Zcm (k + 1) A) (C:Addr) (us:List Value) (kw:List (Str×Value)):Zcm k (A.under (.builtin "type.__call__" ⟨.ref C :: us,kw⟩)):=
 ⟨r.hd,by have:=r.dp;rw [make_depth];omega,by have:=r.un;rw [make_units];omega,by first | exact r.gd | simpa [Around.under,Code.guards,Code.isGuard,guardIds,pushGuards] using r.gd⟩
theorem Zcm.depth {k:Nat}{A:Around}(r:Zcm k A):A.depth<recursionLimit:=by have:=r.dp;omega
theorem Zcm.units {k:Nat}{A:Around}(r:Zcm k A):A.units + 64<cLine:=by have:=r.un;omega
def tNil:TA:=fun _ H Q=>Q [] H
def tCons (ta:TE) (tr:TA):TA:=fun σ H Q=>ta σ H fun x H1=>tr σ H1 fun xs H2=>Q (x :: xs) H2
section
variable {X:Cx} {e:Expr} {es:List Expr} {te:TE} {t:TA} {pos:Pos}
theorem Zaa:PA X [] tNil:=fun _ _ _ _ H Q I h=>Calls.spliced_nil ⟨[],H,I,.nil,h⟩
theorem pC (ha:PE X e te) (hr:PA X es t) (hs:starEach (e :: es) X.env=(false,eval e X.env):: starEach es X.env:=by rfl):PA X (e :: es) (tCons te t):=by
 intro pos pins s σ H Q I h
 rw [hs]
 show wpAny _ _ (spliced ((false,eval e X.env):: backTo pos (starEach es X.env))) _ _ s
 refine Calls.spliced_cons (thn (ha pins s σ H _ I h) fun u s1 ⟨x,H1,I1,r1,q1⟩=>?_)
 exact thn (hr pos pins s1 σ H1 _ I1 q1) fun us s2 ⟨xs,H2,I2,r2,q2⟩=>⟨x :: xs,H2,I2,.cons r1 r2,q2⟩
def tTup (t:TA):TE:=fun σ H Q=>t σ H fun xs H1=>xs.length≤sizeLine∧∀ p,H1 p=none→Q (.ref p) (upd H1 p (.tup xs))
def tLst (t:TA):TE:=fun σ H Q=>t σ H fun xs H1=>xs.length≤sizeLine∧∀ p,H1 p=none→Q (.ref p) (upd H1 p (.lst xs))
theorem Zbm {x1}(h:PA X es t):PE X (.Tuple es x1 pos) (tTup t):=by
 intro pins s σ H Q I hq
 refine wpAny_Tuple_spliced (thn (h pos pins s σ H _ I hq) fun us s1 ⟨xs,H1,I1,r,z,q⟩=>⟨by rw [← r.length];exact z,?_⟩)
 have hf:H1 s1.heap.objs.size=none:=I1.hok.fresh (Nat.le_refl _)
 refine ⟨.ref s1.heap.objs.size,upd H1 s1.heap.objs.size (.tup xs),I1.laid (t':=s1.toks) (fun b u e=>Heap.get?_push_of_some _ e) (Nat.le_refl _) ?_,rfl,q _ hf⟩
 exact ⟨z,us,r,⟨_,Heap.get?_push_size _ rfl,rfl,_,rfl⟩⟩
theorem Zbn (h:PA X es t):PE X (.List es pos) (tLst t):=by
 intro pins s σ H Q I hq
 refine wpAny_List_spliced (thn (h pos pins s σ H _ I hq) fun us s1 ⟨xs,H1,I1,r,z,q⟩=>⟨by rw [← r.length];exact z,?_⟩)
 have hf:H1 s1.heap.objs.size=none:=I1.hok.fresh (Nat.le_refl _)
 refine ⟨.ref s1.heap.objs.size,upd H1 s1.heap.objs.size (.lst xs),I1.laid (t':=s1.toks) (fun b u e=>Heap.get?_push_of_some _ e) (Nat.le_refl _) ?_,rfl,q _ hf⟩
 exact ⟨z,us,0,r,Heap.get?_push_size _ rfl⟩
end
abbrev Sp:=List V→Hp→VK→XK→Prop
abbrev CXT:=List Env→Hp→Shared→XK→Value→Shared→Prop
structure Env0 (P:Program) (w:World) (K:W.Frag) (mg:Str→Option Value) (base:Heap) (A:Around) (outer:List Env) (s:Shared) (H:Hp):Prop where
 frames:A.frames=some outer
 mod:Mod K mg base
 bs:∀ b o,base.get? b=some o→s.heap.get? b=some o∧H b=none
 bsz:base.objs.size≤s.heap.objs.size
 funs:s.heap.FunFrames base outer
 frf:∀ b∈frs outer,H b=none
 hok:HOk P w H s.heap
 bare:AllBare s.gens
def CE (outer:List Env) (P:Program) (w:World) (H:Hp) (s:Shared) (Q:VK) (u:Value) (s':Shared):Prop :=
 ∃ v H',s'.os=s.os∧AllBare s'.gens∧Un (frs outer) [] H H' s.heap s'.heap∧HOk P w H' s'.heap∧Zcf v u∧Q v H'
def CR (CX:CXT) (outer:List Env) (P:Program) (w:World) (H:Hp) (s:Shared) (Q:VK) (E:XK) (r:Result) (s':Shared):Prop :=
 match r with
 | .ok (.ret u)=>CE outer P w H s Q u s'
 | .ok _=>False
 | .error e=>CX outer H s E e s'
structure Zar (P:Program) (w:World) (K:W.Frag) (mg:Str→Option Value) (base:Heap) (CX:CXT) (k:Nat) (f:Addr) (fd:FuncData) (ps:List Str) (sp:Sp):Prop where
 len:∀ vs H Q E,sp vs H Q E→vs.length=ps.length
 run:∀ (A:Around) (outer:List Env) (s:Shared) (H:Hp) (args:Args) (us:List Value) (vs:List V) (Q:VK) (E:XK),Zcm k A→Env0 P w K mg base A outer s H→BindsTo s fd args (ps.zip us)→Zb7 vs us→sp vs H Q E →
  codeAny (model P w) A (.call (.ref f) args) (CR CX outer P w H s Q E) s
theorem Env0.make {P:Program}{w:World}{K:W.Frag}{mg:Str→Option Value}{base:Heap}{A:Around}{outer:List Env}{s:Shared}{H:Hp}(e:Env0 P w K mg base A outer s H) (C:Addr) (us:List Value) (kw:List (Str×Value)):
  Env0 P w K mg base (A.under (.builtin "type.__call__" ⟨.ref C :: us,kw⟩)) outer s H:=⟨by first | exact e.frames | (simpa [Around.under,Code.envs,Code.isFrame,pushEnvs] using e.frames),e.mod,e.bs,e.bsz,e.funs,e.frf,e.hok,e.bare⟩
section
variable {X:Cx} {pins:List (Addr×Obj)} {σ:St} {H:Hp} {s s':Shared}
theorem Inv.env0 (I:Inv X pins σ H s):Env0 X.prog X.w X.K X.mg X.base X.A X.stack s H :=
 ⟨I.ok.frames,I.ok.mod,I.bs,Nat.le_trans I.ok.bsz I.sz,I.stack,I.stkFree,I.hok,I.bare⟩
theorem Inv.after {Q:VK}{u:Value}(I:Inv X pins σ H s) (h:CE X.stack X.prog X.w H s Q u s'):EP X pins σ Q u s':=by
 obtain ⟨v,H',os,bare,un,hok,r,q⟩:=h
 obtain ⟨hh,g,d,t,os'⟩:=s'
 obtain rfl:os'=s.os:=os
 exact ⟨v,H',I.call (h':=hh) (g':=g) (d':=d) (t':=t) (ch:=[]) un hok bare (fun b z=>absurd z (by simp)),r,q⟩
end
def tCall (sp:Sp) (dvs:List V) (E:XK) (t:TA):TE:=fun σ H Q=>t σ H fun vs H1=>sp (vs++dvs) H1 Q E
def tMeth (C:Addr) (m:Str) (sp:Sp) (dvs:List V) (E:XK) (ta:TE) (t:TA):TE:=fun σ H Q=>ta σ H fun x H1=>∃ a dx fs,x=.ref a∧H1 a=some (.ins C dx fs)∧fs.lookup m=none ∧
 t σ H1 fun vs H2=>sp (x :: (vs++dvs)) H2 Q E
def tMake (C:Addr) (sp:Sp) (dvs:List V) (E:XK) (t:TA):TE:=fun σ H Q=>t σ H fun vs H1=>∀ x dx,H1 x=none→H1 dx=none→dx≠x →
 sp (.ref x :: (vs++dvs)) (upd (upd H1 dx (.own x)) x (.ins C dx [])) (fun v H2=>v=.non∧Q (.ref x) H2) E
def Zes (K:W.Frag) (fd:FuncData) (ps:List Str) (ds:List Value):Prop :=
 ∀ (s:Shared) (us:List Value),K.In s.heap→(us++ds).length=ps.length→BindsTo s fd ⟨us,[]⟩ (ps.zip (us++ds))
theorem Zes.all {K:W.Frag}{fd:FuncData}{ps:List Str}(h:∀ us:List Value,us.length=ps.length→bindArgs fd ⟨us,[]⟩=pure (ps.zip us)):Zes K fd ps []:=fun s us _ hl=>by
 rw [List.append_nil] at hl ⊢
 exact .of_eq (h us hl)
def Passes (CX:CXT) (X:Cx) (E:XK):Prop:=∀ (pins:List (Addr×Obj)) (σ:St) (H:Hp) (s:Shared) (e:Value) (s':Shared),Inv X pins σ H s→CX X.stack H s E e s'→X.xe e s'
section
variable {X:Cx} {CX:CXT} {k:Nat} {f C:Addr} {fd:FuncData} {ps:List Str} {sp:Sp} {dvs:List V} {ds:List Value} {E:XK} {x m:Str} {p pos apos:Pos} {e o:Expr} {es:List Expr} {ta:TE} {t:TA}
theorem run_fn {pins:List (Addr×Obj)}{σ:St}{H:Hp}{s:Shared}{Q:VK}{us:List Value}{vs:List V}(F:Zar X.prog X.w X.K X.mg X.base CX k f fd ps sp) (hr:Zcm k X.A) (hb:Zes X.K fd ps ds) (hd:Zb7 dvs ds) (hx:Passes CX X E)
  (I:Inv X pins σ H s) (r:Zb7 vs us) (h:sp (vs++dvs) H Q E):wpAny (model X.prog X.w) X.A (call (.ref f) us) (EP X pins σ Q) X.xe s:=by
 have r2:Zb7 (vs++dvs) (us++ds):=r.append hd
 have hl:(us++ds).length=ps.length:=by rw [← r2.length];exact F.len _ _ _ _ h
 refine wpAny_call (codeAny_mono (F.run X.A X.stack s H ⟨us,[]⟩ (us++ds) (vs++dvs) Q E hr I.env0 (hb s us I.kIn hl) r2 h) fun r s' hq=>?_)
 cases r with
 | error e=>exact hx pins σ H s e s' I hq
 | ok fl =>
  cases fl with
  | ret u=>exact I.after hq
  | next=>exact False.elim hq
  | brk=>exact False.elim hq
  | cont=>exact False.elim hq
theorem pe_call (F:Zar X.prog X.w X.K X.mg X.base CX k f fd ps sp) (hr:Zcm k X.A) (hg:Gl X x) (hm:X.mg x=some (.ref f)) (hk:W.keepIn X.K (.ref f)=true) (hb:Zes X.K fd ps ds) (hd:Zb7 dvs ds) (hx:Passes CX X E)
  (ha:PA X (e :: es) t) (hdb:(x == ("__debug__":Str))=false:=by decide) (he:starEach (e :: es) X.env=(false,eval e X.env):: starEach es X.env:=by rfl) (hpl:(backTo pos (starEach es X.env)).any (·.1)=false:=by rfl):
  PE X (.Call (.Name x p) (e :: es) [] pos) (tCall sp dvs E t):=by
 intro pins s σ H Q I h
 refine wpAny_Call_Name_kw (ld_glob I hg hm ?_ hdb)
 refine W.callWith_K (h₀:=X.base) I.ok.mod.kin hk (thn (ha pos pins s σ H _ I h) fun us s1 ⟨vs,H1,I1,r,q⟩=>⟨I1.kIn,?_⟩) he hpl
 exact run_fn F hr hb hd hx I1 r q
theorem Zc9 {pl:Sem Bool}(he:PE X o ta) (c:Cls X.K C) (hm:Meth X.K C m f) (F:Zar X.prog X.w X.K X.mg X.base CX k f fd ps sp) (hr:Zcm k X.A) (hb:Zes X.K fd ps ds) (hd:Zb7 dvs ds) (hx:Passes CX X E) (ha:PA X (e :: es) t)
  (hst:starEach (e :: es) X.env=(false,eval e X.env):: starEach es X.env:=by rfl) (hpl:(backTo pos (starEach es X.env)).any (·.1)=false:=by rfl)
  (ht:eval (.Call (.Attribute o m apos) (e :: es) [] pos) X.env=(do
   let ov ← eval o X.env
   standAt apos.atName
   let (f,first) ← holding [ov] (getMethod ov m pl)
   callWith pos f first (backTo pos (starEach (e :: es) X.env)) (backToKw pos (keywordEach [] X.env))):=by rfl):
  PE X (.Call (.Attribute o m apos) (e :: es) [] pos) (tMeth C m sp dvs E ta t):=by
 intro pins s σ H Q I h
 refine W.methodCall_KW (pl:=pl) (thn (he pins s σ H _ I h) fun u s1 ⟨x,H1,I1,rx,a,dx,fs,ex,ea,l,q⟩=>?_) ht
 subst ex
 obtain rfl:u=Value.ref a:=rx
 refine getmeth_ok I1 ea c hm l ?_
 refine W.callWith_K (first:=[.ref a]) (h₀:=X.base) I.ok.mod.kin hm.kp (thn (ha pos pins s1 σ H1 _ I1 q) fun us s2 ⟨vs,H2,I2,r,q2⟩=>⟨I2.kIn,?_⟩) hst hpl
 exact run_fn (us:=.ref a :: us) (vs:=.ref a :: vs) F hr hb hd hx I2 (.cons rfl r) q2
theorem Zdt {pl:Sem Bool}(he:PE X o ta) (c:Cls X.K C) (hm:Meth X.K C m f) (F:Zar X.prog X.w X.K X.mg X.base CX k f fd ps sp) (hr:Zcm k X.A) (hb:Zes X.K fd ps ds) (hd:Zb7 dvs ds) (hx:Passes CX X E)
  (ht:eval (.Call (.Attribute o m apos) [] [] pos) X.env=(do
   let ov ← eval o X.env
   standAt apos.atName
   let (f,first) ← holding [ov] (getMethod ov m pl)
   callWith pos f first (backTo pos (starEach [] X.env)) (backToKw pos (keywordEach [] X.env))):=by rfl):
  PE X (.Call (.Attribute o m apos) [] [] pos) (tMeth C m sp dvs E ta tNil):=by
 intro pins s σ H Q I h
 refine W.methodCall_KW (pl:=pl) (thn (he pins s σ H _ I h) fun u s1 ⟨x,H1,I1,rx,a,dx,fs,ex,ea,l,q⟩=>?_) ht
 subst ex
 obtain rfl:u=Value.ref a:=rx
 refine getmeth_ok I1 ea c hm l ?_
 exact W.callWith_K0 (first:=[.ref a]) I1.kIn hm.kp (run_fn (us:=[.ref a]) (vs:=[.ref a]) F hr hb hd hx I1 (.cons rfl .nil) q)
structure Mk (K:W.Frag) (C f:Addr):Prop where
 makes:W.makesIn K C=true
 init:W.findIn K (.ref C) "__init__"=some (some (.ref f))
 fn:W.isFn K (.ref f)=true
 kp:W.keepIn K (.ref C)=true
theorem run_make {pins:List (Addr×Obj)}{σ:St}{H:Hp}{s:Shared}{Q:VK}{us:List Value}{vs:List V}(M:Mk X.K C f) (F:Zar X.prog X.w X.K X.mg X.base CX k f fd ps sp) (hr:Zcm (k + 1) X.A) (hb:Zes X.K fd ps ds) (hd:Zb7 dvs ds)
  (hx:Passes CX X E) (I:Inv X pins σ H s) (r:Zb7 vs us)
  (h:∀ x dx,H x=none→H dx=none→dx≠x→sp (.ref x :: (vs++dvs)) (upd (upd H dx (.own x)) x (.ins C dx [])) (fun v H2=>v=.non∧Q (.ref x) H2) E):
  wpAny (model X.prog X.w) X.A (call (.ref C) us) (EP X pins σ Q) X.xe s:=by
 have hq:=h (s.heap.objs.size + 1) s.heap.objs.size (I.hok.fresh (Nat.le_succ _)) (I.hok.fresh (Nat.le_refl _)) (Nat.ne_of_lt (Nat.lt_succ_self _))
 have I2:=Inv.made (C:=C) I
 have r2:Zb7 (V.ref (s.heap.objs.size + 1):: (vs++dvs)) (Value.ref (s.heap.objs.size + 1):: (us++ds)):=.cons rfl (r.append hd)
 have hl:(Value.ref (s.heap.objs.size + 1):: us++ds).length=ps.length:=by
  have e:=r2.length
  rw [F.len _ _ _ _ hq] at e
  exact e.symm
 refine wpAny_call (make_map (f:=f) I.kIn M.makes M.init (beq_iff_eq.mp M.fn) (codeAny_mono (F.run _ X.stack _ _ ⟨Value.ref (s.heap.objs.size + 1):: us,[]⟩ (Value.ref (s.heap.objs.size + 1):: (us++ds)) _ _ E (hr.make C us [])
  (I2.env0.make C us []) (hb _ (Value.ref (s.heap.objs.size + 1):: us) I2.kIn hl) r2 hq) fun r s' hq'=>?_))
 cases r with
 | error e=>exact hx pins σ _ _ e s' I2 hq'
 | ok fl =>
  cases fl with
  | ret u =>
   obtain ⟨v,H',I3,rv,ev,q3⟩:=I2.after hq'
   subst ev
   exact ⟨rv,⟨V.ref (s.heap.objs.size + 1),H',I3,rfl,q3⟩⟩
  | next=>exact False.elim hq'
  | brk=>exact False.elim hq'
  | cont=>exact False.elim hq'
theorem pe_make (M:Mk X.K C f) (F:Zar X.prog X.w X.K X.mg X.base CX k f fd ps sp) (hr:Zcm (k + 1) X.A) (hg:Gl X x) (hm:X.mg x=some (.ref C)) (hb:Zes X.K fd ps ds) (hd:Zb7 dvs ds) (hx:Passes CX X E)
  (ha:PA X (e :: es) t) (hdb:(x == ("__debug__":Str))=false:=by decide) (he:starEach (e :: es) X.env=(false,eval e X.env):: starEach es X.env:=by rfl) (hpl:(backTo pos (starEach es X.env)).any (·.1)=false:=by rfl):
  PE X (.Call (.Name x p) (e :: es) [] pos) (tMake C sp dvs E t):=by
 intro pins s σ H Q I h
 refine wpAny_Call_Name_kw (ld_glob I hg hm ?_ hdb)
 refine W.callWith_K (h₀:=X.base) I.ok.mod.kin M.kp (thn (ha pos pins s σ H _ I h) fun us s1 ⟨vs,H1,I1,r,q⟩=>⟨I1.kIn,?_⟩) he hpl
 exact run_make M F hr hb hd hx I1 r q
end
section
variable {X:Cx} {CX:CXT} {k:Nat} {f C:Addr} {fd:FuncData} {ps ks:List Str} {sp:Sp} {E:XK} {x m:Str} {p pos apos kpos:Pos} {e o:Expr} {es:List Expr} {kws:List Keyword} {te ta:TE} {t tk:TA} {nm:Option Str}
structure KBinds (K:W.Frag) (fd:FuncData) (ps ks:List Str) (g:List Value→List Value→List Value) (gV:List V→List V→List V):Prop where
 to:∀ (s:Shared) (us ws:List Value),K.In s.heap→(g us ws).length=ps.length→BindsTo s fd ⟨us,ks.zip ws⟩ (ps.zip (g us ws))
 rel:∀ {vs:List V} {us:List Value} {zs:List V} {ws:List Value},Zb7 vs us→Zb7 zs ws→Zb7 (gV vs zs) (g us ws)
variable {g:List Value→List Value→List Value} {gV:List V→List V→List V}
end
structure Zai (N P:List Str) (sc:Scope):Prop where
 kind:sc.kind=.function
 co:sc.isCoroutine=false
 gen:sc.isGenerator=false
 nd:N.Nodup
 pre:N.take P.length=P
 par:∀ x∈P,sc.names.lookup x=some .local∨sc.names.lookup x=some .cell
 nofree:∀ y∈sc.names,y.2≠.free
theorem bindL_out {kindOf:Str→Option NameKind}{x:Str}:∀ {binds:List (Str×Value)}{m:Str→Option Value},(∀ v,(x,v)∉binds)→bindL kindOf binds m x=m x
 | [],_,_=>rfl
 | (n,v):: r,m,h=>by
  unfold bindL
  rw [bindL_out fun w hw=>h w (List.mem_cons_of_mem _ hw)]
  split
  ·have:x≠n:=by rintro rfl;exact h v List.mem_cons_self
   simp [this]
  ·rfl
theorem bindC_out {kindOf:Str→Option NameKind}{x:Str}:∀ {binds:List (Str×Value)}{m:Str→Option Value},(∀ v,(x,v)∉binds)→bindC kindOf binds m x=m x
 | [],_,_=>rfl
 | (n,v):: r,m,h=>by
  unfold bindC
  rw [bindC_out fun w hw=>h w (List.mem_cons_of_mem _ hw)]
  split
  ·rfl
  ·have:x≠n:=by rintro rfl;exact h v List.mem_cons_self
   simp [this]
theorem bindL_get {kindOf:Str→Option NameKind}{x:Str}{v:Value}:∀ {P:List Str}{vs:List Value}{i:Nat}{m:Str→Option Value},P.Nodup→P[i]?=some x→vs[i]?=some v→kindOf x=some .local →
  bindL kindOf (P.zip vs) m x=some v
 | [],_,_,_,_,h,_,_=>by simp at h
 | _ :: _,[],_,_,_,_,h,_=>by simp at h
 | p :: P,w :: vs,0,m,nd,h1,h2,hk=>by
  simp at h1 h2;subst h1;subst h2
  show bindL kindOf ((p,w):: P.zip vs) m p=_
  unfold bindL
  rw [bindL_out fun v hv=>(List.nodup_cons.mp nd).1 (List.of_mem_zip hv).1,if_pos hk]
  simp
 | p :: P,w :: vs,i + 1,m,nd,h1,h2,hk=>by
  show bindL kindOf ((p,w):: P.zip vs) m x=_
  unfold bindL
  exact bindL_get (i:=i) (List.nodup_cons.mp nd).2 (by simpa using h1) (by simpa using h2) hk
theorem bindC_get {kindOf:Str→Option NameKind}{x:Str}{v:Value}:∀ {P:List Str}{vs:List Value}{i:Nat}{m:Str→Option Value},P.Nodup→P[i]?=some x→vs[i]?=some v→kindOf x≠some .local →
  bindC kindOf (P.zip vs) m x=some v
 | [],_,_,_,_,h,_,_=>by simp at h
 | _ :: _,[],_,_,_,_,h,_=>by simp at h
 | p :: P,w :: vs,0,m,nd,h1,h2,hk=>by
  simp at h1 h2;subst h1;subst h2
  show bindC kindOf ((p,w):: P.zip vs) m p=_
  unfold bindC
  rw [bindC_out fun v hv=>(List.nodup_cons.mp nd).1 (List.of_mem_zip hv).1,if_neg hk]
  simp
 | p :: P,w :: vs,i + 1,m,nd,h1,h2,hk=>by
  show bindC kindOf ((p,w):: P.zip vs) m x=_
  unfold bindC
  exact bindC_get (i:=i) (List.nodup_cons.mp nd).2 (by simpa using h1) (by simpa using h2) hk
def start (N:List Str) (vs:List V):St:=vs.map some++List.replicate (N.length - vs.length) none
def cxOf (CX:CXT) (P:Program) (w:World) (K:W.Frag) (mg:Str→Option Value) (base:Heap) (N:List Str) (qual:Str) (scope:Scope) (f:Addr) (cd:Value) (A:Around) (outer:List Env) (s:Shared) (H:Hp) (E:XK):Cx where
 prog:=P
 w:=w
 K:=K
 mg:=mg
 base:=base
 A:=A.deeper (envOfC qual scope s.heap.objs.size f cd)
 N:=N
 s₀:=s
 H₀:=H
 env:=envOfC qual scope s.heap.objs.size f cd
 outer:=outer
 stack:=envOfC qual scope s.heap.objs.size f cd :: outer
 ex:=[]
 calm:=true
 fn:=fun _=>true
 pn:=[]
 xe:=fun e s'=>wpAny (model P w) (A.deeper (envOfC qual scope s.heap.objs.size f cd)) (leaving (envOfC qual scope s.heap.objs.size f cd) e) (fun _ s''=>CX outer H s E e s'') (fun e' s''=>CX outer H s E e' s'') s'
theorem cell_has {sc:Scope}{n:Nat}{x:Str}(h:sc.names.lookup x=some .cell):∃ c,(cellsFrom n sc.names []).lookup x=some c:=by
 have q:=W.cellsFrom_some sc.names n [] (.inl h)
 exact Option.isSome_iff_exists.mp q
theorem inv_start {CX:CXT}{P:Program}{w:World}{K:W.Frag}{mg:Str→Option Value}{base:Heap}{N ps:List Str}{qual:Str}{scope:Scope}{f:Addr}{cd:Value}{A:Around}{outer:List Env}{s s1:Shared}{H:Hp}{E:XK}{us:List Value}{vs:List V}
  (S:Zai N ps scope) (hd:A.handled=none) (e0:Env0 P w K mg base A outer s H) (hl:vs.length=ps.length) (r:Zb7 vs us)
  (x:InCallC s s.heap.objs.size (bindL (envOfC qual scope s.heap.objs.size f cd).kindOf (ps.zip us) fun _=>none) (cellsFrom (s.heap.objs.size + 1) scope.names []) (bindC (envOfC qual scope s.heap.objs.size f cd).kindOf (ps.zip us) fun _=>none) s1):
  Inv (cxOf CX P w K mg base N qual scope f cd A outer s H E) [] (start N vs) H s1:=by
 have hpl:ps.length≤N.length:=by have:=congrArg List.length S.pre;rw [List.length_take] at this;omega
 obtain ⟨h1,tk,rfl,hk⟩:=x.done
 have noA:∀ b:Addr,b∉(cxOf CX P w K mg base N qual scope f cd A outer s H E).ex:=fun b z=>absurd (show b∈([]:List Addr) from z) (by simp)
 refine ⟨⟨e0.mod,S.kind,rfl,rfl,Nat.le_refl _,fun y z c h1 h2=>?_,fun y hy=>?_,fun y c _ h=>?_,fun _=>hd,Around.frames_deeper e0.frames,.inr ⟨rfl,rfl⟩,fun b z=>absurd z (noA b),e0.bs,e0.bsz,fun b _ _=>noA b,fun b z=>absurd z (noA b),e0.funs,e0.frf⟩,
  rfl,e0.bare,Un.kept hk,⟨_,x.toInCall.ns,fun i y v h1 h2 h3=>?_⟩,fun y c h=>⟨_,x.cell y c h⟩,e0.hok.fresh (Nat.le_refl _),fun y c h=>?_,fun p hp=>absurd (show p∈([]:List (Addr×Obj)) from hp) (by simp),e0.hok.kept hk,?_⟩
 ·exact name_of_addr x.apart (PySem.mem_of_lookup h1) (PySem.mem_of_lookup h2)
 ·have hy:scope.names.lookup y=some .cell∨scope.names.lookup y=some .free:=hy
  rcases hy with hy | hy
  ·exact cell_has hy
  ·exact absurd rfl (S.nofree _ (PySem.mem_of_lookup hy))
 ·exact Nat.le_of_lt (x.above y c (PySem.mem_of_lookup h))
 ·have hi:i<vs.length:=by
   unfold start at h2
   by_cases hi:i<vs.length
   ·exact hi
   ·rw [List.getElem?_append_right (by simpa using hi)] at h2
    rw [List.getElem?_replicate] at h2
    split at h2 <;> cases h2
  have ha:vs[i]?=some v:=by
   unfold start at h2
   rw [List.getElem?_append_left (by simpa using hi),List.getElem?_map] at h2
   cases e:vs[i]? with
   | none=>rw [e] at h2;cases h2
   | some a=>rw [e] at h2;cases h2;rfl
  obtain ⟨u,hu,rv⟩:=r.get ha
  have hp:ps[i]?=some y:=by
   rw [← S.pre,List.getElem?_take_of_lt (by omega)];exact h1
  have ndP:ps.Nodup:=by rw [← S.pre];exact S.nd.sublist (List.take_sublist _ _)
  refine ⟨u,rv,?_⟩
  rcases S.par y (List.mem_of_getElem? hp) with k | k
  ·exact .inl ⟨k,bindL_get ndP hp hu k⟩
  ·obtain ⟨c,e⟩:=cell_has (n:=s.heap.objs.size + 1) k
   refine .inr ⟨.inl k,c,e,?_⟩
   have q:=x.cell y c e
   rw [bindC_get ndP hp hu (by show scope.names.lookup y≠_;rw [k];decide)] at q
   exact q
 ·exact e0.hok.fresh (Nat.le_of_lt (x.above y c (PySem.mem_of_lookup h)))
 ·unfold start
  show _=N.length
  rw [List.length_append,List.length_map,List.length_replicate]
  omega
theorem fn_of {CX:CXT}{P:Program}{w:World}{K:W.Frag}{mg:Str→Option Value}{base:Heap}{k:Nat}{f:Addr}{name qual:Str}{params:Arguments}{body:List Stmt}{scope:Scope}{dV kV doc pm cdv ct oc:Value}{an od:Option Addr}
  {osl:Array (Option Value)} {N ps:List Str} {sp:Sp} (lk:K.lookup f=some ⟨oc,od,.func (W.fnOf name qual params body scope dV kV doc pm an cdv ct),osl⟩) (hcd:W.codeIn K cdv qual=true) (S:Zai N ps scope)
  (len:∀ vs H Q E,sp vs H Q E→vs.length=ps.length)
  (hbody:∀ (A:Around) (outer:List Env) (s:Shared) (H:Hp) (vs:List V) (Q:VK) (E:XK),Zcm k (A.deeper (envOfC qual scope s.heap.objs.size f cdv))→sp vs H Q E →
   ∃ t,PSs (cxOf CX P w K mg base N qual scope f cdv A outer s H E) body t∧t { nx:=fun _ H'=>Q .non H',rt:=Q } (start N vs) H):
  Zar P w K mg base CX (k + 1) f (W.fnOf name qual params body scope dV kV doc pm an cdv ct) ps sp:=by
 refine ⟨len,fun A outer s H args us vs Q E hr e0 hb r hsp=>?_⟩
 have hl:=len _ _ _ _ hsp
 have KX:K.In s.heap:=e0.mod.kin.keeps fun b o e=>(e0.bs b o e).1
 have lim:s.heap.NoLimit:=e0.mod.nolimit.keeps fun b o e=>(e0.bs b o e).1
 have hkind:∀ y∈ps.zip us,scope.names.lookup y.1=some .local∨(scope.names.lookup y.1=some .cell∧((cellsFrom (s.heap.objs.size + 1) scope.names []).lookup y.1).isSome=true):=fun ⟨n,v⟩ hy=>by
  rcases S.par n (List.of_mem_zip hy).1 with q | q
  ·exact .inl q
  ·exact .inr ⟨q,W.cellsFrom_some _ _ _ (.inl q)⟩
 refine codeAny_call_function hr.depth (KX _ _ lk) rfl S.co S.gen rfl (W.codeRec_of KX hcd) (hb _ _ _ _ ?_)
 refine wpAny_newFunctionEnv_cells S.kind hkind fun env he s1 x=>?_
 subst he
 refine ⟨lim.keeps x.toInCall.keep,codeAny_func ?_⟩
 obtain ⟨t,ht,hq⟩:=hbody A outer s H vs Q E (hr.deeper _) hsp
 have I:Inv (cxOf CX P w K mg base N qual scope f cdv A outer s H E) [] (start N vs) H s1:=inv_start S hr.hd e0 hl r x
 refine wpAny_mono (ht [] s1 (start N vs) H _ I hq) (fun fl s' hs=>?_) fun e s' hs=>hs
 have fin:∀ {σ':St} {H':Hp} {v:V} {u:Value},Inv (cxOf CX P w K mg base N qual scope f cdv A outer s H E) [] σ' H' s'→Zcf v u→Q v H'→CE outer P w H s Q u s' :=
  fun {σ' H' v u} J rv q=>⟨v,H',J.os,J.bare,J.base,J.hok,rv,q⟩
 cases fl with
 | ret u =>
  obtain ⟨v,σ',H',J,rv,q⟩:=hs
  exact fin J rv q
 | next =>
  obtain ⟨σ',H',J,q⟩:=hs
  exact fin (v:=V.non) (u:=Value.none) J rfl q
 | brk =>
  obtain ⟨_,_,_,q⟩:=hs
  exact False.elim q
 | cont =>
  obtain ⟨_,_,_,q⟩:=hs
  exact False.elim q
end L2
namespace L2
open PySem PySem.Spec PyProof.Rows
section
variable {X:Cx} {x:Str} {p pos:Pos} {e:Expr} {es:List Expr} {t:TA} {id T:String} {r:List V→Hp→VK→Prop}
def tCB (r:List V→Hp→VK→Prop) (t:TA):TE:=fun σ H Q=>t σ H fun vs H1=>r vs H1 Q
theorem Zam (hc:CallR X (.builtin id) r) (hg:Gl X x) (hm:X.mg x=none) (hv:bootBuiltins x=some (.builtin id)) (ha:PA X (e :: es) t) (hn:x≠"__name__":=by decide) (hdb:(x == ("__debug__":Str))=false:=by decide)
  (he:starEach (e :: es) X.env=(false,eval e X.env):: starEach es X.env:=by rfl) (hpl:(backTo pos (starEach es X.env)).any (·.1)=false:=by rfl):PE X (.Call (.Name x p) (e :: es) [] pos) (tCB r t):=by
 intro pins s σ H Q I h
 refine wpAny_Call_Name_kw (ld_blt I hg hm hv ?_ hn hdb)
 exact PyProof.Rows.callWith_builtin1 (thn (ha pos pins s σ H _ I h) fun us s1 ⟨vs,H1,I1,r1,q1⟩=>hc pins s1 σ H1 vs us Q I1 r1 q1) he hpl
theorem Zbd (hc:CallR X (.type T) r) (hg:Gl X x) (hm:X.mg x=none) (hv:bootBuiltins x=some (.type T)) (ha:PA X (e :: es) t) (hn:x≠"__name__":=by decide) (hdb:(x == ("__debug__":Str))=false:=by decide)
  (he:starEach (e :: es) X.env=(false,eval e X.env):: starEach es X.env:=by rfl) (hpl:(backTo pos (starEach es X.env)).any (·.1)=false:=by rfl):PE X (.Call (.Name x p) (e :: es) [] pos) (tCB r t):=by
 intro pins s σ H Q I h
 refine wpAny_Call_Name_kw (ld_blt I hg hm hv ?_ hn hdb)
 exact PyProof.Rows.callWith_type1 (thn (ha pos pins s σ H _ I h) fun us s1 ⟨vs,H1,I1,r1,q1⟩=>hc pins s1 σ H1 vs us Q I1 r1 q1) he hpl
end
end L2
namespace HT
open PySem PyProof.Rows
section
open PySem.SeqAt
open PySem.AutoSeq1 (wpAny_loadPart')
open PySem.MeetsSeq PySem.MeetsSeq2 PySem.MeetsSeq3
end
section
variable {prog:Program} {w:World} {A:Around} {E:Value→Shared→Prop} {s:Shared}
theorem cat_tup {t b:Addr}{vs ws:List Value}{Q:Value→Shared→Prop}(ht:IsTup s.heap t vs.toArray) (hb:IsTup s.heap b ws.toArray) (hv:vs≠[])
  (h1:ws=[]→Q (.ref t) s) (h2:ws≠[]→Q (.ref s.heap.objs.size) { s with heap:=s.heap.push { cls:=.type "tuple",data:=.seq (vs++ws).toArray } })
  (hsz:vs.length + ws.length≤sizeLine):wpAny (model prog w) A (binaryOp .Add (.ref t) (.ref b)) Q E s:=by
 obtain ⟨⟨cls,dd,data,sl⟩,ho,hc,n,hd⟩:=id ht
 obtain ⟨⟨cls2,dd2,data2,sl2⟩,ho2,hc2,n2,hd2⟩:=id hb
 simp only at hc hd hc2 hd2
 subst hc hd hc2 hd2
 have e:vs.toArray++ws.toArray=(vs++ws).toArray:=by simp
 by_cases hw:ws=[]
 ·exact concat_meets ⟨_,ho,rfl⟩ ⟨_,ho2,rfl⟩ noFill_tuple_add seq_tuple_add PySem.F.slot_tuple_add PySem.F.entry_tuple_add (PySem.F.args_tuple_add_2 _ _)
   (tuple_addW1 t b vs.toArray ws.toArray n n2 dd dd2 sl sl2 (by simpa using hv) (by simp [hw])) ⟨ho,ho2,h1 hw⟩
 ·refine concat_meets ⟨_,ho,rfl⟩ ⟨_,ho2,rfl⟩ noFill_tuple_add seq_tuple_add PySem.F.slot_tuple_add PySem.F.entry_tuple_add (PySem.F.args_tuple_add_2 _ _)
   (tuple_addW2 t b vs.toArray ws.toArray n n2 dd dd2 sl sl2 (by simpa using hv) (by simpa using hw) (by rw [List.size_toArray,List.size_toArray];exact hsz)) ⟨ho,ho2,?_⟩
  rw [e]
  exact h2 hw
def sIx (n d:Nat):Option Int→Nat
 | none=>d
 | some v=>if v<0 then (v + (n:Int)).toNat else min v.toNat n
theorem sIx_none (n d:Nat):sIx n d none=d:=rfl
theorem sIx_nat (n d k:Nat):sIx n d (some (k:Int))=min k n:=by
 show (if (k:Int)<0 then ((k:Int) + (n:Int)).toNat else min (k:Int).toNat n)=min k n
 rw [if_neg (by omega),Int.toNat_natCast]
theorem sIx_le (n d:Nat) (hd:d≤n) (o:Option Int):sIx n d o≤n:=by
 cases o with
 | none=>exact hd
 | some v =>
  show (if v<0 then (v + (n:Int)).toNat else min v.toNat n)≤n
  by_cases hv:v<0
  ·rw [if_pos hv];omega
  ·rw [if_neg hv];exact Nat.min_le_right _ _
theorem clip_eq (v:Int) (n d:Nat):(if v<0 then max (v + (n:Int)) 0 else min v (n:Int))=((sIx n d (some v):Nat):Int):=by
 show (if v<0 then max (v + (n:Int)) 0 else min v (n:Int))=(((if v<0 then (v + (n:Int)).toNat else min v.toNat n):Nat):Int)
 by_cases hv:v<0
 ·simp only [if_pos hv];omega
 ·simp only [if_neg hv];omega
theorem adjust_gen (lo hi:Option Int) (n:Nat):Builtin.Slice.sliceAdjust lo hi 1 (n:Int)=(((sIx n 0 lo:Nat):Int),((sIx n n hi:Nat):Int)):=by
 have h1:¬ ((1:Int)<0):=by omega
 unfold Builtin.Slice.sliceAdjust
 simp only [h1,if_false]
 refine Prod.ext ?_ ?_
 ·cases lo with
  | none=>rfl
  | some v=>exact clip_eq v n 0
 ·cases hi with
  | none=>rfl
  | some v=>exact clip_eq v n n
theorem places_gen (i j:Nat):Builtin.Slice.slicePlaces (i:Int) (j:Int) 1=j - i:=by
 unfold Builtin.Slice.slicePlaces
 have h1:(1:Int) > 0:=by omega
 simp only [h1,if_true,Int.ediv_one]
 split <;> omega
theorem slicePart_ {v:Value}{o:Option Int}{Q:Option Int→Shared→Prop}(p:IsPart v o) (h:Q o s):wpAny (model prog w) A (Builtin.Slice.slicePartIndex v) Q E s:=by
 cases p with
 | none=>exact slicePart_none h
 | int i t=>exact slicePart_int h
theorem sliceApplied_gen {sl:Addr}{vl vu:Value}{lo hi:Option Int}{n:Nat}{Q:Int×Int×Nat→Shared→Prop}(hs:s.heap.IsSliceOf sl vl vu .none) (pl:IsPart vl lo) (pu:IsPart vu hi)
  (h:Q (((sIx n 0 lo:Nat):Int),1,sIx n n hi - sIx n 0 lo) s):wpAny (model prog w) A (Builtin.Slice.sliceApplied (.ref sl) (pure (n:Int))) Q E s:=by
 obtain ⟨os,hos,hcs,hds⟩:=id hs
 unfold Builtin.Slice.sliceApplied Builtin.Slice.sliceFields
 refine wpAny_bind (wpAny_bind (wpAny_field hos hds (x:=vl) rfl (wpAny_bind (wpAny_field hos hds (x:=vu) rfl (wpAny_bind (wpAny_field hos hds (x:=.none) rfl (wpAny_pure ?_)))))))
 refine wpAny_bind (slicePart_none ?_)
 show wpAny _ _ (if ((1:Int) == 0)=true then _ else _) _ _ s
 rw [if_neg (by decide)]
 refine wpAny_bind (slicePart_ pl (wpAny_bind (slicePart_ pu (wpAny_bind (wpAny_pure ?_)))))
 show wpAny _ _ (match Builtin.Slice.sliceAdjust lo hi 1 (n:Int) with | (lo,hi)=>pure (lo,(1:Int),Builtin.Slice.slicePlaces lo hi 1)) _ _ s
 rw [adjust_gen lo hi n]
 show wpAny _ _ (pure (((sIx n 0 lo:Nat):Int),(1:Int),Builtin.Slice.slicePlaces ((sIx n 0 lo:Nat):Int) ((sIx n n hi:Nat):Int) 1)) _ _ s
 rw [places_gen]
 exact wpAny_pure h
theorem pick_gen (xs:Array Value) (i k:Nat):((List.range k).filterMap fun (m:Nat)=>xs[((i:Int) + (m:Int) * 1).toNat]?).toArray=((xs.toList.drop i).take k).toArray:=by
 have e:(fun (m:Nat)=>xs[((i:Int) + (m:Int) * 1).toNat]?)=fun m=>xs[i + m]?:=by
  funext m
  have:((i:Int) + (m:Int) * 1).toNat=i + m:=by omega
  rw [this]
 rw [e]
 have:=pick_run xs i k
 rw [List.filterMap_map] at this
 have e2:((fun x=>xs[x]?) ∘ fun x=>i + x)=fun m=>xs[i + m]?:=rfl
 rw [e2] at this
 rw [this]
theorem getItem_tuple_cut {t sl:Addr}{items:Array Value}{vl vu:Value}{lo hi:Option Int}{Q:Value→Shared→Prop}(ht:IsTup s.heap t items) (hs:s.heap.IsSliceOf sl vl vu .none) (pl:IsPart vl lo) (pu:IsPart vu hi)
  (hw:¬ (sIx items.size 0 lo=0∧sIx items.size items.size hi=items.size))
  (h:Q (.ref s.heap.objs.size) { s with heap:=s.heap.push { cls:=.type "tuple",data:=.seq ((items.toList.drop (sIx items.size 0 lo)).take (sIx items.size items.size hi - sIx items.size 0 lo)).toArray } })
  (hsz:items.size≤sizeLine):wpAny (model prog w) A (getItem (.ref t) (.ref sl)) Q E s:=by
 have htake:sizeOk (.seq ((items.toList.drop (sIx items.size 0 lo)).take (sIx items.size items.size hi - sIx items.size 0 lo)).toArray):=by
  show ((items.toList.drop (sIx items.size 0 lo)).take (sIx items.size items.size hi - sIx items.size 0 lo)).toArray.size≤sizeLine
  rw [List.size_toArray,List.length_take,List.length_drop,Array.length_toList]
  omega
 have hj:sIx items.size items.size hi≤items.size:=sIx_le _ _ (Nat.le_refl _) hi
 obtain ⟨os,hos,hcs,hds⟩:=id hs
 have hTs:s.TypeIs (.ref sl) "slice":=⟨os,hos,hcs⟩
 unfold getItem
 try with_reducible refine wpAny_holding ?_
 first | refine wpAny_bind (wpAny_pure ?_) | skip
 refine wpAny_bind (wpAny_sequenceKey ht.typeIs (by decide) ?_)
 refine wpAny_bind (wpAny_callSpecial?_slot (name:=Str.ofString "__getitem__") ht.typeIs PyProof.Rows.slot_tuple_getitem
  (wpAny_call_entry PyProof.Rows.slot_tuple_getitem ht.typeIs entry_tuple_getitem ?_ (args_tuple_getitem _ _)))
 show wpAny _ _ (Builtin.Tuple.tupleItemsOf (.ref t)>>=_) _ _ s
 refine wpAny_bind (tupleItemsOf_ ht ?_)
 refine wpAny_bind (wpAny_typeOf hTs ?_)
 rw [if_pos (by decide)]
 refine wpAny_bind (sliceApplied_gen hs pl pu ?_)
 have hno:¬ ((((sIx items.size 0 lo:Nat):Int) == 0&&(1:Int) == 1&&(sIx items.size items.size hi - sIx items.size 0 lo) == items.size)=true):=by
  intro q
  rw [Bool.and_eq_true,Bool.and_eq_true] at q
  have q1:((sIx items.size 0 lo:Nat):Int)=0:=eq_of_beq q.1.1
  have q2:sIx items.size items.size hi - sIx items.size 0 lo=items.size:=eq_of_beq q.2
  exact hw ⟨by omega,by omega⟩
 show wpAny _ _ (if (((sIx items.size 0 lo:Nat):Int) == 0&&(1:Int) == 1&&(sIx items.size items.size hi - sIx items.size 0 lo) == items.size)=true then _ else _) _ _ s
 rw [if_neg hno,pick_gen]
 first
  | exact wpAny_bind (m:=Builtin.Tuple.tupleExact _) (wpAny_newObj_type (wpAny_pure ⟨_,rfl,wpAny_pure h⟩) htake)
  | exact wpAny_bind (m:=Builtin.Tuple.tupleExact _) (wpAny_newObj_type (wpAny_bind (wpAny_pure (wpAny_pure ⟨_,rfl,wpAny_pure h⟩))) htake)
  | exact wpAny_bind (wpAny_bind (m:=Builtin.Tuple.tupleExact _) (wpAny_newObj_type (wpAny_pure (wpAny_pure ⟨_,rfl,wpAny_pure h⟩)) htake))
  | exact wpAny_bind (wpAny_bind (m:=Builtin.Tuple.tupleExact _) (wpAny_newObj_type (wpAny_pure ⟨_,rfl,wpAny_pure h⟩) htake))
end
end HT
namespace L2
open PySem PySem.Spec PyProof.Rows
abbrev TO:=St→Hp→(Option Int→Hp→Prop)→Prop
def PO (X:Cx) (e:Option Expr) (t:TO):Prop :=
 ∀ (pins:List (Addr×Obj)) (s:Shared) (σ:St) (H:Hp) (Q:Option Int→Hp→Prop),Inv X pins σ H s→t σ H Q →
  wpAny (model X.prog X.w) X.A (evalPart e X.env) (fun u s'=>∃ o H',Inv X pins σ H' s'∧IsPart u o∧Q o H') X.xe s
def tNoPart:TO:=fun _ H Q=>Q none H
def tPart (t:TE):TO:=fun σ H Q=>t σ H fun x H1=>∃ i,x=.int i∧Q (some i) H1
section
variable {X:Cx} {e:Expr} {te:TE} {lo hi:Option Expr} {tl th:TO} {pos p2:Pos}
theorem Zff:PO X none tNoPart:=by
 intro pins s σ H Q I h
 rw [evalPart_none]
 exact wpAny_pure ⟨none,H,I,.none,h⟩
theorem Zfe (h:PE X e te):PO X (some e) (tPart te):=by
 intro pins s σ H Q I hw
 rw [evalPart_some]
 refine thn (h pins s σ H _ I hw) fun u s1 ⟨x,H1,I1,r1,q1⟩=>?_
 obtain ⟨i,rfl,q⟩:=q1
 obtain ⟨t,rfl⟩:=r1
 exact ⟨some i,H1,I1,.int i t,q⟩
def SlR (X:Cx) (r:V→Option Int→Option Int→Hp→VK→Prop):Prop :=
 ∀ (pins:List (Addr×Obj)) (s:Shared) (σ:St) (H:Hp) (x:V) (v vl vu:Value) (lo hi:Option Int) (sl:Addr) (Q:VK),Inv X pins σ H s→Zcf x v→s.heap.IsSliceOf sl vl vu .none→IsPart vl lo→IsPart vu hi→r x lo hi H Q →
  ∃ T id,typeLookup (.type T) "__getitem__"=pure (some (.builtin id))∧s.TypeIs v T∧wpAny (model X.prog X.w) X.A (getItem v (.ref sl)) (EP X pins σ Q) X.xe s
def tSl (r:V→Option Int→Option Int→Hp→VK→Prop) (te:TE) (tl th:TO):TE:=fun σ H Q=>te σ H fun x H1=>tl σ H1 fun l H2=>th σ H2 fun u H3=>r x l u H3 Q
theorem Zds {r:V→Option Int→Option Int→Hp→VK→Prop}(hr:SlR X r) (he:PE X e te) (hl:PO X lo tl) (hu:PO X hi th):PE X (.Subscript e (.Slice lo hi none p2) pos) (tSl r te tl th):=by
 intro pins s σ H Q I h
 refine Subscript_ (thn (he pins s σ H _ I h) fun v s1 ⟨x,H1,I1,r1,q1⟩=>?_)
 refine wpAny_Slice (thn (hl pins s1 σ H1 _ I1 q1) fun vl s2 ⟨l,H2,I2,pl,q2⟩=>thn (hu pins s2 σ H2 _ I2 q2) fun vu s3 ⟨u,H3,I3,pu,q3⟩=>?_)
 rw [evalPart_none]
 refine wpAny_pure ?_
 have I4:Inv X pins σ H3 { s3 with heap:=s3.heap.push { cls:=.type "slice",data:=.fields #[vl,vu,.none] } }:=I3.kept (t':=s3.toks) fun b ob q=>Heap.get?_push_of_some _ q
 obtain ⟨T,id,hT,ht,hg⟩:=hr pins { s3 with heap:=s3.heap.push { cls:=.type "slice",data:=.fields #[vl,vu,.none] } } σ H3 x v vl vu l u s3.heap.objs.size Q I4 r1 (Heap.IsSliceOf.new ..) pl pu q3
 show wpAny (model X.prog X.w) X.A (subscriptTail e (.Slice lo hi none p2) v (.ref s3.heap.objs.size)) (EP X pins σ Q) X.xe { s3 with heap:=s3.heap.push { cls:=.type "slice",data:=.fields #[vl,vu,.none] } }
 exact tail_any (ops:=[.ref s3.heap.objs.size,v]) ht hT hg (by with_unfolding_all rfl)
def cutV (xs:List V) (lo hi:Option Int):List V:=(xs.drop (HT.sIx xs.length 0 lo)).take (HT.sIx xs.length xs.length hi - HT.sIx xs.length 0 lo)
theorem cutV_length (xs:List V) (lo hi:Option Int):(cutV xs lo hi).length≤xs.length:=by
 unfold cutV
 rw [List.length_take,List.length_drop]
 omega
def rSlT (K:W.Frag):V→Option Int→Option Int→Hp→VK→Prop:=fun x lo hi H Q=>∃ a xs,x=.ref a∧SqT K H a xs ∧
 ¬ (HT.sIx xs.length 0 lo=0∧HT.sIx xs.length xs.length hi=xs.length)∧∀ p,H p=none→Q (.ref p) (upd H p (.tup (cutV xs lo hi)))
theorem sl_tup:SlR X (rSlT X.K):=by
 intro pins s σ H x v vl vu lo hi sl Q I rx hs pl pu h
 obtain ⟨a,xs,rfl,hx,hw,q⟩:=h
 cases rx
 obtain ⟨its,r,ht,hz⟩:=I.tuple hx
 have hlen:its.toArray.size=xs.length:=by rw [List.size_toArray];exact r.length.symm
 refine ⟨"tuple",_,PyProof.Rows.slot_tuple_getitem.lookup,ht.typeIs,?_⟩
 refine HT.getItem_tuple_cut ht hs pl pu (by rw [hlen];exact hw) ?_ (by rw [hlen];exact hz)
 rw [hlen]
 refine ⟨.ref s.heap.objs.size,_,I.laid (t':=s.toks) (o:=.tup (cutV xs lo hi)) (fun b ob q=>Heap.get?_push_of_some _ q) (Nat.le_refl _) ?_,rfl,q _ (I.hok.fresh (Nat.le_refl _))⟩
 exact ⟨Nat.le_trans (cutV_length xs lo hi) hz,_,(r.drop (HT.sIx xs.length 0 lo)).take (HT.sIx xs.length xs.length hi - HT.sIx xs.length 0 lo),IsTup.new _ _⟩
def rCatT (K:W.Frag):R2:=fun x y H Q=>∃ a b xs ys,x=.ref a∧y=.ref b∧SqT K H a xs∧SqT K H b ys∧xs≠[]∧xs.length + ys.length≤sizeLine ∧
 (ys=[]→Q (.ref a) H)∧(ys≠[]→∀ p,H p=none→Q (.ref p) (upd H p (.tup (xs++ys))))
theorem Zb7.nil_iff {xs:List V}{us:List Value}(r:Zb7 xs us):us=[]↔xs=[]:=by
 cases r with
 | nil=>simp
 | cons _ _=>simp
theorem op_catT:OpR X (binaryOp .Add) (rCatT X.K):=by
 intro pins s σ H x y v u Q I rx ry h
 obtain ⟨a,b,xs,ys,rfl,rfl,ha,hb,hx,hz,q1,q2⟩:=h
 cases rx
 cases ry
 obtain ⟨its,r1,p1,_⟩:=I.tuple ha
 obtain ⟨its2,r2,p2,_⟩:=I.tuple hb
 refine HT.cat_tup p1 p2 (fun z=>hx (r1.nil_iff.mp z)) (fun z=>⟨.ref a,H,I,rfl,q1 (r2.nil_iff.mp z)⟩) (fun z=>?_) (by rw [← r1.length,← r2.length];exact hz)
 refine ⟨.ref s.heap.objs.size,_,I.laid (t':=s.toks) (o:=.tup (xs++ys)) (fun b ob q=>Heap.get?_push_of_some _ q) (Nat.le_refl _) ?_,rfl,q2 (fun w=>z (r2.nil_iff.mpr w)) _ (I.hok.fresh (Nat.le_refl _))⟩
 exact ⟨by rw [List.length_append];exact hz,_,r1.append r2,IsTup.new _ _⟩
end
end L2
namespace L2
open PySem PySem.Spec PyProof.Rows
def ixN (n:Nat) (i:Int):Option Nat:=if 0≤i then (if i<n then some i.toNat else none) else if -(n:Int)≤i then some (i + n).toNat else none
def atI {α:Type} (xs:List α) (i:Int):Option α:=(ixN xs.length i).bind fun j=>xs[j]?
theorem ixN_seq {n:Nat}{i:Int}{j:Nat}(h:ixN n i=some j):seqIndex? i n=some j∧j<n∧-(n:Int)≤i∧i<n:=by
 unfold ixN at h
 by_cases h0:0≤i
 ·rw [if_pos h0] at h
  by_cases h1:i<n
  ·rw [if_pos h1] at h
   have e:i.toNat=j:=Option.some.inj h
   exact ⟨by rw [seqIndex_of h0 h1,e],by omega,by omega,h1⟩
  ·rw [if_neg h1] at h;cases h
 ·rw [if_neg h0] at h
  by_cases h1:-(n:Int)≤i
  ·rw [if_pos h1] at h
   have e:(i + n).toNat=j:=Option.some.inj h
   exact ⟨by rw [seqIndex_neg (by omega) h1,e],by omega,h1,by omega⟩
  ·rw [if_neg h1] at h;cases h
theorem atI_get {α:Type}{xs:List α}{i:Int}{v:α}(h:atI xs i=some v):∃ j,seqIndex? i xs.length=some j∧xs[j]?=some v∧j<xs.length∧-(xs.length:Int)≤i∧i<xs.length:=by
 unfold atI at h
 cases e:ixN xs.length i with
 | none=>rw [e] at h;cases h
 | some j =>
  rw [e] at h
  obtain ⟨h1,h2,h3,h4⟩:=ixN_seq e
  exact ⟨j,h1,h,h2,h3,h4⟩
theorem Za6 {α:Type}{xs:List α}{j:Nat}{v:α}(h:xs[j]?=some v):atI xs (j:Int)=some v:=by
 have hj:j<xs.length:=(List.getElem?_eq_some_iff.mp h).1
 have e:ixN xs.length (j:Int)=some j:=by
  unfold ixN
  rw [if_pos (by omega),if_pos (by omega)];simp
 unfold atI;rw [e];exact h
def PlainIx (b:Expr):Prop:=∀ o i,subscripted b false o i=operate [o,i] (getItem o i)
def IxR (X:Cx) (r:R2):Prop :=
 ∀ (value slice:Expr) (pins:List (Addr×Obj)) (s:Shared) (σ:St) (H:Hp) (x y:V) (v u:Value) (Q:VK),Inv X pins σ H s→Zcf x v→Zcf y u→r x y H Q →
  subscripted slice false v u=operate [v,u] (getItem v u)→wpAny (model X.prog X.w) X.A (subscriptTail value slice v u) (EP X pins σ Q) X.xe s
def MtR (X:Cx) (id:String) (r:V→List V→Hp→VK→Prop):Prop :=
 ∀ (pins:List (Addr×Obj)) (s:Shared) (σ:St) (H:Hp) (x:V) (xs:List V) (v:Value) (us:List Value) (Q:VK),Inv X pins σ H s→Zcf x v→Zb7 xs us→r x xs H Q →
  wpAny (model X.prog X.w) X.A (call (.builtin id) (v :: us)) (EP X pins σ Q) X.xe s
section
variable {X:Cx} {a b:Expr} {ta tb:TE} {pos:Pos}
theorem IxR.or {r r':R2}(h:IxR X r) (h':IxR X r'):IxR X (fun x y H Q=>r x y H Q∨r' x y H Q):=by
 intro value slice pins s σ H x y v u Q I rx ry q hs
 rcases q with q | q
 ·exact h value slice pins s σ H x y v u Q I rx ry q hs
 ·exact h' value slice pins s σ H x y v u Q I rx ry q hs
theorem Zaw {r:R2}(hr:IxR X r) (ha:PE X a ta) (hb:PE X b tb) (hs:PlainIx b):PE X (.Subscript a b pos) (tOp r ta tb):=by
 intro pins s σ H Q I h
 exact Subscript_ (binT ha hb I h fun v u s2 x y H2 I2 rx ry q=>hr a b pins s2 σ H2 x y v u Q I2 rx ry q (hs _ _))
def rIxL (K:W.Frag):R2:=fun x y H Q=>∃ p xs i v,x=.ref p∧y=.int i∧SqL K H p xs∧atI xs i=some v∧Q v H
def Zfm (K:W.Frag):R2:=fun x y H Q=>∃ p xs i v,x=.ref p∧y=.int i∧SqT K H p xs∧atI xs i=some v∧Q v H
def rIxS:R2:=fun x y H Q=>∃ z i c,x=.str z∧y=.int i∧z.length≤sizeLine∧atI z.cps.toList i=some c∧Q (.str ⟨#[c]⟩) H
theorem Zav:IxR X (rIxL X.K):=by
 intro value slice pins s σ H x y v u Q I rx ry h hs
 obtain ⟨p,xs,i,z,rfl,rfl,hq,he,q⟩:=h
 cases rx
 obtain ⟨t,rfl⟩:=ry
 obtain ⟨its,r,pl,hz⟩:=I.list hq
 obtain ⟨j,h1,h2,h3,h4,h5⟩:=atI_get he
 obtain ⟨w,ew,rw'⟩:=r.get h2
 have hl:=r.length
 have hn:=line63
 have fin:EP X pins σ Q w s:=⟨z,H,I,rw',q⟩
 by_cases h0:0≤i
 ·have hj:i.toNat=j:=by
   rw [seqIndex_of h0 h5] at h1
   exact Option.some.inj h1
  exact item_listR pl.isList h0 (by omega) (by rw [hj];simpa using ew) fin hs
 ·have hj:(i + (its.toArray.size:Int)).toNat=j:=by
   rw [seqIndex_neg (by omega) h4] at h1
   rw [List.size_toArray,← hl]
   exact Option.some.inj h1
  exact subscriptTail_builtinR (x:=w) pl.isList.typeIs slot_list_getitem.lookup
   (wpAny_getItem_list_neg (Q:=fun r s'=>r=w∧EP X pins σ Q r s') pl.isList (by omega) (by rw [List.size_toArray] <;> omega) (by omega) (by rw [hj];simpa using ew) ⟨rfl,fin⟩) hs
theorem Zbb:IxR X (Zfm X.K):=by
 intro value slice pins s σ H x y v u Q I rx ry h hs
 obtain ⟨p,xs,i,z,rfl,rfl,hq,he,q⟩:=h
 cases rx
 obtain ⟨t,rfl⟩:=ry
 obtain ⟨its,r,pl,hz⟩:=I.tuple hq
 obtain ⟨j,h1,h2,h3,h4,h5⟩:=atI_get he
 obtain ⟨w,ew,rw'⟩:=r.get h2
 have hl:=r.length
 have hn:=line63
 have fin:EP X pins σ Q w s:=⟨z,H,I,rw',q⟩
 exact subscriptTail_builtinR (x:=w) pl.typeIs slot_tuple_getitem.lookup
  (getItem_tuple (j:=j) (Q:=fun r s'=>r=w∧EP X pins σ Q r s') pl (by omega) (by omega) (by rw [List.size_toArray,← hl];exact h1) (by simpa using ew) ⟨rfl,fin⟩) hs
theorem ix_str:IxR X rIxS:=by
 intro value slice pins s σ H x y v u Q I rx ry h hs
 obtain ⟨z,i,c,rfl,rfl,hz,he,q⟩:=h
 obtain ⟨t,rfl⟩:=rx
 obtain ⟨t',rfl⟩:=ry
 obtain ⟨j,h1,h2,h3,h4,h5⟩:=atI_get he
 have hl:z.cps.toList.length=z.length:=by simp [Str.length]
 rw [hl] at h1 h4 h5
 have hn:=line63
 exact tail_any (typeIs_str s z t) slot_str_getitem.lookup (getItem_str (c:=c) (by
  have e1:decide (i < -(2 ^ 63:Int))=false:=decide_eq_false (by omega)
  have e2:decide (i ≥ 2 ^ 63)=false:=decide_eq_false (by omega)
  rw [e1,e2,Bool.or_false]) (by rw [h1];simpa using h2) ⟨.str ⟨#[c]⟩,H,I.tok _,⟨_,rfl⟩,q⟩) hs
def rIx (K:W.Frag):R2:=fun x y H Q=>rIxL K x y H Q∨Zfm K x y H Q∨rIxS x y H Q
theorem ix_seq:IxR X (rIx X.K):=Zav.or (Zbb.or ix_str)
theorem mapSeq_set (its:List Value) (n j:Nat) (u:Value):Obj.mapSeq (·.setIfInBounds j u) { cls:=.type "list",data:=.seq its.toArray n }={ cls:=.type "list",data:=.seq (its.set j u).toArray n }:=by
 simp [Obj.mapSeq]
theorem Inv.lst {pins:List (Addr×Obj)}{σ:St}{H:Hp}{s:Shared}{p:Addr}{xs:List V}(I:Inv X pins σ H s) (h:H p=some (.lst xs)):
  ∃ (its:List Value) (n:Nat),Zb7 xs its∧s.heap.get? p=some { cls:=.type "list",data:=.seq its.toArray n }∧xs.length≤sizeLine:=by
 obtain ⟨z,its,n,r,e⟩:=I.hok p _ h
 exact ⟨its,n,r,e,z⟩
theorem Inv.lstUpd {pins:List (Addr×Obj)}{σ:St}{H:Hp}{s:Shared}{p:Addr}{xs ys:List V}{its its':List Value}{n n':Nat}{f:Obj→Obj}(I:Inv X pins σ H s) (h:H p=some (.lst xs))
  (ho:s.heap.get? p=some { cls:=.type "list",data:=.seq its.toArray n }) (hf:f { cls:=.type "list",data:=.seq its.toArray n }={ cls:=.type "list",data:=.seq its'.toArray n' }) (r:Zb7 ys its') (hz:ys.length≤sizeLine) (t:Nat):
  Inv X pins σ (upd H p (.lst ys)) { s with heap:=s.heap.update p f,toks:=t }:=by
 have e:(s.heap.update p f).get? p=some { cls:=.type "list",data:=.seq its'.toArray n' }:=by
  rw [Heap.get?_update_self f ho (by rw [hf] <;> rfl),hf]
 refine I.write (x:=p) (e:=p) (by rw [h];trivial) (.inl rfl) (fun b u hb q=>(Heap.get?_update_other _ _ (Ne.symm hb)).trans q) ⟨_,e⟩ ?_
 exact ⟨hz,its',n',r,e⟩
def rSetL:V→V→V→Hp→(Hp→Prop)→Prop:=fun o i v H Q=>∃ p xs k j,o=.ref p∧i=.int k∧H p=some (.lst xs)∧ixN xs.length k=some j∧Q (upd H p (.lst (xs.set j v)))
theorem set_list:PSet X rSetL:=by
 intro pins s σ H o i v ov iv u Q I ro ri rv h
 obtain ⟨p,xs,k,j,rfl,rfl,hp,hj,q⟩:=h
 cases ro
 obtain ⟨t,rfl⟩:=ri
 obtain ⟨its,n,r,ho,hz⟩:=I.lst hp
 obtain ⟨h1,h2,h3,h4⟩:=ixN_seq hj
 have hl:=r.length
 have hn:=line63
 have I':Inv X pins σ (upd H p (.lst (xs.set j v))) { s with heap:=s.heap.update p (Obj.mapSeq (·.setIfInBounds j u)) } :=
  I.lstUpd hp ho (mapSeq_set its n j u) (r.set rv j) (by rw [List.length_set];exact hz) s.toks
 by_cases h0:0≤k
 ·have hk:k.toNat=j:=by
   rw [seqIndex_of h0 h4] at h1
   exact Option.some.inj h1
  exact W.ki_setAt ho h0 (by omega) (by rw [List.size_toArray,← hl];exact h4) (by rw [hk];exact ⟨_,I',q⟩)
 ·have hk:(k + (its.toArray.size:Int)).toNat=j:=by
   rw [seqIndex_neg (by omega) h3] at h1
   rw [List.size_toArray,← hl]
   exact Option.some.inj h1
  exact W.ki_setBack ho (by omega) (by rw [List.size_toArray,← hl];exact h3) (by omega) (by rw [hk];exact ⟨_,I',q⟩)
theorem slice_bounds (lo hi:Option Int) (n:Nat):(sliceBounds lo hi none n).1=((HT.sIx n 0 lo:Nat):Int)∧(sliceBounds lo hi none n).2.1=((HT.sIx n n hi:Nat):Int)∧(sliceBounds lo hi none n).2.2=1:=by
 refine ⟨?_,?_,rfl⟩
 ·cases lo with
  | none=>simp [sliceBounds,HT.sIx]
  | some i =>
   simp only [sliceBounds,HT.sIx,Option.getD_none,show (1:Int) > 0 by decide,if_true]
   by_cases h:i<0
   ·simp only [h,if_true] <;> omega
   ·simp only [h,if_false] <;> omega
 ·cases hi with
  | none=>simp [sliceBounds,HT.sIx]
  | some i =>
   simp only [sliceBounds,HT.sIx,Option.getD_none,show (1:Int) > 0 by decide,if_true]
   by_cases h:i<0
   ·simp only [h,if_true] <;> omega
   ·simp only [h,if_false] <;> omega
theorem slicePick_cut (its:List Value) (lo hi:Option Int):slicePick its.toArray lo hi none=((its.drop (HT.sIx its.length 0 lo)).take (HT.sIx its.length its.length hi - HT.sIx its.length 0 lo)).toArray:=by
 obtain ⟨h1,h2,h3⟩:=slice_bounds lo hi its.toArray.size
 unfold slicePick
 rw [h1,h2,h3]
 simp only [sliceRange_one,pick_run,List.size_toArray] <;> rfl
def rSlL (K:W.Frag):V→Option Int→Option Int→Hp→VK→Prop:=fun x lo hi H Q=>∃ a xs,x=.ref a∧SqL K H a xs∧∀ p,H p=none→Q (.ref p) (upd H p (.lst (cutV xs lo hi)))
theorem sl_list:SlR X (rSlL X.K):=by
 intro pins s σ H x v vl vu lo hi sl Q I rx hs pl pu h
 obtain ⟨a,xs,rfl,hx,q⟩:=h
 cases rx
 obtain ⟨its,r,ht,hz⟩:=I.list hx
 have hlen:=r.length
 refine ⟨"list",_,slot_list_getitem.lookup,ht.isList.typeIs,?_⟩
 refine wpAny_getItem_list_slice ht.isList hs pl pu .none (by simp) ?_ (by rw [List.size_toArray] <;> omega)
 rw [slicePick_cut,← hlen]
 refine ⟨.ref s.heap.objs.size,_,I.laid (t':=s.toks) (o:=.lst (cutV xs lo hi)) (fun b ob q=>Heap.get?_push_of_some _ q) (Nat.le_refl _) ?_,rfl,q _ (I.hok.fresh (Nat.le_refl _))⟩
 exact ⟨Nat.le_trans (cutV_length xs lo hi) hz,_,0,(r.drop (HT.sIx xs.length 0 lo)).take (HT.sIx xs.length xs.length hi - HT.sIx xs.length 0 lo),Heap.get?_push_size _ rfl⟩
def flatV:V→Bool
 | .non=>true
 | .bl _=>true
 | .int _=>true
 | .str _=>true
 | _=>false
def eqV:V→V→Bool
 | .non,.non=>true
 | .bl a,.bl b=>a == b
 | .bl a,.int b=>(if a then 1 else 0) == b
 | .int a,.bl b=>a == (if b then 1 else 0)
 | .int a,.int b=>a == b
 | .str a,.str b=>a == b
 | _,_=>false
theorem eqAt_V {A:Around}{s:Shared}{y x:V}{u v:Value}(ry:Zcf y u) (rx:Zcf x v) (fy:flatV y=true) (fx:flatV x=true):SeqAt.EqAt A s u v (eqV y x):=by
 cases y with
 | non =>
  cases ry
  cases x with
  | non=>cases rx;exact SeqAt.EqAt.same _
  | bl b=>cases rx;exact SeqAt.EqAt.none_bool b
  | int b=>obtain ⟨t,rfl⟩:=rx;exact SeqAt.EqAt.none_int b t
  | str b=>obtain ⟨t,rfl⟩:=rx;exact SeqAt.EqAt.none_str b t
  | _=>exact absurd (show false=true from fx) Bool.false_ne_true
 | bl a =>
  cases ry
  cases x with
  | non=>cases rx;exact SeqAt.EqAt.bool_none a
  | bl b=>cases rx;exact SeqAt.EqAt.bool_bool a b
  | int b=>obtain ⟨t,rfl⟩:=rx;exact SeqAt.EqAt.bool_int a b t
  | str b=>obtain ⟨t,rfl⟩:=rx;exact SeqAt.EqAt.bool_str a b t
  | _=>exact absurd (show false=true from fx) Bool.false_ne_true
 | int a =>
  obtain ⟨t',rfl⟩:=ry
  cases x with
  | non=>cases rx;exact SeqAt.EqAt.int_none a t'
  | bl b=>cases rx;exact SeqAt.EqAt.int_bool a t' b
  | int b=>obtain ⟨t,rfl⟩:=rx;exact SeqAt.EqAt.int_int a t' b t
  | str b=>obtain ⟨t,rfl⟩:=rx;exact SeqAt.EqAt.int_str a t' b t
  | _=>exact absurd (show false=true from fx) Bool.false_ne_true
 | str a =>
  obtain ⟨t',rfl⟩:=ry
  cases x with
  | non=>cases rx;exact SeqAt.EqAt.str_none a t'
  | bl b=>cases rx;exact SeqAt.EqAt.str_bool a t' b
  | int b=>obtain ⟨t,rfl⟩:=rx;exact SeqAt.EqAt.str_int a t' b t
  | str b=>obtain ⟨t,rfl⟩:=rx;exact SeqAt.EqAt.str_str a t' b t
  | _=>exact absurd (show false=true from fx) Bool.false_ne_true
 | _=>exact absurd (show false=true from fy) Bool.false_ne_true
def eqU (x:V) (u:Value):Bool:=match u with
 | .none=>eqV .non x
 | .bool b=>eqV (.bl b) x
 | .int i _=>eqV (.int i) x
 | .str z _=>eqV (.str z) x
 | _=>false
theorem eqU_of {x y:V}{u:Value}(r:Zcf y u) (f:flatV y=true):eqU x u=eqV y x:=by
 cases y with
 | non=>cases r;rfl
 | bl b=>cases r;rfl
 | int i=>obtain ⟨t,rfl⟩:=r;rfl
 | str z=>obtain ⟨t,rfl⟩:=r;rfl
 | _=>exact absurd (show false=true from f) Bool.false_ne_true
theorem any_eqU {x:V}:∀ {xs:List V}{us:List Value},Zb7 xs us→xs.all flatV=true→us.any (eqU x)=xs.any fun y=>eqV y x
 | _,_,.nil,_=>rfl
 | y :: xs,u :: us,.cons r t,f=>by
  rw [List.all_cons,Bool.and_eq_true] at f
  rw [List.any_cons,List.any_cons,eqU_of r f.1,any_eqU t f.2]
theorem mem_eqAt {A:Around}{s:Shared}{x:V}{v:Value}(rx:Zcf x v) (fx:flatV x=true):∀ {xs:List V}{us:List Value},Zb7 xs us→xs.all flatV=true→∀ u∈us,SeqAt.EqAt A s u v (eqU x u)
 | _,_,.nil,_=>fun u hu=>by cases hu
 | y :: xs,u :: us,.cons r t,f=>fun u' hu=>by
  rw [List.all_cons,Bool.and_eq_true] at f
  rcases List.mem_cons.mp hu with rfl | hu
  ·rw [eqU_of r f.1];exact eqAt_V r rx f.1 fx
  ·exact mem_eqAt rx fx t f.2 u' hu
def inV (x:V) (xs:List V):Bool:=xs.any fun y=>eqV y x
def rIn (K:W.Frag) (neg:Bool):R2:=fun x y H Q=>∃ p xs,y=.ref p∧(SqL K H p xs∨SqT K H p xs)∧flatV x=true∧xs.all flatV=true∧Q (.bl (if neg then !inV x xs else inV x xs)) H
theorem op_in_seq:OpR X (compareOp .In) (rIn X.K false):=by
 intro pins s σ H x y v u Q I rx ry h
 obtain ⟨p,xs,rfl,hq,fx,fs,q⟩:=h
 cases ry
 rcases hq with hq | hq
 ·obtain ⟨its,r,pl,hz⟩:=I.list hq
  refine SeqAt.in_listAt (eqU x) pl.isList (fun w hw=>mem_eqAt rx fx r fs w (by simpa using hw)) ⟨.bl _,H,I,rfl,?_⟩
  rw [show its.toArray.any (eqU x)=its.any (eqU x) by simp,any_eqU r fs]
  exact q
 ·obtain ⟨its,r,pl,hz⟩:=I.tuple hq
  refine SeqAt.in_tupleAt (eqU x) pl (fun w hw=>mem_eqAt rx fx r fs w (by simpa using hw)) ⟨.bl _,H,I,rfl,?_⟩
  rw [show its.toArray.any (eqU x)=its.any (eqU x) by simp,any_eqU r fs]
  exact q
theorem op_notIn_seq:OpR X (compareOp .NotIn) (rIn X.K true):=by
 intro pins s σ H x y v u Q I rx ry h
 obtain ⟨p,xs,rfl,hq,fx,fs,q⟩:=h
 cases ry
 rcases hq with hq | hq
 ·obtain ⟨its,r,pl,hz⟩:=I.list hq
  refine SeqAt.notIn_listAt (eqU x) pl.isList (fun w hw=>mem_eqAt rx fx r fs w (by simpa using hw)) ⟨.bl _,H,I,rfl,?_⟩
  rw [show its.toArray.any (eqU x)=its.any (eqU x) by simp,any_eqU r fs]
  exact q
 ·obtain ⟨its,r,pl,hz⟩:=I.tuple hq
  refine SeqAt.notIn_tupleAt (eqU x) pl (fun w hw=>mem_eqAt rx fx r fs w (by simpa using hw)) ⟨.bl _,H,I,rfl,?_⟩
  rw [show its.toArray.any (eqU x)=its.any (eqU x) by simp,any_eqU r fs]
  exact q
theorem Zao:CallR X (.builtin "len") (fun xs H Q=>∃ p ys,xs=[.ref p]∧(SqL X.K H p ys∨SqT X.K H p ys)∧Q (.int ys.length) H):=by
 intro pins s σ H xs us Q I r h
 obtain ⟨p,ys,rfl,hq,q⟩:=h
 obtain ⟨u,rfl,rx⟩:=vals1 r
 cases rx
 have hn:=line63
 rcases hq with hq | hq
 ·obtain ⟨its,r',pl,hz⟩:=I.list hq
  have hlen:=r'.length
  exact Calls.call_len_list pl.isList (by simp only [List.size_toArray] <;> omega) ⟨.int ys.length,H,I.tok _,⟨s.toks + 1,by rw [List.size_toArray,hlen]⟩,q⟩
 ·obtain ⟨its,r',pl,hz⟩:=I.tuple hq
  have hlen:=r'.length
  exact len_tuple pl (by simp only [List.size_toArray] <;> omega) ⟨.int ys.length,H,I.tok _,⟨s.toks + 1,by rw [List.size_toArray,hlen]⟩,q⟩
theorem Ze9:CallR X (.type "list") (fun xs H Q=>∃ p ys,xs=[.ref p]∧(SqL X.K H p ys∨SqT X.K H p ys)∧∀ l,H l=none→Q (.ref l) (upd H l (.lst ys))):=by
 intro pins s σ H xs us Q I r h
 obtain ⟨p,ys,rfl,hq,q⟩:=h
 obtain ⟨u,rfl,rx⟩:=vals1 r
 cases rx
 have fin:∀ (its:List Value),Zb7 ys its→ys.length≤sizeLine→∀ (h':Heap) (c':Nat),(∀ b o',s.heap.get? b=some o'→h'.get? b=some o') →
   h'.get? s.heap.objs.size=some { cls:=.type "list",dict:=none,data:=.seq its.toArray c',slots:=#[] }→EP X pins σ Q (.ref s.heap.objs.size) { s with heap:=h' }:=fun its r' hz h' c' kp e =>
  ⟨.ref s.heap.objs.size,_,I.laid (t':=s.toks) kp (Nat.le_refl _) (show Zcn X.prog X.w _ h' _ (.lst ys) from ⟨hz,its,c',r',e⟩),rfl,q _ (I.hok.fresh (Nat.le_refl _))⟩
 rcases hq with hq | hq
 ·obtain ⟨its,r',pl,hz⟩:=I.list hq
  have hlen:=r'.length
  obtain ⟨o,ho,hc,n,hd⟩:=pl.isList
  exact call_list_seq p (.inl rfl) ho hc hd (fun h' c' kp e=>fin its r' hz h' c' kp e) (by simp only [List.size_toArray] <;> omega)
 ·obtain ⟨its,r',pl,hz⟩:=I.tuple hq
  have hlen:=r'.length
  obtain ⟨o,ho,hc,n,hd⟩:=pl
  exact call_list_seq p (.inr rfl) ho hc hd (fun h' c' kp e=>fin its r' hz h' c' kp e) (by simp only [List.size_toArray] <;> omega)
theorem Zbe:CallR X (.type "tuple") (fun xs H Q=>∃ p ys,xs=[.ref p]∧((SqL X.K H p ys∧∀ l,H l=none→Q (.ref l) (upd H l (.tup ys)))∨(SqT X.K H p ys∧Q (.ref p) H))):=by
 intro pins s σ H xs us Q I r h
 obtain ⟨p,ys,rfl,h⟩:=h
 obtain ⟨u,rfl,rx⟩:=vals1 r
 cases rx
 rcases h with ⟨hq,q⟩ | ⟨hq,q⟩
 ·obtain ⟨its,r',pl,hz⟩:=I.list hq
  have hlen:=r'.length
  refine call_tuple_list pl.isList (fun h' kp=>?_) (by simp only [List.size_toArray] <;> omega)
  have I1:Inv X pins σ H { s with heap:=h' }:=I.kept (t':=s.toks) kp
  have I2:Inv X pins σ (upd H h'.objs.size (.tup ys)) { s with heap:=h'.push { cls:=.type "tuple",data:=.seq its.toArray } } :=
   I1.laid (t':=s.toks) (fun b o e=>Heap.get?_push_of_some _ e) (Nat.le_refl _) (show Zcn X.prog X.w _ _ _ (.tup ys) from ⟨hz,its,r',IsTup.new _ _⟩)
  exact ⟨.ref h'.objs.size,_,I2,rfl,q _ (I1.hok.fresh (Nat.le_refl _))⟩
 ·obtain ⟨its,r',pl,hz⟩:=I.tuple hq
  exact call_tuple_same pl ⟨.ref p,H,I,rfl,q⟩
def tyV (K:W.Frag) (T:String) (x:V) (H:Hp):Prop:=match x with
 | .str _=>T="str"
 | .int _=>T="int"
 | .ref p=>(T="list"∧∃ xs,SqL K H p xs)∨(T="tuple"∧∃ o,K.lookup p=some o∧o.cls=.type "tuple"∧o.dict=none) ∨
   (T="dict"∧((∃ kvs,H p=some (.dK kvs))∨∃ kvs,H p=some (.dT kvs)))∨(T="set"∧∃ S n,H p=some (.set S n))
 | _=>False
theorem tyV_is {pins:List (Addr×Obj)}{σ:St}{H:Hp}{s:Shared}{T:String}{x:V}{v:Value}(I:Inv X pins σ H s) (r:Zcf x v) (ty:tyV X.K T x H):
  s.TypeIs v T∧∀ a,v=.ref a→∃ ob,s.heap.get? a=some ob∧ob.dict=none:=by
 cases x with
 | str z =>
  obtain ⟨t,rfl⟩:=r
  cases (show T="str" from ty)
  exact ⟨typeIs_str s z t,fun _ e=>nomatch e⟩
 | int i =>
  obtain ⟨t,rfl⟩:=r
  cases (show T="int" from ty)
  exact ⟨typeIs_int s i t,fun _ e=>nomatch e⟩
 | ref p =>
  cases r
  rcases ty with ⟨rfl,xs,hq⟩ | ⟨rfl,o,hk,hc,hd⟩ | ⟨rfl,hk⟩ | ⟨rfl,S,n,hk⟩
  ·obtain ⟨its,_,pl,_⟩:=I.list hq
   refine ⟨pl.isList.typeIs,fun a e=>?_⟩
   cases e
   obtain ⟨o,n,e,c,hd,_⟩:=pl
   exact ⟨o,e,hd⟩
  ·refine ⟨⟨o,I.kIn p o hk,hc⟩,fun a e=>?_⟩
   cases e
   exact ⟨o,I.kIn _ o hk,hd⟩
  ·have z:∃ o,s.heap.get? p=some o∧o.ExactDict:=by
    rcases hk with ⟨kvs,hk⟩ | ⟨kvs,hk⟩
    ·obtain ⟨_,_,_,_,o,_,_,e,ex,_⟩:=I.hok p _ hk
     exact ⟨o,e,ex⟩
    ·obtain ⟨_,_,_,_,o,_,_,e,ex,_⟩:=I.hok p _ hk
     exact ⟨o,e,ex⟩
   obtain ⟨o,e,ex⟩:=z
   refine ⟨⟨o,e,ex.1⟩,fun a e2=>?_⟩
   cases e2
   exact ⟨o,e,ex.2.1⟩
  ·obtain ⟨o,_,_,_,e,ex,_⟩:=I.hok p _ hk
   refine ⟨⟨o,e,ex.1⟩,fun a e2=>?_⟩
   cases e2
   exact ⟨o,e,ex.2.1⟩
 | _=>exact False.elim ty
def tBM0 (K:W.Frag) (T:String) (r:V→List V→Hp→VK→Prop) (to:TE):TE:=fun σ H Q=>to σ H fun x H1=>tyV K T x H1∧r x [] H1 Q
def tBM (K:W.Frag) (T:String) (r:V→List V→Hp→VK→Prop) (to:TE) (t:TA):TE:=fun σ H Q=>to σ H fun x H1=>tyV K T x H1∧t σ H1 fun xs H2=>r x xs H2 Q
variable {o e:Expr} {es:List Expr} {to:TE} {t:TA} {name:Str} {apos cpos:Pos} {T id:String} {r:V→List V→Hp→VK→Prop}
theorem pe_bm0 (pa:PlainAttrs T) (slot:Slot T name id) (hty:typeOf (.builtin id)=pure (.type "method_descriptor")) (hm:MtR X id r) (ho:PE X o to)
  (hbase:attributeBase o name X.env (eval o X.env)=eval o X.env:=by rfl) (hline:(apos.endLine == cpos.line)=true:=by rfl):PE X (.Call (.Attribute o name apos) [] [] cpos) (tBM0 X.K T r to):=by
 intro pins s σ H Q I h
 refine wpAny_Call_method0_late hbase hline (thn (ho pins s σ H _ I h) fun v s1 ⟨x,H1,I1,r1,ty,q1⟩=>?_)
 obtain ⟨h1,h2⟩:=tyV_is I1 r1 ty
 exact ⟨T,id,pa,slot,hty,h1,h2,Calls.callWith_builtin rfl (PySem.evalArgs_none (hm pins s1 σ H1 x [] v [] Q I1 r1 .nil q1))⟩
theorem Zfo (pa:PlainAttrs T) (slot:Slot T name id) (hty:typeOf (.builtin id)=pure (.type "method_descriptor")) (hm:MtR X id r) (ho:PE X o to) (ha:PA X (e :: es) t)
  (hbase:attributeBase o name X.env (eval o X.env)=eval o X.env:=by rfl)
  (hfew:((backTo cpos (starEach (e :: es) X.env)).all (fun x=>!x.1)&&(backToKw cpos (keywordEach [] X.env)).all (fun x=>x.1.isSome)
   && decide ((e :: es).length + ([]:List Keyword).length + (if ([]:List Keyword).isEmpty then 0 else 1)<30))=true:=by rfl)
  (hline:(apos.endLine == cpos.line)=true:=by rfl) (hs:starEach (e :: es) X.env=(false,eval e X.env):: starEach es X.env:=by rfl) (hplain:(backTo cpos (starEach es X.env)).any (·.1)=false:=by rfl):
  PE X (.Call (.Attribute o name apos) (e :: es) [] cpos) (tBM X.K T r to t):=by
 intro pins s σ H Q I h
 refine wpAny_Call_method_late hbase hfew hline rfl (thn (ho pins s σ H _ I h) fun v s1 ⟨x,H1,I1,r1,ty,q1⟩=>?_)
 obtain ⟨h1,h2⟩:=tyV_is I1 r1 ty
 refine ⟨T,id,pa,slot,hty,h1,h2,?_⟩
 have hA:=ha cpos pins s1 σ H1 _ I1 q1
 rw [hs] at hA ⊢
 refine Calls.callWith_builtin (by show (false || (backTo cpos (starEach es X.env)).any (·.1))=false;rw [hplain] <;> rfl) (Calls.evalArgs_plain ?_)
 exact thn hA fun us s2 ⟨vs,H2,I2,r2,q2⟩=>hm pins s2 σ H2 x vs v us Q I2 r1 r2 q2
end
end L2
namespace L2
open PySem PySem.Spec PyProof.Rows
def MtM (X:Cx) (id:String) (r:V→List V→Hp→VK→Prop):Prop :=
 ∀ (pins:List (Addr×Obj)) (s:Shared) (σ:St) (H:Hp) (x:V) (xs:List V) (v:Value) (us:List Value) (Q:VK),Inv X pins σ H s→Zcf x v→Zb7 xs us→r x xs H Q →
  wpAny (model X.prog X.w) X.A (call (.builtin id) (v :: us)) (EP X pins σ Q) X.xe s
theorem Zb7.one:∀ {x:V}{us:List Value},Zb7 [x] us→∃ u,us=[u]∧Zcf x u
 | _,_,.cons r .nil=>⟨_,rfl,r⟩
theorem Zb7.zero:∀ {us:List Value},Zb7 [] us→us=[]
 | _,.nil=>rfl
theorem Zb7.dropLast {xs:List V}{us:List Value}(h:Zb7 xs us):Zb7 xs.dropLast us.dropLast:=by
 induction h with
 | nil=>exact .nil
 | cons r t ih =>
  cases t with
  | nil=>exact .nil
  | cons q t'=>exact .cons r ih
theorem erase_last {α:Type}(l:List α):l.eraseIdx (l.length - 1)=l.dropLast:=by
 induction l with
 | nil=>rfl
 | cons a r ih =>
  cases r with
  | nil=>rfl
  | cons b r =>
   have e:(a :: b :: r).length - 1=((b :: r).length - 1) + 1:=by
    have h1:(a :: b :: r).length=r.length + 2:=rfl
    have h2:(b :: r).length=r.length + 1:=rfl
    omega
   rw [e,List.eraseIdx_cons_succ,ih]
   all_goals rfl
section
variable {X:Cx} {pins:List (Addr×Obj)} {σ:St} {H:Hp} {s:Shared} {l b:Addr} {xs ys zs:List V}
theorem Inv.lset {its its':List Value}{n:Nat}{f:Array Value→Array Value}{t':Nat}(I:Inv X pins σ H s) (hH:H l=some (.lst xs))
  (e:s.heap.get? l=some { cls:=.type "list",data:=.seq its.toArray n }) (hf:f its.toArray=its'.toArray) (hv:Zb7 ys its') (hz:ys.length≤sizeLine):
  Inv X pins σ (upd H l (.lst ys)) { s with heap:=s.heap.update l (Obj.mapSeq f),toks:=t' }:=by
 have q:=PySem.IsL.update e f
 rw [hf] at q
 refine I.write (x:=l) (e:=l) (by rw [hH];exact trivial) (.inl rfl) (fun b' u hb hu=>(Heap.get?_update_other s.heap (Obj.mapSeq f) (Ne.symm hb)).trans hu) ⟨_,q⟩ ?_
 exact ⟨hz,its',_,hv,q⟩
theorem Inv.lnew {its:List Value}{t':Nat}(I:Inv X pins σ H s) (hv:Zb7 ys its) (hz:ys.length≤sizeLine):
  Inv X pins σ (upd H s.heap.objs.size (.lst ys)) { s with heap:=s.heap.push { cls:=.type "list",data:=.seq its.toArray },toks:=t' } :=
 I.laid (fun _ _ q=>Heap.get?_push_of_some _ q) (Nat.le_refl _) ⟨hz,its,0,hv,Heap.get?_push_size _ rfl⟩
theorem Inv.fresh (I:Inv X pins σ H s):H s.heap.objs.size=none:=I.hok.fresh (Nat.le_refl _)
theorem Inv.lstM (I:Inv X pins σ H s) (hH:H l=some (.lst xs)):xs.length≤sizeLine∧∃ (its:List Value) (n:Nat),Zb7 xs its∧xs.length=its.length∧s.heap.get? l=some { cls:=.type "list",data:=.seq its.toArray n }:=by
 obtain ⟨z,its,n,r,e⟩:=I.hok l _ hH
 exact ⟨z,its,n,r,r.length,e⟩
theorem notLongL {n:Nat}(h:n≤sizeLine):Builtin.List.listTooLong n=false:=by
 unfold Builtin.List.listTooLong
 exact decide_eq_false (by omega)
end
section
variable {X:Cx}
def rAppend:V→List V→Hp→VK→Prop:=fun x vs H Q=>∃ l xs y,x=.ref l∧vs=[y]∧H l=some (.lst xs)∧xs.length<sizeLine∧Q .non (upd H l (.lst (xs++[y])))
theorem Zbv:MtM X "list.append" rAppend:=by
 intro pins s σ H x vs v us Q I rx rv h
 obtain ⟨l,xs,y,rfl,rfl,hH,hz,q⟩:=h
 cases rx
 obtain ⟨u,rfl,ru⟩:=rv.one
 obtain ⟨z,its,n,r,hl,e⟩:=I.lstM hH
 refine call_meets F.slot_list_append ⟨_,e,rfl⟩ F.entry_list_append (F.args_list_append_2 _ _) (PySem.list_append l its.toArray n u (by rw [List.size_toArray];omega)) ⟨e,?_⟩
 refine ⟨.non,_,I.lset (its':=its++[u]) hH e (by simp) (r.append (.cons ru .nil)) ?_,rfl,q⟩
 rw [List.length_append,List.length_singleton]
 omega
def rExtend:V→List V→Hp→VK→Prop:=fun x vs H Q=>∃ l b xs zs,x=.ref l∧vs=[.ref b]∧H l=some (.lst xs)∧H b=some (.lst zs)∧xs.length + zs.length≤sizeLine∧Q .non (upd H l (.lst (xs++zs)))
theorem mt_extend:MtM X "list.extend" rExtend:=by
 intro pins s σ H x vs v us Q I rx rv h
 obtain ⟨l,b,xs,zs,rfl,rfl,hH,hB,hz,q⟩:=h
 cases rx
 obtain ⟨u,rfl,ru⟩:=rv.one
 cases ru
 obtain ⟨z,its,n,r,hl,e⟩:=I.lstM hH
 obtain ⟨z2,its2,n2,r2,hl2,e2⟩:=I.lstM hB
 have hsz:its.toArray.size + its2.toArray.size≤sizeLine:=by rw [List.size_toArray,List.size_toArray];omega
 have hlong:¬ (!its.toArray.isEmpty&&Builtin.List.listTooLong (its.toArray.size + its2.toArray.size))=true:=by
  rw [notLongL hsz,Bool.and_false]
  exact Bool.false_ne_true
 refine call_meets F.slot_list_extend ⟨_,e,rfl⟩ F.entry_list_extend (F.args_list_extend_2 _ _)
  (AutoSeq1.list_extend_list_list_0 l its.toArray n b its2.toArray n2 hlong (by rw [List.size_toArray];omega) (by omega)) ⟨e,e2,?_⟩
 refine ⟨.non,_,I.lset (its':=its++its2) hH e (by simp) (r.append r2) ?_,rfl,q⟩
 rw [List.length_append]
 omega
def rPop:V→List V→Hp→VK→Prop:=fun x vs H Q=>∃ l xs y,x=.ref l∧vs=[]∧H l=some (.lst xs)∧xs[xs.length - 1]?=some y∧Q y (upd H l (.lst xs.dropLast))
theorem mt_pop:MtM X "list.pop" rPop:=by
 intro pins s σ H x vs v us Q I rx rv h
 obtain ⟨l,xs,y,rfl,rfl,hH,hy,q⟩:=h
 cases rx
 have hus:=rv.zero
 subst hus
 obtain ⟨z,its,n,r,hl,e⟩:=I.lstM hH
 obtain ⟨u,hu,ru⟩:=r.get hy
 have hy':its.toArray[its.toArray.size - 1]?=some u:=by
  show its.toArray[its.length - 1]?=some u
  rw [← Array.getElem?_toList,← hl]
  exact hu
 refine call_meets F.slot_list_pop ⟨_,e,rfl⟩ F.entry_list_pop (F.args_list_pop_1 _) (MeetsSeq.list_pop_last l its.toArray n u hy' (by rw [List.size_toArray];omega)) ⟨e,?_⟩
 refine ⟨y,_,I.lset (its':=its.dropLast) hH e ?_ r.dropLast ?_,ru,q⟩
 ·show its.toArray.eraseIdxIfInBounds (its.toArray.size - 1)=its.dropLast.toArray
  rw [List.size_toArray,List.eraseIdxIfInBounds_toArray,erase_last]
 ·rw [List.length_dropLast]
  omega
def rClear:V→List V→Hp→VK→Prop:=fun x vs H Q=>∃ l xs,x=.ref l∧vs=[]∧H l=some (.lst xs)∧Q .non (upd H l (.lst []))
theorem mt_clear:MtM X "list.clear" rClear:=by
 intro pins s σ H x vs v us Q I rx rv h
 obtain ⟨l,xs,rfl,rfl,hH,q⟩:=h
 cases rx
 have hus:=rv.zero
 subst hus
 obtain ⟨z,its,n,r,hl,e⟩:=I.lstM hH
 refine call_meets F.slot_list_clear ⟨_,e,rfl⟩ F.entry_list_clear (F.args_list_clear_1 _) (AutoSeq1.list_clear_list_0 l its.toArray n (by rw [List.size_toArray];omega)) ⟨e,?_⟩
 exact ⟨.non,_,I.lset (its':=[]) (ys:=[]) hH e rfl .nil (Nat.zero_le _),rfl,q⟩
def rCat:R2:=fun x y H Q=>∃ l b xs zs,x=.ref l∧y=.ref b∧H l=some (.lst xs)∧H b=some (.lst zs)∧xs.length + zs.length≤sizeLine∧∀ p,H p=none→Q (.ref p) (upd H p (.lst (xs++zs)))
theorem op_cat:OpR X (binaryOp .Add) rCat:=by
 intro pins s σ H x y v u Q I rx ry h
 obtain ⟨l,b,xs,zs,rfl,rfl,hH,hB,hz,q⟩:=h
 cases rx
 cases ry
 obtain ⟨z,its,n,r,hl,e⟩:=I.lstM hH
 obtain ⟨z2,its2,n2,r2,hl2,e2⟩:=I.lstM hB
 refine PySem.P.add_list e e2 ?_ (by rw [List.size_toArray,List.size_toArray];omega)
 have ea:its.toArray++its2.toArray=(its++its2).toArray:=by simp
 rw [ea]
 exact ⟨.ref _,_,I.lnew (t':=s.toks) (r.append r2) (by rw [List.length_append];omega),rfl,q _ I.fresh⟩
end
section
variable {prog:Program} {w:World} {A:Around} {E:Value→Shared→Prop} {s:Shared}
end
section
variable {X:Cx}
end
end L2
namespace L2
open PySem PySem.Spec PyProof.Rows
section
variable {κ:Type} [DecidableEq κ]
def Zet (kvs:List (κ×V)) (k:κ):Option V:=(kvs.find? fun kv=>decide (kv.1=k)).map (·.2)
def Zdj (kvs:List (κ×V)) (k:κ) (v:V):List (κ×V):=
 if (kvs.any fun kv=>decide (kv.1=k))=true then kvs.map (fun kv=>if kv.1=k then (kv.1,v) else kv) else kvs++[(k,v)]
theorem Zb4 {p:κ×V}{r:List (κ×V)}{k:κ}(e:p.1=k):Zet (p :: r) k=some p.2:=by simp [Zet,List.find?_cons,e]
theorem Zb5 {p:κ×V}{r:List (κ×V)}{k:κ}(e:¬ p.1=k):Zet (p :: r) k=Zet r k:=by simp [Zet,List.find?_cons,e]
theorem Zfq (k:κ):∀ kvs:List (κ×V),(kvs.any fun kv=>decide (kv.1=k))=(Zet kvs k).isSome
 | []=>rfl
 | p :: r=>by
  rw [List.any_cons]
  by_cases e:p.1=k
  ·simp only [Zb4 e,decide_eq_true e,Bool.true_or,Option.isSome_some]
  ·rw [Zb5 e,decide_eq_false e,Bool.false_or];exact Zfq k r
theorem valV_map (k j:κ) (y:V):∀ kvs:List (κ×V),Zet (kvs.map fun kv=>if kv.1=k then (kv.1,y) else kv) j=(Zet kvs j).map fun x=>if j=k then y else x
 | []=>rfl
 | p :: r=>by
  have ih:=valV_map k j y r
  rw [List.map_cons]
  by_cases h:p.1=k
  ·rw [if_pos h]
   by_cases e:p.1=j
   ·rw [Zb4 (p:=(p.1,y)) e,Zb4 e,Option.map_some,if_pos (e.symm.trans h)]
   ·rw [Zb5 (p:=(p.1,y)) e,Zb5 e,ih]
  ·rw [if_neg h]
   by_cases e:p.1=j
   ·rw [Zb4 (p:=p) e,Zb4 e,Option.map_some,if_neg (fun z=>h (e.trans z))]
   ·rw [Zb5 (p:=p) e,Zb5 e,ih]
theorem valV_snoc (k j:κ) (y:V):∀ kvs:List (κ×V),Zet kvs k=none→Zet (kvs++[(k,y)]) j=if j=k then some y else Zet kvs j
 | [],_=>by
  by_cases e:k=j
  ·rw [if_pos e.symm];exact Zb4 (p:=(k,y)) e
  ·rw [if_neg (fun z=>e z.symm)];exact Zb5 (p:=(k,y)) e
 | p :: r,hn=>by
  rw [List.cons_append]
  have hk:¬ p.1=k:=fun z=>by rw [Zb4 z] at hn;cases hn
  rw [Zb5 hk] at hn
  have ih:=valV_snoc k j y r hn
  by_cases e:p.1=j
  ·rw [Zb4 e,Zb4 e,if_neg (fun z=>hk (e.trans z))]
  ·rw [Zb5 e,Zb5 e,ih]
theorem valV_put (kvs:List (κ×V)) (k j:κ) (y:V):Zet (Zdj kvs k y) j=if j=k then some y else Zet kvs j:=by
 unfold Zdj
 by_cases a:(kvs.any fun kv=>decide (kv.1=k))=true
 ·rw [if_pos a,valV_map]
  rw [Zfq] at a
  by_cases e:j=k
  ·obtain ⟨x,hx⟩:=Option.isSome_iff_exists.mp a
   rw [if_pos e,e,hx,Option.map_some,if_pos rfl]
  ·rw [if_neg e]
   cases Zet kvs j with
   | none=>rfl
   | some x=>rw [Option.map_some,if_neg e]
 ·rw [if_neg a]
  refine valV_snoc k j y kvs ?_
  rw [Zfq] at a
  cases q:Zet kvs k with
  | none=>rfl
  | some x=>rw [q] at a;exact (a rfl).elim
theorem length_putK (kvs:List (κ×V)) (k:κ) (v:V):(Zdj kvs k v).length≤kvs.length + 1:=by
 unfold Zdj
 split
 ·rw [List.length_map];omega
 ·rw [List.length_append,List.length_cons,List.length_nil];omega
theorem Zfx {kvs:List (κ×V)}{k:κ}(v:V) (h:Zet kvs k=none):Zdj kvs k v=kvs++[(k,v)]:=by
 unfold Zdj
 rw [Zfq,h]
 exact if_neg (by decide)
theorem RelO.isSome_eq {o:Option V}{u:Option Value}(r:RelO o u):o.isSome=u.isSome:=by
 cases o with
 | none=>cases u with
  | none=>rfl
  | some _=>exact (show False from r).elim
 | some _=>cases u with
  | none=>exact (show False from r).elim
  | some _=>rfl
theorem KV.val {kvs:List (κ×V)}{vs:List (κ×Value)}(r:KV kvs vs) (k:κ):RelO (Zet kvs k) (valueAt vs k):=by
 unfold KV at r
 induction r with
 | nil=>exact True.intro
 | @cons p q ps qs h t ih =>
  obtain ⟨h1,h2⟩:=h
  by_cases e:p.1=k
  ·have e':q.1=k:=h1.symm.trans e
   have b:valueAt (q :: qs) k=some q.2:=by simp [valueAt,List.find?_cons,e']
   rw [Zb4 e,b];exact h2
  ·have e':¬ q.1=k:=fun z=>e (h1.trans z)
   have b:valueAt (q :: qs) k=valueAt qs k:=by simp [valueAt,List.find?_cons,e']
   rw [Zb5 e,b];exact ih
theorem KV.any {kvs:List (κ×V)}{vs:List (κ×Value)}(r:KV kvs vs) (k:κ):(kvs.any fun kv=>decide (kv.1=k))=vs.any fun kv=>decide (kv.1=k):=by
 unfold KV at r
 induction r with
 | nil=>rfl
 | cons h t ih=>rw [List.any_cons,List.any_cons,ih,h.1]
theorem KV.repl {kvs:List (κ×V)}{vs:List (κ×Value)}(r:KV kvs vs) (k:κ) {y:V}{u:Value}(ry:Zcf y u):
  KV (kvs.map fun kv=>if kv.1=k then (kv.1,y) else kv) (vs.map fun kv=>if kv.1=k then (kv.1,u) else kv):=by
 unfold KV at r ⊢
 induction r with
 | nil=>exact .nil
 | @cons p q ps qs h t ih =>
  rw [List.map_cons,List.map_cons]
  refine .cons ?_ ih
  obtain ⟨h1,h2⟩:=h
  by_cases e:p.1=k
  ·rw [if_pos e,if_pos (h1.symm.trans e)];exact ⟨h1,ry⟩
  ·rw [if_neg e,if_neg (fun z=>e (h1.trans z))];exact ⟨h1,h2⟩
theorem KV.put {kvs:List (κ×V)}{vs:List (κ×Value)}(r:KV kvs vs) (k:κ) {y:V}{u:Value}(ry:Zcf y u):KV (Zdj kvs k y) (stored vs k u):=by
 unfold Zdj stored
 rw [r.any k]
 by_cases e:(vs.any fun kv=>decide (kv.1=k))=true
 ·rw [if_pos e,if_pos e];exact r.repl k ry
 ·rw [if_neg e,if_neg e];exact Paired.snoc r ⟨rfl,ry⟩
theorem KV.length {kvs:List (κ×V)}{vs:List (κ×Value)}(r:KV kvs vs):kvs.length=vs.length:=Paired.length r
end
theorem kV_is {P:Program}{w:World}{k:Key}{u:Value}(r:Zcf (kV k) u):(Zbx P w).is k u=true:=by
 cases k with
 | inl i=>obtain ⟨t,e⟩:=(show ∃ t,u=Value.int i t from r);subst e;exact mixKind_int P w i t
 | inr x=>obtain ⟨t,e⟩:=(show ∃ t,u=Value.str x t from r);subst e;exact mixKind_str P w x t
theorem items_are {P:Program}{w:World}:∀ {ks:List Key}{us:List Value},Zb7 (ks.map kV) us→ItemsAre (Zbx P w) ks us
 | [],_,r=>by rw [List.map_nil] at r;cases r;exact .nil
 | k :: ks,_,r=>by
  rw [List.map_cons] at r
  cases r with
  | cons h t=>exact .cons (kV_is h) (items_are t)
abbrev KT (H:Hp):List (List Key×V)→List (List Key×Addr×Value)→Prop:=Paired fun p q=>p.1=q.1∧H q.2.1=some (.tup (p.1.map kV))∧Zcf p.2 q.2.2
theorem KT.val {H:Hp}{kvs:List (List Key×V)}{xs:List (List Key×Addr×Value)}(r:KT H kvs xs) (k:List Key):RelO (Zet kvs k) ((atKey xs k).map (·.2)):=by
 induction r with
 | nil=>exact True.intro
 | @cons p q ps qs h t ih =>
  obtain ⟨h1,_,h2⟩:=h
  by_cases e:p.1=k
  ·have e':q.1=k:=h1.symm.trans e
   have b:atKey (q :: qs) k=some q.2:=by simp [atKey,List.find?_cons,e']
   rw [Zb4 e,b];exact h2
  ·have e':¬ q.1=k:=fun z=>e (h1.trans z)
   have b:atKey (q :: qs) k=atKey qs k:=by simp [atKey,List.find?_cons,e']
   rw [Zb5 e,b];exact ih
theorem KT.repl {H:Hp}{kvs:List (List Key×V)}{xs:List (List Key×Addr×Value)}(r:KT H kvs xs) (k:List Key) {y:V}{u:Value}(ry:Zcf y u):
  KT H (kvs.map fun kv=>if kv.1=k then (kv.1,y) else kv) (xs.map (putAt k u)):=by
 induction r with
 | nil=>exact .nil
 | @cons p q ps qs h t ih =>
  rw [List.map_cons,List.map_cons]
  refine .cons ?_ ih
  obtain ⟨h1,h2,h3⟩:=h
  unfold putAt
  by_cases e:p.1=k
  ·rw [if_pos e,if_pos (h1.symm.trans e)];exact ⟨h1,h2,ry⟩
  ·rw [if_neg e,if_neg (fun z=>e (h1.trans z))];exact ⟨h1,h2,h3⟩
theorem KT.put {H:Hp}{kvs:List (List Key×V)}{xs:List (List Key×Addr×Value)}(r:KT H kvs xs) (k:List Key) {b:Addr}{y:V}{u:Value}(hb:H b=some (.tup (k.map kV))) (ry:Zcf y u):
  KT H (Zdj kvs k y) (storedH xs k b u):=by
 have e:(kvs.any fun kv=>decide (kv.1=k))=(atKey xs k).isSome:=by
  rw [Zfq,(r.val k).isSome_eq,Option.isSome_map]
 unfold Zdj storedH
 rw [e]
 by_cases q:(atKey xs k).isSome=true
 ·rw [if_pos q,if_pos q];exact r.repl k ry
 ·rw [if_neg q,if_neg q];exact Paired.snoc r ⟨rfl,hb,ry⟩
theorem KT.keeps {H H':Hp}{kvs:List (List Key×V)}{xs:List (List Key×Addr×Value)}(r:KT H kvs xs) (ht:∀ b ys,H b=some (.tup ys)→H' b=some (.tup ys)):KT H' kvs xs :=
 Paired.mapP r fun _ _ z=>⟨z.1,ht _ _ z.2.1,z.2.2⟩
section
variable {P:Program} {w:World} {H:Hp} {h:Heap} {a:Addr}
theorem rd_of {u:HO}(ok:HOk P w H h) (e:Rd H a u):Zcn P w H h a u:=e.ok ok
theorem dk_rd {kvs:List (Key×V)}(ok:HOk P w H h) (e:Rd H a (.dK kvs)):kvs.length≤sizeLine∧(a == sysModules)=false∧∃ vs,KV kvs vs∧h.DictOf (Zbx P w) a vs :=
 show Zcn P w H h a (.dK kvs) from rd_of ok e
theorem dk_of {kvs:List (Key×V)}(ok:HOk P w H h) (e:H a=some (.dK kvs)):kvs.length≤sizeLine∧(a == sysModules)=false∧∃ vs,KV kvs vs∧h.DictOf (Zbx P w) a vs:=dk_rd ok (.inl e)
theorem key_of {ks:List Key}(ok:HOk P w H h) (e:H a=some (.tup (ks.map kV))):(tupleKind (Zbx P w)).is h ks a:=by
 obtain ⟨_,its,r,o,h1,h2,n,h3⟩:=(show Zcn P w H h a (.tup (ks.map kV)) from ok a _ e)
 exact ⟨o,its.toArray,n,h1,h2,h3,by simpa using items_are r⟩
theorem dt_rd {kvs:List (List Key×V)}(ok:HOk P w H h) (e:Rd H a (.dT kvs)):kvs.length≤sizeLine∧(a == sysModules)=false ∧
  ∃ xs,KT H kvs xs∧h.DictOfH (tupleKind (Zbx P w)) a xs:=by
 obtain ⟨z,y,xs,r,o,es,ep,h1,h2,h3,h4,h5⟩:=(show Zcn P w H h a (.dT kvs) from rd_of ok e)
 refine ⟨z,y,xs,r,o,es,ep,h1,h2,h3,h4,fun x hx=>?_,h5⟩
 have all:∀ {l:List (List Key×V)} {m:List (List Key×Addr×Value)},KT H l m→∀ x∈m,(tupleKind (Zbx P w)).is h x.1 x.2.1:=by
  intro l m q
  induction q with
  | nil=>intro x hx;exact nomatch hx
  | @cons p q ps qs hq t ih =>
   intro x hx
   rcases List.mem_cons.mp hx with e | hx
   ·subst e
    exact key_of ok (by rw [← hq.1];exact hq.2.1)
   ·exact ih x hx
 exact all r x hx
theorem dt_of {kvs:List (List Key×V)}(ok:HOk P w H h) (e:H a=some (.dT kvs)):kvs.length≤sizeLine∧(a == sysModules)=false ∧
  ∃ xs,KT H kvs xs∧h.DictOfH (tupleKind (Zbx P w)) a xs:=dt_rd ok (.inl e)
end
def DGet (H:Hp) (a:Addr) (y:V) (r:Option V):Prop :=
 (∃ kvs k,Rd H a (.dK kvs)∧y=kV k∧r=Zet kvs k)∨∃ kvs k b,Rd H a (.dT kvs)∧y=.ref b∧H b=some (.tup (k.map kV))∧r=Zet kvs k
def DPut (H:Hp) (a:Addr) (y v:V) (H':Hp):Prop :=
 (∃ kvs k,H a=some (.dK kvs)∧y=kV k∧kvs.length<sizeLine∧H'=upd H a (.dK (Zdj kvs k v))) ∨
 ∃ kvs k b,H a=some (.dT kvs)∧y=.ref b∧H b=some (.tup (k.map kV))∧kvs.length<sizeLine∧H'=upd H a (.dT (Zdj kvs k v))
theorem DGet.k {H:Hp}{a:Addr}{kvs:List (Key×V)}{k:Key}(e:H a=some (.dK kvs)):DGet H a (kV k) (Zet kvs k):=.inl ⟨kvs,k,.inl e,rfl,rfl⟩
theorem DGet.t {H:Hp}{a b:Addr}{kvs:List (List Key×V)}{k:List Key}(e:H a=some (.dT kvs)) (eb:H b=some (.tup (k.map kV))):DGet H a (.ref b) (Zet kvs k):=.inr ⟨kvs,k,b,.inl e,rfl,eb,rfl⟩
theorem DPut.k {H:Hp}{a:Addr}{kvs:List (Key×V)}{k:Key}{v:V}(e:H a=some (.dK kvs)) (hl:kvs.length<sizeLine):DPut H a (kV k) v (upd H a (.dK (Zdj kvs k v))):=.inl ⟨kvs,k,e,rfl,hl,rfl⟩
theorem DPut.t {H:Hp}{a b:Addr}{kvs:List (List Key×V)}{k:List Key}{v:V}(e:H a=some (.dT kvs)) (eb:H b=some (.tup (k.map kV))) (hl:kvs.length<sizeLine):
  DPut H a (.ref b) v (upd H a (.dT (Zdj kvs k v))):=.inr ⟨kvs,k,b,e,rfl,eb,hl,rfl⟩
section
variable {X:Cx} {pins:List (Addr×Obj)} {σ:St} {H:Hp} {s:Shared} {a:Addr} {y v:V} {u r:Value} {o:Option V} {A:Around} {E:Value→Shared→Prop}
theorem Inv.big (I:Inv X pins σ H s):sysModules<s.heap.objs.size:=by
 have h:mainGlobals<s.heap.objs.size:=(I.mod.glob.keeps I.bk).lt
 exact Nat.lt_trans (by decide) h
theorem d_getItem {Q:Value→Shared→Prop}(hu:A.units + 1<cLine) (I:Inv X pins σ H s) (g:DGet H a y (some v)) (ry:Zcf y u) (h:∀ w' s',Inv X pins σ H s'→Zcf v w'→Q w' s'):
  wpAny (model X.prog X.w) A (getItem (.ref a) u) Q E s:=by
 rcases g with ⟨kvs,k,e,ey,l⟩ | ⟨kvs,k,b,e,ey,eb,l⟩
 ·subst ey
  obtain ⟨z,hd,vs,rel,dd⟩:=dk_rd I.hok e
  obtain ⟨w',hw,rw'⟩:=RelO.some_of (v:=v) (o:=valueAt vs k) (by rw [l];exact rel.val k)
  exact wpAny_getItem_of (kV_is ry) dd.mapOf hw (h w' _ (I.tok _) rw')
 ·subst ey
  cases (show u=Value.ref b from ry)
  obtain ⟨z,hd,xs,rel,dd⟩:=dt_rd I.hok e
  obtain ⟨w',hw,rw'⟩:=RelO.some_of (v:=v) (o:=(atKey xs k).map (·.2)) (by rw [l];exact rel.val k)
  obtain ⟨p,hp,hp2⟩:=Option.map_eq_some_iff.mp hw
  refine wpAny_getItem_heap (tupleKind_room_in1 hu) (key_of I.hok eb) dd hp ?_
  rw [hp2]
  exact h w' _ (I.tok _) rw'
theorem d_in {Q:Value→Shared→Prop}(hu:A.units + 1<cLine) (I:Inv X pins σ H s) (g:DGet H a y o) (ry:Zcf y u) (h:∀ s',Inv X pins σ H s'→Q (.bool o.isSome) s'):
  wpAny (model X.prog X.w) A (compareOp .In u (.ref a)) Q E s:=by
 rcases g with ⟨kvs,k,e,ey,l⟩ | ⟨kvs,k,b,e,ey,eb,l⟩
 ·subst ey
  obtain ⟨z,hd,vs,rel,dd⟩:=dk_rd I.hok e
  refine wpAny_in_of (kV_is ry) hd dd.mapOf ?_
  rw [← (rel.val k).isSome_eq,← l]
  exact h _ (I.tok _)
 ·subst ey
  cases (show u=Value.ref b from ry)
  obtain ⟨z,hd,xs,rel,dd⟩:=dt_rd I.hok e
  refine wpAny_in_heap (tupleKind_room_in1 hu) (key_of I.hok eb) hd dd ?_
  have q:=(rel.val k).isSome_eq
  rw [Option.isSome_map] at q
  rw [← q,← l]
  exact h _ (I.tok _)
theorem d_notIn {Q:Value→Shared→Prop}(hu:A.units + 1<cLine) (I:Inv X pins σ H s) (g:DGet H a y o) (ry:Zcf y u) (h:∀ s',Inv X pins σ H s'→Q (.bool (!o.isSome)) s'):
  wpAny (model X.prog X.w) A (compareOp .NotIn u (.ref a)) Q E s:=by
 rcases g with ⟨kvs,k,e,ey,l⟩ | ⟨kvs,k,b,e,ey,eb,l⟩
 ·subst ey
  obtain ⟨z,hd,vs,rel,dd⟩:=dk_rd I.hok e
  refine wpAny_notIn_of (kV_is ry) hd dd.mapOf ?_
  rw [← (rel.val k).isSome_eq,← l]
  exact h _ (I.tok _)
 ·subst ey
  cases (show u=Value.ref b from ry)
  obtain ⟨z,hd,xs,rel,dd⟩:=dt_rd I.hok e
  refine wpAny_notIn_heap (tupleKind_room_in1 hu) (key_of I.hok eb) hd dd ?_
  have q:=(rel.val k).isSome_eq
  rw [Option.isSome_map] at q
  rw [← q,← l]
  exact h _ (I.tok _)
theorem d_write {h':Heap}{t':Nat}{ob:HO}(I:Inv X pins σ H s) (mu:Mut (H a)) (hs:Heap.SameBut a s.heap h') (he:∃ q,h'.get? a=some q) (new:Zcn X.prog X.w (upd H a ob) h' a ob):
  Inv X pins σ (upd H a ob) { s with heap:=h',toks:=t' } :=
 I.write (x:=a) (e:=a) mu (.inl rfl) (fun b q hb z=>(hs.2 b hb).trans z) he new
theorem dk_new {P:Program}{w:World}{H':Hp}{h':Heap}{kvs:List (Key×V)}{vs:List (Key×Value)}(z:kvs.length≤sizeLine) (hd:(a == sysModules)=false) (rel:KV kvs vs) (dd:h'.DictOf (Zbx P w) a vs):
  Zcn P w H' h' a (.dK kvs):=⟨z,hd,vs,rel,dd⟩
theorem d_setItem {H':Hp}{Q:Unit→Shared→Prop}(hu:A.units + 1<cLine) (I:Inv X pins σ H s) (g:DPut H a y v H') (ry:Zcf y u) (rv:Zcf v r) (h:∀ s',Inv X pins σ H' s'→Q () s'):
  wpAny (model X.prog X.w) A (setItem (.ref a) u r) Q E s:=by
 rcases g with ⟨kvs,k,e,ey,l,eH⟩ | ⟨kvs,k,b,e,ey,eb,l,eH⟩
 ·subst ey eH
  obtain ⟨z,hd,vs,rel,dd⟩:=dk_of I.hok e
  have hz:vs.length≤sizeLine:=by rw [← rel.length];exact z
  have hl:(Zdj kvs k v).length≤sizeLine:=by have:=length_putK kvs k v;omega
  refine wpAny_setItem_pairs (hsz:=hz) (kV_is ry) dd fun h' dd' hs=>h _ ?_
  have he:∃ q,h'.get? a=some q:=let ⟨q,_,_,hq,_⟩:=dd';⟨q,hq⟩
  exact d_write I (by rw [e];exact True.intro) hs he (dk_new hl hd (rel.put k rv) dd')
 ·subst ey eH
  cases (show u=Value.ref b from ry)
  obtain ⟨z,hd,xs,rel,dd⟩:=dt_of I.hok e
  have hz:xs.length≤sizeLine:=by rw [← Paired.length rel];exact z
  have hl:(Zdj kvs k v).length≤sizeLine:=by have:=length_putK kvs k v;omega
  refine wpAny_setItem_heap (hsz:=hz) (tupleKind_room_in1 hu) (key_of I.hok eb) dd fun h' dd' hs=>h _ ?_
  obtain ⟨q,es,ep,hq,h2,h3,h4,_,h5⟩:=dd'
  refine d_write I (by rw [e];exact True.intro) hs ⟨q,hq⟩ ⟨hl,hd,_,(rel.put k eb rv).keeps fun c ys ec=>?_,q,es,ep,hq,h2,h3,h4,h5⟩
  rw [Zab (ne_of ec e (fun z=>nomatch z))]
  exact ec
end
section
variable {X:Cx} {pins:List (Addr×Obj)} {σ:St} {H:Hp} {s:Shared} {a:Addr} {kvs:List (Key×V)} {k:Key} {u:Value} {A:Around} {E:Value→Shared→Prop}
end
def NoSl (i:Expr):Prop:=∀ ov iv,subscripted i false ov iv=operate [ov,iv] (getItem ov iv)
theorem subD_of {prog:Program}{w:World}{A:Around}{E:Value→Shared→Prop}{s:Shared}{env:Env}{value slice:Expr}{pos:Pos}{T id:String}{Q:Value→Shared→Prop}
  (hl:typeLookup (.type T) "__getitem__"=pure (some (.builtin id))) (hs:NoSl slice)
  (h:wpAny (model prog w) A (eval value env) (fun o s₁=>wpAny (model prog w) A (eval slice env) (fun i s₂=>s₂.TypeIs o T∧wpAny (model prog w) A (getItem o i) Q E s₂) E s₁) E s):
  wpAny (model prog w) A (eval (.Subscript value slice pos) env) Q E s:=by
 refine Subscript_ (wpAny_mono h (fun o s₁ h₁=>wpAny_mono h₁ (fun i s₂ h₂=>?_) fun _ _ x=>x) fun _ _ x=>x)
 obtain ⟨hT,h₂⟩:=h₂
 unfold subscriptTail
 refine wpAny_bind ?_
 rw [getitemInPython_of_ne hT.not_modules]
 refine wpAny_bind (wpAny_specialOf hT hl ?_)
 have fin:wpAny (model prog w) A (subscripted slice false o i) (fun r s₃=>wpAny (model prog w) A (letTemporaryGo value o r>>=fun _=>pure r) Q E s₃) E s₂:=by
  rw [hs o i]
  exact wpAny_operating (wpAny_mono h₂ (fun r s₃ h₃=>wpAny_bind (wpAny_letTemporaryGo (wpAny_pure h₃))) fun _ _ x=>x)
 first
  | exact wpAny_pure (wpAny_bind fin)
  | exact wpAny_bind (wpAny_pure (wpAny_bind fin))
  | exact wpAny_bind fin
theorem dict_typeIs {X:Cx}{pins:List (Addr×Obj)}{σ:St}{H:Hp}{s:Shared}{a:Addr}{y:V}{o:Option V}(I:Inv X pins σ H s) (g:DGet H a y o):s.TypeIs (.ref a) "dict":=by
 rcases g with ⟨kvs,k,e,_,_⟩ | ⟨kvs,k,b,e,_,_,_⟩
 ·obtain ⟨_,_,vs,_,dd⟩:=dk_rd I.hok e
  exact dd.typeIs
 ·obtain ⟨_,_,xs,_,dd⟩:=dt_rd I.hok e
  exact dd.typeIs
def tDGet (td ty:TE):TE:=fun σ H Q=>td σ H fun x H1=>ty σ H1 fun y H2=>∃ a v,x=.ref a∧DGet H2 a y (some v)∧Q v H2
def tDIn (ty td:TE):TE:=fun σ H Q=>ty σ H fun y H1=>td σ H1 fun x H2=>∃ a o,x=.ref a∧DGet H2 a y o∧Q (.bl o.isSome) H2
def tDNotIn (ty td:TE):TE:=fun σ H Q=>ty σ H fun y H1=>td σ H1 fun x H2=>∃ a o,x=.ref a∧DGet H2 a y o∧Q (.bl (!o.isSome)) H2
def sDPut (td ty tv:TE):TS:=fun D σ H=>tv σ H fun v H1=>td σ H1 fun x H2=>ty σ H2 fun y H3=>∃ a H4,x=.ref a∧DPut H3 a y v H4∧D.nx σ H4
section
variable {X:Cx} {o i e value:Expr} {pos pos' tpos:Pos} {td ty tv:TE}
theorem Zdk (hu:X.A.units + 1<cLine) (ho:PE X o td) (hi:PE X i ty) (hs:NoSl i):PE X (.Subscript o i pos) (tDGet td ty):=by
 intro pins s σ H Q I h
 refine subD_of PySem.F.slot_dict_getitem.lookup hs (thn (ho pins s σ H _ I h) fun u s1 ⟨x,H1,I1,rx,q1⟩=>thn (hi pins s1 σ H1 _ I1 q1) fun iv s2 ⟨y,H2,I2,ry,a,v,ex,g,q2⟩=>?_)
 subst ex
 obtain rfl:u=Value.ref a:=rx
 exact ⟨dict_typeIs I2 g,d_getItem hu I2 g ry fun w' s3 I3 rw'=>⟨v,H2,I3,rw',q2⟩⟩
theorem pc_din (hu:X.A.units + 1<cLine) (hi:PE X i ty) (ho:PE X o td):PC X .In i o (tDIn ty td):=by
 intro pins s σ H Q I h
 refine thn (hi pins s σ H _ I h) fun iv s1 ⟨y,H1,I1,ry,q1⟩=>thn (ho pins s1 σ H1 _ I1 q1) fun u s2 ⟨x,H2,I2,rx,a,ov,ex,g,q2⟩=>?_
 subst ex
 obtain rfl:u=Value.ref a:=rx
 exact d_in hu I2 g ry fun s3 I3=>⟨.bl ov.isSome,H2,I3,rfl,q2⟩
theorem pc_dnotin (hu:X.A.units + 1<cLine) (hi:PE X i ty) (ho:PE X o td):PC X .NotIn i o (tDNotIn ty td):=by
 intro pins s σ H Q I h
 refine thn (hi pins s σ H _ I h) fun iv s1 ⟨y,H1,I1,ry,q1⟩=>thn (ho pins s1 σ H1 _ I1 q1) fun u s2 ⟨x,H2,I2,rx,a,ov,ex,g,q2⟩=>?_
 subst ex
 obtain rfl:u=Value.ref a:=rx
 exact d_notIn hu I2 g ry fun s3 I3=>⟨.bl (!ov.isSome),H2,I3,rfl,q2⟩
theorem Zen (hu:X.A.units + 1<cLine) (ho:PE X o td) (hi:PE X i ty) (hv:PE X value tv) (hs:swapsWith value (some (.Subscript o i pos')) pos.line X.env=pure false):
  PS X (.Assign [.Subscript o i pos'] value pos) (sDPut td ty tv):=by
 intro pins s σ H D I h
 refine wpAny_Assign_Subscript (thn (hv pins s σ H _ I h) fun r s1 ⟨v,H1,I1,rv,q1⟩=>thn (ho pins s1 σ H1 _ I1 q1) fun u s2 ⟨x,H2,I2,rx,q2⟩=>thn (hi pins s2 σ H2 _ I2 q2) fun iv s3 ⟨y,H3,I3,ry,a,H4,ex,g,q3⟩=>?_) hs
 subst ex
 obtain rfl:u=Value.ref a:=rx
 exact d_setItem hu I3 g ry rv fun s4 I4=>⟨σ,H4,I4,q3⟩
end
theorem dk_empty {P:Program}{w:World}{H:Hp}(h:Heap) (hb:sysModules<h.objs.size):Zcn P w H (h.push { cls:=.type "dict",data:=.dict #[] }) h.objs.size (.dK []):=
 ⟨Nat.zero_le _,beq_eq_false_iff_ne.mpr (Ne.symm (Nat.ne_of_lt hb)),[],.nil,Heap.DictOf.new h⟩
theorem dt_empty {P:Program}{w:World}{H:Hp}(h:Heap) (hb:sysModules<h.objs.size):Zcn P w H (h.push { cls:=.type "dict",data:=.dict #[] }) h.objs.size (.dT []):=
 ⟨Nat.zero_le _,beq_eq_false_iff_ne.mpr (Ne.symm (Nat.ne_of_lt hb)),[],.nil,_,#[],0,Heap.get?_push_size _ rfl,⟨rfl,rfl,rfl⟩,rfl,rfl,List.nodup_nil⟩
def tDNewK:TE:=fun _ H Q=>∀ p,H p=none→Q (.ref p) (upd H p (.dK []))
def tDNewT:TE:=fun _ H Q=>∀ p,H p=none→Q (.ref p) (upd H p (.dT []))
section
variable {X:Cx} {pos:Pos}
theorem Zeb:PE X (.Dict [] [] pos) tDNewK:=fun pins s σ H Q I h =>
 wpAny_Dict_empty ⟨.ref s.heap.objs.size,_,I.laid (a:=s.heap.objs.size) (o:=.dK []) (t':=s.toks) (fun _ _ q=>Heap.get?_push_of_some _ q) (Nat.le_refl _) (dk_empty s.heap I.big),rfl,h _ (I.hok.fresh (Nat.le_refl _))⟩
theorem pe_dnewT:PE X (.Dict [] [] pos) tDNewT:=fun pins s σ H Q I h =>
 wpAny_Dict_empty ⟨.ref s.heap.objs.size,_,I.laid (a:=s.heap.objs.size) (o:=.dT []) (t':=s.toks) (fun _ _ q=>Heap.get?_push_of_some _ q) (Nat.le_refl _) (dt_empty s.heap I.big),rfl,h _ (I.hok.fresh (Nat.le_refl _))⟩
end
def tPairs:List (TE×TE)→St→Hp→(List (V×V)→Hp→Prop)→Prop
 | [],_,H,Q=>Q [] H
 | (tk,tv):: r,σ,H,Q=>tk σ H fun x H1=>tv σ H1 fun y H2=>tPairs r σ H2 fun ps H3=>Q ((x,y):: ps) H3
abbrev VV:List (V×V)→List (Value×Value)→Prop:=Paired fun p q=>Zcf p.1 q.1∧Zcf p.2 q.2
def PPs (X:Cx) (pos:Pos) (keys:List (Option Expr)) (values:List Expr) (trs:List (TE×TE)):Prop :=
 ∀ (pins:List (Addr×Obj)) (s:Shared) (σ:St) (H:Hp) (Q:List (V×V)→Hp→Prop),Inv X pins σ H s→tPairs trs σ H Q →
  wpAny (model X.prog X.w) X.A (evalPairs (pairTrees keys values X.env pos)) (fun vs s'=>∃ ps H',Inv X pins σ H' s'∧VV ps vs∧Q ps H') X.xe s
theorem pps_nil {X:Cx}{pos:Pos}:PPs X pos [] [] []:=fun pins s σ H Q I h=>pairTrees_nil_walk ⟨[],H,I,.nil,h⟩
theorem pps_cons {X:Cx}{pos:Pos}{k v:Expr}{ks:List (Option Expr)}{vs:List Expr}{tk tv:TE}{trs:List (TE×TE)}(hk:PE X k tk) (hv:PE X v tv) (hr:PPs X pos ks vs trs):
  PPs X pos (some k :: ks) (v :: vs) ((tk,tv):: trs):=fun pins s σ H Q I h =>
 pairTrees_cons_walk (thn (hk pins s σ H _ I h) fun u s1 ⟨x,H1,I1,rx,q1⟩=>thn (hv pins s1 σ H1 _ I1 q1) fun w2 s2 ⟨y,H2,I2,ry,q2⟩ =>
  thn (hr pins s2 σ H2 _ I2 q2) fun ws s3 ⟨ps,H3,I3,rel,q3⟩=>⟨(x,y):: ps,H3,I3,.cons ⟨rx,ry⟩ rel,q3⟩)
def mergeK (kvs more:List (Key×V)):List (Key×V):=more.foldl (fun acc kv=>Zdj acc kv.1 kv.2) kvs
theorem KV.merge:∀ {more:List (Key×V)}{rs:List (Key×Value)}{kvs:List (Key×V)}{vs:List (Key×Value)},KV more rs→KV kvs vs→KV (mergeK kvs more) (merged vs rs):=by
 intro more rs kvs vs r
 unfold KV at r
 induction r generalizing kvs vs with
 | nil=>intro q;exact q
 | @cons p q ps qs h t ih =>
  intro r0
  have e:KV (Zdj kvs p.1 p.2) (stored vs q.1 q.2):=by
   have:=r0.put p.1 h.2
   rw [← h.1];exact this
  exact ih e
theorem length_mergeK:∀ (more kvs:List (Key×V)),(mergeK kvs more).length≤kvs.length + more.length
 | [],kvs=>by show kvs.length≤kvs.length + 0;omega
 | p :: r,kvs=>by
  have h1:=length_mergeK r (Zdj kvs p.1 p.2)
  have h2:=length_putK kvs p.1 p.2
  show (mergeK (Zdj kvs p.1 p.2) r).length≤_
  rw [List.length_cons];omega
theorem carries_of {P:Program}{w:World}:∀ {kvs:List (Key×V)}{ws:List (Value×Value)},VV (kvs.map fun kv=>(kV kv.1,kv.2)) ws→∃ rs,Carries (Zbx P w) ws rs∧KV kvs rs
 | [],_,r=>by rw [List.map_nil] at r;cases r;exact ⟨[],True.intro,.nil⟩
 | p :: kvs,_,r=>by
  rw [List.map_cons] at r
  cases r with
  | @cons a b as bs h t =>
   obtain ⟨rs,c,q⟩:=carries_of (P:=P) (w:=w) t
   obtain ⟨b1,b2⟩:=b
   exact ⟨(p.1,b2):: rs,⟨kV_is h.1,rfl,c⟩,.cons ⟨rfl,h.2⟩ q⟩
def tDisp (trs:List (TE×TE)):TE:=fun σ H Q=>∀ p,H p=none→tPairs trs σ (upd H p (.dK [])) fun ps H2=>H2 p=some (.dK [])∧∃ kvs:List (Key×V),ps=kvs.map (fun kv=>(kV kv.1,kv.2))∧kvs.length≤15∧Q (.ref p) (upd H2 p (.dK (mergeK [] kvs)))
theorem pe_disp {X:Cx}{pos:Pos}{keys:List (Option Expr)}{values:List Expr}{trs:List (TE×TE)}(h:PPs X pos keys values trs) (hall:keys.all (·.isSome)=true) (hl:keys.length=values.length) (h0:keys≠[])
  (h15:keys.length≤15):PE X (.Dict keys values pos) (tDisp trs):=by
 intro pins s σ H Q I q
 have hn:=I.hok.fresh (Nat.le_refl s.heap.objs.size)
 have I1:=I.laid (a:=s.heap.objs.size) (o:=.dK []) (h':=s.heap.push { cls:=.type "dict",data:=.dict #[] }) (t':=s.toks) (fun _ _ q=>Heap.get?_push_of_some _ q) (Nat.le_refl _) (dk_empty s.heap I.big)
 refine wpAny_Dict_walk (knd:=Zbx X.prog X.w) hall hl h0 h15 (thn (h pins _ σ _ _ I1 (q _ hn)) fun ws s2 ⟨ps,H2,I2,rel,e,kvs,ep,lk,q2⟩=>?_)
 subst ep
 obtain ⟨rs,c,rk⟩:=carries_of (P:=X.prog) (w:=X.w) rel
 obtain ⟨z,hd,vs0,r0,dd⟩:=dk_of I2.hok e
 cases r0
 refine ⟨rs,c,dd,fun h' dd' hs=>⟨.ref s.heap.objs.size,_,?_,rfl,q2⟩⟩
 have hz:(mergeK [] kvs).length≤sizeLine:=by
  have h1:=length_mergeK kvs []
  rw [List.length_nil] at h1
  rw [sizeLine_eq];omega
 have he:∃ q,h'.get? s.heap.objs.size=some q:=let ⟨q,_,_,hq,_⟩:=dd';⟨q,hq⟩
 exact d_write I2 (by rw [e];exact True.intro) hs he (dk_new hz hd (rk.merge .nil) dd')
structure M1 (X:Cx) (o:Expr) (m:Str) (apos:Pos) (e:Expr) (cpos:Pos):Prop where
 base:attributeBase o m X.env (eval o X.env)=eval o X.env
 few:((backTo cpos (starEach [e] X.env)).all (fun x=>!x.1)&&(backToKw cpos (keywordEach [] X.env)).all (fun x=>x.1.isSome)
  && decide (([e]:List Expr).length + ([]:List Keyword).length + (if ([]:List Keyword).isEmpty then 0 else 1)<30))=true
 line:(apos.endLine == cpos.line)=true
 trees:backTo cpos (starEach [e] X.env)=[(false,eval e X.env)]
structure M2 (X:Cx) (o:Expr) (m:Str) (apos:Pos) (e f:Expr) (cpos:Pos):Prop where
 base:attributeBase o m X.env (eval o X.env)=eval o X.env
 few:((backTo cpos (starEach [e,f] X.env)).all (fun x=>!x.1)&&(backToKw cpos (keywordEach [] X.env)).all (fun x=>x.1.isSome)
  && decide (([e,f]:List Expr).length + ([]:List Keyword).length + (if ([]:List Keyword).isEmpty then 0 else 1)<30))=true
 line:(apos.endLine == cpos.line)=true
 trees:backTo cpos (starEach [e,f] X.env)=[(false,eval e X.env),(false,eval f X.env)]
def IsD (H:Hp) (a:Addr):Prop:=(∃ kvs,Rd H a (.dK kvs))∨∃ kvs,Rd H a (.dT kvs)
theorem isD_at {X:Cx}{pins:List (Addr×Obj)}{σ:St}{H:Hp}{s:Shared}{a:Addr}(I:Inv X pins σ H s) (d:IsD H a):
  s.TypeIs (.ref a) "dict"∧(∀ b,Value.ref a=.ref b→∃ ob,s.heap.get? b=some ob∧ob.dict=none)∧(a == sysModules)=false:=by
 rcases d with ⟨kvs,e⟩ | ⟨kvs,e⟩
 ·obtain ⟨_,hd,vs,_,dd⟩:=dk_rd I.hok e
  refine ⟨dd.typeIs,fun b q=>?_,hd⟩
  cases q
  obtain ⟨ob,_,_,h1,h2,_⟩:=dd
  exact ⟨ob,h1,h2.2.1⟩
 ·obtain ⟨_,hd,xs,_,dd⟩:=dt_rd I.hok e
  refine ⟨dd.typeIs,fun b q=>?_,hd⟩
  cases q
  obtain ⟨ob,_,_,h1,h2,_⟩:=dd
  exact ⟨ob,h1,h2.2.1⟩
section
variable {X:Cx} {pins:List (Addr×Obj)} {σ:St} {H:Hp} {s:Shared} {a:Addr} {y d:V} {u r:Value} {o:Option V} {A:Around} {E:Value→Shared→Prop}
end
section
variable {X:Cx} {o e f:Expr} {apos cpos:Pos} {td ty tx:TE}
end
section
variable {X:Cx} {pins:List (Addr×Obj)} {σ:St} {H:Hp} {s:Shared} {a:Addr} {kvs:List (Key×V)} {A:Around} {E:Value→Shared→Prop}
end
section
variable {X:Cx} {pins:List (Addr×Obj)} {σ:St} {H:Hp} {s:Shared} {a:Addr} {y:V} {u:Value} {A:Around} {E:Value→Shared→Prop}
end
end L2
namespace Att
open PySem PySem.W PySem.Calls PyProof.Rows
theorem ints_of_wellAll {P:Params}{h:Heap}:∀ (ns:List Int) (vs:List Value),WellAll P h vs (ns.map WData.int)→IntsAre vs ns:=by
 intro ns
 induction ns with
 | nil =>
  intro vs w
  rw [List.map_nil] at w
  cases w
  exact .nil
 | cons n ns ih =>
  intro vs w
  rw [List.map_cons] at w
  cases w with
  | cons a b =>
   cases a
   exact .cons _ _ (ih _ b)
theorem script_of {l:OpenLaw}{n:Nat}(hn:l.most=some n) {P:Params}{h:Heap}{args:List WData}{vals:List Value}
  (hpre:l.row.toRowW.claim.pre args=true) (hwl:WellAll P h vals args):
  ∃ a vs ns,vals=[Value.ref a]∧args=[WData.list (ns.map WData.int)]∧h.get? a=some { cls:=.type "list",data:=.seq vs.toArray }∧IntsAre vs ns∧ns.length≤n:=by
 have hsh:WShape.hasAll [] args [.list .int]=true:=(pre_splitW hpre).1
 have hc:l.pre.holds [] { args:=args }=true:=(pre_splitW hpre).2
 obtain ⟨d,r,rfl,h1,h2⟩:=hasAllW_cons hsh
 obtain rfl:=hasAllW_nil h2
 obtain ⟨xs,rfl,h3⟩:=hasW_list h1
 obtain ⟨ns,rfl⟩:=items_int h3
 have hlen:ns.length≤n:=by
  unfold OpenLaw.pre at hc
  have h4:(WTm.not (.lt (.lit (.int (n:Int))) (.len (.arg 0)))).holds [] { args:=[.list (ns.map .int)] }=true:=by
   have h4:=(holds_andW hc).1
   rw [hn] at h4
   exact h4
  have h5:=condW_of h4 (w_not (w_lt w_lit (w_len_list (w_arg rfl))))
  rw [List.length_map] at h5
  refine Nat.le_of_not_lt fun q=>?_
  have q':(n:Int)<((ns.length:Nat):Int):=by omega
  first
   | (rw [decide_eq_true q'] at h5;exact absurd h5 (by decide))
   | (simp at h5;omega)
 cases hwl with
 | cons w1 w2 =>
  cases w2
  cases w1 with
  | list ho hall=>exact ⟨_,_,ns,rfl,rfl,ho,ints_of_wellAll ns _ hall,hlen⟩
theorem post_true (l:OpenLaw) (args:List WData):l.row.toRowW.claim.post args (.bool true) args=true :=
 postW_of (r:=l.row.toRowW) (X:=(true == true))
  (show WShape.has [] (.bool true) .bool=true by first | rfl | decide | simp [WShape.has,WShape.arms,WShape.armsAll])
  (show (WTm.eq .res (.lit (.bool true))).value [] { args:=args,res:=some (.bool true),after:=args }=some (.bool (true == true)) from w_eq_bool (w_res rfl) w_lit) rfl
theorem attach_call {l:OpenLaw}{n:Nat}{q:Program}{loose:List Str}{XP:(Str→Option Value)→Heap→Prop}{YP:World→Heap→Prop}{d:DefRec}
  (hn:l.most=some n) (hdf:d.params.defaults=[])
  (call:∀ (w:World) (s₀ s₁:Shared) (mg mb:Str→Option Value) (fa:Addr) (o:Obj) (pm cd doc:Value) (a:Addr) (vs:List Value) (ns:List Int),
   Ground q loose [] XP w s₀ mg mb s₁.heap→YP w s₁.heap →
   s₁.heap.get? fa=some o→o.data=.func (docDef d.name d.params d.body d.scope pm cd doc)→s₁.heap.CodeRec cd d.name→mg d.name=some (.ref fa) →
   s₁.heap.get? a=some { cls:=.type "list",data:=.seq vs.toArray }→IntsAre vs ns→ns.length≤n→s₁.gens=#[] →
   codeAny (model l.prog w) callerA (.call (.ref fa) ⟨[.ref a],[]⟩) (fun r s'=>r=.ok (.ret (.bool true))∧OldK s₁.heap s'.heap∧s'.os=s₁.os∧AllBare s'.gens) s₁):
  WalkO q loose XP YP l.row.toRowW d [] (fun f vs=>PySem.call f vs):=by
 intro w s₀ s₁ mg mb G Y fa o pm cd doc dV kV ho hd hcd hD hmg hg args vals as hpre hlay hrd hwl hlo
 obtain rfl:dV=.none:=Dflts.none hD hdf
 obtain rfl:kV=.none:=Dflts.noKw hD
 obtain ⟨a,vs,ns,rfl,rfl,hobj,hints,hlen⟩:=script_of hn hpre hwl
 refine enter_call (codeAny_mono (call w s₀ s₁ mg mb fa o pm cd doc a vs ns G Y ho (fd_plain hd) hcd hmg hobj hints hlen hg) fun r s' hq=>?_)
 obtain ⟨rfl,h2,h3,h4⟩:=hq
 exact ⟨.inl ⟨.bool true,.bool true,[],rfl,fun _=>rfl,.bool true,post_true l _,fun _=>⟨List.Pairwise.nil,fun _ hm=>(nomatch hm)⟩⟩,h2,h3,h4⟩
section
variable {prog:Program} {w:World} {A:Around} {E:Value→Shared→Prop} {s:Shared} {K:Frag}
end
end Att
namespace L2
open PySem PySem.Spec PyProof.Rows
theorem vals_ints:∀ {vs:List Value}{ns:List Int},IntsAre vs ns→Zb7 (ns.map V.int) vs
 | _,_,.nil=>.nil
 | _,_,.cons n t h=>.cons ⟨t,rfl⟩ (vals_ints h)
def Only (H:Hp):Prop:=∀ b,H b=none∨∃ o xs,H b=some (.frz o (.lst xs))
theorem law_call {P:Program}{w:World}{K:W.Frag}{mg mb:Str→Option Value}{CX:CXT}{k:Nat}{fa a:Addr}{fd:FuncData}{x:Str}{sp:Sp}{s₁:Shared}{vs:List Value}{ns:List Int}
  (KX:K.In s₁.heap) (hns:s₁.heap.Ns mainGlobals mg) (hb:s₁.heap.Ns builtinsNs mb) (hbb:∀ x:Str,x≠"__name__"→mb x=bootBuiltins x) (hlim:s₁.heap.NoLimit) (hg:s₁.gens=#[])
  (ha:s₁.heap.get? a=some { cls:=.type "list",data:=.seq vs.toArray }) (hi:IntsAre vs ns) (hl:ns.length≤sizeLine) (hr:Zcm k callerA)
  (F:∀ base:Heap,K.In base→base.Ns mainGlobals mg→Zar P w K mg base CX k fa fd [x] sp) (hbind:∀ (s:Shared) (u:Value),BindsTo s fd ⟨[u],[]⟩ [(x,u)])
  (hsp:∀ H:Hp,Only H→SqL K H a (ns.map V.int)→sp [.ref a] H (fun v _=>v=.bl true) fun _ _ _=>False)
  (hCX:∀ H e s',CX [] H s₁ (fun _ _ _=>False) e s'→False):
  codeAny (model P w) callerA (.call (.ref fa) ⟨[.ref a],[]⟩) (fun r s'=>r=.ok (.ret (.bool true))∧OldK s₁.heap s'.heap∧s'.os=s₁.os∧AllBare s'.gens) s₁:=by
 have rv:=vals_ints hi
 have lenV:=hi.length
 have core:∀ H:Hp,Only H→SqL K H a (ns.map V.int)→HOk P w H s₁.heap→(∀ b,H b≠none→b=a)→(H a≠none→K.lookup a=none) →
   codeAny (model P w) callerA (.call (.ref fa) ⟨[.ref a],[]⟩) (fun r s'=>r=.ok (.ret (.bool true))∧OldK s₁.heap s'.heap∧s'.os=s₁.os∧AllBare s'.gens) s₁:=by
  intro H hO hS hok hA hK
  have base_of:∀ {b:Addr} {o:Obj},s₁.heap.get? b=some o→H b=none→(hidT s₁.heap H).get? b=some o:=fun e n=>hidT_get e n
  have noA:∀ {b:Addr} {o:Obj} {es:Array DictEntry} {ep:Nat},s₁.heap.get? b=some o→o.data=.dict es ep→H b=none:=fun {b o es ep} e d=>by
   cases q:H b with
   | none=>rfl
   | some u =>
    have e':b=a:=hA b (by rw [q];simp)
    subst e'
    rw [ha] at e;cases e
    have d':Data.seq vs.toArray _=Data.dict es ep:=d
    cases d'
  have nsK:∀ {b:Addr} {m:Str→Option Value},s₁.heap.Ns b m→(hidT s₁.heap H).Ns b m:=fun {b m} ⟨o,es,ep,e,d,r⟩=>⟨o,es,ep,base_of e (noA e d),d,r⟩
  have hKb:K.In (hidT s₁.heap H):=fun b o e=>base_of (KX b o e) (by
   cases q:H b with
   | none=>rfl
   | some u =>
    have e':b=a:=hA b (by rw [q];simp)
    subst e'
    rw [hK (by rw [q];simp)] at e;cases e)
  have hM:Mod K mg (hidT s₁.heap H):=⟨hKb,nsK hns,⟨mb,nsK hb,hbb⟩,let ⟨mc,h1,h2⟩:=hlim;⟨mc,nsK h1,h2⟩⟩
  have e0:Env0 P w K mg (hidT s₁.heap H) callerA [] s₁ H:=⟨rfl,hM,fun b o e=>of_hidT e,Nat.le_of_eq (hidT_size _ _),trivial,fun b hb=>absurd (show b∈([]:List Addr) from hb) (by simp),hok,.of_eq hg⟩
  refine codeAny_mono ((F _ hKb (nsK hns)).run callerA [] s₁ H ⟨[.ref a],[]⟩ [.ref a] [.ref a] _ _ hr e0 (hbind s₁ (.ref a)) (.cons rfl .nil) (hsp H hO hS)) fun r s' h=>?_
  cases r with
  | error e=>exact (hCX H e s' h).elim
  | ok fl =>
   cases fl with
   | next=>exact False.elim h
   | brk=>exact False.elim h
   | cont=>exact False.elim h
   | ret u =>
    obtain ⟨v,H',os,bare,un,hok',r',q⟩:=h
    have q':v=.bl true:=q
    subst q'
    obtain rfl:u=Value.bool true:=r'
    refine ⟨rfl,OldK.of_keep fun b o e=>?_,os,bare⟩
    cases q:H b with
    | none=>exact un.keep b o e q (by intro z;exact absurd (show b∈([]:List Addr) from z) (by simp)) (by simp)
    | some u =>
     rcases hO b with z | ⟨ob,xs,z⟩
     ·rw [q] at z;cases z
     ·have z2:=un.frzs b ob _ z
      obtain ⟨e1,_⟩:=hok b _ z
      obtain ⟨e2,_⟩:=hok' b _ z2
      rw [e] at e1;cases e1
      exact e2
 cases hk:K.lookup a with
 | some o =>
  have e:=KX a o hk
  rw [ha] at e
  cases e
  refine core (fun _=>none) (fun _=>.inl rfl) (.inr ⟨_,vs.toArray,_,hk,rfl,rfl,rfl,by rw [List.size_toArray,lenV];exact hl,by simpa using rv⟩) (fun b u z=>by have z':(none:Option HO)=some u:=z;cases z') (fun b z=>absurd rfl z) fun z=>absurd rfl z
 | none =>
  refine core (fun b=>if b=a then some (.frz { cls:=.type "list",data:=.seq vs.toArray } (.lst (ns.map V.int))) else none) (fun b=>?_) (.inl (.inr ⟨{ cls:=.type "list",data:=.seq vs.toArray },if_pos rfl⟩)) (fun b u z=>?_) (fun b z=>?_) fun _=>hk
  ·by_cases hb:b=a
   ·exact .inr ⟨_,_,if_pos hb⟩
   ·exact .inl (if_neg hb)
  ·by_cases hb:b=a
   ·have z':=(if_pos hb).symm.trans z
    cases z'
    subst hb
    exact ⟨ha,by rw [List.length_map];exact hl,vs,_,rv,ha⟩
   ·have z':=(if_neg hb).symm.trans z
    cases z'
  ·by_cases hb:b=a
   ·exact hb
   ·exact absurd (if_neg hb) z
end L2
namespace L2
open PySem PySem.Spec PyProof.Rows
theorem walk_of {l:W.OpenLaw}{n k:Nat}{q:Program}{loose:List Str}{XP:(Str→Option Value)→Heap→Prop}{YP:World→Heap→Prop}{d:DefRec}{K:Params→W.Frag}{CX:World→CXT}{sp:World→Sp}{x:Str}
  (hn:l.most=some n) (hn2:n≤sizeLine) (hdf:d.params.defaults=[]) (hr:Zcm k callerA)
  (hY:∀ (w:World) (h:Heap),YP w h→(K w.params).In h)
  (F:∀ (w:World) (mg:Str→Option Value) (fa:Addr) (h:Heap),(K w.params).In h→h.Ns mainGlobals mg→mg d.name=some (.ref fa) →
   ∃ fd:FuncData,(∀ (s:Shared) (u:Value),BindsTo s fd ⟨[u],[]⟩ [(x,u)]) ∧
    ∀ base:Heap,(K w.params).In base→base.Ns mainGlobals mg→Zar l.prog w (K w.params) mg base (CX w) k fa fd [x] (sp w))
  (hsp:∀ (w:World) (H:Hp) (a:Addr) (ns:List Int),ns.length≤n→Only H→SqL (K w.params) H a (ns.map V.int)→sp w [.ref a] H (fun v _=>v=.bl true) fun _ _ _=>False)
  (hCX:∀ (w:World) (H:Hp) (s:Shared) (e:Value) (s':Shared),CX w [] H s (fun _ _ _=>False) e s'→False):
  W.WalkO q loose XP YP l.row.toRowW d [] (fun f vs=>PySem.call f vs):=by
 refine Att.attach_call hn hdf fun w s₀ s₁ mg mb fa o pm cd doc a vs ns G Y ho hd hcd hmg hobj hints hlen hg=>?_
 have KX:=hY w _ Y
 obtain ⟨fd,hb,hF⟩:=F w mg fa _ KX G.T.g hmg
 exact law_call KX G.T.g G.T.b G.T.builtins G.T.nolimit hg hobj hints (Nat.le_trans hlen hn2) hr hF hb (fun H hO hS=>hsp w H a ns hlen hO hS) fun H e s'=>hCX w H s₁ e s'
end L2
namespace L2
open PySem PySem.Spec PyProof.Rows
def Zcl (s:Stmt) (j:Nat):Stmt:=match s with
 | .ClassDef _ _ _ body _ _ _ _ _ _ _=>body.getD j (.Pass ⟨0,0,0,0⟩)
 | _=>.Pass ⟨0,0,0,0⟩
def Zcu (s:Stmt):Arguments:=match s with
 | .FunctionDef _ a _ _ _ _ _ _ _ _=>a
 | _=>{ posonlyargs:=[],args:=[],vararg:=none,kwonlyargs:=[],kw_defaults:=[],kwarg:=none,defaults:=[] }
def Zbs (s:Stmt):List Stmt:=match s with
 | .FunctionDef _ _ b _ _ _ _ _ _ _=>b
 | _=>[]
def Zad (s:Stmt):Scope:=match s with
 | .FunctionDef _ _ _ _ _ _ sc _ _ _=>sc
 | _=>{ kind:=.function,names:=[],isGenerator:=false,isCoroutine:=false }
abbrev CX0:CXT:=fun _ _ _ _ _ _=>False
abbrev E0:XK:=fun _ _ _=>False
theorem Zde {X:Cx}:Passes CX0 X E0:=fun _ _ _ _ _ _ _ h=>h.elim
structure Fun (K:W.Frag) (x qual:Str) (st:Stmt) (f:Addr) (fd:FuncData):Prop where
 ex:∃ (oc:Value) (od:Option Addr) (kV doc pm:Value) (an:Option Addr) (cdv ct:Value) (osl:Array (Option Value)),
  fd=W.fnOf x qual (Zcu st) (Zbs st) (Zad st) .none kV doc pm an cdv ct∧K.lookup f=some ⟨oc,od,.func fd,osl⟩∧W.codeIn K cdv qual=true
 kp:W.keepIn K (.ref f)=true
section
variable {P:Program} {w:World} {K:W.Frag} {mg:Str→Option Value} {base:Heap}
theorem Fun.ok {x qual:Str}{st:Stmt}{f:Addr}{fd:FuncData}{N ps:List Str}{k:Nat}{sp:Sp}(F:Fun K x qual st f fd) (S:Zai N ps (Zad st)) (len:∀ vs H Q E,sp vs H Q E→vs.length=ps.length)
  (hbody:∀ (cdv:Value) (A:Around) (outer:List Env) (s:Shared) (H:Hp) (vs:List V) (Q:VK) (E:XK),Zcm k (A.deeper (envOfC qual (Zad st) s.heap.objs.size f cdv))→sp vs H Q E →
   ∃ t,PSs (cxOf CX0 P w K mg base N qual (Zad st) f cdv A outer s H E).nox (Zbs st) t∧t { nx:=fun _ H'=>Q .non H',rt:=Q } (start N vs) H):Zar P w K mg base CX0 (k + 1) f fd ps sp:=by
 obtain ⟨oc,od,kV,doc,pm,an,cdv,ct,osl,rfl,lk,hcd⟩:=F.ex
 refine fn_of lk hcd S len fun A outer s H vs Q E hr hsp=>?_
 obtain ⟨t,h,q⟩:=hbody cdv A outer s H vs Q E hr hsp
 exact ⟨t,h.nox,q⟩
theorem Fun.binds {x qual:Str}{st:Stmt}{f:Addr}{fd:FuncData}{ps:List Str}(F:Fun K x qual st f fd)
  (h:∀ (kV doc pm:Value) (an:Option Addr) (cdv ct:Value) (us:List Value),us.length=ps.length→bindArgs (W.fnOf x qual (Zcu st) (Zbs st) (Zad st) .none kV doc pm an cdv ct) ⟨us,[]⟩=pure (ps.zip us)):Zes K fd ps []:=by
 obtain ⟨oc,od,kV,doc,pm,an,cdv,ct,osl,rfl,lk,hcd⟩:=F.ex
 exact .all (h kV doc pm an cdv ct)
theorem fun_mk {x qual:Str}{st:Stmt}{f:Addr}{oc:Value}{od an:Option Addr}{osl:Array (Option Value)}{kV doc pm cdv ct:Value}(l:K.lookup f=some ⟨oc,od,.func (W.fnOf x qual (Zcu st) (Zbs st) (Zad st) .none kV doc pm an cdv ct),osl⟩)
  (c:W.codeIn K cdv qual=true) (k:W.keepIn K (.ref f)=true):Fun K x qual st f (W.fnOf x qual (Zcu st) (Zbs st) (Zad st) .none kV doc pm an cdv ct):=⟨⟨oc,od,kV,doc,pm,an,cdv,ct,osl,rfl,l,c⟩,k⟩
end
theorem Zfp {A:Around}{k:Nat}(hr:Zcm k A):A.units + 1<cLine:=Nat.lt_of_le_of_lt (Nat.add_le_add_left (by decide:1≤64) _) hr.units
section
variable {X:Cx}
theorem pv (i:Nat) {x:Str}{pos:Pos}(hN:X.N[i]?=some x:=by rfl) (hv:Vis X.env.scope x:=by first | exact Or.inl rfl | exact Or.inr (Or.inl rfl) | exact Or.inr (Or.inr rfl)) (hd:(x == ("__debug__":Str))=false:=by decide)
  (hcd:(x == ("__classdict__":Str))=false:=by decide):PE X (.Name x pos) (tVar i):=pe_var hN hv hd hcd
end
theorem Zdv {A B:Prop}(h:B):if false=true then A else B:=by
 rw [if_neg Bool.false_ne_true]
 exact h
theorem iteT {A B:Prop}(h:A):if true=true then A else B:=by
 rw [if_pos rfl]
 exact h
theorem Zed {c A B:Prop} [Decidable c] (h1:c→A) (h2:¬ c→B):if c then A else B:=by
 by_cases h:c
 ·rw [if_pos h]
  exact h1 h
 ·rw [if_neg h]
  exact h2 h
def Zaj (H H':Hp):Prop:=∀ b o,H b=some o→H' b=some o
theorem Zaj.refl (H:Hp):Zaj H H:=fun _ _ h=>h
theorem Zaj.trans {H H1 H2:Hp}(a:Zaj H H1) (b:Zaj H1 H2):Zaj H H2:=fun c o h=>b c o (a c o h)
theorem Zaj.free {H H':Hp}(e:Zaj H H') {l:Addr}(h:H' l=Option.none):H l=Option.none:=by
 cases q:H l with
 | none=>rfl
 | some o =>
  rw [e l o q] at h
  cases h
theorem Zaj.seq {K:W.Frag}{H H':Hp}{a:Addr}{xs:List V}(e:Zaj H H') (h:SqL K H a xs):SqL K H' a xs:=by
 rcases h with (h | ⟨o,h⟩) | h
 ·exact .inl (.inl (e _ _ h))
 ·exact .inl (.inr ⟨o,e _ _ h⟩)
 ·exact .inr h
end L2
namespace L2
open PySem PySem.Spec PyProof.Rows
section
variable {X:Cx}
end
section
variable {κ:Type} [DecidableEq κ]
theorem valV_not {kvs:List (κ×V)}{k:κ}(h:Zet kvs k=none):¬ k∈kvs.map (·.1):=by
 intro m
 obtain ⟨p,hp,e⟩:=List.mem_map.mp m
 have q:(kvs.any fun kv=>decide (kv.1=k))=true:=List.any_eq_true.mpr ⟨p,hp,decide_eq_true e⟩
 rw [Zfq,h] at q
 exact absurd q (by simp)
theorem valV_in {kvs:List (κ×V)}{k:κ}{v:V}(h:Zet kvs k=some v):k∈kvs.map (·.1):=by
 have q:(kvs.any fun kv=>decide (kv.1=k))=true:=by
  rw [Zfq,h]
  all_goals rfl
 obtain ⟨p,hp,e⟩:=List.any_eq_true.mp q
 exact List.mem_map.mpr ⟨p,hp,of_decide_eq_true e⟩
end
end L2
set_option maxHeartbeats 4000000
namespace HT
open PySem PyProof.Rows
open PySem.SeqAt
open PySem.AutoSeq1 (wpAny_loadPart')
open PySem.MeetsSeq PySem.MeetsSeq2 PySem.MeetsSeq3
section
variable {prog:Program} {w:World} {A:Around} {E:Value→Shared→Prop} {s:Shared}
end
end HT
namespace L2
open PySem PySem.Spec PyProof.Rows
structure Runs (J:It) (xs:List V) (Ok:Hp→Prop):Prop where
 go:∀ (i:Nat) (x:V) (H:Hp),Ok H→xs[i]?=some x→J.go i H
 yld:∀ (i:Nat) (x:V) (H:Hp) (y:V) (H':Hp),Ok H→xs[i]?=some x→J.yld i H y H'→y=x∧H'=H
 stop:∀ (H:Hp),Ok H→J.stop xs.length H
theorem Zat {K:W.Frag}{a:Addr}{xs:List V}:Runs (Itl K a) xs (fun H=>SqL K H a xs) where
 go:=fun i x H ok hx=>⟨xs,x,ok,hx⟩
 yld:=fun i x H y H' ok hx h=>by
  obtain ⟨e,h⟩:=h
  have q:=h xs ok
  rw [hx] at q
  exact ⟨(Option.some.inj q).symm,e⟩
 stop:=fun H ok=>⟨xs,ok,Nat.le_refl _⟩
theorem Zc7 {K:W.Frag}{a:Addr}{xs:List V}:Runs (Itt K a) xs (fun H=>SqT K H a xs) where
 go:=fun i x H ok hx=>⟨xs,x,ok,hx⟩
 yld:=fun i x H y H' ok hx h=>by
  obtain ⟨e,h⟩:=h
  have q:=h xs ok
  rw [hx] at q
  exact ⟨(Option.some.inj q).symm,e⟩
 stop:=fun H ok=>⟨xs,ok,Nat.le_refl _⟩
def Zcq (lo:Int) (n:Nat):List V:=(List.range n).map fun (k:Nat)=>V.int (lo + (k:Int))
theorem Zay (lo:Int) (n:Nat):(Zcq lo n).length=n:=by unfold Zcq;rw [List.length_map,List.length_range]
theorem Zaz {lo:Int}{n i:Nat}{x:V}(h:(Zcq lo n)[i]?=some x):i<n∧x=V.int (lo + (i:Int)):=by
 have hi:i<n:=by
  have:=(List.getElem?_eq_some_iff.mp h).1
  rwa [Zay] at this
 refine ⟨hi,?_⟩
 unfold Zcq at h
 rw [List.getElem?_map,List.getElem?_range hi] at h
 exact (Option.some.inj h).symm
theorem Zbg {lo:Int}{n:Nat}:Runs (Itr lo n) (Zcq lo n) (fun _=>True) where
 go:=fun i x H _ hx=>(Zaz hx).1
 yld:=fun i x H y H' _ hx h=>by
  obtain ⟨e,h⟩:=h
  exact ⟨h.trans (Zaz hx).2.symm,e⟩
 stop:=fun H _=>by
  show n≤(Zcq lo n).length
  rw [Zay]
  exact Nat.le_refl _
theorem Zaq {J:It}{xs:List V}{Ok:Hp→Prop}(R:Runs J xs Ok) {g:TG}{tb:TS}{D:Ends}{σ:St}{H:Hp}(Pv:Nat→St→Hp→Prop) (h0:Pv 0 σ H) (hl:∀ i σ H,i≤xs.length→Pv i σ H→Ok H)
  (hs:∀ i x σ H,xs[i]?=some x→Pv i σ H→g x σ H fun σ2 H2=>tb { D with nx:=Pv (i + 1),ct:=Pv (i + 1),bk:=D.nx } σ2 H2) (hd:∀ σ H,Pv xs.length σ H→D.nx σ H):
  ∃ W:Nat→Nat→St→Hp→Prop,(∃ m,W 0 m σ H)∧∀ i m σ H,W i m σ H →
   (J.stop i H∧D.nx σ H)∨(J.go i H∧∃ N:St→Hp→Prop,(∀ σ' H',N σ' H'→∃ m',m'<m∧W (i + 1) m' σ' H')∧∀ x H',J.yld i H x H'→g x σ H' fun σ2 H2=>tb { D with nx:=N,ct:=N,bk:=D.nx } σ2 H2):=by
 refine ⟨fun i m σ H=>m=xs.length - i∧i≤xs.length∧Pv i σ H,⟨xs.length,by simp,Nat.zero_le _,h0⟩,?_⟩
 rintro i m σ H ⟨rfl,hi,p⟩
 have q:=hl i σ H hi p
 by_cases hlt:i<xs.length
 ·have hx:xs[i]?=some xs[i]:=by simp [hlt]
  refine .inr ⟨R.go i _ H q hx,Pv (i + 1),fun σ' H' p'=>⟨xs.length - (i + 1),by omega,rfl,hlt,p'⟩,fun x H' y=>?_⟩
  obtain ⟨e1,e2⟩:=R.yld i _ H x H' q hx y
  rw [e2]
  exact hs i x σ H (by rw [e1];exact hx) p
 ·have e:i=xs.length:=by omega
  subst e
  exact .inl ⟨R.stop H q,hd σ H p⟩
def Its (x:Str):It:=⟨fun i _=>i<x.cps.size,fun i H v H'=>H'=H∧∃ c,x.cps[i]?=some c∧v=.str ⟨#[c]⟩,fun i _=>x.cps.size≤i⟩
def signsV (x:Str):List V:=x.cps.toList.map fun c=>V.str ⟨#[c]⟩
theorem runs_str {x:Str}:Runs (Its x) (signsV x) (fun _=>True) where
 go:=fun i y H _ hx=>by
  have:=(List.getElem?_eq_some_iff.mp hx).1
  unfold signsV at this
  rw [List.length_map] at this
  show i<x.cps.size
  simpa using this
 yld:=fun i y H z H' _ hx h=>by
  obtain ⟨e,c,hc,hz⟩:=h
  refine ⟨?_,e⟩
  unfold signsV at hx
  rw [List.getElem?_map,Array.getElem?_toList,hc] at hx
  rw [hz]
  exact Option.some.inj hx
 stop:=fun H _=>by
  show x.cps.size≤(signsV x).length
  unfold signsV
  simp
theorem turn_str {P:Program}{w:World}{K:W.Frag}{tg:Expr}(x:Str) (t:Tok) (it:Addr) (ty:String) (hty:ty="str_ascii_iterator"∨ty="str_iterator"):
  Turn P w K tg (Its x) [it] it (fun i h=>h.IsStrIter it ty x t i) where
 mem:=by simp
 obj:=fun i h st b hb=>by
  have e:b=it:=by simpa using hb
  subst e
  obtain ⟨o,e,c,d⟩:=st
  exact ⟨o,e,fun v z=>by rw [d] at z;cases z⟩
 keep:=fun i h h' st k=>by
  obtain ⟨o,ho,r⟩:=st
  exact ⟨o,k it (by simp) o ho,r⟩
 item:=by
  intro X hP hw hK hc i pins s σ H E I hf st hg
  subst hP hw hK
  obtain ⟨f0,f1,f2,f3,f4,f5⟩:=hf it (by simp)
  have hi:i<x.cps.size:=hg
  have hx:x.cps[i]?=some x.cps[i]:=by simp [hi]
  have fin:∀ h':Heap,h'.IsStrIter it ty x t (i + 1)→Heap.SameBut it s.heap h'→∃ u,some (Value.str ⟨#[x.cps[i]]⟩ s.toks)=some u ∧
    wpAny (model X.prog X.w) X.A (letOwnedTupleGo tg (.ref it) u) (fun _ s2=>∃ y H',Inv X pins σ H' s2∧Zcf y u∧(Its x).yld i H y H'∧s2.heap.IsStrIter it ty x t (i + 1)∧∀ b∈[it],H' b=none) E { s with heap:=h',toks:=s.toks + 1 }:=fun h' st' sb=>by
   have I1:Inv X pins σ H { s with heap:=h',toks:=s.toks + 1 }:=I.turned (fun b o hb e=>(sb.2 b hb).trans e) f0 f1 f3 f4 f5
   obtain ⟨o,e,c,d⟩:=id st'
   refine ⟨_,rfl,go_of (s:={ s with heap:=h',toks:=s.toks + 1 }) e c d ?_ ⟨.str ⟨#[x.cps[i]]⟩,H,I1,⟨_,rfl⟩,⟨rfl,_,hx,rfl⟩,st',fun b hb=>(hf b hb).1⟩⟩
   rcases hty with rfl | rfl <;> decide
  rcases hty with rfl | rfl
  ·exact wpAny_pyNext_ascii_item st hx fun h' st' sb=>fin h' st' sb
  ·exact wpAny_pyNext_wide_item st hx fun h' st' sb=>fin h' st' sb
 done:=by
  intro X hP hw hK hc i pins s σ H E I hf st hg
  subst hP hw hK
  obtain ⟨f0,f1,f2,f3,f4,f5⟩:=hf it (by simp)
  have hi:x.cps.size≤i:=hg
  have hx:x.cps[i]?=none:=by simp [hi]
  rcases hty with rfl | rfl
  ·exact wpAny_pyNext_ascii_end (I.ok.hd hc) st hx fun h' eb=>⟨rfl,I.turned (t':=s.toks) (fun b o hb e=>eb b o hb e) f0 f1 f3 f4 f5⟩
  ·exact wpAny_pyNext_wide_end (I.ok.hd hc) st hx fun h' eb=>⟨rfl,I.turned (t':=s.toks) (fun b o hb e=>eb b o hb e) f0 f1 f3 f4 f5⟩
 self:=fun _ _ _ _ _ st h=>by
  rcases hty with rfl | rfl
  ·exact wpAny_pyIter_striter_ascii st h
  ·exact wpAny_pyIter_striter_wide st h
section
variable {X:Cx} {tg:Expr}
def iStr (tl:TE):TI:=fun σ H R=>tl σ H fun x H1=>∃ z,x=.str z∧R (Its z) H1
theorem pi_str {l:Expr}{tl:TE}(hl:PE X l tl):PI X tg l (iStr tl):=by
 intro pins s σ H R I h
 refine thn (hl pins s σ H _ I h) fun v s1 ⟨x,H1,I1,r1,q1⟩=>?_
 obtain ⟨z,e,q⟩:=q1
 subst e
 obtain ⟨t,rfl⟩:=r1
 have fp:∀ b∈[s1.heap.objs.size],FpOk X pins H1 b:=fun b hb=>by
  have e:b=s1.heap.objs.size:=by simpa using hb
  subst e
  exact I1.fpOk (Nat.le_refl _) (I1.hok.fresh (Nat.le_refl _))
 cases ha:z.cps.all (·<128) with
 | false =>
  refine wpAny_pyIter_wide ha ?_
  exact ⟨s1.heap.objs.size,[s1.heap.objs.size],_,_,H1,rfl,I1.kept (t':=s1.toks) fun b o e=>Heap.get?_push_of_some _ e,turn_str z t _ "str_iterator" (.inr rfl),⟨_,Heap.get?_push_size _ rfl,rfl,rfl⟩,fp,q⟩
 | true =>
  refine wpAny_pyIter_ascii ha ?_
  exact ⟨s1.heap.objs.size,[s1.heap.objs.size],_,_,H1,rfl,I1.kept (t':=s1.toks) fun b o e=>Heap.get?_push_of_some _ e,turn_str z t _ "str_ascii_iterator" (.inl rfl),⟨_,Heap.get?_push_size _ rfl,rfl,rfl⟩,fp,q⟩
end
def clOf (env:Env):List (Str×NameKind)→List (Str×Addr)→List (Str×Addr)
 | [],acc=>acc
 | (n,k):: r,acc=>if (k == NameKind.free)=true then clOf env r ((n,(env.cells.lookup n).getD 0):: acc) else clOf env r acc
theorem cellOf_some {env:Env}{n:Str}{c:Addr}(h:env.cells.lookup n=some c):cellOf env n=pure c:=by
 unfold cellOf
 rw [h]
theorem closureFor_of {scope:Scope}{env:Env}(h:∀ y∈scope.names,y.2=.free→∃ c,env.cells.lookup y.1=some c):closureFor scope env=pure (clOf env scope.names []):=by
 have key:∀ (l:List (Str×NameKind)) (acc:List (Str×Addr)),(∀ y∈l,y.2=.free→∃ c,env.cells.lookup y.1=some c) →
   (forIn l acc fun (x:Str×NameKind) (r:List (Str×Addr))=>(match x with
    | (name,kind)=>if (kind == NameKind.free)=true then (do let a ← cellOf env name;pure (ForInStep.yield ((name,a):: r))) else pure (ForInStep.yield r):Sem (ForInStep (List (Str×Addr)))))=pure (clOf env l acc):=by
  intro l
  induction l with
  | nil=>intro acc _;rfl
  | cons y r ih =>
   intro acc hy
   obtain ⟨n,k⟩:=y
   have ih':=fun acc=>ih acc fun z hz=>hy z (List.mem_cons_of_mem _ hz)
   rw [List.forIn_cons]
   by_cases hk:(k == NameKind.free)=true
   ·obtain ⟨c,hc⟩:=hy (n,k) List.mem_cons_self (by simpa using hk)
    have hc:env.cells.lookup n=some c:=hc
    simp only [hk,if_true,cellOf_some hc]
    unfold clOf
    rw [if_pos hk,hc]
    exact ih' _
   ·simp only [hk]
    unfold clOf
    rw [if_neg hk]
    exact ih' _
 unfold closureFor
 have q:=key scope.names [] h
 show ((forIn scope.names [] _:Sem (List (Str×Addr)))>>=fun r=>pure r)=_
 first
  | (rw [show (forIn scope.names [] _:Sem (List (Str×Addr)))=_ from q];rfl)
  | (refine (congrArg (fun m=>m>>=fun r=>pure r) q).trans ?_;rfl)
theorem clOf_lookup {env:Env}:∀ (l:List (Str×NameKind)) (acc:List (Str×Addr)) (x:Str) (c:Addr),(∀ y∈l,y.2=.free→∃ c,env.cells.lookup y.1=some c) →
  (∀ x c,acc.lookup x=some c→env.cells.lookup x=some c)→(clOf env l acc).lookup x=some c→env.cells.lookup x=some c
 | [],acc,x,c,_,ha,h=>ha x c h
 | (n,k):: r,acc,x,c,hy,ha,h=>by
  have hr:∀ y∈r,y.2=.free→∃ c,env.cells.lookup y.1=some c:=fun y hy'=>hy y (List.mem_cons_of_mem _ hy')
  unfold clOf at h
  by_cases hk:(k == NameKind.free)=true
  ·rw [if_pos hk] at h
   refine clOf_lookup r _ x c hr (fun z d hz=>?_) h
   obtain ⟨c',hc'⟩:=hy (n,k) List.mem_cons_self (by simpa using hk)
   have hc':env.cells.lookup n=some c':=hc'
   rw [List.lookup_cons] at hz
   by_cases e:(z == n)=true
   ·simp only [e] at hz
    have e':z=n:=by simpa using e
    rw [e',hc']
    rw [hc'] at hz
    exact hz
   ·have e':(z == n)=false:=by simpa using e
    simp only [e'] at hz
    exact ha z d hz
  ·rw [if_neg hk] at h
   exact clOf_lookup r acc x c hr ha h
theorem clOf_keeps {env:Env}:∀ (l:List (Str×NameKind)) (acc:List (Str×Addr)) (x:Str),(acc.lookup x).isSome=true→((clOf env l acc).lookup x).isSome=true
 | [],acc,x,h=>h
 | (n,k):: r,acc,x,h=>by
  unfold clOf
  by_cases hk:(k == NameKind.free)=true
  ·rw [if_pos hk]
   refine clOf_keeps r _ x ?_
   rw [List.lookup_cons]
   cases e:(x == n) with
   | true=>rfl
   | false=>exact h
  ·rw [if_neg hk]
   exact clOf_keeps r acc x h
theorem clOf_has {env:Env}:∀ (l:List (Str×NameKind)) (acc:List (Str×Addr)) (x:Str),(x,NameKind.free)∈l→((clOf env l acc).lookup x).isSome=true
 | [],acc,x,h=>nomatch h
 | (n,k):: r,acc,x,h=>by
  unfold clOf
  rcases List.mem_cons.mp h with e | h
  ·injection e with e1 e2
   subst e1
   subst e2
   rw [if_pos (by decide)]
   refine clOf_keeps r _ x ?_
   rw [List.lookup_cons]
   simp
  ·by_cases hk:(k == NameKind.free)=true
   ·rw [if_pos hk]
    exact clOf_has r _ x h
   ·rw [if_neg hk]
    exact clOf_has r _ x h
theorem Zep {env:Env}:∀ {names:List (Str×NameKind)}{x:Str},names.lookup x=some .free →
  (names.map fun (n,k)=>if (k == NameKind.free&&env.scope.kind == .function&&env.kindOf n == some .cell) then (n,NameKind.cell) else (n,k)).lookup x=some .cell ∨
  (names.map fun (n,k)=>if (k == NameKind.free&&env.scope.kind == .function&&env.kindOf n == some .cell) then (n,NameKind.cell) else (n,k)).lookup x=some .free
 | [],_,h=>by simp at h
 | (n,k):: r,x,h=>by
  have ih:=@Zep env r x
  rw [List.map_cons]
  show List.lookup x ((if (k == NameKind.free&&env.scope.kind == .function&&env.kindOf n == some .cell)=true then (n,NameKind.cell) else (n,k)):: _)=_∨List.lookup x ((if (k == NameKind.free&&env.scope.kind == .function&&env.kindOf n == some .cell)=true then (n,NameKind.cell) else (n,k)):: _)=_
  cases hx:x == n with
  | true =>
   simp only [List.lookup_cons,hx] at h
   cases h
   by_cases hc:(NameKind.free == NameKind.free&&env.scope.kind == .function&&env.kindOf n == some .cell)=true
   ·rw [if_pos hc];simp only [List.lookup_cons,hx];exact .inl trivial
   ·rw [if_neg hc];simp only [List.lookup_cons,hx];exact .inr trivial
  | false =>
   simp only [List.lookup_cons,hx] at h
   by_cases hc:(k == NameKind.free&&env.scope.kind == .function&&env.kindOf n == some .cell)=true
   ·rw [if_pos hc];simp only [List.lookup_cons,hx];exact ih h
   ·rw [if_neg hc];simp only [List.lookup_cons,hx];exact ih h
end L2
namespace L2
open PySem PySem.Spec PyProof.Rows
theorem Ze7 {env:Env}:∀ {names:List (Str×NameKind)}{x:Str},
  ((names.map fun (n,k)=>if (k == NameKind.free&&env.scope.kind == .function&&env.kindOf n == some .cell) then (n,NameKind.cell) else (n,k)).lookup x=some .cell ∨
  (names.map fun (n,k)=>if (k == NameKind.free&&env.scope.kind == .function&&env.kindOf n == some .cell) then (n,NameKind.cell) else (n,k)).lookup x=some .free) →
  names.lookup x=some .free∨names.lookup x=some .cell
 | [],_,h=>by simp at h
 | (n,k):: r,x,h=>by
  have ih:=@Ze7 env r x
  rw [List.map_cons] at h
  change List.lookup x ((if (k == NameKind.free&&env.scope.kind == .function&&env.kindOf n == some .cell)=true then (n,NameKind.cell) else (n,k)):: _)=_∨List.lookup x ((if (k == NameKind.free&&env.scope.kind == .function&&env.kindOf n == some .cell)=true then (n,NameKind.cell) else (n,k)):: _)=_ at h
  cases hx:x == n with
  | true =>
   simp only [List.lookup_cons,hx]
   by_cases hc:(k == NameKind.free&&env.scope.kind == .function&&env.kindOf n == some .cell)=true
   ·left
    have:(k == NameKind.free)=true:=by
     cases hk:(k == NameKind.free) with
     | true=>rfl
     | false=>rw [hk] at hc;simp at hc
    have:k=NameKind.free:=by simpa using this
    rw [this]
   ·rw [if_neg hc] at h
    simp only [List.lookup_cons,hx] at h
    rcases h with h | h
    ·exact .inr h
    ·exact .inl h
  | false =>
   simp only [List.lookup_cons,hx]
   apply ih
   by_cases hc:(k == NameKind.free&&env.scope.kind == .function&&env.kindOf n == some .cell)=true
   ·rw [if_pos hc] at h;simp only [List.lookup_cons,hx] at h;exact h
   ·rw [if_neg hc] at h;simp only [List.lookup_cons,hx] at h;exact h
abbrev Zda (X:Cx) (scope:Scope) (N:List Str) (C:Addr) (s:Shared) (H:Hp) (fp:List Addr):Cx :=
 { X with N:=N,s₀:=s,H₀:=H,env:=compEnvC scope (clOf X.env scope.names []) C X.env,outer:=X.stack,ex:=fp,fn:=fun _=>false,pn:=[],xe:=fun _ _=>False }
def sgC (n:Nat) (js:List Nat) (σ:St):St:=List.replicate n none++js.map fun j=>(σ[j]?).join
theorem sgC_len (n:Nat) (js:List Nat) (σ:St):(sgC n js σ).length=n + js.length:=by unfold sgC;simp
structure CompOk (X:Cx) (scope:Scope) (own frees:List Str) (js:List Nat):Prop where
 calm:X.calm=true
 kind:scope.kind=.function
 nocell:∀ y∈scope.names,y.2≠.cell
 locals:∀ y∈scope.names,y.2=.local→scope.names.lookup y.1=some .local
 fr:∀ y∈scope.names,y.2=.free→X.env.scope.names.lookup y.1=some .cell∨X.env.scope.names.lookup y.1=some .free
 fre:∀ x∈frees,scope.names.lookup x=some .free
 slots:js.map (fun j=>X.N[j]?)=frees.map some
def PTs (X:Cx) (ifs:List Expr) (t:TT):Prop :=
 ∀ (pins:List (Addr×Obj)) (s:Shared) (σ:St) (H:Hp) (Q:Bool→Hp→Prop),Inv X pins σ H s→t σ H Q →
  wpAny (model X.prog X.w) X.A (forIn ifs true fun c r=>if r=true then do let ok ← isTrue c X.env (eval c X.env);pure (ForInStep.yield ok) else pure (ForInStep.yield r)) (TP X pins σ Q) X.xe s
def tTrue:TT:=fun _ H Q=>Q true H
theorem Zbw {X:Cx}:PTs X [] tTrue:=fun _ _ _ H _ I h=>wpAny_tests_nil ⟨H,I,h⟩
theorem Zem {X:Cx}{c:Expr}{t:TT}(h:PT X c t):PTs X [c] t:=fun pins s σ H Q I q=>wpAny_tests_one (h pins s σ H Q I q)
def compBody (n:Nat) (js:List Nat) (g:TG) (tt:TT) (te:TE) (σ:St) (Q:VK) (J:It) (H1:Hp):Prop:=∀ D,H1 D=none →
 ∃ W:Nat→Nat→List V→St→Hp→Prop,(∃ m,W 0 m [] (sgC n js σ) (upd H1 D (.lst [])))∧∀ i m ys σ' H',W i m ys σ' H' →
  (J.stop i H'∧Q (.ref D) H') ∨
  (J.go i H'∧ys.length<sizeLine∧∃ N:List V→St→Hp→Prop,(∀ ys3 σ3 H3,N ys3 σ3 H3→∃ m',m'<m∧W (i + 1) m' ys3 σ3 H3)∧∀ x H2,J.yld i H' x H2→g x σ' H2 fun σ3 H3=>tt σ3 H3 fun b H4 =>
   if b=true then te σ3 H4 fun v H5=>H5 D=some (.lst ys)∧N (ys++[v]) σ3 (upd H5 D (.lst (ys++[v])))
   else N ys σ3 H4)
section
variable {prog:Program} {w:World} {A:Around} {E:Value→Shared→Prop} {R:Result→Shared→Prop} {s:Shared}
theorem compLoop_any {elt target iter:Expr}{ifs:List Expr}{scope:Scope}{pos:Pos}{it acc:Value}{env:Env}(I:Nat→Shared→Prop)
  (turn:∀ n s,I n s→∀ E:Value→Shared→Prop,wpAny (model prog w) A (pyNext it) (fun r s₁=>match r with
   | none=>R (.ok .next) s₁
   | some v=>wpAny (model prog w) A (letOwnedTupleGo target it v) (fun _ s₁'=>wpAny (model prog w) A (assign target env v) (fun _ s₂ =>
     wpAny (model prog w) A (forIn ifs true fun c r=>if r=true then do let ok ← isTrue c env (eval c env);pure (ForInStep.yield ok) else pure (ForInStep.yield r)) (fun ok s₃ =>
      if ok=true then wpAny (model prog w) A (eval elt env) (fun x s₄ =>
       wpAny (model prog w) A (call (.builtin "list.append") [acc,x]) (fun _ s₅=>∃ m,m<n∧I m s₅) E s₄) E s₃
      else ∃ m,m<n∧I m s₃) E s₂) E s₁') E s₁) E s)
  (n:Nat) (h:I n s):
  codeAny (model prog w) A (.compLoop (.ListComp elt [⟨target,iter,ifs,0⟩] scope pos) 0 it acc env) R s:=by
 refine codeAny_loop rfl I (fun n s hI=>?_) n h
 show wpAny _ A ((compTurn (.ListComp elt [⟨target,iter,ifs,0⟩] scope pos) 0 it acc env).onRaise (fun x=>do noteFrame x env;theTreesLotGoes x)) _ _ s
 refine wpAny_noted ?_
 rw [compTurn_list]
 refine wpAny_bind (wpAny_standAt (wpAny_bind (wpAny_mono (turn n s hI _) (fun r s₁ h₁=>?_) fun _ _ h'=>h')))
 cases r with
 | none=>exact wpAny_pure h₁
 | some v =>
  refine wpAny_bind (wpAny_mono h₁ (fun _ s₁' h₁'=>?_) fun _ _ h'=>h')
  refine wpAny_bind (wpAny_mono h₁' (fun _ s₂ h₂=>wpAny_bind (wpAny_mono h₂ (fun ok s₃ h₃=>?_) fun _ _ h'=>h')) fun _ _ h'=>h')
  cases ok with
  | false=>exact wpAny_pure ⟨rfl,h₃⟩
  | true =>
   exact wpAny_bind (wpAny_bind (wpAny_mono h₃ (fun x s₄ h₄=>wpAny_bind (wpAny_mono h₄ (fun _ s₅ h₅=>wpAny_pure (wpAny_pure ⟨rfl,h₅⟩)) fun _ _ h'=>h')) fun _ _ h'=>h'))
end
section
variable {X:Cx} {pins:List (Addr×Obj)} {σ:St} {scope:Scope} {own frees:List Str} {js:List Nat}
theorem CompOk.cells (c:CompOk X scope own frees js) (ok:X.Ok):∀ y∈scope.names,y.2=.free→∃ a,X.env.cells.lookup y.1=some a:=fun y hy e=>by
 rcases c.fr y hy e with h | h
 ·exact ok.has y.1 (.inl h)
 ·exact ok.has y.1 (.inr h)
theorem CompOk.cl (c:CompOk X scope own frees js) (ok:X.Ok) {x:Str}{a:Addr}(h:(clOf X.env scope.names []).lookup x=some a):X.env.cells.lookup x=some a :=
 clOf_lookup scope.names [] x a (c.cells ok) (fun _ _ z=>by simp at z) h
theorem CompOk.has (c:CompOk X scope own frees js) {x:Str}(h:scope.names.lookup x=some .free):∃ a,(clOf X.env scope.names []).lookup x=some a :=
 Option.isSome_iff_exists.mp (clOf_has scope.names [] x (PySem.mem_of_lookup h))
theorem CompOk.ok {s2:Shared}{H2:Hp}{fp:List Addr}{C:Addr}(c:CompOk X scope own frees js) (I:Inv X pins σ H2 s2) (f2:∀ b∈fp,FpOk X pins H2 b) (hlt:∀ b∈fp,b<s2.heap.objs.size) (hC:s2.heap.objs.size≤C) (N:List Str):
  (Zda X scope N C s2 H2 fp).Ok where
 mod:=I.ok.mod
 kind:=c.kind
 glob:=I.ok.glob
 blt:=I.ok.blt
 above:=hC
 inj:=fun x y a h1 h2=>I.ok.inj x y a (c.cl I.ok h1) (c.cl I.ok h2)
 has:=fun x h=>by
  have h':scope.names.lookup x=some .free∨scope.names.lookup x=some .cell:=Ze7 (env:=X.env) h
  rcases h' with h' | h'
  ·exact c.has h'
  ·exact absurd rfl (c.nocell _ (PySem.mem_of_lookup h'))
 cab:=fun x a h=>absurd (show false=true from h) Bool.false_ne_true
 hd:=fun h=>I.ok.hd h
 frames:=I.ok.frames
 stk:=.inl rfl
 exf:=fun b hb=>⟨Nat.ne_of_lt (Nat.lt_of_lt_of_le (hlt b hb) hC),fun x a h=>(f2 b hb).2.2.2.2.1 x a (c.cl I.ok h)⟩
 bs:=I.bs
 bsz:=Nat.le_trans I.ok.bsz I.sz
 noex:=fun b o e hb=>by
  rcases (f2 b hb).2.2.2.1 with z | z
  ·exact I.ok.noex b o e z
  ·exact absurd (Nat.lt_of_lt_of_le (Heap.lt_size e) (Nat.le_trans I.ok.bsz z)) (Nat.lt_irrefl _)
 exfs:=fun b hb z=>by
  rcases List.mem_cons.mp (I.stkSub b z) with e | e
  ·exact (f2 b hb).2.1 e
  ·exact (f2 b hb).2.2.1 e
 funs:=I.stack
 frf:=I.stkFree
theorem comp_block {s2:Shared}{tg iter elt:Expr}{ifs:List Expr}{pos:Pos}{g:TG}{tt:TT}{te:TE}{Q:VK}{RR:Value→Addr→Result→Shared→Prop}{itv:Value}{E:Value→Shared→Prop}
  (c:CompOk X scope own frees js)
  (hg:∀ C s H fp,PG (Zda X scope (own++frees) C s H fp) tg g) (ht:∀ C s H fp,PTs (Zda X scope (own++frees) C s H fp) ifs tt) (he:∀ C s H fp,PE (Zda X scope (own++frees) C s H fp) elt te)
  (h:PIE X pins σ tg (compBody own.length js g tt te σ Q) itv s2)
  (hR:∀ D C H' s',Inv X pins σ H' s'→FpOk X pins H' C→(∃ m,s'.heap.Ns C m)→Q (.ref D) H'→RR (.ref D) C (.ok .next) s'):
  wpAny (model X.prog X.w) X.A (newList []) (fun acc s₃=>wpAny (model X.prog X.w) X.A (newFunctionEnv scope X.env.globals (clOf X.env scope.names []) [] X.env.qual none .none (some X.env)) (fun cenv s₄ =>
   codeAny (model X.prog X.w) X.A (.compStart (.ListComp elt [⟨tg,iter,ifs,0⟩] scope pos) 0 itv acc { cenv with scope:=relabel scope X.env }) (RR acc cenv.locals) s₄) E s₃) E s2:=by
 obtain ⟨it,fp,tn,J,H2,e,I2,T,st2,f2,hq⟩:=h
 subst e
 refine wpAny_newObj_type (wpAny_newFunctionEnv c.nocell (by intro y hy;simp at hy) (fun h₁ hns₁ hsb₁=>?_) c.kind)
 dsimp only at hns₁ hsb₁ ⊢
 generalize hH2:s2.heap.push { cls:=.type "list",dict:=none,data:=.seq ([]:List Value).toArray }=G2 at hns₁ hsb₁ ⊢
 have hC:G2.objs.size=s2.heap.objs.size + 1:=by rw [← hH2,Heap.size_push]
 have hDC:s2.heap.objs.size≠G2.objs.size:=by rw [hC];exact Nat.ne_of_lt (Nat.lt_succ_self _)
 have hCle:s2.heap.objs.size≤G2.objs.size:=by rw [hC];exact Nat.le_succ _
 have old:∀ b o,s2.heap.get? b=some o→h₁.get? b=some o:=fun b o e=>by
  have hb:=Heap.lt_size e
  exact hsb₁.extBut b o (by rw [hC];exact Nat.ne_of_lt (Nat.lt_succ_of_lt hb)) (Heap.get?_push_of_some _ (hH2 ▸ Heap.get?_push_of_some _ e))
 have hD:H2 s2.heap.objs.size=none:=I2.hok.fresh (Nat.le_refl _)
 have hlt:∀ b∈fp,b<s2.heap.objs.size:=fun b hb=>by
  obtain ⟨o,e,_⟩:=T.obj _ _ st2 b hb
  exact Heap.lt_size e
 have hacc:h₁.get? s2.heap.objs.size=some { cls:=.type "list",data:=.seq ([]:List Value).toArray }:=hsb₁.extBut _ _ hDC (Heap.get?_push_of_some _ (hH2 ▸ Heap.get?_push_size _ rfl))
 obtain ⟨W,⟨m0,w0⟩,turn⟩:=hq _ hD
 have I0:∀ tk,Inv (Zda X scope (own++frees) G2.objs.size s2 H2 fp) [] (sgC own.length js σ) (upd H2 s2.heap.objs.size (.lst [])) { s2 with heap:=h₁,toks:=tk }:=fun tk=>by
  refine ⟨c.ok I2 f2 hlt hCle _,rfl,I2.bare,Un.laid old (Nat.le_refl _) hD,⟨_,hns₁,fun i x v h1 h2 h3=>?_⟩,fun x a h=>?_,?_,fun x a h=>?_,fun p hp=>absurd (show p∈([]:List (Addr×Obj)) from hp) (by simp),I2.hok.laid old (Nat.le_refl _) ⟨Nat.zero_le _,[],0,.nil,hacc⟩,?_⟩
  ·have hi:own.length≤i:=by
    by_cases hi:i<own.length
    ·unfold sgC at h2
     rw [List.getElem?_append_left (by simpa using hi),List.getElem?_replicate] at h2
     rw [if_pos hi] at h2
     cases h2
    ·omega
   have hx:frees[i - own.length]?=some x:=by
    have h1':(own++frees)[i]?=some x:=h1
    rwa [List.getElem?_append_right hi] at h1'
   have h2':(js.map fun j=>(σ[j]?).join)[i - own.length]?=some (some v):=by
    unfold sgC at h2
    rw [List.getElem?_append_right (by simpa using hi)] at h2
    simpa using h2
   rw [List.getElem?_map] at h2'
   obtain ⟨j,hj,hjv⟩:=Option.map_eq_some_iff.mp h2'
   have hs:=congrArg (fun l=>l[i - own.length]?) c.slots
   rw [List.getElem?_map,List.getElem?_map,hj,hx] at hs
   have hNj:X.N[j]?=some x:=Option.some.inj hs
   have hσ:σ[j]?=some (some v):=by
    cases q:σ[j]? with
    | none=>rw [q] at hjv;cases hjv
    | some o =>
     rw [q] at hjv
     have:o=some v:=hjv
     rw [this]
   have hfree:=c.fre x (List.mem_of_getElem? hx)
   have hXk:=c.fr (x,.free) (PySem.mem_of_lookup hfree) rfl
   obtain ⟨m,hn,hl⟩:=I2.loc
   have vis:Vis X.env.scope x:=by rcases hXk with k | k;exact .inr (.inl k);exact .inr (.inr k)
   obtain ⟨u,r,l⟩:=hl j x v hNj hσ vis
   refine ⟨u,r,.inr ⟨Zep (env:=X.env) hfree,?_⟩⟩
   rcases l with ⟨hk,_⟩ | ⟨_,a,ha,hcell⟩
   ·rcases hXk with k | k
    ·have hk:X.env.scope.names.lookup x=some .local:=hk
     rw [show X.env.scope.names.lookup x=some .cell from k] at hk;cases hk
    ·have hk:X.env.scope.names.lookup x=some .local:=hk
     rw [show X.env.scope.names.lookup x=some .free from k] at hk;cases hk
   ·obtain ⟨a',ha'⟩:=c.has hfree
    have e:=c.cl I2.ok ha'
    rw [ha] at e
    cases e
    obtain ⟨o,ho,hd⟩:=hcell
    exact ⟨a,ha',o,old a o ho,hd⟩
  ·obtain ⟨v,o,ho,hd⟩:=I2.cell x a (c.cl I2.ok h)
   exact ⟨v,o,old a o ho,hd⟩
  ·show upd H2 s2.heap.objs.size (.lst []) G2.objs.size=none
   rw [Zab (Ne.symm hDC)]
   exact I2.hok.fresh hCle
  ·obtain ⟨v,o,ho,hd⟩:=I2.cell x a (c.cl I2.ok h)
   rw [Zab (Nat.ne_of_lt (Heap.lt_size ho))]
   exact I2.freeC x a (c.cl I2.ok h)
  ·rw [sgC_len,List.length_append]
   have:=congrArg List.length c.slots
   rw [List.length_map,List.length_map] at this
   omega
 have stat:∀ {H':Hp},(∀ b∈fp,H' b=none)→∀ b∈fp,FpOk (Zda X scope (own++frees) G2.objs.size s2 H2 fp) [] H' b:=fun {H'} hn b hb=>by
  obtain ⟨f0,f1,f3,f4,f5,f6⟩:=f2 b hb
  refine ⟨hn b hb,Nat.ne_of_lt (Nat.lt_of_lt_of_le (hlt b hb) hCle),fun z=>?_,.inl hb,fun x a h=>f5 x a (c.cl I2.ok h),fun p hp=>absurd (show p∈([]:List (Addr×Obj)) from hp) (by simp)⟩
  rcases List.mem_cons.mp (I2.stkSub b z) with e | e
  ·exact f1 e
  ·exact f3 e
 have loop:∀ s₃:Shared,s₃={ s2 with heap:=h₁,toks:=s2.toks + ([]:List (Str×Value)).length } →
   codeAny (model X.prog X.w) X.A (.compLoop (.ListComp elt [⟨tg,iter,ifs,0⟩] scope pos) 0 (.ref it) (.ref s2.heap.objs.size) (compEnvC scope (clOf X.env scope.names []) G2.objs.size X.env))
    (RR (.ref s2.heap.objs.size) G2.objs.size) s₃:=by
  rintro s₃ rfl
  refine compLoop_any (fun n s'=>∃ i ys σ' H',Inv (Zda X scope (own++frees) G2.objs.size s2 H2 fp) [] σ' H' s'∧tn i s'.heap∧(∀ b∈fp,H' b=none)∧W i n ys σ' H') ?_ m0
   ⟨0,[],_,_,I0 _,T.keep _ _ _ st2 fun b _ o e=>old b o e,fun b hb=>by rw [Zab (Nat.ne_of_lt (hlt b hb))];exact (f2 b hb).1,w0⟩
  rintro n s3 ⟨i,ys,σ3,H3,I3,st3,fr3,w3⟩ E'
  rcases turn i n ys σ3 H3 w3 with ⟨stop,qn⟩ | ⟨go,hz,N,hN,step⟩
  ·refine thn (T.done (Zda X scope (own++frees) G2.objs.size s2 H2 fp) rfl rfl rfl c.calm i [] s3 σ3 H3 E' I3 (stat fr3) st3 stop) fun r s4 ⟨hr,I4⟩=>?_
   subst hr
   have back:Inv X pins σ H3 s4:=I2.call' (ch:=fp) I4.os I4.base I4.hok I4.bare fun b hb=>⟨(f2 b hb).2.2.2.1,(f2 b hb).2.1,(f2 b hb).2.2.2.2.1,(f2 b hb).2.2.2.2.2⟩
   exact hR _ _ H3 s4 back (I2.fpOk hCle I4.free) ⟨_,I4.loc.choose_spec.1⟩ qn
  ·refine thn (T.item (Zda X scope (own++frees) G2.objs.size s2 H2 fp) rfl rfl rfl c.calm i [] s3 σ3 H3 E' I3 (stat fr3) st3 go) fun r s4 ⟨u,hr,h4⟩=>?_
   subst hr
   refine thn h4 fun _ s5 ⟨x,H5,I5,r5,y5,st5,fr5⟩=>?_
   have I5':=I5.pinned (stat fr5) (T.obj _ _ st5)
   have nof:∀ (e:Value) (s':Shared),(Zda X scope (own++frees) G2.objs.size s2 H2 fp).xe e s'→E' e s':=fun _ _ z=>False.elim z
   refine wpAny_mono (hg _ _ _ _ _ s5 σ3 H5 x u _ I5' r5 (step x H5 y5)) (fun _ s6 ⟨σ6,H6,I6,q6⟩=>?_) nof
   refine wpAny_mono (ht _ _ _ _ _ s6 σ6 H6 _ I6 q6) (fun b s7 ⟨H7,I7,q7⟩=>?_) nof
   have again:∀ {σ7:St} {H7:Hp} {s7:Shared} {ys':List V},Inv (Zda X scope (own++frees) G2.objs.size s2 H2 fp) ([]++pinsAt fp s5.heap) σ7 H7 s7→N ys' σ7 H7 →
     ∃ m,m<n∧∃ i ys σ' H',Inv (Zda X scope (own++frees) G2.objs.size s2 H2 fp) [] σ' H' s7∧tn i s7.heap∧(∀ b∈fp,H' b=none)∧W i m ys σ' H':=fun {σ7 H7 s7 ys'} I7 n7=>by
    obtain ⟨m',hm,w7⟩:=hN _ _ _ n7
    refine ⟨m',hm,i + 1,ys',σ7,H7,I7.unpinned,T.keep _ _ _ st5 fun b hb o e=>(I7.pin (b,o) (List.mem_append_right _ (List.mem_append_right _ (mem_pinsAt hb e)))).1,fun b hb=>?_,w7⟩
    obtain ⟨o,e,d⟩:=T.obj _ _ st5 b hb
    exact (I7.pin (b,o) (List.mem_append_right _ (List.mem_append_right _ (mem_pinsAt hb e)))).2.1
   cases b with
   | false =>
    rw [if_neg Bool.false_ne_true] at q7 ⊢
    exact again I7 q7
   | true =>
    rw [if_pos rfl] at q7 ⊢
    refine wpAny_mono (he _ _ _ _ _ s7 σ6 H7 _ I7 q7) (fun v s8 ⟨y,H8,I8,r8,hD8,w8⟩=>?_) nof
    refine wpAny_mono (Zbv (X:=Zda X scope (own++frees) G2.objs.size s2 H2 fp) _ s8 σ6 H8 (.ref s2.heap.objs.size) [y] (.ref s2.heap.objs.size) [v] (fun _ H9=>H9=upd H8 s2.heap.objs.size (.lst (ys++[y]))) I8 rfl (.cons r8 .nil) ⟨_,ys,y,rfl,rfl,hD8,hz,rfl⟩) (fun z s9 ⟨_,H9,I9,_,e9⟩=>?_) nof
    subst e9
    exact again I9 w8
 exact codeAny_compStart_list (loop _ rfl) (T.self X.A 0 _ _ _ (T.keep _ _ _ st2 fun b _ o e=>old b o e) (loop _ rfl))
end
section
variable {X:Cx} {scope:Scope} {own frees:List Str} {js:List Nat} {tg iter elt:Expr} {ifs:List Expr} {wi:TI} {g:TG} {tt:TT} {te:TE} {pos:Pos}
def tComp (n:Nat) (js:List Nat) (wi:TI) (g:TG) (tt:TT) (te:TE):TE:=fun σ H Q=>wi σ H (compBody n js g tt te σ Q)
theorem Zbl (own frees:List Str) (js:List Nat) (hc:X.Ok→CompOk X scope own frees js) (hi:PI X tg iter wi)
  (hg:∀ C s H fp,PG (Zda X scope (own++frees) C s H fp) tg g) (ht:∀ C s H fp,PTs (Zda X scope (own++frees) C s H fp) ifs tt) (he:∀ C s H fp,PE (Zda X scope (own++frees) C s H fp) elt te)
  (hs:∀ x,foldedSetIterable iter X.env x=pure x:=by intro _;rfl):
  PE X (.ListComp elt [⟨tg,iter,ifs,0⟩] scope pos) (tComp own.length js wi g tt te):=by
 intro pins s σ H Q I h
 have c:=hc I.ok
 rw [eval_ListComp]
 refine wpAny_comprehension_free (use:=none) rfl hs (closureFor_of (c.cells I.ok)) c.kind c.locals (thn (hi pins s σ H _ I h) fun xv s₁ h₁=>thn h₁ fun it s₂ h₂=>?_)
 refine comp_block (RR:=fun acc C=>compPost (model X.prog X.w) X.A X.xe none (EP X pins σ Q) acc C) c hg ht he h₂ fun D C H' s' J F n q=>?_
 obtain ⟨m,hn⟩:=n
 obtain ⟨f0,f1,f2,f3,f4,f5⟩:=F
 exact ⟨m,hn,fun h' hs'=>⟨.ref D,H',J.turned (t':=s'.toks) (fun b o hb e=>hs'.extBut b o hb e) f0 f1 f3 f4 f5,rfl,q⟩⟩
def tSetComp (k n:Nat) (js:List Nat) (wi:TI) (g:TG) (tt:TT) (te:TE):TS:=fun D σ H=>wi σ H (compBody n js g tt te σ fun v H1=>D.nx (σ.set k (some v)) H1)
theorem Zee {k:Nat}{y:Str}{py spos:Pos} (own frees:List Str) (js:List Nat) (hN:X.N.Nodup) (hk:X.N[k]?=some y) (hy:X.env.scope.names.lookup y=some .local) (hc:X.Ok→CompOk X scope own frees js) (hi:PI X tg iter wi)
  (hg:∀ C s H fp,PG (Zda X scope (own++frees) C s H fp) tg g) (ht:∀ C s H fp,PTs (Zda X scope (own++frees) C s H fp) ifs tt) (he:∀ C s H fp,PE (Zda X scope (own++frees) C s H fp) elt te)
  (hsw:swapsWith (.ListComp elt [⟨tg,iter,ifs,0⟩] scope pos) (some (.Name y py)) spos.line X.env=pure true:=by rfl)
  (hs:∀ x,foldedSetIterable iter X.env x=pure x:=by intro _;rfl):
  PS X (.Assign [.Name y py] (.ListComp elt [⟨tg,iter,ifs,0⟩] scope pos) spos) (tSetComp k own.length js wi g tt te):=by
 intro pins s σ H D I h
 have c:=hc I.ok
 rw [exec_Assign_Name_used _ _ _ _ hsw]
 refine wpAny_bind (wpAny_standAt (wpAny_bind ?_))
 show wpAny _ X.A (do let _ ← comprehension (.ListComp elt [⟨tg,iter,ifs,0⟩] scope pos) scope X.env _ (newList []) false (eval iter X.env) (some (assign (.Name y py) X.env))) _ _ s
 refine wpAny_bind (wpAny_mono (wpAny_comprehension_free (use:=some (assign (.Name y py) X.env)) (Q:=fun _ s'=>SP X pins D .next s') rfl hs (closureFor_of (c.cells I.ok)) c.kind c.locals
  (thn (hi pins s σ H _ I h) fun xv s₁ h₁=>thn h₁ fun it s₂ h₂=>?_)) (fun _ s' hq=>wpAny_pure (wpAny_pure hq)) fun _ _ e=>e)
 refine comp_block (RR:=fun acc C=>compPost (model X.prog X.w) X.A X.xe (some (assign (.Name y py) X.env)) (fun _ s'=>SP X pins D .next s') acc C) c hg ht he h₂ fun A' C H' s' J F n q=>?_
 obtain ⟨m,hn⟩:=n
 obtain ⟨f0,f1,f2,f3,f4,f5⟩:=F
 show wpAny _ X.A (assign (.Name y py) X.env (.ref A')) _ _ _
 refine wpAny_assign_Name (store_ok2 J hN hk (.inl hy) (v:=.ref A') rfl (fun s'' J' ⟨a,sb,ha⟩=>?_) (.inr hy))
 have hne:a≠C:=by
  rcases ha with e | e
  ·rw [e];exact Ne.symm f1
  ·exact f4 y a e
 refine ⟨m,hn.sameBut sb (Ne.symm hne),fun h' hs'=>⟨_,H',J'.turned (t':=s''.toks) (fun b o hb e=>hs'.extBut b o hb e) f0 f1 f3 f4 f5,q⟩⟩
end
theorem Zdb {J:It}{xs:List V}{Ok:Hp→Prop}(R:Runs J xs Ok) {n:Nat}{js:List Nat}{g:TG}{tt:TT}{te:TE}{σ:St}{Q:VK}{H1:Hp}(hz:xs.length≤sizeLine)
  (Pv:Addr→Nat→List V→St→Hp→Prop) (h0:∀ D,H1 D=none→Pv D 0 [] (sgC n js σ) (upd H1 D (.lst [])))
  (hok:∀ D i ys σ' H,i≤xs.length→Pv D i ys σ' H→Ok H∧ys.length≤i)
  (hs:∀ D i x ys σ' H,H1 D=none→xs[i]?=some x→Pv D i ys σ' H→g x σ' H fun σ3 H3=>tt σ3 H3 fun b H4 =>
   if b=true then te σ3 H4 fun v H5=>H5 D=some (.lst ys)∧Pv D (i + 1) (ys++[v]) σ3 (upd H5 D (.lst (ys++[v]))) else Pv D (i + 1) ys σ3 H4)
  (hd:∀ D ys σ' H,H1 D=none→Pv D xs.length ys σ' H→Q (.ref D) H):
  compBody n js g tt te σ Q J H1:=by
 intro D hD
 refine ⟨fun i m ys σ' H=>m=xs.length - i∧i≤xs.length∧Pv D i ys σ' H,⟨xs.length,by simp,Nat.zero_le _,h0 D hD⟩,?_⟩
 rintro i m ys σ' H ⟨rfl,hi,p⟩
 obtain ⟨q,hy⟩:=hok D i ys σ' H hi p
 by_cases hlt:i<xs.length
 ·have hx:xs[i]?=some xs[i]:=by simp [hlt]
  refine .inr ⟨R.go i _ H q hx,by omega,Pv D (i + 1),fun ys3 σ3 H3 p3=>⟨xs.length - (i + 1),by omega,rfl,hlt,p3⟩,fun x H' y=>?_⟩
  obtain ⟨e1,e2⟩:=R.yld i _ H x H' q hx y
  rw [e2]
  exact hs D i x ys σ' H hD (by rw [e1];exact hx) p
 ·have e:i=xs.length:=by omega
  subst e
  exact .inl ⟨R.stop H q,hd D ys σ' H hD p⟩
theorem Zdc {J:It}{xs:List V}{Ok:Hp→Prop}(R:Runs J xs Ok) {js:List Nat}{tt:TT}{te:TE}{σ:St}{Q:VK}{H1:Hp}(hz:xs.length≤sizeLine) (p:V→Bool) (f:V→V)
  (hok:∀ D ys,H1 D=none→Ok (upd H1 D (.lst ys)))
  (ht:∀ D ys x (R:Bool→Hp→Prop),H1 D=none→x∈xs→R (p x) (upd H1 D (.lst ys))→tt (some x :: js.map fun j=>(σ[j]?).join) (upd H1 D (.lst ys)) R)
  (he:∀ D ys x (R:V→Hp→Prop),H1 D=none→x∈xs→p x=true→R (f x) (upd H1 D (.lst ys))→te (some x :: js.map fun j=>(σ[j]?).join) (upd H1 D (.lst ys)) R)
  (hd:∀ D,H1 D=none→Q (.ref D) (upd H1 D (.lst ((xs.filter p).map f)))):
  compBody 1 js (gName 0) tt te σ Q J H1:=by
 refine Zdb R hz (fun D i ys σ' H=>H1 D=none∧ys=((xs.take i).filter p).map f∧(∃ o,σ'=o :: js.map fun j=>(σ[j]?).join)∧H=upd H1 D (.lst ys)) ?_ ?_ ?_ ?_
 ·intro D hD
  exact ⟨hD,by simp,⟨none,rfl⟩,rfl⟩
 ·rintro D i ys σ' H hi ⟨hD,e,_,rfl⟩
  refine ⟨hok D ys hD,?_⟩
  rw [e,List.length_map]
  exact Nat.le_trans (List.length_filter_le _ _) (by rw [List.length_take];omega)
 ·rintro D i x ys σ' H hD hx ⟨_,e,⟨o,rfl⟩,rfl⟩
  show tt (some x :: js.map fun j=>(σ[j]?).join) (upd H1 D (.lst ys)) _
  have hm:x∈xs:=List.mem_of_getElem? hx
  refine ht D ys x _ hD hm ?_
  cases hp:p x with
  | true =>
   rw [if_pos rfl]
   refine he D ys x _ hD hm hp ⟨uS,hD,?_,⟨_,rfl⟩,upd_upd⟩
   rw [take_succ_filter p xs i x hx,hp,List.map_append,e]
   rfl
  | false =>
   rw [if_neg Bool.false_ne_true]
   refine ⟨hD,?_,⟨_,rfl⟩,rfl⟩
   rw [take_succ_filter p xs i x hx,hp,List.map_append,e]
   simp
 ·rintro D ys σ' H hD ⟨_,e,_,rfl⟩
  rw [List.take_length] at e
  rw [e]
  exact hd D hD
end L2
namespace L2
open PySem PySem.Spec PyProof.Rows
section
variable {X:Cx}
theorem bools_get {bs:List Bool}{its:List Value}(r:Zb7 (bs.map V.bl) its):∀ (i:Nat) (v:Value),its[i]?=some v→v=Value.bool (bs.getD i false):=fun i v h=>by
 have hl:=r.length
 rw [List.length_map] at hl
 have hi:i<its.length:=(List.getElem?_eq_some_iff.mp h).1
 have hb:(bs.map V.bl)[i]?=some (V.bl (bs.getD i false)):=by
  rw [List.getElem?_map,List.getD_eq_getElem?_getD]
  have:i<bs.length:=by omega
  simp [this]
 obtain ⟨u,hu,ru⟩:=r.get hb
 rw [h] at hu
 cases hu
 exact ru
theorem range_all {bs:List Bool}:(List.range bs.length).all (fun i=>bs.getD i false)=bs.all id:=by
 rw [Bool.eq_iff_iff]
 simp only [List.all_eq_true,List.mem_range,id]
 constructor
 ·intro h b hb
  obtain ⟨i,hi,e⟩:=List.mem_iff_getElem.mp hb
  have:=h i hi
  rw [List.getD_eq_getElem?_getD] at this
  simpa [hi,e] using this
 ·intro h i hi
  rw [List.getD_eq_getElem?_getD]
  simp only [List.getElem?_eq_getElem hi,Option.getD_some]
  exact h _ (List.getElem_mem hi)
theorem range_any {bs:List Bool}:(List.range bs.length).any (fun i=>bs.getD i false)=bs.any id:=by
 rw [Bool.eq_iff_iff]
 simp only [List.any_eq_true,List.mem_range,id]
 constructor
 ·rintro ⟨i,hi,e⟩
  rw [List.getD_eq_getElem?_getD] at e
  simp only [List.getElem?_eq_getElem hi,Option.getD_some] at e
  exact ⟨_,List.getElem_mem hi,e⟩
 ·rintro ⟨b,hb,e⟩
  obtain ⟨i,hi,e'⟩:=List.mem_iff_getElem.mp hb
  refine ⟨i,hi,?_⟩
  rw [List.getD_eq_getElem?_getD]
  simp only [List.getElem?_eq_getElem hi,Option.getD_some]
  rw [e',e]
def rAll (K:W.Frag) (f:List Bool→Bool):List V→Hp→VK→Prop:=fun xs H Q=>∃ a bs,xs=[.ref a]∧SqL K H a (bs.map V.bl)∧Q (.bl (f bs)) H
theorem call_all (hc:X.calm=true):CallR X (.builtin "all") (rAll X.K fun bs=>bs.all id):=by
 intro pins s σ H xs us Q I r h
 obtain ⟨a,bs,rfl,ha,q⟩:=h
 obtain ⟨u,rfl,ru⟩:=vals1 r
 cases ru
 obtain ⟨its,rv,p,hz⟩:=I.list ha
 have hl:=rv.length
 rw [List.length_map] at hl
 refine call_all_walk (wpAny_pyIter_list p.isList ?_)
 have hne:a≠s.heap.objs.size:=by
  obtain ⟨o,ho,_⟩:=p.isList
  exact Nat.ne_of_lt (Heap.lt_size ho)
 refine ⟨s.heap.objs.size,_,_,_,_,_,fun i=>bs.getD i false,rfl,Walks.list (A:=X.A.in1) (I.ok.hd hc) s.heap.objs.size a hne its.toArray,⟨⟨_,Heap.get?_push_size _ rfl,rfl,rfl⟩,?_⟩,?_,?_⟩
 ·obtain ⟨o,ho,r'⟩:=p.isList
  exact ⟨o,Heap.get?_push_of_some _ ho,r'⟩
 ·intro i v s' Q' E' hv hq
  have e:=bools_get rv i v (by simpa using hv)
  subst e
  exact wpAny_truthy_bool hq
 ·intro h' tk hk
  refine ⟨.bl (bs.all id),H,I.kept fun b o e=>hk b o ?_ (Heap.get?_push_of_some _ e),?_,q⟩
  ·have hb:=Heap.lt_size e
   intro z
   have z':b=s.heap.objs.size:=by simpa using z
   exact Nat.ne_of_lt hb z'
  ·have:its.toArray.size=bs.length:=by simp [hl]
   rw [this,range_all]
   rfl
theorem call_any (hc:X.calm=true):CallR X (.builtin "any") (rAll X.K fun bs=>bs.any id):=by
 intro pins s σ H xs us Q I r h
 obtain ⟨a,bs,rfl,ha,q⟩:=h
 obtain ⟨u,rfl,ru⟩:=vals1 r
 cases ru
 obtain ⟨its,rv,p,hz⟩:=I.list ha
 have hl:=rv.length
 rw [List.length_map] at hl
 refine call_any_walk (wpAny_pyIter_list p.isList ?_)
 have hne:a≠s.heap.objs.size:=by
  obtain ⟨o,ho,_⟩:=p.isList
  exact Nat.ne_of_lt (Heap.lt_size ho)
 refine ⟨s.heap.objs.size,_,_,_,_,_,fun i=>bs.getD i false,rfl,Walks.list (A:=X.A.in1) (I.ok.hd hc) s.heap.objs.size a hne its.toArray,⟨⟨_,Heap.get?_push_size _ rfl,rfl,rfl⟩,?_⟩,?_,?_⟩
 ·obtain ⟨o,ho,r'⟩:=p.isList
  exact ⟨o,Heap.get?_push_of_some _ ho,r'⟩
 ·intro i v s' Q' E' hv hq
  have e:=bools_get rv i v (by simpa using hv)
  subst e
  exact wpAny_truthy_bool hq
 ·intro h' tk hk
  refine ⟨.bl (bs.any id),H,I.kept fun b o e=>hk b o ?_ (Heap.get?_push_of_some _ e),?_,q⟩
  ·have hb:=Heap.lt_size e
   intro z
   have z':b=s.heap.objs.size:=by simpa using z
   exact Nat.ne_of_lt hb z'
  ·have:its.toArray.size=bs.length:=by simp [hl]
   rw [this,range_any]
   rfl
def CMulB (i j:Int):Prop:=Builtin.Int.intBits i≤2 ^ 20∧Builtin.Int.intBits j≤2 ^ 20
theorem op_mulB:OpR X (binaryOp .Mult) (rI CMulB fun i j=>.int (i * j)):=opI fun _ _ _ _ _ _ _ hc q=>mul_int q (IntMulOk.of_bits hc.1 hc.2)
def CDivB (i j:Int):Prop:=0<j∧j<4611686018427387904
theorem op_fdivB:OpR X (binaryOp .FloorDiv) (rI CDivB fun i j=>.int (i / j)):=opI fun i j _ _ _ _ _ hc q=>by
 have h1:(0:Int)<j:=hc.1
 have h2:j<4611686018427387904:=hc.2
 refine floordiv_int (by omega) (by rw [Int.fdiv_eq_ediv_of_nonneg i (by omega)];exact q) (.inl (PyProof.noPylong_of_log2 ?_))
 have h3:j.natAbs.log2<62:=(Nat.log2_lt (by omega)).mpr (by omega)
 omega
def rSlS:V→Option Int→Option Int→Hp→VK→Prop:=fun x lo hi H Q=>∃ z,x=.str z∧z.length≤sizeLine∧Q (.str (Txt.slice z lo hi)) H
theorem sl_str:SlR X rSlS:=by
 intro pins s σ H x v vl vu lo hi sl Q I rx hs pl pu h
 obtain ⟨z,rfl,hz,q⟩:=h
 obtain ⟨t,rfl⟩:=rx
 refine ⟨"str",_,F.slot_str_getitem.lookup,typeIs_str _ _ _,?_⟩
 have fin:∀ t' k,EP X pins σ Q (.str (Txt.slice z lo hi) t') { s with toks:=k }:=fun t' k=>⟨.str _,H,I.tok _,⟨_,rfl⟩,q⟩
 have hsz:=Nat.le_trans (Txt.slice_le z lo hi) hz
 obtain ⟨o,h1,h2,h3⟩:=hs
 cases pl with
 | none =>
  cases pu with
  | none=>exact wpAny_getItem_str_slice (l:=none) (u:=none) (st:=none) ⟨o,h1,h2,h3⟩ rfl (post_val_or_str ⟨hsz,fin⟩)
  | int j uj=>exact wpAny_getItem_str_slice (l:=none) (u:=some (j,uj)) (st:=none) ⟨o,h1,h2,h3⟩ rfl (post_val_or_str ⟨hsz,fin⟩)
 | int i ui =>
  cases pu with
  | none=>exact wpAny_getItem_str_slice (l:=some (i,ui)) (u:=none) (st:=none) ⟨o,h1,h2,h3⟩ rfl (post_val_or_str ⟨hsz,fin⟩)
  | int j uj=>exact wpAny_getItem_str_slice (l:=some (i,ui)) (u:=some (j,uj)) (st:=none) ⟨o,h1,h2,h3⟩ rfl (post_val_or_str ⟨hsz,fin⟩)
def rIsi (K:W.Frag):List V→Hp→VK→Prop:=fun xs H Q=>∃ x n t b,xs=[x,.ty n]∧TyOf K H x t∧W.kitOne K t (.type n)=some b∧Q (.bl b) H
theorem call_isi:CallR X (.builtin "isinstance") (rIsi X.K):=by
 intro pins s σ H xs us Q I r h
 obtain ⟨x,n,t,b,rfl,ty,e,q⟩:=h
 obtain ⟨u,w',rfl,r1,r2⟩:=vals2 r
 cases r2
 exact isinst_ok I r1 ty e fun tk=>⟨.bl b,H,I.tok _,rfl,q⟩
end
def compT (osc:Scope) (on:List Str) (scope:Scope) (frees:List Str) (js:List Nat):Bool :=
 (scope.kind == .function)&&scope.names.all (fun y=>y.2 != .cell)&&scope.names.all (fun y=>y.2 != .local || scope.names.lookup y.1 == some .local) &&
 scope.names.all (fun y=>y.2 != .free || (osc.names.lookup y.1 == some .cell || osc.names.lookup y.1 == some .free))&&frees.all (fun x=>scope.names.lookup x == some .free)&&decide (js.map (fun j=>on[j]?)=frees.map some)
theorem Zax {X:Cx}{osc scope:Scope}{on own frees:List Str}{js:List Nat}(h:compT osc on scope frees js=true) (h1:X.env.scope=osc) (h2:X.N=on) (h3:X.calm=true):CompOk X scope own frees js:=by
 subst h1
 subst h2
 unfold compT at h
 simp only [Bool.and_eq_true,List.all_eq_true,decide_eq_true_eq,Bool.or_eq_true,bne_iff_ne,beq_iff_eq,ne_eq] at h
 obtain ⟨⟨⟨⟨⟨a,b⟩,c⟩,d⟩,e⟩,f⟩:=h
 exact ⟨h3,a,b,fun y hy z=>(c y hy).resolve_left (fun q=>q z),fun y hy z=>(d y hy).resolve_left (fun q=>q z),e,f⟩
def tCut (t u:TS):TS:=fun D σ H=>∃ M:St→Hp→Prop,t { D with nx:=M } σ H∧∀ σ' H',M σ' H'→u D σ' H'
theorem Zfd {X:Cx}{st:Stmt}{rest:List Stmt}{t u:TS} (h1:PS X st t) (h2:PSs X rest u):PSs X (st :: rest) (tCut t u):=by
 intro pins s σ H D I h
 obtain ⟨M,h,hM⟩:=h
 refine wpAny_execs_cons (thn (h1 pins s σ H { D with nx:=M } I h) fun f s1 q=>?_)
 cases f with
 | next =>
  obtain ⟨σ',H',I',q⟩:=q
  exact h2 pins s1 σ' H' D I' (hM _ _ q)
 | ret v=>exact q
 | brk=>exact q
 | cont=>exact q
structure Def (K:W.Frag) (mg:Str→Option Value) (x:Str) (st:Stmt) (ps:List Str) (f:Addr) (fd:FuncData):Prop where
 fn:Fun K x x st f fd
 b:Zes K fd ps []
 m:mg x=some (.ref f)
theorem Zae {X:Cx}{k:Nat}{f:Addr}{fd:FuncData}{ps:List Str}{sp:Sp}{x:Str}{st:Stmt}{p pos:Pos}{e:Expr}{es:List Expr}{t:TA}(d:Def X.K X.mg x st ps f fd) (F:Zar X.prog X.w X.K X.mg X.base CX0 k f fd ps sp) (hr:Zcm k X.A)
  (ha:PA X (e :: es) t) (hg:Gl X x:=by rfl) (hdb:(x == ("__debug__":Str))=false:=by decide) (he:starEach (e :: es) X.env=(false,eval e X.env):: starEach es X.env:=by rfl) (hpl:(backTo pos (starEach es X.env)).any (·.1)=false:=by rfl):
  PE X (.Call (.Name x p) (e :: es) [] pos) (tCall sp [] E0 t):=pe_call F hr hg d.m d.fn.kp d.b .nil Zde ha hdb he hpl
theorem sL {n:Nat}(h:n≤100000):n≤sizeLine:=by rw [sizeLine_eq];omega
end L2
namespace L2
open PySem PySem.Spec PyProof.Rows PySem.W
mutual
inductive Rep (K:W.Frag) (H:Hp):V→Dat→Prop
 | none:Rep K H .non .none
 | bool (b:Bool):Rep K H (.bl b) (.bool b)
 | int (i:Int):Rep K H (.int i) (.int i)
 | str (x:Str):Rep K H (.str x) (.str x)
 | tuple {a:Addr} {xs:List V} {ds:List Dat}:SqT K H a xs→Reps K H xs ds→Rep K H (.ref a) (.tuple ds)
 | list {a:Addr} {xs:List V} {ds:List Dat}:SqL K H a xs→Reps K H xs ds→Rep K H (.ref a) (.list ds)
inductive Reps (K:W.Frag) (H:Hp):List V→List Dat→Prop
 | nil:Reps K H [] []
 | cons {v:V} {vs:List V} {d:Dat} {ds:List Dat}:Rep K H v d→Reps K H vs ds→Reps K H (v :: vs) (d :: ds)
end
theorem Zaj.tup {K:W.Frag}{H H':Hp}{a:Addr}{xs:List V}(e:Zaj H H') (h:SqT K H a xs):SqT K H' a xs:=by
 rcases h with (h | ⟨o,h⟩) | h
 ·exact .inl (.inl (e _ _ h))
 ·exact .inl (.inr ⟨o,e _ _ h⟩)
 ·exact .inr h
mutual
theorem Rep.mono {K:W.Frag}{H H':Hp}(e:Zaj H H'):∀ {v:V}{d:Dat},Rep K H v d→Rep K H' v d
 | _,_,.none=>.none
 | _,_,.bool b=>.bool b
 | _,_,.int i=>.int i
 | _,_,.str x=>.str x
 | _,_,.tuple h r=>.tuple (e.tup h) (Reps.mono e r)
 | _,_,.list h r=>.list (e.seq h) (Reps.mono e r)
theorem Reps.mono {K:W.Frag}{H H':Hp}(e:Zaj H H'):∀ {vs:List V}{ds:List Dat},Reps K H vs ds→Reps K H' vs ds
 | _,_,.nil=>.nil
 | _,_,.cons h r=>.cons (Rep.mono e h) (Reps.mono e r)
end
section
variable {X:Cx} {pins:List (Addr×Obj)} {σ:St} {H:Hp} {s:Shared}
mutual
theorem Rep.reads (I:Inv X pins σ H s):∀ {v:V}{d:Dat}{u:Value},Rep X.K H v d→Zcf v u→∃ as,Reads s.heap u (kqdP d) as
 | _,_,_,.none,r=>by cases (show _=Value.none from r);rw [kqdP];exact ⟨_,Reads.none⟩
 | _,_,_,.bool b,r=>by cases (show _=Value.bool b from r);rw [kqdP];exact ⟨_,Reads.bool b⟩
 | _,_,_,.int i,r=>by obtain ⟨t,e⟩:=(show ∃ t,_=Value.int i t from r);cases e;rw [kqdP];exact ⟨_,Reads.int i t⟩
 | _,_,_,.str x,r=>by obtain ⟨t,e⟩:=(show ∃ t,_=Value.str x t from r);cases e;rw [kqdP];exact ⟨_,Reads.str x t⟩
 | _,_,_,.tuple (a:=a) h q,r=>by
  cases (show _=Value.ref a from r)
  obtain ⟨its,rv,⟨o,e,c,n,d⟩,_⟩:=I.tuple h
  obtain ⟨as,p⟩:=Reps.reads I q rv
  rw [kqdP]
  exact ⟨as,reads_tuple_at e c d (by simpa using p)⟩
 | _,_,_,.list (a:=a) h q,r=>by
  cases (show _=Value.ref a from r)
  obtain ⟨its,rv,⟨o,n,e,c,_,d⟩,_⟩:=I.list h
  obtain ⟨as,p⟩:=Reps.reads I q rv
  rw [kqdP]
  exact ⟨_,reads_list_at e c d (by simpa using p)⟩
theorem Reps.reads (I:Inv X pins σ H s):∀ {vs:List V}{ds:List Dat}{us:List Value},Reps X.K H vs ds→Zb7 vs us→∃ as,ReadsAll s.heap us (kqdPs ds) as
 | _,_,_,.nil,r=>by cases r;rw [kqdPs];exact ⟨_,ReadsAll.nil⟩
 | _,_,_,.cons h q,r=>by
  cases r with
  | cons r1 r2 =>
   obtain ⟨as,p⟩:=Rep.reads I h r1
   obtain ⟨bs,t⟩:=Reps.reads I q r2
   rw [kqdPs]
   exact ⟨_,ReadsAll.cons p t⟩
end
end
noncomputable def dEq (d e:Dat):Bool:=@decide (d=e) (Classical.propDecidable _)
theorem dEq_self (d:Dat):dEq d d=true:=by unfold dEq;exact @decide_eq_true _ (Classical.propDecidable _) rfl
theorem dEq_pos {d e:Dat}(h:d=e):dEq d e=true:=by rw [h];exact dEq_self e
theorem dEq_neg {d e:Dat}(h:d≠e):dEq d e=false:=by unfold dEq;exact @decide_eq_false _ (Classical.propDecidable _) h
theorem eqv_dEq {d e:Dat}{n k:Nat} (h1:kqdOk n d=true) (h2:kqdOk k e=true):PyData.eqv (kqdP d) (kqdP e)=dEq d e:=by
 have q:=kqd_eqv n d e k h1 h2
 by_cases h:d=e
 ·rw [dEq_pos h];exact q.mpr h
 ·rw [dEq_neg h];exact Bool.eq_false_iff.mpr fun x=>h (q.mp x)
theorem Zei {d:Dat}(h:kqdOk 9 d=true):SeqAt.shaped (kqdP d)=true:=by
 have l:=kqd_lay 9 d h
 unfold SeqAt.shaped
 rw [l.1,Bool.true_and]
 exact decide_eq_true (Nat.le_trans l.2 (by decide))
section
variable {X:Cx}
noncomputable def rEqD (K:W.Frag) (f:Bool→Bool):R2:=fun x y H Q=>∃ d e,Rep K H x d∧Rep K H y e∧kqdOk 9 d=true∧kqdOk 9 e=true∧Q (.bl (f (dEq d e))) H
theorem op_eqD (hu:X.A.units + 64<cLine):OpR X (compareOp .Eq) (rEqD X.K id):=by
 intro pins s σ H x y v u Q I rx ry h
 obtain ⟨d,e,h1,h2,k1,k2,q⟩:=h
 obtain ⟨as,ra⟩:=h1.reads I rx
 obtain ⟨bs,rb⟩:=h2.reads I ry
 exact eq_dataH ra rb (Zei k1) (Zei k2) hu (Zbp I q (by rw [eqv_dEq k1 k2];rfl))
theorem op_neD (hu:X.A.units + 64<cLine):OpR X (compareOp .NotEq) (rEqD X.K Bool.not):=by
 intro pins s σ H x y v u Q I rx ry h
 obtain ⟨d,e,h1,h2,k1,k2,q⟩:=h
 obtain ⟨as,ra⟩:=h1.reads I rx
 obtain ⟨bs,rb⟩:=h2.reads I ry
 exact ne_dataH ra rb (Zei k1) (Zei k2) hu (Zbp I q (by rw [eqv_dEq k1 k2]))
end
end L2
namespace L2
open PySem PySem.Spec PyProof.Rows
section
variable {X:Cx} {pins:List (Addr×Obj)} {σ:St} {H H':Hp} {s:Shared} {a:Addr} {kvs:List (Key×V)} {o:Obj}
theorem Inv.reH (I:Inv X pins σ H s) (base:Un X.fs X.ex X.H₀ H' X.s₀.heap s.heap) (hn:∀ b,H b=none→H' b=none) (hok:HOk X.prog X.w H' s.heap):Inv X pins σ H' s :=
 ⟨I.ok,I.os,I.bare,base,I.loc,I.cell,hn _ I.free,fun x c e=>hn _ (I.freeC x c e),fun p hp=>by
  obtain ⟨e,n,r⟩:=I.pin p hp
  exact ⟨e,hn _ n,r⟩,hok,I.len⟩
theorem Inv.reAt {u u':HO}(I:Inv X pins σ H s) (h:H a=some u) (nt:∀ xs,u≠.tup xs) (no:∀ y,u≠.own y) (nb:∀ ps,u≠.tbl ps) (nf:∀ o v,X.H₀ a≠some (.frz o v))
  (ok:Zcn X.prog X.w H s.heap a u→Zcn X.prog X.w (upd H a u') s.heap a u'):Inv X pins σ (upd H a u') s:=by
 have hn:∀ b,H b=none→upd H a u' b=none:=fun b e=>by
  rw [Zab]
  ·exact e
  ·rintro rfl;rw [h] at e;cases e
 refine I.reH ⟨I.base.keep,I.base.slot,fun b ob e n hx=>hn b (I.base.free b ob e n hx),I.base.there,fun b xs e=>?_,fun b ob v e=>?_,fun b ps e=>?_⟩ hn ?_
 ·have q:=I.base.tups b xs e
  rw [Zab]
  ·exact q
  ·rintro rfl;rw [h] at q;exact nt xs (Option.some.inj q)
 ·have q:=I.base.frzs b ob v e
  rw [Zab]
  ·exact q
  ·rintro rfl;exact nf ob v e
 ·obtain ⟨m,q⟩:=I.base.tbls b ps e
  refine ⟨m,?_⟩
  rw [Zab]
  ·exact q
  ·rintro rfl;rw [h] at q;exact nb _ (Option.some.inj q)
 ·intro b v e
  by_cases hb:b=a
  ·subst hb
   rw [uS] at e
   cases e
   exact ok (I.hok b u h)
  ·rw [Zab hb] at e
   refine (I.hok b v e).stay (fun _ _ _ q=>q) (fun c q=>?_) fun c xs q=>?_
   ·rw [Zab]
    ·exact q
    ·rintro rfl;rw [h] at q;exact no _ (Option.some.inj q)
   ·rw [Zab]
    ·exact q
    ·rintro rfl;rw [h] at q;exact nt _ (Option.some.inj q)
theorem Inv.freeze (I:Inv X pins σ H s) (h:H a=some (.dK kvs)) (ho:s.heap.get? a=some o):Inv X pins σ (upd H a (.frz o (.dK kvs))) s∧∀ o' v,X.H₀ a≠some (.frz o' v):=by
 have nf:∀ o' v,X.H₀ a≠some (.frz o' v):=fun o' v e=>by
  have q:=I.base.frzs a o' v e
  rw [h] at q
  cases q
 refine ⟨I.reAt h (fun _ z=>nomatch z) (fun _ z=>nomatch z) (fun _ z=>nomatch z) nf fun k=>⟨ho,k.stay (fun _ _ _ q=>q) (fun c q=>?_) fun c xs q=>?_⟩,nf⟩
 ·rw [Zab]
  ·exact q
  ·rintro rfl;rw [h] at q;cases q
 ·rw [Zab]
  ·exact q
  ·rintro rfl;rw [h] at q;cases q
theorem relKey {P:Program}{w:World}{k:Key}{u:Value}(h:(Zbx P w).is k u=true):Zcf (kV k) u:=by
 rcases Zb0 (show keyIs k u=true from h) with ⟨i,t,rfl,rfl⟩ | ⟨x,t,rfl,rfl⟩
 ·exact ⟨t,rfl⟩
 ·exact ⟨t,rfl⟩
end
def Itk (a:Addr) (o:Obj) (kvs:List (Key×V)):It :=
 ⟨fun i H=>i<kvs.length∧H a=some (.frz o (.dK kvs)),fun i H v H'=>H'=H∧∃ p,kvs[i]?=some p∧v=kV p.1,fun i H=>kvs.length≤i∧H a=some (.frz o (.dK kvs))⟩
def Itv (a:Addr) (o:Obj) (kvs:List (Key×V)):It :=
 ⟨fun i H=>i<kvs.length∧H a=some (.frz o (.dK kvs)),fun i H v H'=>H'=H∧∃ p,kvs[i]?=some p∧v=p.2,fun i H=>kvs.length≤i∧H a=some (.frz o (.dK kvs))⟩
theorem KV.get {κ:Type}:∀ {kvs:List (κ×V)}{vs:List (κ×Value)},KV kvs vs→∀ {i:Nat}{p:κ×V},kvs[i]?=some p→∃ u,vs[i]?=some (p.1,u)∧Zcf p.2 u
 | _,_,.nil,i,p,h=>by simp at h
 | _,_,.cons r t,0,p,h=>by
  simp at h
  subst h
  exact ⟨_,by simp [r.1],r.2⟩
 | _,_,.cons r t,i + 1,p,h=>by
  obtain ⟨u,h1,h2⟩:=KV.get t (i:=i) (p:=p) (by simpa using h)
  exact ⟨u,by simpa using h1,h2⟩
theorem frz_dict {P:Program}{w:World}{H:Hp}{h:Heap}{a:Addr}{o:Obj}{kvs:List (Key×V)}{es:Array DictEntry}{ep:Nat}(ok:Zcn P w H h a (.frz o (.dK kvs))) (hd:o.data=.dict es ep):
  (a == sysModules)=false∧∃ vs,KV kvs vs∧h.DictAt (Zbx P w) a vs ep:=by
 obtain ⟨ho,z,hs,vs,r,o',es',ep',h1,h2,h3,h4,h5,h6⟩:=ok
 rw [ho] at h1
 cases h1
 rw [hd] at h3
 cases h3
 exact ⟨hs,vs,r,o,es,ho,h2,hd,h4,h5,h6⟩
theorem turn_keys {P:Program}{w:World}{K:W.Frag}{tg:Expr} (a it:Addr) (o:Obj) (kvs:List (Key×V)) (es:Array DictEntry) (ep:Nat) (hd:o.data=.dict es ep):
  Turn P w K tg (Itk a o kvs) [it] it (fun i h=>h.IsKeyIter it a i kvs.length ep) where
 mem:=by simp
 obj:=fun i h st b hb=>by
  have e:b=it:=by simpa using hb
  subst e
  obtain ⟨o,e,c,d⟩:=st
  exact ⟨o,e,fun v z=>by rw [d] at z;cases z⟩
 keep:=fun i h h' st k=>by
  obtain ⟨o,ho,r⟩:=st
  exact ⟨o,k it (by simp) o ho,r⟩
 item:=by
  intro X hP hw hK hc i pins s σ H E I hf st hg
  subst hP hw hK
  obtain ⟨f0,f1,f2,f3,f4,f5⟩:=hf it (by simp)
  obtain ⟨hi,ha⟩:=hg
  obtain ⟨_,vs,r,dd⟩:=frz_dict (I.hok a _ ha) hd
  obtain ⟨p,hp⟩:∃ p,kvs[i]?=some p:=⟨kvs[i],by simp [hi]⟩
  obtain ⟨u,hu,ru⟩:=r.get hp
  have hl:kvs.length=vs.length:=Paired.length r
  rw [hl] at st
  refine wpAny_pyNext_dict_item st dd hu fun key h' hk st' sb=>?_
  have I1:Inv X pins σ H { s with heap:=h' }:=I.turned (t':=s.toks) (fun b o hb e=>(sb.2 b hb).trans e) f0 f1 f3 f4 f5
  obtain ⟨o',e,c,d⟩:=id st'
  rw [← hl] at st'
  exact ⟨key,rfl,go_of (s:={ s with heap:=h' }) e c d (by decide) ⟨kV p.1,H,I1,relKey hk,⟨rfl,p,hp,rfl⟩,st',fun b hb=>(hf b hb).1⟩⟩
 done:=by
  intro X hP hw hK hc i pins s σ H E I hf st hg
  subst hP hw hK
  obtain ⟨f0,f1,f2,f3,f4,f5⟩:=hf it (by simp)
  obtain ⟨hi,ha⟩:=hg
  obtain ⟨_,vs,r,dd⟩:=frz_dict (I.hok a _ ha) hd
  have hl:kvs.length=vs.length:=Paired.length r
  rw [hl] at st
  exact wpAny_pyNext_dict_end (I.ok.hd hc) st dd (by simp;omega) fun h' eb=>⟨rfl,I.turned (t':=s.toks) (fun b o hb e=>eb b o hb e) f0 f1 f3 f4 f5⟩
 self:=fun _ _ _ _ _ st h=>wpAny_pyIter_keyiter st h
theorem turn_vals {P:Program}{w:World}{K:W.Frag}{tg:Expr} (a it:Addr) (o:Obj) (kvs:List (Key×V)) (es:Array DictEntry) (ep:Nat) (hd:o.data=.dict es ep):
  Turn P w K tg (Itv a o kvs) [it] it (fun i h=>h.IsValIter it a i kvs.length ep) where
 mem:=by simp
 obj:=fun i h st b hb=>by
  have e:b=it:=by simpa using hb
  subst e
  obtain ⟨o,e,c,d⟩:=st
  exact ⟨o,e,fun v z=>by rw [d] at z;cases z⟩
 keep:=fun i h h' st k=>by
  obtain ⟨o,ho,r⟩:=st
  exact ⟨o,k it (by simp) o ho,r⟩
 item:=by
  intro X hP hw hK hc i pins s σ H E I hf st hg
  subst hP hw hK
  obtain ⟨f0,f1,f2,f3,f4,f5⟩:=hf it (by simp)
  obtain ⟨hi,ha⟩:=hg
  obtain ⟨_,vs,r,dd⟩:=frz_dict (I.hok a _ ha) hd
  obtain ⟨p,hp⟩:∃ p,kvs[i]?=some p:=⟨kvs[i],by simp [hi]⟩
  obtain ⟨u,hu,ru⟩:=r.get hp
  have hl:kvs.length=vs.length:=Paired.length r
  rw [hl] at st
  refine wpAny_pyNext_values_item st dd hu fun h' st' sb=>?_
  have I1:Inv X pins σ H { s with heap:=h' }:=I.turned (t':=s.toks) (fun b o hb e=>(sb.2 b hb).trans e) f0 f1 f3 f4 f5
  obtain ⟨o',e,c,d⟩:=id st'
  rw [← hl] at st'
  exact ⟨u,rfl,go_of (s:={ s with heap:=h' }) e c d (by decide) ⟨p.2,H,I1,ru,⟨rfl,p,hp,rfl⟩,st',fun b hb=>(hf b hb).1⟩⟩
 done:=by
  intro X hP hw hK hc i pins s σ H E I hf st hg
  subst hP hw hK
  obtain ⟨f0,f1,f2,f3,f4,f5⟩:=hf it (by simp)
  obtain ⟨hi,ha⟩:=hg
  obtain ⟨_,vs,r,dd⟩:=frz_dict (I.hok a _ ha) hd
  have hl:kvs.length=vs.length:=Paired.length r
  rw [hl] at st
  exact wpAny_pyNext_values_end (I.ok.hd hc) st dd (by simp;omega) fun h' eb=>⟨rfl,I.turned (t':=s.toks) (fun b o hb e=>eb b o hb e) f0 f1 f3 f4 f5⟩
 self:=fun _ _ _ _ _ st h=>wpAny_pyIter_valiter st h
def tFrz (t:TS):TS:=fun D σ H=>∃ a kvs,H a=some (.dK kvs)∧∀ o,t D σ (upd H a (.frz o (.dK kvs)))
theorem pss_frz {X:Cx}{sts:List Stmt}{t:TS}(h:PSs X sts t):PSs X sts (tFrz t):=by
 intro pins s σ H D I q
 obtain ⟨a,kvs,ha,q⟩:=q
 obtain ⟨o,ho⟩:∃ o,s.heap.get? a=some o:=by
  obtain ⟨_,_,vs,_,o,_,_,e,_⟩:=I.hok a _ ha
  exact ⟨o,e⟩
 exact h pins s σ _ D (I.freeze ha ho).1 (q o)
theorem frz_data {P:Program}{w:World}{H:Hp}{h:Heap}{a:Addr}{o:Obj}{kvs:List (Key×V)}(ok:Zcn P w H h a (.frz o (.dK kvs))):∃ es ep,o.data=.dict es ep:=by
 obtain ⟨ho,z,hs,vs,r,o',es',ep',h1,h2,h3,_⟩:=ok
 rw [ho] at h1
 cases h1
 exact ⟨es',ep',h3⟩
theorem runs_keys {a:Addr}{o:Obj}{kvs:List (Key×V)}:Runs (Itk a o kvs) (kvs.map fun p=>kV p.1) (fun H=>H a=some (.frz o (.dK kvs))) where
 go:=fun i x H ok hx=>by
  have:=(List.getElem?_eq_some_iff.mp hx).1
  rw [List.length_map] at this
  exact ⟨this,ok⟩
 yld:=fun i x H y H' ok hx h=>by
  obtain ⟨e,p,hp,hy⟩:=h
  rw [List.getElem?_map,hp] at hx
  exact ⟨hy.trans (Option.some.inj hx),e⟩
 stop:=fun H ok=>⟨by rw [List.length_map];exact Nat.le_refl _,ok⟩
theorem runs_vals {a:Addr}{o:Obj}{kvs:List (Key×V)}:Runs (Itv a o kvs) (kvs.map fun p=>p.2) (fun H=>H a=some (.frz o (.dK kvs))) where
 go:=fun i x H ok hx=>by
  have:=(List.getElem?_eq_some_iff.mp hx).1
  rw [List.length_map] at this
  exact ⟨this,ok⟩
 yld:=fun i x H y H' ok hx h=>by
  obtain ⟨e,p,hp,hy⟩:=h
  rw [List.getElem?_map,hp] at hx
  exact ⟨hy.trans (Option.some.inj hx),e⟩
 stop:=fun H ok=>⟨by rw [List.length_map];exact Nat.le_refl _,ok⟩
section
variable {X:Cx} {tg:Expr}
def iKeys (tl:TE):TI:=fun σ H R=>tl σ H fun x H1=>∃ a o kvs,x=.ref a∧H1 a=some (.frz o (.dK kvs))∧R (Itk a o kvs) H1
theorem pi_keys {l:Expr}{tl:TE}(hl:PE X l tl):PI X tg l (iKeys tl):=by
 intro pins s σ H R I h
 refine thn (hl pins s σ H _ I h) fun v s1 ⟨x,H1,I1,r1,q1⟩=>?_
 obtain ⟨a,o,kvs,e,ha,q⟩:=q1
 subst e
 cases r1
 obtain ⟨es,ep,hd⟩:=frz_data (I1.hok a _ ha)
 obtain ⟨hs,vs,r,dd⟩:=frz_dict (I1.hok a _ ha) hd
 have hl:kvs.length=vs.length:=Paired.length r
 refine wpAny_pyIter_dict hs dd ?_
 refine ⟨s1.heap.objs.size,[s1.heap.objs.size],_,_,H1,rfl,I1.kept (t':=s1.toks) fun b o e=>Heap.get?_push_of_some _ e,turn_keys a _ o kvs es ep hd,⟨_,Heap.get?_push_size _ rfl,rfl,by rw [hl];rfl⟩,fun b hb=>?_,q⟩
 have e:b=s1.heap.objs.size:=by simpa using hb
 subst e
 exact I1.fpOk (Nat.le_refl _) (I1.hok.fresh (Nat.le_refl _))
end
end L2
namespace L2
open PySem PySem.Spec PyProof.Rows
theorem small_line' {n:Nat}(h:n≤10000000):n≤sizeLine:=by rw [sizeLine_eq];omega
theorem vals_of:∀ {xs:List V}{us:List Value},xs.length=us.length→(∀ (i:Nat) (v:V) (u:Value),xs[i]?=some v→us[i]?=some u→Zcf v u)→Zb7 xs us
 | [],[],_,_=>.nil
 | [],_ :: _,h,_=>by simp at h
 | _ :: _,[],h,_=>by simp at h
 | x :: xs,u :: us,h,k=>.cons (k 0 x u rfl rfl) (vals_of (by simpa using h) fun i v w hv hw=>k (i + 1) v w (by simpa using hv) (by simpa using hw))
theorem Ze8 {J:It}{xs:List V}{Ok:Hp→Prop}(R:Runs J xs Ok) {js:List Nat}{tt:TT}{te:TE}{σ:St}{Q:VK}{H1:Hp}(hz:xs.length≤sizeLine) (p:V→Bool) (F:Addr→V→V→Hp→Prop)
  (hF:∀ D x v H H',(∀ b o,b≠D→H b=some o→H' b=some o)→F D x v H→F D x v H')
  (hok:∀ H,Zaj H1 H→Ok H)
  (ht:∀ x H (R:Bool→Hp→Prop),Zaj H1 H→x∈xs→(∀ H',Zaj H H'→R (p x) H')→tt (some x :: js.map fun j=>(σ[j]?).join) H R)
  (he:∀ D x H (R:V→Hp→Prop),Zaj H1 H→(∃ ys,H D=some (.lst ys))→H1 D=none→x∈xs→p x=true→(∀ v H',Zaj H H'→F D x v H'→R v H')→te (some x :: js.map fun j=>(σ[j]?).join) H R)
  (hd:∀ D H' ys,H1 D=none→Zaj H1 H'→H' D=some (.lst ys)→Paired (fun x v=>F D x v H') (xs.filter p) ys→Q (.ref D) H'):
  compBody 1 js (gName 0) tt te σ Q J H1:=by
 refine Zdb R hz (fun D i ys σ' H=>H1 D=none∧Zaj H1 H∧H D=some (.lst ys)∧Paired (fun x v=>F D x v H) ((xs.take i).filter p) ys∧∃ o,σ'=o :: js.map fun j=>(σ[j]?).join) ?_ ?_ ?_ ?_
 ·intro D hD
  exact ⟨hD,fun b o e=>by rw [Zab (nNo e hD)];exact e,uS,by simpa using Paired.nil,none,rfl⟩
 ·rintro D i ys σ' H hi ⟨hD,hs,hl,hp,_⟩
  refine ⟨hok H hs,?_⟩
  rw [← hp.length]
  exact Nat.le_trans (List.length_filter_le _ _) (by rw [List.length_take];omega)
 ·rintro D i x ys σ' H hD hx ⟨_,hs,hl,hp,o,rfl⟩
  show tt (some x :: js.map fun j=>(σ[j]?).join) H _
  have hm:x∈xs:=List.mem_of_getElem? hx
  refine ht x H _ hs hm fun H4 s4=>?_
  have hs4:Zaj H1 H4:=hs.trans s4
  have mono:∀ {H H':Hp},(∀ b o,b≠D→H b=some o→H' b=some o)→Paired (fun x v=>F D x v H) ((xs.take i).filter p) ys→Paired (fun x v=>F D x v H') ((xs.take i).filter p) ys:=fun h q=>Paired.mapP q fun a b z=>hF D a b _ _ h z
  cases hpx:p x with
  | true =>
   rw [if_pos rfl]
   refine he D x H4 _ hs4 ⟨_,s4 _ _ hl⟩ hD hm hpx fun v H5 s5 f5=>⟨s5 _ _ (s4 _ _ hl),hD,fun b o e=>?_,uS,?_,_,rfl⟩
   ·rw [Zab (nNo e hD)]
    exact s5 _ _ (hs4 _ _ e)
   ·rw [take_succ_filter p xs i x hx,hpx,if_pos rfl]
    refine Paired.snoc (mono (fun b o hb e=>by rw [Zab hb];exact s5 _ _ (s4 _ _ e)) hp) (hF D _ _ _ _ (fun b o hb e=>by rw [Zab hb];exact e) f5)
  | false =>
   rw [if_neg Bool.false_ne_true]
   refine ⟨hD,hs4,s4 _ _ hl,?_,_,rfl⟩
   rw [take_succ_filter p xs i x hx,hpx,if_neg Bool.false_ne_true,List.append_nil]
   exact mono (fun b o _ e=>s4 _ _ e) hp
 ·rintro D ys σ' H hD ⟨_,hs,hl,hp,_⟩
  rw [List.take_length] at hp
  exact hd D H ys hD hs hl hp
section
variable {X:Cx}
def rInsert:V→List V→Hp→VK→Prop:=fun x vs H Q=>∃ l xs i y,x=.ref l∧vs=[.int i,y]∧H l=some (.lst xs)∧0≤i∧i≤xs.length∧xs.length<sizeLine∧Q .non (upd H l (.lst (xs.take i.toNat++y :: xs.drop i.toNat)))
theorem mt_insert:MtM X "list.insert" rInsert:=by
 intro pins s σ H x vs v us Q I rx rv h
 obtain ⟨l,xs,i,y,rfl,rfl,hH,h0,h1,hz,q⟩:=h
 cases rx
 obtain ⟨u,w',rfl,⟨t,rfl⟩,ru⟩:=vals2 rv
 obtain ⟨z,its,n,r,hl,e⟩:=I.lstM hH
 have hs:sizeLine=16777216:=sizeLine_eq
 have hc:¬ (!Builtin.List.listFitsIndex i)=true:=by
  have:Builtin.List.listFitsIndex i=true:=by
   unfold Builtin.List.listFitsIndex
   simp
   omega
  rw [this]
  decide
 refine call_meets F.slot_list_insert ⟨_,e,rfl⟩ F.entry_list_insert (F.args_list_insert_3 _ _ _) (PySem.AutoSeq1.list_insert_list_int_val_1 l its.toArray n i t w' hc (by rw [List.size_toArray];omega)) ⟨e,?_⟩
 have hk:(if i<0 then (i + (its.toArray.size:Int)).toNat else min i.toNat its.toArray.size)=i.toNat:=by
  rw [if_neg (by omega),List.size_toArray]
  omega
 refine ⟨.non,_,I.lset (its':=its.take i.toNat++w' :: its.drop i.toNat) hH e ?_ ?_ ?_,rfl,q⟩
 ·show (its.toArray.extract 0 (if i<0 then (i + (its.toArray.size:Int)).toNat else min i.toNat its.toArray.size)).push w'++its.toArray.extract (if i<0 then (i + (its.toArray.size:Int)).toNat else min i.toNat its.toArray.size)=_
  rw [hk]
  apply Array.ext'
  simp
  exact List.take_of_length_le (by rw [List.length_drop];exact Nat.le_refl _)
 ·exact (r.take _).append (.cons ru (r.drop _))
 ·rw [List.length_append,List.length_cons,List.length_take,List.length_drop]
  omega
theorem pe_listRange {a:Expr}{ta:TE}{p1 p2 pos1 pos2:Pos}(hc:X.calm=true) (ha:PE X a ta) (hg1:Gl X "list") (hm1:X.mg "list"=none) (hg2:Gl X "range") (hm2:X.mg "range"=none)
  (hs:starEach [a] X.env=[(false,eval a X.env)]:=by rfl)
  (hs2:starEach [.Call (.Name "range" p2) [a] [] pos2] X.env=[(false,eval (.Call (.Name "range" p2) [a] [] pos2) X.env)]:=by rfl):
  PE X (.Call (.Name "list" p1) [.Call (.Name "range" p2) [a] [] pos2] [] pos1) (fun σ H Q=>tCons ta tNil σ H fun vs H1=>∃ j:Int,vs=[.int j]∧0≤j∧j≤1000000∧∀ l,H1 l=none→Q (.ref l) (upd H1 l (.lst (Zcq 0 j.toNat)))):=by
 intro pins s σ H Q I h
 refine wpAny_Call_Name_kw (ld_blt I hg1 hm1 PyProof.Rows.boot_list ?_ (by decide) (by decide))
 refine PyProof.Rows.callWith_type1 ?_ hs2 rfl
 refine Calls.spliced_cons ?_
 refine wpAny_Call_Name_kw (ld_blt I hg2 hm2 boot_range ?_ (by decide) (by decide))
 refine PyProof.Rows.callWith_type1 ?_ hs rfl
 have pa:PA X [a] (tCons ta tNil):=pC ha Zaa hs
 refine thn (pa pos2 pins s σ H (fun vs H1=>∃ j:Int,vs=[.int j]∧0≤j∧j≤1000000∧∀ l,H1 l=none→Q (.ref l) (upd H1 l (.lst (Zcq 0 j.toNat)))) I h) fun us s1 ⟨vs,H1,I1,r1,q1⟩=>?_
 obtain ⟨j,e,h0,h1,q⟩:=q1
 subst e
 obtain ⟨u,rfl,t,rfl⟩:=vals1 r1
 refine call_range_1 (Calls.spliced_nil ?_)
 have I2:Inv X pins σ H1 { s1 with heap:=s1.heap.push { cls:=.type "range",data:=.fields #[.int 0 s1.toks,.int j t,.int 1 (s1.toks + 1)] },toks:=s1.toks + 1 + 1 }:=I1.kept fun b o e=>Heap.get?_push_of_some _ e
 refine call_list_range (n:=j.toNat) (I1.ok.hd hc) (IsRange.new ..) (small_one (by decide) (by decide) (by omega) (by omega)) (by rw [rangeSize_one];split <;> omega) (by omega) fun h' tk acc' c' hk hS' hacc=>?_
 obtain ⟨a1,a2⟩:=hacc
 have hnew:H1 (s1.heap.push { cls:=.type "range",data:=.fields #[.int 0 s1.toks,.int j t,.int 1 (s1.toks + 1)] }).objs.size=none:=I2.hok.fresh (Nat.le_refl _)
 refine ⟨.ref _,_,I2.laid (o:=.lst (Zcq 0 j.toNat)) hk (Nat.le_refl _) ⟨?_,acc'.toList,c',?_,by simpa using hS'⟩,rfl,q _ hnew⟩
 ·rw [Zay]
  exact small_line' (by omega)
 ·have len:(Zcq 0 j.toNat).length=acc'.toList.length:=by rw [Zay,Array.length_toList,a1]
  exact vals_of len fun i v u hv hu=>by
   obtain ⟨hi,e⟩:=Zaz hv
   obtain ⟨t',e'⟩:=a2 i u (by rw [← Array.getElem?_toList];exact hu)
   rw [e,e']
   exact ⟨t',by rw [Int.mul_one]⟩
end
end L2
namespace Graph
variable {α:Type} [DecidableEq α]
inductive Reach (ups:α→List α):α→α→Prop
 | refl (a:α):Reach ups a a
 | step {a b c:α}:b∈ups a→Reach ups b c→Reach ups a c
theorem Reach.trans {ups:α→List α}{a b c:α}(h:Reach ups a b) (k:Reach ups b c):Reach ups a c:=by
 induction h with
 | refl=>exact k
 | step m _ ih=>exact .step m (ih k)
theorem Reach.one {ups:α→List α}{a b:α}(h:b∈ups a):Reach ups a b:=.step h (.refl b)
theorem Reach.snoc {ups:α→List α}{a b c:α}(h:Reach ups a b) (k:c∈ups b):Reach ups a c:=h.trans (.one k)
theorem Reach.rank {ups:α→List α}{rk:α→Nat}(hr:∀ a b,b∈ups a→rk b<rk a) {a b:α}(h:Reach ups a b):rk b≤rk a:=by
 induction h with
 | refl=>exact Nat.le_refl _
 | step m _ ih=>have:=hr _ _ m;omega
theorem Reach.rank_lt {ups:α→List α}{rk:α→Nat}(hr:∀ a b,b∈ups a→rk b<rk a) {a b:α}(h:Reach ups a b) (hne:a≠b):rk b<rk a:=by
 cases h with
 | refl=>exact absurd rfl hne
 | step m k =>
  have h1:=hr _ _ m
  have h2:=Reach.rank hr k
  omega
def kept (ups:α→List α) (left:List α):List α:=left.filter fun w=>(ups w).any fun u=>decide (u∈left)
theorem kept_sub {ups:α→List α}{left:List α}{w:α}(h:w∈kept ups left):w∈left:=(List.mem_filter.mp h).1
theorem kept_le (ups:α→List α) (left:List α):(kept ups left).length≤left.length:=List.length_filter_le _ _
theorem filter_all {p:α→Bool}:∀ {l:List α},(l.filter p).length=l.length→l.filter p=l
 | [],_=>rfl
 | a :: r,h=>by
  have hle:=List.length_filter_le p r
  rw [List.filter_cons] at h ⊢
  cases hp:p a with
  | true =>
   rw [hp,if_pos rfl,List.length_cons,List.length_cons] at h
   rw [if_pos rfl,filter_all (by omega)]
  | false =>
   rw [hp,if_neg Bool.false_ne_true,List.length_cons] at h
   omega
theorem min_rank (rk:α→Nat):∀ (l:List α),l≠[]→∃ m,m∈l∧∀ x∈l,rk m≤rk x
 | [],h=>absurd rfl h
 | a :: r,_=>by
  by_cases hr:r=[]
  ·subst hr
   exact ⟨a,by simp,fun x hx=>by simp at hx;subst hx;exact Nat.le_refl _⟩
  ·obtain ⟨m,hm,hx⟩:=min_rank rk r hr
   by_cases hc:rk a≤rk m
   ·refine ⟨a,by simp,fun x hx'=>?_⟩
    rcases List.mem_cons.mp hx' with e | e
    ·subst e;exact Nat.le_refl _
    ·exact Nat.le_trans hc (hx x e)
   ·refine ⟨m,List.mem_cons_of_mem _ hm,fun x hx'=>?_⟩
    rcases List.mem_cons.mp hx' with e | e
    ·subst e;omega
    ·exact hx x e
theorem kept_nil {ups:α→List α}{left:List α}{rk:α→Nat}(hr:∀ a∈left,∀ b∈ups a,rk b<rk a) (h:(kept ups left).length=left.length):left=[]:=by
 refine Classical.byContradiction fun hne=>?_
 obtain ⟨m,hm,hx⟩:=min_rank rk left hne
 have e:kept ups left=left:=filter_all h
 rw [← e] at hm
 obtain ⟨h1,h2⟩:=List.mem_filter.mp hm
 obtain ⟨u,hu,hd⟩:=List.any_eq_true.mp h2
 have hl:u∈left:=of_decide_eq_true hd
 have a:=hr m h1 u hu
 have b:=hx u hl
 omega
theorem nodup_le:∀ {l k:List α},l.Nodup→(∀ x∈l,x∈k)→l.length≤k.length
 | [],k,_,_=>Nat.zero_le _
 | a :: r,k,hn,hs=>by
  obtain ⟨h1,h2⟩:=List.nodup_cons.mp hn
  have ha:a∈k:=hs a (by simp)
  have:=nodup_le (k:=k.erase a) h2 fun x hx=>(List.mem_erase_of_ne (fun (e:x=a)=>h1 (by rw [← e];exact hx))).mpr (hs x (List.mem_cons_of_mem _ hx))
  rw [List.length_erase_of_mem ha] at this
  have hpos:0<k.length:=List.length_pos_of_mem ha
  rw [List.length_cons]
  omega
theorem closed_reach {ups:α→List α}{S:α→Prop}(hc:∀ x,S x→∀ y∈ups x,S y) {a b:α}(h:Reach ups a b) (ha:S a):S b:=by
 induction h with
 | refl=>exact ha
 | step m _ ih=>exact ih (hc _ ha _ m)
end Graph
namespace Md
open PySem L2
abbrev letters:Str:="abcdefghijklmnopqrstuvwxyz"
def isLow (c:Nat):Bool:=decide (97≤c∧c≤122)
def Zbh (x:Str):Bool:=decide (1≤x.length∧x.length≤8)&&x.cps.toList.all isLow
theorem letters_eq:letters.cps.toList=[97,98,99,100,101,102,103,104,105,106,107,108,109,110,111,112,113,114,115,116,117,118,119,120,121,122]:=by decide +kernel
theorem letters_at {i:Nat}(h:i<26):letters.cps.toList[i]?=some (97 + i):=by
 rw [letters_eq]
 have:∀ i:_root_.Fin 26,([97,98,99,100,101,102,103,104,105,106,107,108,109,110,111,112,113,114,115,116,117,118,119,120,121,122]:List Nat)[i.1]?=some (97 + i.1):=by decide
 exact this ⟨i,h⟩
theorem letters_rng:letters.cps.toList=(List.range 26).map (97 + ·):=by rw [letters_eq];rfl
theorem low_in (c:Nat):(!(Builtin.Str.occurrences letters ⟨#[c]⟩ 0 letters.length 1).isEmpty)=isLow c:=by
 rw [StrLaws.found_one,letters_rng]
 unfold isLow
 rw [decide_eq_decide,List.mem_map]
 constructor
 ·rintro ⟨a,ha,rfl⟩
  have:=List.mem_range.mp ha
  omega
 ·intro h
  exact ⟨c - 97,List.mem_range.mpr (by omega),by omega⟩
theorem str_len (x:Str):x.cps.toList.length=x.length:=by simp [Str.length]
theorem len_one (c:Nat):(⟨#[c]⟩:Str).length=1:=rfl
theorem len_app (x y:Str):(x++y).length=x.length + y.length:=by
 show (x.cps++y.cps).size=_
 rw [Array.size_append]
 rfl
theorem app_list (x y:Str):(x++y).cps.toList=x.cps.toList++y.cps.toList:=by
 show (x.cps++y.cps).toList=_
 rw [Array.toList_append]
theorem str_ext {x y:Str}(h:x.cps.toList=y.cps.toList):x=y:=by
 cases x;cases y
 congr 1
 exact Array.ext' h
def inLet:V→V
 | .str y=>.bl (!(Builtin.Str.occurrences letters y 0 letters.length 1).isEmpty)
 | _=>.non
theorem signs_low (x:Str):((signsV x).filter fun _=>true).map inLet=(x.cps.toList.map isLow).map V.bl:=by
 rw [List.filter_eq_self.mpr fun _ _=>rfl]
 unfold signsV
 rw [List.map_map,List.map_map]
 refine List.map_congr_left fun c _=>?_
 show V.bl _=V.bl _
 rw [low_in]
theorem Zdm (x:Str):Zbh x=true↔(1≤x.cps.toList.length∧x.cps.toList.length≤8)∧∀ c∈x.cps.toList,isLow c=true:=by
 unfold Zbh
 rw [Bool.and_eq_true,decide_eq_true_eq,List.all_eq_true,str_len]
theorem word_len {x:Str}(h:Zbh x=true):1≤x.length∧x.length≤8:=by
 have:=((Zdm x).mp h).1
 rwa [str_len] at this
theorem word_ok {x:Str}(h:Zbh x=true):PyData.strOk x=true:=by
 unfold PyData.strOk
 rw [Array.all_eq_true']
 intro c hc
 have:=((Zdm x).mp h).2 c (by simpa using hc)
 have:=of_decide_eq_true this
 exact decide_eq_true (by omega)
def Zbr (n:Nat):List Nat:=(97 + n % 26):: (if h:n / 26=0 then [] else Zbr (n / 26))
termination_by n
decreasing_by omega
theorem Zdl (n:Nat):Zbr n=(97 + n % 26):: (if n / 26=0 then [] else Zbr (n / 26)):=by
 rw [Zbr]
 by_cases h:n / 26=0
 ·rw [dif_pos h,if_pos h]
 ·rw [dif_neg h,if_neg h]
theorem lettersF_len:∀ (k n:Nat),n<26 ^ (k + 1)→(Zbr n).length≤k + 1
 | 0,n,h=>by
  rw [Zdl,if_pos (by have:n<26:=h;omega)]
  exact Nat.le_refl _
 | k + 1,n,h=>by
  rw [Zdl]
  by_cases h0:n / 26=0
  ·rw [if_pos h0];simp
  ·rw [if_neg h0,List.length_cons]
   have:=lettersF_len k (n / 26) (Nat.div_lt_of_lt_mul (by rw [Nat.pow_succ] at h;omega))
   omega
theorem lettersF_low (n:Nat):∀ c∈Zbr n,isLow c=true:=by
 induction n using Nat.strongRecOn with
 | ind n ih =>
  rw [Zdl]
  intro c hc
  rcases List.mem_cons.mp hc with e | hc
  ·rw [e]
   exact decide_eq_true (by omega)
  ·by_cases h0:n / 26=0
   ·rw [if_pos h0] at hc;cases hc
   ·rw [if_neg h0] at hc
    exact ih (n / 26) (by omega) c hc
def valF:List Nat→Nat
 | []=>0
 | c :: r=>(c - 97) + 26 * valF r
theorem lettersF_val (n:Nat):valF (Zbr n)=n:=by
 induction n using Nat.strongRecOn with
 | ind n ih =>
  rw [Zdl]
  unfold valF
  by_cases h0:n / 26=0
  ·rw [if_pos h0]
   unfold valF
   omega
  ·rw [if_neg h0,ih (n / 26) (by omega)]
   omega
def Zb6 (n:Nat):Str:=⟨(Zbr n).toArray⟩
theorem lettersS_list (n:Nat):(Zb6 n).cps.toList=Zbr n:=by simp [Zb6]
theorem lettersS_inj {a b:Nat}(h:Zb6 a=Zb6 b):a=b:=by
 have:=congrArg (fun s:Str=>valF s.cps.toList) h
 simpa [lettersS_list,lettersF_val] using this
theorem lettersF_pos (n:Nat):1≤(Zbr n).length:=by rw [Zdl];simp
theorem lettersS_word {n:Nat}(h:n<26 ^ 8):Zbh (Zb6 n)=true:=by
 rw [Zdm,lettersS_list]
 exact ⟨⟨lettersF_pos n,lettersF_len 7 n h⟩,lettersF_low n⟩
theorem idx_take (j:Int) (n:Nat) (h:0≤j):Builtin.Str.strSliceIndices none (some j) 1 n=List.range (min j.toNat n):=by
 unfold Builtin.Str.strSliceIndices sliceRange
 have h1:¬ j<0:=by omega
 simp only [show (1:Int) > 0 by decide,if_true,if_neg h1]
 have e:(max (0:Int) (min j (n:Int)))=((min j.toNat n:Nat):Int):=by omega
 rw [e]
 have e2:(if (0:Int)<((min j.toNat n:Nat):Int) then (((min j.toNat n:Nat):Int) - 0 + 1 - 1) / 1 else 0)=((min j.toNat n:Nat):Int):=by
  split
  ·rw [Int.ediv_one];omega
  ·omega
 rw [e2,Int.toNat_natCast]
 have:∀ l:List Nat,l.map (fun (k:Nat)=>((0:Int) + 1 * (k:Int)).toNat)=l:=fun l=>by
  conv=>rhs;rw [← List.map_id l]
  refine List.map_congr_left fun k _=>?_
  show _=k
  omega
 exact this _
theorem filter_range (l:List Nat):∀ m,m≤l.length→(List.range m).filterMap (fun i=>l.toArray[i]?)=l.take m
 | 0,_=>by simp
 | m + 1,h=>by
  rw [List.range_succ,List.filterMap_append,filter_range l m (by omega),List.take_add_one]
  have:m<l.length:=h
  simp [this]
theorem slice_take (x:Str) (j:Int) (h:0≤j):(Txt.slice x none (some j)).cps.toList=x.cps.toList.take j.toNat:=by
 unfold Txt.slice
 rw [idx_take j x.length h]
 have hl:=str_len x
 split
 ·rename_i hc
  have:min j.toNat x.length=x.length:=by simpa using hc
  rw [List.take_of_length_le (by omega)]
 ·have q:=filter_range x.cps.toList (min j.toNat x.length) (by omega)
  have e:x.cps.toList.toArray=x.cps:=by simp
  rw [e] at q
  show ((List.range (min j.toNat x.length)).filterMap (x.cps[·]?)).toArray.toList=_
  rw [List.toList_toArray,q]
  by_cases hj:j.toNat≤x.length
  ·rw [Nat.min_eq_left hj]
  ·rw [Nat.min_eq_right (by omega),List.take_of_length_le (by omega),List.take_of_length_le (by omega)]
def PotO (o:HO):Prop:=∃ r b:Int,o=.lst [.int r,.int b]∧0≤r∧r<10 ^ 256∧0≤b∧b<2147483647
structure Drawn (p:Addr) (H H':Hp):Prop where
 keep:∀ b o,b≠p→H b=some o→H' b=some o
 pot:∃ o,H' p=some o∧PotO o
theorem Drawn.refl {p:Addr}{H:Hp}(h:∃ o,H p=some o∧PotO o):Drawn p H H:=⟨fun _ _ _ e=>e,h⟩
theorem Drawn.trans {p:Addr}{H H1 H2:Hp}(a:Drawn p H H1) (b:Drawn p H1 H2):Drawn p H H2:=⟨fun c o hc e=>b.keep c o hc (a.keep c o hc e),b.pot⟩
theorem Drawn.upd {p:Addr}{H:Hp}{o:HO}(h:PotO o):Drawn p H (L2.upd H p o):=⟨fun b u hb e=>by rw [Zab hb];exact e,_,uS,h⟩
theorem Drawn.new {p q:Addr}{H H':Hp}{o:HO}(d:Drawn p H H') (hq:H' q=none):Drawn p H (L2.upd H' q o):=
 ⟨fun b u hb e=>by rw [Zab (nNo (d.keep b u hb e) hq)];exact d.keep b u hb e,by
  obtain ⟨u,h1,h2⟩:=d.pot
  exact ⟨u,by rw [Zab (nNo h1 hq)];exact h1,h2⟩⟩
theorem Drawn.same {p:Addr}{H H1 H2:Hp}(d:Drawn p H H1) (s:Zaj H1 H2):Drawn p H H2 :=
 ⟨fun b u hb e=>s _ _ (d.keep b u hb e),by obtain ⟨u,h1,h2⟩:=d.pot;exact ⟨u,s _ _ h1,h2⟩⟩
theorem Drawn.sub {p q:Addr}{H H1 H2:Hp}{o':HO}(d:Drawn p H H1) (k:∀ b o,b≠q→H1 b=some o→H2 b=some o) (hq:H q=none) (hp:p≠q):Drawn p H H2 :=
 ⟨fun b u hb e=>k _ _ (nNo e hq) (d.keep b u hb e),by obtain ⟨u,h1,h2⟩:=d.pot;exact ⟨u,k _ _ hp h1,h2⟩⟩
theorem _root_.L2.SqL.mono_new {K:W.Frag}{H:Hp}{a q:Addr}{xs:List V}{o:HO}(h:SqL K H a xs) (hq:H q=none):SqL K (L2.upd H q o) a xs :=
 Zaj.seq (fun b u e=>by rw [Zab (nNo e hq)];exact e) h
theorem Za1 {n:Nat}(h:n≤100000):n<sizeLine:=by rw [sizeLine_eq];omega
def strsOf:List Expr→Option (List Str)
 | []=>some []
 | .Constant (.str x) _ _ :: r=>(strsOf r).map (x :: ·)
 | _=>none
theorem pa_strsOf {X:Cx}:∀ {es:List Expr}{ws:List Str},strsOf es=some ws→PA X es (fun _ H Q=>Q (ws.map V.str) H):=by
 intro es
 induction es with
 | nil =>
  intro ws h
  have e:ws=[]:=(Option.some.inj h).symm
  subst e
  exact Zaa
 | cons e r ih =>
  intro ws h
  cases e with
  | Constant c j p =>
   cases c with
   | str x =>
    have h':(strsOf r).map (x :: ·)=some ws:=h
    obtain ⟨vs,h1,h2⟩:=Option.map_eq_some_iff.mp h'
    subst h2
    exact pC Zb3 (ih h1) rfl
   | _=>exact nomatch (show (none:Option (List Str))=some ws from h)
  | _=>exact nomatch (show (none:Option (List Str))=some ws from h)
theorem in_strs (x:Str):∀ ws:List Str,inV (.str x) (ws.map V.str)=decide (x∈ws)
 | []=>rfl
 | w :: r=>by
  have ih:=in_strs x r
  unfold inV at ih ⊢
  rw [List.map_cons,List.any_cons,ih]
  show ((w == x) || decide (x∈r))=decide (x∈w :: r)
  rw [Bool.eq_iff_iff]
  simp only [Bool.or_eq_true,beq_iff_eq,decide_eq_true_eq,List.mem_cons]
  constructor
  ·rintro (h | h)
   ·exact .inl h.symm
   ·exact .inr h
  ·rintro (h | h)
   ·exact .inl h.symm
   ·exact .inr h
theorem Zdz (ws:List Str):(ws.map V.str).all flatV=true:=by
 rw [List.all_eq_true]
 intro v hv
 obtain ⟨w,_,e⟩:=List.mem_map.mp hv
 rw [← e]
 rfl
theorem Zdy {K:W.Frag}{H:Hp}:∀ ws:List Str,Reps K H (ws.map V.str) (ws.map W.Dat.str)
 | []=>.nil
 | w :: r=>.cons (.str w) (Zdy r)
end Md
namespace Md
open PySem L2
def RowV (H:Hp) (r:Str×List Str) (v:V):Prop:=∃ t u,v=.ref t∧H t=some (.tup [.str r.1,.ref u])∧H u=some (.tup (r.2.map V.str))
def Zdf (H:Hp) (l:Addr) (rows:List (Str×List Str)):Prop:=∃ vs,H l=some (.lst vs)∧Paired (RowV H) rows vs
structure Zcr (rows:List (Str×List Str)):Prop where
 ne:1≤rows.length
 le:rows.length≤24
 word:∀ r∈rows,Zbh r.1=true
 nd:(rows.map (·.1)).Nodup
 few:∀ r∈rows,r.2.length≤8
 known:∀ r∈rows,∀ u∈r.2,u∈rows.map (·.1)
 upnd:∀ r∈rows,r.2.Nodup
 rank:∃ rk:Str→Nat,∀ r∈rows,∀ u∈r.2,rk u<rk r.1
def rowsOf (ws:List Str) (uf:List (List Nat)) (os:List Nat):List (Str×List Str):=os.map fun j=>(ws.getD j "",(uf.getD j []).map fun i=>ws.getD i "")
theorem good_of {ws:List Str}{uf:List (List Nat)}{os:List Nat}{m:Nat} (hm0:1≤m) (hm:m≤24) (hw:∀ x∈ws,Zbh x=true) (hn:ws.Nodup) (hl:ws.length=m) (hu:∀ (k:Nat) (js:List Nat),uf[k]?=some js→(∀ j∈js,j<k)∧js.Nodup∧js.length≤8) (hul:uf.length=m)
  (on:os.Nodup) (om:∀ j,j∈os↔j<m) (ol:os.length=m):Zcr (rowsOf ws uf os):=by
 have at_:∀ {j:Nat},j<m→ws.getD j ""∈ws∧ws[j]?=some (ws.getD j ""):=fun {j} h=>by
  have hj:j<ws.length:=by omega
  rw [List.getD_eq_getElem?_getD,List.getElem?_eq_getElem hj]
  exact ⟨List.getElem_mem hj,rfl⟩
 have inj:∀ {i j:Nat},i<m→j<m→ws.getD i ""=ws.getD j ""→i=j:=fun {i j} hi hj e=>by
  have a:=(at_ hi).2
  have b:=(at_ hj).2
  rw [e] at a
  exact nodup_ix hn a b
 have ups:∀ {j:Nat},j<m→∃ js,uf.getD j []=js∧(∀ i∈js,i<j)∧js.Nodup∧js.length≤8:=fun {j} h=>by
  have hj:j<uf.length:=by omega
  have e:uf[j]?=some (uf.getD j []):=by rw [List.getD_eq_getElem?_getD,List.getElem?_eq_getElem hj];rfl
  exact ⟨_,rfl,hu j _ e⟩
 have mem:∀ {r:Str×List Str},r∈rowsOf ws uf os→∃ j,j<m∧r=(ws.getD j "",(uf.getD j []).map fun i=>ws.getD i ""):=fun {r} h=>by
  obtain ⟨j,hj,e⟩:=List.mem_map.mp h
  exact ⟨j,(om j).mp hj,e.symm⟩
 have words:(rowsOf ws uf os).map (·.1)=os.map fun j=>ws.getD j "":=by
  unfold rowsOf
  rw [List.map_map]
  rfl
 refine ⟨by unfold rowsOf;rw [List.length_map];omega,by unfold rowsOf;rw [List.length_map];omega,fun r hr=>?_,?_,fun r hr=>?_,fun r hr u hu'=>?_,fun r hr=>?_,fun x=>ws.idxOf x,fun r hr u hu'=>?_⟩
 ·obtain ⟨j,hj,rfl⟩:=mem hr
  exact hw _ (at_ hj).1
 ·rw [words,List.nodup_iff_pairwise_ne,List.pairwise_map]
  refine (List.nodup_iff_pairwise_ne.mp on).imp_of_mem fun {a b} ha hb h e=>h (inj ((om a).mp ha) ((om b).mp hb) e)
 ·obtain ⟨j,hj,rfl⟩:=mem hr
  obtain ⟨js,e,_,_,h8⟩:=ups hj
  show ((uf.getD j []).map fun i=>ws.getD i "").length≤8
  rw [List.length_map,e]
  exact h8
 ·obtain ⟨j,hj,rfl⟩:=mem hr
  obtain ⟨i,hi,e⟩:=List.mem_map.mp hu'
  obtain ⟨js,e',hb,_⟩:=ups hj
  rw [e'] at hi
  have hij:=hb i hi
  rw [words]
  exact List.mem_map.mpr ⟨i,(om i).mpr (by omega),e⟩
 ·obtain ⟨j,hj,rfl⟩:=mem hr
  obtain ⟨js,e',hb,hnd,_⟩:=ups hj
  show ((uf.getD j []).map fun i=>ws.getD i "").Nodup
  rw [e',List.nodup_iff_pairwise_ne,List.pairwise_map]
  refine (List.nodup_iff_pairwise_ne.mp hnd).imp_of_mem fun {a b} ha hb' h e=>h (inj (by have:=hb a ha;omega) (by have:=hb b hb';omega) e)
 ·obtain ⟨j,hj,rfl⟩:=mem hr
  obtain ⟨i,hi,e⟩:=List.mem_map.mp hu'
  obtain ⟨js,e',hb,_⟩:=ups hj
  rw [e'] at hi
  have hij:=hb i hi
  have ix:∀ {j:Nat},j<m→ws.idxOf (ws.getD j "")=j:=fun {j} h=>by
   have a:=(at_ h).1
   have lt:ws.idxOf (ws.getD j "")<ws.length:=List.idxOf_lt_length_iff.mpr a
   have g:ws[ws.idxOf (ws.getD j "")]?=some (ws.getD j ""):=by rw [List.getElem?_eq_getElem lt,List.getElem_idxOf lt]
   exact nodup_ix hn g (at_ h).2
  show ws.idxOf u<ws.idxOf (ws.getD j "")
  rw [← e,ix hj,ix (by omega)]
  exact hij
end Md
namespace L2
open PySem PySem.Spec PyProof.Rows
section
variable {X:Cx} {tg:Expr}
def SqB (K:W.Frag) (b:Bool) (H:Hp) (a:Addr) (xs:List V):Prop:=if b=true then SqL K H a xs else SqT K H a xs
theorem SqB.mono {K:W.Frag}{b:Bool}{H H':Hp}{a:Addr}{xs:List V}(h:SqB K b H a xs) (s:Zaj H H'):SqB K b H' a xs:=by
 cases b with
 | true=>exact s.seq (show SqL K H a xs from h)
 | false=>exact s.tup (show SqT K H a xs from h)
def Itq (K:W.Frag) (b:Bool) (a:Addr) (xs:List V):It:=⟨fun i H=>i<xs.length∧SqB K b H a xs,fun i H x H'=>H'=H∧xs[i]?=some x,fun i H=>xs.length≤i∧SqB K b H a xs⟩
theorem Zfw {K:W.Frag}{b:Bool}{a:Addr}{xs:List V}:Runs (Itq K b a xs) xs (fun H=>SqB K b H a xs) where
 go:=fun i x H ok hx=>⟨(List.getElem?_eq_some_iff.mp hx).1,ok⟩
 yld:=fun i x H y H' ok hx h=>by
  obtain ⟨e,h⟩:=h
  rw [hx] at h
  exact ⟨(Option.some.inj h).symm,e⟩
 stop:=fun H ok=>⟨Nat.le_refl _,ok⟩
theorem Turn.imp {P:Program}{w:World}{K:W.Frag}{tg:Expr}{J J':It}{fp:List Addr}{it:Addr}{tn:Nat→Heap→Prop}(T:Turn P w K tg J fp it tn) (hgo:∀ i H,J'.go i H→J.go i H)
  (hy:∀ i H x H',J'.go i H→J.yld i H x H'→J'.yld i H x H') (hs:∀ i H,J'.stop i H→J.stop i H):Turn P w K tg J' fp it tn where
 mem:=T.mem
 obj:=T.obj
 keep:=T.keep
 item:=fun X h1 h2 h3 h4 i pins s σ H E I hf st g=>thn (T.item X h1 h2 h3 h4 i pins s σ H E I hf st (hgo i H g)) fun r s1 ⟨u,e,h⟩=>⟨u,e,thn h fun _ s2 ⟨x,H',I',r',y,t,f⟩=>⟨x,H',I',r',hy i H x H' g y,t,f⟩⟩
 done:=fun X h1 h2 h3 h4 i pins s σ H E I hf st g=>T.done X h1 h2 h3 h4 i pins s σ H E I hf st (hs i H g)
 self:=T.self
def iSeq (K:W.Frag) (tl:TE):TI:=fun σ H R=>tl σ H fun x H1=>∃ b a xs,x=.ref a∧SqB K b H1 a xs∧R (Itq K b a xs) H1
theorem pi_seq {l:Expr}{tl:TE}(hl:PE X l tl):PI X tg l (iSeq X.K tl):=by
 intro pins s σ H R I h
 refine thn (hl pins s σ H _ I h) fun v s1 ⟨x,H1,I1,r1,q1⟩=>?_
 obtain ⟨b,a,xs,e,hq,q⟩:=q1
 subst e
 cases r1
 have fp:∀ b∈[s1.heap.objs.size],FpOk X pins H1 b:=fun b hb=>by
  have e:b=s1.heap.objs.size:=by simpa using hb
  subst e
  exact I1.fpOk (Nat.le_refl _) (I1.hok.fresh (Nat.le_refl _))
 have get:∀ {i:Nat} {ys:List V},i<ys.length→∃ y,ys[i]?=some y:=fun {i ys} h=>⟨ys[i],by simp [h]⟩
 cases b with
 | true =>
  have hq:SqL X.K H1 a xs:=hq
  obtain ⟨its,rv,p,hz⟩:=I1.list hq
  refine wpAny_pyIter_list p.isList ?_
  refine ⟨s1.heap.objs.size,[s1.heap.objs.size],_,Itq X.K true a xs,H1,rfl,I1.kept (t':=s1.toks) fun b o e=>Heap.get?_push_of_some _ e,(turn_list a _).imp (fun i H g=>?_) (fun i H x H' g y=>⟨y.1,y.2 xs g.2⟩) (fun i H g=>⟨xs,g.2,g.1⟩),⟨_,Heap.get?_push_size _ rfl,rfl,rfl⟩,fp,q⟩
  obtain ⟨y,hy⟩:=get g.1
  exact ⟨xs,y,g.2,hy⟩
 | false =>
  have hq:SqT X.K H1 a xs:=hq
  obtain ⟨its,rv,p,hz⟩:=I1.tuple hq
  refine wpAny_pyIter_tuple (show s1.heap.IsTuple a its.toArray from p) ?_
  refine ⟨s1.heap.objs.size,[s1.heap.objs.size],_,Itq X.K false a xs,H1,rfl,I1.kept (t':=s1.toks) fun b o e=>Heap.get?_push_of_some _ e,(turn_tuple a _).imp (fun i H g=>?_) (fun i H x H' g y=>⟨y.1,y.2 xs g.2⟩) (fun i H g=>⟨xs,g.2,g.1⟩),⟨_,Heap.get?_push_size _ rfl,rfl,rfl⟩,fp,q⟩
  obtain ⟨y,hy⟩:=get g.1
  exact ⟨xs,y,g.2,hy⟩
def iVals (to:TE):TI:=fun σ H R=>to σ H fun x H1=>∃ a ob kvs,x=.ref a∧H1 a=some (.frz ob (.dK kvs))∧R (Itv a ob kvs) H1
theorem pi_vals {o:Expr}{to:TE}{apos cpos:Pos}(ho:PE X o to) (hbase:attributeBase o "values" X.env (eval o X.env)=eval o X.env:=by rfl) (hline:(apos.endLine == cpos.line)=true:=by rfl):
  PI X tg (.Call (.Attribute o "values" apos) [] [] cpos) (iVals to):=by
 intro pins s σ H R I h
 refine wpAny_Call_method0_late hbase hline (thn (ho pins s σ H _ I h) fun v s1 ⟨x,H1,I1,r1,q1⟩=>?_)
 obtain ⟨a,ob,kvs,e,ha,q⟩:=q1
 subst e
 obtain rfl:v=Value.ref a:=r1
 obtain ⟨t1,t2,t3⟩:=isD_at I1 (.inl ⟨kvs,.inr ⟨ob,ha⟩⟩)
 obtain ⟨es,ep,hd⟩:=frz_data (I1.hok a _ ha)
 obtain ⟨hs,vs,r,dd⟩:=frz_dict (I1.hok a _ ha) hd
 have hl:kvs.length=vs.length:=Paired.length r
 refine ⟨"dict","dict.values",PySem.F.plainAttrs_dict,PySem.F.slot_dict_values,PySem.F.type_dict_values,t1,t2,Calls.callWith_builtin rfl (PySem.evalArgs_none ?_)⟩
 refine call_meetsIn PySem.F.slot_dict_values t1 PySem.F.entry_dict_values (PySem.F.args_dict_values_1 _) (meets_dict_values (Zbx X.prog X.w) a t3) ⟨⟨vs,dd.dictOf⟩,?_⟩
 have I2:Inv X pins σ H1 { s1 with heap:=s1.heap.push { cls:=.type "dict_values",data:=.fields #[.ref a] } }:=I1.kept (t':=s1.toks) fun b o e=>Heap.get?_push_of_some _ e
 refine wpAny_pyIter_values (kvs:=vs) (ep:=ep) (knd:=Zbx X.prog X.w) ⟨_,Heap.get?_push_size _ rfl,rfl,rfl⟩ (dd.at' fun o e=>Heap.get?_push_of_some _ e) ?_
 refine ⟨_,[_],_,_,H1,rfl,I2.kept (t':=s1.toks) fun b o e=>Heap.get?_push_of_some _ e,turn_vals a _ ob kvs es ep hd,⟨_,Heap.get?_push_size _ rfl,rfl,by rw [hl];rfl⟩,fun b hb=>?_,q⟩
 have e:b=_:=List.mem_singleton.mp hb
 subst e
 exact I2.fpOk (Nat.le_refl _) (I2.hok.fresh (Nat.le_refl _))
theorem Zfh (hc:X.calm=true):CallR X (.type "list") (fun xs H Q=>∃ a kvs,xs=[.ref a]∧Rd H a (.dK kvs)∧∀ l,H l=none→Q (.ref l) (upd H l (.lst (kvs.map fun p=>kV p.1)))):=by
 intro pins s σ H xs us Q I r h
 obtain ⟨a,kvs,rfl,ha,q⟩:=h
 obtain ⟨u,rfl,ru⟩:=vals1 r
 cases ru
 obtain ⟨hz,hs,vs,rv,o,es,ep,h1,h2,h3,h4,h5,h6⟩:=dk_rd I.hok ha
 have hl:kvs.length=vs.length:=Paired.length rv
 have dd:s.heap.DictAt (Zbx X.prog X.w) a vs ep:=⟨o,es,h1,h2,h3,h4,h5,h6⟩
 refine W.kdl_call (W.kdl_dict (knd:=Zbx X.prog X.w) (kvs:=vs) (ep:=ep) hs) (I.ok.hd hc) dd (by rw [← hl];exact hz) fun h' tk acc' c' hk hS' hacc=>?_
 obtain ⟨a1,a2⟩:=hacc
 refine ⟨.ref _,_,I.laid (o:=.lst (kvs.map fun p=>kV p.1)) hk (Nat.le_refl _) ⟨by rw [List.length_map];exact hz,acc'.toList,c',?_,by simpa using hS'⟩,rfl,q _ (I.hok.fresh (Nat.le_refl _))⟩
 refine vals_of (by have z:acc'.toList.length=acc'.size:=Array.length_toList;rw [List.length_map];omega) fun i v u hv hu=>?_
 rw [List.getElem?_map] at hv
 obtain ⟨p,hp,e⟩:=Option.map_eq_some_iff.mp hv
 obtain ⟨w',hw,_⟩:=rv.get hp
 obtain ⟨k,x,hk1,hk2⟩:=a2 i u (by rw [← Array.getElem?_toList];exact hu)
 rw [hw] at hk1
 injection hk1 with hk1
 injection hk1 with hk1 _
 rw [← e,hk1]
 exact relKey hk2
theorem DGet.f {H:Hp}{a:Addr}{o:Obj}{kvs:List (Key×V)}{k:Key}(e:H a=some (.frz o (.dK kvs))):DGet H a (kV k) (Zet kvs k):=.inl ⟨kvs,k,.inr ⟨o,e⟩,rfl,rfl⟩
end
end L2
namespace Md
open PySem L2
def UpsG (K:W.Frag) (H:Hp) (u:Addr) (us:List Str):Prop:=H u=some (.tup (us.map V.str))∨SqL K H u (us.map V.str)
theorem UpsG.sq {K:W.Frag}{H:Hp}{u:Addr}{us:List Str}(h:UpsG K H u us):∃ b,SqB K b H u (us.map V.str):=by
 rcases h with h | h
 ·exact ⟨false,SqT.of h⟩
 ·exact ⟨true,h⟩
def RowG (K:W.Frag) (H:Hp) (r:Str×List Str) (v:V):Prop:=∃ t u,v=.ref t∧SqT K H t [.str r.1,.ref u]∧UpsG K H u r.2
def RowsG (K:W.Frag) (H:Hp) (l:Addr) (rows:List (Str×List Str)):Prop:=∃ b vs,SqB K b H l vs∧Paired (RowG K H) rows vs
theorem Zdf.g {K:W.Frag}{H:Hp}{l:Addr}{rows:List (Str×List Str)}(h:Zdf H l rows):RowsG K H l rows:=by
 obtain ⟨vs,a,p⟩:=h
 refine ⟨true,vs,SqL.of a,Paired.mapP p fun r v z=>?_⟩
 obtain ⟨t,u,e,h1,h2⟩:=z
 exact ⟨t,u,e,SqT.of h1,.inl h2⟩
theorem Zas {α β:Type}{F:α→β→Prop}:∀ {l:List α}{k:List β},Paired F l k→∀ {i:Nat}{b:β},k[i]?=some b→∃ a,l[i]?=some a∧F a b
 | _,_,.nil,i,b,h=>by simp at h
 | _,_,.cons r t,0,b,h=>by simp at h;subst h;exact ⟨_,rfl,r⟩
 | _,_,.cons r t,i + 1,b,h=>by
  obtain ⟨a,h1,h2⟩:=Zas t (i:=i) (b:=b) (by simpa using h)
  exact ⟨a,by simpa using h1,h2⟩
theorem Zb8 {kvs:List (Key×V)}{k:Key}(h:k∉kvs.map (·.1)):Zet kvs k=none:=by
 cases e:Zet kvs k with
 | none=>rfl
 | some v=>exact absurd (valV_in e) h
theorem putK_keys {kvs:List (Key×V)}{k:Key}{v:V}(h:k∉kvs.map (·.1)):(Zdj kvs k v).map (·.1)=kvs.map (·.1)++[k]:=by
 rw [Zfx v (Zb8 h),List.map_append]
 rfl
theorem taken_not {rows:List (Str×List Str)}{i:Nat}{r:Str×List Str}(nd:(rows.map (·.1)).Nodup) (h:rows[i]?=some r):(Sum.inr r.1:Key)∉(rows.take i).map fun r=>(Sum.inr r.1:Key):=by
 intro m
 obtain ⟨q,hq,e⟩:=List.mem_map.mp m
 have e:q.1=r.1:=by injection e
 obtain ⟨j,hj,ej⟩:=List.mem_iff_getElem.mp hq
 rw [List.length_take] at hj
 have hj2:rows[j]?=some q:=by
  rw [List.getElem_take] at ej
  rw [List.getElem?_eq_getElem (by omega),ej]
 have a:(rows.map (·.1))[j]?=some r.1:=by rw [List.getElem?_map,hj2,← e];rfl
 have b:(rows.map (·.1))[i]?=some r.1:=by rw [List.getElem?_map,h];rfl
 have:=nodup_ix nd a b
 omega
def UpsD (H:Hp) (rows:List (Str×List Str)) (kvs:List (Key×V)):Prop:=Paired (fun r (p:Key×V)=>p.1=Sum.inr r.1∧∃ t,p.2=.ref t∧H t=some (.tup (r.2.map V.str))) rows kvs
theorem UpsD.mono {H H':Hp}{rows:List (Str×List Str)}{kvs:List (Key×V)}(h:UpsD H rows kvs) (s:∀ b xs,H b=some (.tup xs)→H' b=some (.tup xs)):UpsD H' rows kvs :=
 Paired.mapP h fun _ _ z=>⟨z.1,let ⟨t,e,x⟩:=z.2;⟨t,e,s _ _ x⟩⟩
theorem UpsD.keys:∀ {H:Hp}{rows:List (Str×List Str)}{kvs:List (Key×V)},UpsD H rows kvs→kvs.map (·.1)=rows.map fun r=>(Sum.inr r.1:Key)
 | _,_,_,.nil=>rfl
 | _,_,_,.cons r t=>by rw [List.map_cons,List.map_cons,r.1,UpsD.keys t]
def Zb2 (rows:List (Str×List Str)) (x:Str):List Str:=(rows.lookup x).getD []
theorem upsOf_at {rows:List (Str×List Str)}(nd:(rows.map (·.1)).Nodup) {r:Str×List Str}(h:r∈rows):Zb2 rows r.1=r.2:=by
 unfold Zb2
 induction rows with
 | nil=>cases h
 | cons q rs ih =>
  have nd':(q.1 :: rs.map (·.1)).Nodup:=nd
  obtain ⟨n1,n2⟩:=List.nodup_cons.mp nd'
  obtain ⟨a,b⟩:=q
  rw [List.lookup_cons]
  rcases List.mem_cons.mp h with e | h
  ·subst e
   simp
  ·have ne:(r.1 == a)=false:=by
    rw [beq_eq_false_iff_ne]
    intro e
    exact n1 (List.mem_map.mpr ⟨r,h,e⟩)
   rw [ne]
   exact ih n2 h
theorem UpsD.val:∀ {H:Hp}{rows:List (Str×List Str)}{kvs:List (Key×V)},UpsD H rows kvs→(rows.map (·.1)).Nodup→∀ {r:Str×List Str},r∈rows→∃ t,Zet kvs (Sum.inr r.1)=some (.ref t)∧H t=some (.tup (r.2.map V.str))
 | _,_,_,.nil,_,r,h=>nomatch h
 | _,q :: rs,p :: ps,.cons z t,nd,r,h=>by
  have nd':(q.1 :: rs.map (·.1)).Nodup:=nd
  obtain ⟨n1,n2⟩:=List.nodup_cons.mp nd'
  obtain ⟨z1,u,z2,z3⟩:=z
  rcases List.mem_cons.mp h with e | h
  ·subst e
   exact ⟨u,by rw [Zb4 z1,z2],z3⟩
  ·have ne:¬ p.1=(Sum.inr r.1:Key):=fun e=>n1 (by
    rw [z1] at e
    have e':q.1=r.1:=by injection e
    rw [e']
    exact List.mem_map.mpr ⟨r,h,rfl⟩)
   obtain ⟨u',h1,h2⟩:=UpsD.val t n2 h
   exact ⟨u',by rw [Zb5 ne];exact h1,h2⟩
theorem keysV {H:Hp}{rows:List (Str×List Str)}{kvs:List (Key×V)}(h:UpsD H rows kvs):(kvs.map fun p=>kV p.1)=(rows.map (·.1)).map V.str:=by
 have e:(kvs.map fun p=>kV p.1)=(kvs.map (·.1)).map kV:=by rw [List.map_map];rfl
 rw [e,h.keys,List.map_map,List.map_map]
 rfl
end Md
namespace L2
open PySem PySem.Spec PyProof.Rows
section
variable {X:Cx} {pins:List (Addr×Obj)} {σ:St} {H H':Hp} {s:Shared} {h':Heap}
end
end L2
namespace L2
open PySem PySem.Spec PyProof.Rows
section
variable {X:Cx}
def rCatA (K:W.Frag):R2:=fun x y H Q=>∃ a b xs ys,x=.ref a∧y=.ref b∧SqT K H a xs∧SqT K H b ys∧xs.length + ys.length≤sizeLine ∧
 (xs=[]→Q (.ref b) H)∧(xs≠[]→ys=[]→Q (.ref a) H)∧(xs≠[]→ys≠[]→∀ p,H p=none→Q (.ref p) (upd H p (.tup (xs++ys))))
theorem op_catA:OpR X (binaryOp .Add) (rCatA X.K):=by
 intro pins s σ H x y v u Q I rx ry h
 obtain ⟨a,b,xs,ys,rfl,rfl,ha,hb,hz,q0,q1,q2⟩:=h
 by_cases hx:xs=[]
 ·cases rx
  cases ry
  obtain ⟨its,r1,p1,_⟩:=I.tuple ha
  obtain ⟨its2,r2,p2,_⟩:=I.tuple hb
  have e:its=[]:=r1.nil_iff.mpr hx
  obtain ⟨⟨cls,dd,data,sl⟩,ho,hc,n,hd⟩:=id p1
  obtain ⟨⟨cls2,dd2,data2,sl2⟩,ho2,hc2,n2,hd2⟩:=id p2
  simp only at hc hd hc2 hd2
  subst hc hd hc2 hd2
  exact concat_meets ⟨_,ho,rfl⟩ ⟨_,ho2,rfl⟩ noFill_tuple_add seq_tuple_add PySem.F.slot_tuple_add PySem.F.entry_tuple_add (PySem.F.args_tuple_add_2 _ _)
   (tuple_addW0 a b its.toArray its2.toArray n n2 dd dd2 sl sl2 (by simp [e])) ⟨ho,ho2,⟨.ref b,H,I,rfl,q0 hx⟩⟩
 ·exact op_catT pins s σ H _ _ v u Q I rx ry ⟨a,b,xs,ys,rfl,rfl,ha,hb,hx,hz,q1 hx,q2 hx⟩
end
section
variable {X:Cx} {pins:List (Addr×Obj)} {σ:St} {H:Hp} {s:Shared} {h':Heap}
end
end L2
namespace L2
open PySem PySem.Spec PyProof.Rows
section
variable {X:Cx}
end
end L2
namespace L2
open PySem PySem.Spec PyProof.Rows
section
variable {X:Cx}
end
end L2
namespace L2
open PySem PySem.Spec PyProof.Rows
section
variable {prog:Program} {w:World} {A:Around} {E:Value→Shared→Prop} {s:Shared}
theorem Ze4 {p t:Addr}{k:Nat}{us:Array Value}{u:Value}{Q:Value→Shared→Prop}(hp:s.heap.IsTupleIter p t k) (ht:s.heap.IsTuple t us) (hu:us[k]?=some u)
  (q:∀ g,g.IsTupleIter p t (k + 1)→Heap.SameBut p s.heap g→Q u { s with heap:=g }):wpAny (model prog w) A (Builtin.SmallTypes.nextOf (.ref p)) Q E s:=by
 obtain ⟨ob,h1,h2,h3⟩:=id hp
 obtain ⟨ot,h4,_,nt,h5⟩:=ht
 unfold Builtin.SmallTypes.nextOf
 refine wpAny_bind (wpAny_callSpecial?_slot (name:=Str.ofString "__next__") hp.typeIs PySem.F.slot_tuple_iterator_next (wpAny_call_entry PySem.F.slot_tuple_iterator_next hp.typeIs PySem.F.entry_tuple_iterator_next ?_ (PySem.F.args_tuple_iterator_next_1 _)))
 show wpAny _ _ (field (.ref p) 0>>=_) _ _ s
 refine wpAny_bind (wpAny_field h1 h3 (x:=.ref t) rfl ?_)
 show wpAny _ _ (if (Value.ref t == Value.none)=true then _ else _) _ _ s
 rw [if_neg (show ¬ ((Value.ref t == Value.none)=true) from Bool.false_ne_true)]
 show wpAny _ _ (field (.ref p) 1>>=_) _ _ s
 refine wpAny_bind (wpAny_field h1 h3 (x:=.int k 0) rfl ?_)
 show wpAny _ _ (seqItems? (.ref t)>>=_) _ _ s
 refine wpAny_bind (wpAny_seqItems h4 h5 ?_)
 simp only [Int.toNat_natCast,hu]
 refine wpAny_bind (wpAny_setField h1 h3 (by simp) (wpAny_pure ⟨u,rfl,wpAny_pure (q _ ?_ (Heap.SameBut.update ..))⟩))
 exact ⟨_,Heap.get?_update_self _ h1 (Obj.isFreed_of_fields (Obj.data_mapFields h3 _)),(Obj.cls_mapFields ..).trans h2,by rw [Obj.data_mapFields h3];simp [rawInt]⟩
theorem Ze5 {p t:Addr}{k:Nat}{us:Array Value}{Q:Value→Shared→Prop}(hh:A.handled=none) (hp:s.heap.IsTupleIter p t k) (ht:s.heap.IsTuple t us) (hu:us[k]?=none)
  (q:∀ g e,Heap.ExtBut p s.heap g→(∃ o,g.get? e=some o∧o.cls=.type "StopIteration")→E (.ref e) { s with heap:=g }):wpAny (model prog w) A (Builtin.SmallTypes.nextOf (.ref p)) Q E s:=by
 obtain ⟨ob,h1,h2,h3⟩:=id hp
 obtain ⟨ot,h4,_,nt,h5⟩:=ht
 unfold Builtin.SmallTypes.nextOf
 refine wpAny_bind (wpAny_callSpecial?_slot (name:=Str.ofString "__next__") hp.typeIs PySem.F.slot_tuple_iterator_next (wpAny_call_entry PySem.F.slot_tuple_iterator_next hp.typeIs PySem.F.entry_tuple_iterator_next ?_ (PySem.F.args_tuple_iterator_next_1 _)))
 show wpAny _ _ (field (.ref p) 0>>=_) _ _ s
 refine wpAny_bind (wpAny_field h1 h3 (x:=.ref t) rfl ?_)
 show wpAny _ _ (if (Value.ref t == Value.none)=true then _ else _) _ _ s
 rw [if_neg (show ¬ ((Value.ref t == Value.none)=true) from Bool.false_ne_true)]
 show wpAny _ _ (field (.ref p) 1>>=_) _ _ s
 refine wpAny_bind (wpAny_field h1 h3 (x:=.int k 0) rfl ?_)
 show wpAny _ _ (seqItems? (.ref t)>>=_) _ _ s
 refine wpAny_bind (wpAny_seqItems h4 h5 ?_)
 simp only [Int.toNat_natCast,hu]
 refine wpAny_bind (wpAny_rule (wpAny_bind (wpAny_setField h1 h3 (by simp) ?_)))
 show wpAny _ _ (newExc (.type "StopIteration") []>>=_) _ _ _
 refine wpAny_bind ?_
 simp only [newExc,newTuple]
 refine wpAny_bind (wpAny_newObj_type ?_ (by size_fits))
 refine wpAny_bind (m:=firstArgMember _ _) (wpAny_of_eq (a:=Value.none) (by first | rfl | (simp only [firstArgMember];rfl)) ?_)
 refine wpAny_newObj_type ?_ (by size_fits)
 simp only [raiseNew]
 refine wpAny_bind (wpAny_handled ?_)
 first | rw [show A.in1.handled=none from hh] | rw [hh]
 refine wpAny_bind (wpAny_pure (wpAny_throw ?_))
 exact q _ _ (((Heap.SameBut.update ..).extBut.push _).push _) ⟨_,Heap.get?_push_size _ rfl,rfl⟩
structure ZAt (h:Heap) (z ti to i1 i2 l1 l2:Addr) (k:Nat) (f:Value):Prop where
 z:IsZip h z ti to f
 ti:IsPair h ti (.ref i1) (.ref i2)
 to:∃ a b,IsPair h to a b
 i1:h.IsTupleIter i1 l1 k
 i2:h.IsTupleIter i2 l2 k
theorem ZAt.at {h h':Heap}{z ti to i1 i2 l1 l2:Addr}{k:Nat}{f:Value}(x:ZAt h z ti to i1 i2 l1 l2 k f) (e:∀ b∈[z,ti,to,i1,i2],∀ o,h.get? b=some o→h'.get? b=some o):ZAt h' z ti to i1 i2 l1 l2 k f :=
 ⟨e z (by simp) _ x.z,e ti (by simp) _ x.ti,let ⟨a,b,y⟩:=x.to;⟨a,b,e to (by simp) _ y⟩,x.i1.at fun o q=>e i1 (by simp) o q,x.i2.at fun o q=>e i2 (by simp) o q⟩
theorem zipT_some {z ti to i1 i2 l1 l2:Addr}{k:Nat}{xs ys:Array Value}{x y:Value}{Q:Value→Shared→Prop}(D:ZipApart z ti to i1 i2 l1 l2) (st:ZAt s.heap z ti to i1 i2 l1 l2 k .none)
  (t1:s.heap.IsTuple l1 xs) (t2:s.heap.IsTuple l2 ys) (hx:xs[k]?=some x) (hy:ys[k]?=some y)
  (q:∀ g,ZAt g z ti to i1 i2 l1 l2 (k + 1) (rawInt s.heap.objs.size)→IsPair g s.heap.objs.size x y→(∀ c o,c≠z→c≠to→c≠i1→c≠i2→s.heap.get? c=some o→g.get? c=some o)→Q (.ref s.heap.objs.size) { s with heap:=g }):
  wpAny (model prog w) A (Builtin.«zip.__next__» ⟨[.ref z],[]⟩) (fun fin s'=>∃ v,fin=.done (.ret v)∧Q v s') E s:=by
 obtain ⟨hz,hti,⟨a,b,hto⟩,hi1,hi2⟩:=st
 show wpAny _ _ (field (.ref z) 2>>=_) _ _ _
 refine wpAny_bind (wpAny_field hz rfl (x:=.bool false) rfl ?_)
 show wpAny _ _ (field (.ref z) 3>>=_) _ _ _
 refine wpAny_bind (wpAny_field hz rfl (x:=.ref ti) rfl (wpAny_bind (wpAny_seqItems hti rfl ?_)))
 show wpAny _ _ (Builtin.SmallTypes.ownedTupleIsFree (.ref z)>>=_) _ _ _
 refine wpAny_bind ?_
 unfold Builtin.SmallTypes.ownedTupleIsFree
 refine wpAny_bind (wpAny_field hz rfl (x:=.none) rfl (wpAny_pure ?_))
 simp only [if_true]
 refine wpAny_bind (wpAny_rule (wpAny_bind (wpAny_field hz rfl (x:=.ref to) rfl (wpAny_bind (wpAny_setField_rec hz (by simp) fun g1 z1 e1=>?_)))))
 replace z1:IsZip g1 z ti to .ellipsis:=z1
 refine wpAny_bind ?_
 simp only [List.zipIdx_cons,List.zipIdx_nil,List.forIn_cons,List.forIn_nil]
 refine wpAny_bind (wpAny_bind (wpAny_onRaise ?_))
 show wpAny _ _ (Builtin.SmallTypes.nextOf (.ref i1)>>=_) _ _ _
 refine wpAny_bind (Ze4 (hi1.extBut e1.extBut D.i1z) (t1.extBut e1.extBut D.l1z) hx fun g2 j1 e2=>wpAny_pure ?_)
 have to2:IsPair g2 to a b:=e2.extBut _ _ D.TOi1 (e1.extBut _ _ D.TOz hto)
 refine wpAny_bind (wpAny_seqItems to2 rfl (wpAny_bind (wpAny_updateSeq_pair to2 fun g3 to3 e3=>?_)))
 replace to3:IsPair g3 to x b:=to3
 refine wpAny_bind (wpAny_letGo (wpAny_pure (wpAny_bind (wpAny_bind (wpAny_onRaise ?_)))))
 show wpAny _ _ (Builtin.SmallTypes.nextOf (.ref i2)>>=_) _ _ _
 refine wpAny_bind (Ze4 (((hi2.extBut e1.extBut D.i2z).extBut e2.extBut D.i12.symm).extBut e3.extBut D.TOi2.symm) (((t2.extBut e1.extBut D.l2z).extBut e2.extBut D.l2i1).extBut e3.extBut D.l2TO) hy fun g4 j2 e4=>wpAny_pure ?_)
 have to4:IsPair g4 to x b:=e4.extBut _ _ D.TOi2 to3
 refine wpAny_bind (wpAny_seqItems to4 rfl (wpAny_bind (wpAny_updateSeq_pair to4 fun g5 to5 e5=>?_)))
 replace to5:IsPair g5 to x y:=to5
 refine wpAny_bind (wpAny_letGo (wpAny_pure (wpAny_pure (wpAny_bind (wpAny_seqItems to5 rfl (wpAny_bind (wpAny_newTuple ?_)))))))
 have sz:g5.objs.size=s.heap.objs.size:=by rw [e5.1,e4.1,e3.1,e2.1,e1.1]
 have z5:IsZip g5 z ti to .ellipsis:=e5.extBut _ _ D.TOz.symm (e4.extBut _ _ D.i2z.symm (e3.extBut _ _ D.TOz.symm (e2.extBut _ _ D.i1z.symm z1)))
 have k5:∀ c o,c≠z→c≠to→c≠i1→c≠i2→s.heap.get? c=some o→g5.get? c=some o:=fun c o c1 c2 c3 c4 e=>e5.extBut _ _ c2 (e4.extBut _ _ c4 (e3.extBut _ _ c2 (e2.extBut _ _ c3 (e1.extBut _ _ c1 e))))
 have j15:g5.IsTupleIter i1 l1 (k + 1):=((j1.extBut e3.extBut D.TOi1.symm).extBut e4.extBut D.i12).extBut e5.extBut D.TOi1.symm
 have j25:g5.IsTupleIter i2 l2 (k + 1):=j2.extBut e5.extBut D.TOi2.symm
 have zlt:z<g5.objs.size:=Heap.lt_size z5
 show wpAny _ _ (Builtin.SmallTypes.ownedTupleHandOut (.ref z) (.ref g5.objs.size)>>=_) _ _ _
 refine wpAny_bind ?_
 unfold Builtin.SmallTypes.ownedTupleHandOut
 have z6:IsZip (g5.push { cls:=.type "tuple",data:=.seq #[x,y] }) z ti to .ellipsis:=Heap.get?_push_of_some _ z5
 refine wpAny_bind (wpAny_setField_rec z6 (by simp) fun g7 z7 e7=>?_)
 replace z7:IsZip g7 z ti to (rawInt g5.objs.size):=z7
 refine wpAny_setField_rec z7 (by simp) fun g8 z8 e8=>?_
 replace z8:IsZip g8 z ti to (rawInt g5.objs.size):=z8
 have up:∀ c o,c≠z→g5.get? c=some o→g8.get? c=some o:=fun c o c1 e=>e8.extBut _ _ c1 (e7.extBut _ _ c1 (Heap.get?_push_of_some _ e))
 have p8:IsPair g8 g5.objs.size x y:=e8.extBut _ _ (Nat.ne_of_gt zlt) (e7.extBut _ _ (Nat.ne_of_gt zlt) (Heap.get?_push_size _ rfl))
 rw [sz] at z8 p8
 refine wpAny_pure ⟨_,rfl,?_⟩
 show Q (.ref g5.objs.size) _
 rw [sz]
 exact q g8 ⟨z8,up _ _ D.TIz (k5 _ _ D.TIz D.TITO D.TIi1 D.TIi2 hti),⟨x,y,up _ _ D.TOz to5⟩,j15.at fun o e=>up _ o D.i1z e,j25.at fun o e=>up _ o D.i2z e⟩ p8 fun c o c1 c2 c3 c4 e=>up c o c1 (k5 c o c1 c2 c3 c4 e)
theorem zipT_none {z ti to i1 i2 l1 l2:Addr}{k:Nat}{xs ys:Array Value}{Q:Fin→Shared→Prop}(hh:A.handled=none) (D:ZipApart z ti to i1 i2 l1 l2) (st:ZAt s.heap z ti to i1 i2 l1 l2 k .none)
  (t1:s.heap.IsTuple l1 xs) (t2:s.heap.IsTuple l2 ys) (hend:xs[k]?=none∨ys[k]?=none)
  (q:∀ g e,(∀ c o,c≠z→c≠to→c≠i1→c≠i2→s.heap.get? c=some o→g.get? c=some o)→(∃ o,g.get? e=some o∧o.cls=.type "StopIteration")→E (.ref e) { s with heap:=g }):
  wpAny (model prog w) A (Builtin.«zip.__next__» ⟨[.ref z],[]⟩) Q E s:=by
 obtain ⟨hz,hti,⟨a,b,hto⟩,hi1,hi2⟩:=st
 show wpAny _ _ (field (.ref z) 2>>=_) _ _ _
 refine wpAny_bind (wpAny_field hz rfl (x:=.bool false) rfl ?_)
 show wpAny _ _ (field (.ref z) 3>>=_) _ _ _
 refine wpAny_bind (wpAny_field hz rfl (x:=.ref ti) rfl (wpAny_bind (wpAny_seqItems hti rfl ?_)))
 show wpAny _ _ (Builtin.SmallTypes.ownedTupleIsFree (.ref z)>>=_) _ _ _
 refine wpAny_bind ?_
 unfold Builtin.SmallTypes.ownedTupleIsFree
 refine wpAny_bind (wpAny_field hz rfl (x:=.none) rfl (wpAny_pure ?_))
 simp only [if_true]
 refine wpAny_bind (wpAny_rule (wpAny_bind (wpAny_field hz rfl (x:=.ref to) rfl (wpAny_bind (wpAny_setField_rec hz (by simp) fun g1 z1 e1=>?_)))))
 replace z1:IsZip g1 z ti to .ellipsis:=z1
 refine wpAny_bind ?_
 simp only [List.zipIdx_cons,List.zipIdx_nil,List.forIn_cons,List.forIn_nil]
 refine wpAny_bind (wpAny_bind (wpAny_onRaise ?_))
 show wpAny _ _ (Builtin.SmallTypes.nextOf (.ref i1)>>=_) _ _ _
 cases hx:xs[k]? with
 | none =>
  refine wpAny_bind (Ze5 hh (hi1.extBut e1.extBut D.i1z) (t1.extBut e1.extBut D.l1z) hx fun g2 e e2 he=>?_)
  obtain ⟨oe,ho,hc⟩:=he
  have z2:IsZip g2 z ti to .ellipsis:=e2 _ _ D.i1z.symm z1
  have ez:e≠z:=fun x=>by subst x;rw [z2] at ho;cases ho;simp at hc
  exact wpAny_setField_rec z2 (by simp) fun g3 _ e3=>q g3 e (fun c o c1 _ c3 _ x=>e3.extBut _ _ c1 (e2 _ _ c3 (e1.extBut _ _ c1 x))) ⟨oe,e3.extBut _ _ ez ho,hc⟩
 | some x =>
  have hy:ys[k]?=none:=by rcases hend with h | h;rw [hx] at h;cases h;exact h
  refine wpAny_bind (Ze4 (hi1.extBut e1.extBut D.i1z) (t1.extBut e1.extBut D.l1z) hx fun g2 j1 e2=>wpAny_pure ?_)
  have to2:IsPair g2 to a b:=e2.extBut _ _ D.TOi1 (e1.extBut _ _ D.TOz hto)
  refine wpAny_bind (wpAny_seqItems to2 rfl (wpAny_bind (wpAny_updateSeq_pair to2 fun g3 to3 e3=>?_)))
  refine wpAny_bind (wpAny_letGo (wpAny_pure (wpAny_bind (wpAny_bind (wpAny_onRaise ?_)))))
  show wpAny _ _ (Builtin.SmallTypes.nextOf (.ref i2)>>=_) _ _ _
  refine wpAny_bind (Ze5 hh (((hi2.extBut e1.extBut D.i2z).extBut e2.extBut D.i12.symm).extBut e3.extBut D.TOi2.symm) (((t2.extBut e1.extBut D.l2z).extBut e2.extBut D.l2i1).extBut e3.extBut D.l2TO) hy fun g4 e e4 he=>?_)
  obtain ⟨oe,ho,hc⟩:=he
  have z4:IsZip g4 z ti to .ellipsis:=e4 _ _ D.i2z.symm (e3.extBut _ _ D.TOz.symm (e2.extBut _ _ D.i1z.symm z1))
  have ez:e≠z:=fun x=>by subst x;rw [z4] at ho;cases ho;simp at hc
  exact wpAny_setField_rec z4 (by simp) fun g5 _ e5=>q g5 e (fun c o c1 c2 c3 c4 x=>e5.extBut _ _ c1 (e4 _ _ c4 (e3.extBut _ _ c2 (e2.extBut _ _ c3 (e1.extBut _ _ c1 x))))) ⟨oe,e5.extBut _ _ ez ho,hc⟩
theorem nextZipT_some {z ti to i1 i2 l1 l2:Addr}{k:Nat}{xs ys:Array Value}{x y:Value}{Q:Option Value→Shared→Prop}(D:ZipApart z ti to i1 i2 l1 l2) (st:ZAt s.heap z ti to i1 i2 l1 l2 k .none)
  (t1:s.heap.IsTuple l1 xs) (t2:s.heap.IsTuple l2 ys) (hx:xs[k]?=some x) (hy:ys[k]?=some y)
  (q:∀ g,ZAt g z ti to i1 i2 l1 l2 (k + 1) (rawInt s.heap.objs.size)→IsPair g s.heap.objs.size x y→(∀ c o,c≠z→c≠to→c≠i1→c≠i2→s.heap.get? c=some o→g.get? c=some o)→Q (some (.ref s.heap.objs.size)) { s with heap:=g }):
  wpAny (model prog w) A (pyNext (.ref z)) Q E s:=by
 have hT:s.TypeIs (.ref z) "zip":=⟨_,st.z,rfl⟩
 unfold pyNext
 exact wpAny_bind (wpAny_attempt (wpAny_callSpecial?_slot (name:=Str.ofString "__next__") hT PySem.F.slot_zip_next (wpAny_call_entry PySem.F.slot_zip_next hT PySem.F.entry_zip_next (zipT_some D st t1 t2 hx hy fun g a1 a2 a3=>wpAny_pure (q g a1 a2 a3)) (PySem.F.args_zip_next_1 _))))
theorem nextZipT_none {z ti to i1 i2 l1 l2:Addr}{k:Nat}{xs ys:Array Value}{Q:Option Value→Shared→Prop}(hh:A.handled=none) (D:ZipApart z ti to i1 i2 l1 l2) (st:ZAt s.heap z ti to i1 i2 l1 l2 k .none)
  (t1:s.heap.IsTuple l1 xs) (t2:s.heap.IsTuple l2 ys) (hend:xs[k]?=none∨ys[k]?=none)
  (q:∀ g,(∀ c o,c≠z→c≠to→c≠i1→c≠i2→s.heap.get? c=some o→g.get? c=some o)→Q none { s with heap:=g }):wpAny (model prog w) A (pyNext (.ref z)) Q E s:=by
 have hT:s.TypeIs (.ref z) "zip":=⟨_,st.z,rfl⟩
 unfold pyNext
 refine wpAny_bind (wpAny_attempt (wpAny_callSpecial?_slot (name:=Str.ofString "__next__") hT PySem.F.slot_zip_next (wpAny_call_entry PySem.F.slot_zip_next hT PySem.F.entry_zip_next (zipT_none hh D st t1 t2 hend fun g e hk he=>?_) (PySem.F.args_zip_next_1 _))))
 obtain ⟨o,ho,hc⟩:=he
 refine wpAny_bind (wpAny_isInstance (T:="StopIteration") (b:=true) ⟨o,ho,hc⟩ isSubtype_stop ?_)
 exact wpAny_pure (q _ hk)
end
end L2
namespace L2
open PySem PySem.Spec PyProof.Rows
def Itp (ps:List (V×V)) (Ok:Hp→Prop):It :=
 ⟨fun i H=>i<ps.length∧Ok H,fun i H v H'=>∃ t p,ps[i]?=some p∧H t=none∧v=.ref t∧H'=upd H t (.tup [p.1,p.2]),fun i H=>ps.length≤i∧Ok H⟩
section
variable {prog:Program} {w:World} {A:Around} {E:Value→Shared→Prop} {s:Shared}
abbrev zg1 (h:Heap) (l1:Addr):Heap:=h.push { cls:=.type "tuple_iterator",data:=.fields #[.ref l1,.int 0 0] }
abbrev zg2 (h:Heap) (l1 l2:Addr):Heap:=(zg1 h l1).push { cls:=.type "tuple_iterator",data:=.fields #[.ref l2,.int 0 0] }
abbrev zg3 (h:Heap) (l1 l2:Addr):Heap:=(zg2 h l1 l2).push { cls:=.type "tuple",data:=.seq #[.ref h.objs.size,.ref (zg1 h l1).objs.size] }
abbrev zg4 (h:Heap) (l1 l2:Addr):Heap:=(zg3 h l1 l2).push { cls:=.type "tuple",data:=.seq #[.none,.none] }
abbrev zg5 (h:Heap) (l1 l2:Addr):Heap:=(zg4 h l1 l2).push { cls:=.type "zip",data:=.fields #[.none,.bool false,.bool false,.ref (zg2 h l1 l2).objs.size,.ref (zg3 h l1 l2).objs.size] }
theorem meets_zipT (l1 l2:Addr) (xs ys:Array Value):Meets (Builtin.«zip.__new__» ⟨[.type "zip",.ref l1,.ref l2],[]⟩) (fun _ R s=>s.heap.IsTuple l1 xs∧s.heap.IsTuple l2 ys ∧
   R (.ok (.ret (.ref (zg4 s.heap l1 l2).objs.size))) { s with heap:=zg5 s.heap l1 l2 }):=
 .of_wp fun prog w A R s h=>by
  obtain ⟨hp,g,d,tk,os⟩:=s
  obtain ⟨t1,t2,h⟩:=h
  have hsub:=sub_zip
  have T1:Heap.IsTuple (Shared.heap ⟨hp,g,d,tk,os⟩) l1 xs:=t1
  have T2:Heap.IsTuple (Shared.heap ⟨hp.push { cls:=.type "tuple_iterator",data:=.fields #[.ref l1,.int 0 0] },g,d,tk,os⟩) l2 ys:=Heap.IsTuple.push t2 _
  wp_walk using wpAny_pyIter_tuple T1,wpAny_pyIter_tuple T2
  exact ⟨_,rfl,h⟩
theorem call_zipT {l1 l2:Addr}{xs ys:Array Value}{Q:Value→Shared→Prop} (t1:s.heap.IsTuple l1 xs) (t2:s.heap.IsTuple l2 ys)
  (q:∀ g,ZAt g (s.heap.objs.size + 4) (s.heap.objs.size + 2) (s.heap.objs.size + 3) s.heap.objs.size (s.heap.objs.size + 1) l1 l2 0 .none→(∀ c o,s.heap.get? c=some o→g.get? c=some o)→Q (.ref (s.heap.objs.size + 4)) { s with heap:=g }):
  wpAny (model prog w) A (call (.type "zip") [.ref l1,.ref l2]) Q E s:=by
 refine callType_new PySem.F.called_zip (by decide) (PySem.F.typeCall_zip_2 _ _) (PySem.F.newCall_zip_2 _ _) (fun obj=>PySem.F.args_object_init_3 obj _ _) PySem.F.entry_zip_new (meets_zipT l1 l2 xs ys) ⟨t1,t2,?_⟩
 have n1:(zg1 s.heap l1).objs.size=s.heap.objs.size + 1:=Heap.size_push ..
 have n2:(zg2 s.heap l1 l2).objs.size=s.heap.objs.size + 2:=by rw [Heap.size_push,n1]
 have n3:(zg3 s.heap l1 l2).objs.size=s.heap.objs.size + 3:=by rw [Heap.size_push,n2]
 have n4:(zg4 s.heap l1 l2).objs.size=s.heap.objs.size + 4:=by rw [Heap.size_push,n3]
 have up:∀ {h:Heap} {a:Addr} {o:Obj} (x:Obj),h.get? a=some o→(h.push x).get? a=some o:=fun x e=>Heap.get?_push_of_some _ e
 have f5:(zg5 s.heap l1 l2).get? (zg4 s.heap l1 l2).objs.size=some _:=Heap.get?_push_size _ rfl
 have f4:(zg5 s.heap l1 l2).get? (zg3 s.heap l1 l2).objs.size=some _:=up _ (Heap.get?_push_size _ rfl)
 have f3:(zg5 s.heap l1 l2).get? (zg2 s.heap l1 l2).objs.size=some _:=up _ (up _ (Heap.get?_push_size _ rfl))
 have f2:(zg5 s.heap l1 l2).get? (zg1 s.heap l1).objs.size=some _:=up _ (up _ (up _ (Heap.get?_push_size _ rfl)))
 have f1:(zg5 s.heap l1 l2).get? s.heap.objs.size=some _:=up _ (up _ (up _ (up _ (Heap.get?_push_size _ rfl))))
 show _∧_
 rw [n2,n3,n4] at f5
 rw [n1,n2] at f3
 rw [n3] at f4
 rw [n1] at f2
 rw [n4]
 exact ⟨⟨_,f5,rfl⟩,q _ ⟨f5,f3,⟨_,_,f4⟩,⟨_,f1,rfl,rfl⟩,⟨_,f2,rfl,rfl⟩⟩ fun c o x=>up _ (up _ (up _ (up _ (up _ x))))⟩
end
theorem zipV_get {xs ys:List V}{i:Nat}{p:V×V}(h:(xs.zip ys)[i]?=some p):xs[i]?=some p.1∧ys[i]?=some p.2:=by
 rw [List.getElem?_zip_eq_some] at h
 exact h
theorem Inv.turnedNewL {X:Cx}{pins:List (Addr×Obj)}{σ:St}{H:Hp}{s:Shared}{h':Heap}{t':Nat}{its:List Addr}{a:Addr}{o:HO}(I:Inv X pins σ H s) (k:∀ b u,b∉its→s.heap.get? b=some u→h'.get? b=some u)
  (f:∀ b∈its,FpOk X pins H b) (ha:s.heap.objs.size≤a) (new:Zcn X.prog X.w (upd H a o) h' a o):Inv X pins σ (upd H a o) { s with heap:=h',toks:=t' }:=by
 have nit:∀ b u,H b=some u→b∉its:=fun b u e z=>by have:=(f b z).1;rw [this] at e;cases e
 have na:∀ b u,H b=some u→b≠a:=fun b u e=>Nat.ne_of_lt (Nat.lt_of_lt_of_le (I.hok.lt e) ha)
 have low:∀ {b u},H b=some u→(upd H a o) b=some u:=fun {b u} e=>by rw [Zab (na b u e)];exact e
 refine I.step (g':=s.gens) (d':=s.drawn) (ch:=its) (fun b hb=>?_) (fun b u _ _ hc e _=>k b u hc e) (fun b u _ _ hc e _=>⟨u.slots,k b u hc e⟩)
  (fun b u _ e n=>by rw [Zab (Nat.ne_of_lt (Nat.lt_of_lt_of_le (Heap.lt_size e) ha))];exact n)
  (fun b u hc e=>⟨u,k b u hc e⟩) (fun _ _ e=>low e) (fun _ _ _ e=>low e) (fun b ps e=>⟨#[],by rw [low e];simp⟩) (fun m hm=>?_) (fun b u e=>?_) I.bare
 ·obtain ⟨f0,f1,f2,f3,f4,f5⟩:=f b hb
  exact ⟨f3,f1,f4,f5⟩
 ·obtain ⟨o',es,ep,ho,r⟩:=hm
  exact ⟨o',es,ep,k _ o' (fun z=>(f _ z).2.1 rfl) ho,r⟩
 ·by_cases hb:b=a
  ·subst hb
   rw [uS] at e
   cases e
   exact new
  ·rw [Zab hb] at e
   refine (I.hok b u e).stay (fun c v hc q=>k c v ?_ q) (fun _ q=>low q) fun _ _ q=>low q
   rcases hc with z | z
   ·rw [z];exact nit b u e
   ·exact nit c _ z
theorem Inv.turnedL {X:Cx}{pins:List (Addr×Obj)}{σ:St}{H:Hp}{s:Shared}{h':Heap}{t':Nat}{its:List Addr}(I:Inv X pins σ H s) (k:∀ b u,b∉its→s.heap.get? b=some u→h'.get? b=some u)
  (f:∀ b∈its,FpOk X pins H b):Inv X pins σ H { s with heap:=h',toks:=t' }:=by
 have nit:∀ b u,H b=some u→b∉its:=fun b u e z=>by have:=(f b z).1;rw [this] at e;cases e
 refine I.step (g':=s.gens) (d':=s.drawn) (ch:=its) (fun b hb=>?_) (fun b u _ _ hc e _=>k b u hc e) (fun b u _ _ hc e _=>⟨u.slots,k b u hc e⟩)
  (fun b u _ e n=>n) (fun b u hc e=>⟨u,k b u hc e⟩) (fun _ _ e=>e) (fun _ _ _ e=>e) (fun b ps e=>⟨#[],by rw [e];simp⟩) (fun m hm=>?_) (fun b u e=>?_) I.bare
 ·obtain ⟨f0,f1,f2,f3,f4,f5⟩:=f b hb
  exact ⟨f3,f1,f4,f5⟩
 ·obtain ⟨o',es,ep,ho,r⟩:=hm
  exact ⟨o',es,ep,k _ o' (fun z=>(f _ z).2.1 rfl) ho,r⟩
 ·refine (I.hok b u e).stay (fun c v hc q=>k c v ?_ q) (fun _ q=>q) fun _ _ q=>q
  rcases hc with z | z
  ·rw [z];exact nit b u e
  ·exact nit c _ z
theorem turn_zip {P:Program}{w:World}{K:W.Frag}{elts:List Expr}{x1}{pos:Pos}{xs ys:List V} (a b z ti to i1 i2:Addr) (D:ZipApart z ti to i1 i2 a b):
  Turn P w K (.Tuple elts x1 pos) (Itp (xs.zip ys) fun H=>SqT K H a xs∧SqT K H b ys) [z,ti,to,i1,i2] z (fun i h=>ZAt h z ti to i1 i2 a b i .none) where
 mem:=by simp
 obj:=fun i h st c hc=>by
  have hc':c=z∨c=ti∨c=to∨c=i1∨c=i2:=by simpa using hc
  obtain ⟨x,y,h3⟩:=st.to
  obtain ⟨o1,e1,_,d1⟩:=st.i1
  obtain ⟨o2,e2,_,d2⟩:=st.i2
  rcases hc' with rfl | rfl | rfl | rfl | rfl
  ·exact ⟨_,st.z,fun v q=>by cases q⟩
  ·exact ⟨_,st.ti,fun v q=>by cases q⟩
  ·exact ⟨_,h3,fun v q=>by cases q⟩
  ·exact ⟨_,e1,fun v q=>by rw [d1] at q;cases q⟩
  ·exact ⟨_,e2,fun v q=>by rw [d2] at q;cases q⟩
 keep:=fun i h h' st k=>st.at k
 item:=by
  intro X hP hw hK hc i pins s σ H E I hf st hg
  subst hP hw hK
  obtain ⟨hi,ha,hb⟩:=hg
  obtain ⟨p,hp⟩:∃ p,(xs.zip ys)[i]?=some p:=⟨(xs.zip ys)[i]'hi,List.getElem?_eq_getElem hi⟩
  obtain ⟨hx,hy⟩:=zipV_get hp
  obtain ⟨its,rv,pa,_⟩:=I.tuple ha
  obtain ⟨jts,rw',pb,_⟩:=I.tuple hb
  obtain ⟨u,hu,ru⟩:=rv.get hx
  obtain ⟨v,hv,rv'⟩:=rw'.get hy
  refine nextZipT_some D st (show s.heap.IsTuple a its.toArray from pa) (show s.heap.IsTuple b jts.toArray from pb) (by simpa using hu) (by simpa using hv) fun g st' hpr hk=>?_
  refine ⟨_,rfl,?_⟩
  refine wpAny_letOwnedTupleGo_zip (s:={ s with heap:=g }) st'.z fun g' z' sb=>?_
  have zlt:z<s.heap.objs.size:=Heap.lt_size st.z
  have nz:s.heap.objs.size≠z:=Nat.ne_of_gt zlt
  have sb':Heap.ExtBut z g g':=sb.extBut
  have hT:IsPair g' s.heap.objs.size u v:=sb' _ _ nz hpr
  have I1:Inv X pins σ (upd H s.heap.objs.size (.tup [p.1,p.2])) { s with heap:=g' }:=I.turnedNewL (t':=s.toks) (its:=[z,ti,to,i1,i2]) (fun c o hc e=>sb' c o (fun q=>hc (by simp [q])) (hk c o (fun q=>hc (by simp [q])) (fun q=>hc (by simp [q])) (fun q=>hc (by simp [q])) (fun q=>hc (by simp [q])) e)) hf (Nat.le_refl _)
   ⟨sL (by show 2≤100000;decide),[u,v],.cons ru (.cons rv' .nil),⟨_,hT,rfl,_,rfl⟩⟩
  have st2:ZAt g' z ti to i1 i2 a b (i + 1) .none:=by
   obtain ⟨a1,a2,a3⟩:=st'.to
   exact ⟨z',sb' _ _ D.TIz st'.ti,⟨a1,a2,sb' _ _ D.TOz a3⟩,st'.i1.extBut sb' D.i1z,st'.i2.extBut sb' D.i2z⟩
  refine ⟨.ref s.heap.objs.size,_,I1,rfl,⟨s.heap.objs.size,p,hp,I.hok.fresh (Nat.le_refl _),rfl,rfl⟩,st2,fun c hc=>?_⟩
  have lt:∀ c∈[z,ti,to,i1,i2],c<s.heap.objs.size:=fun c hc=>by
   have hc':c=z∨c=ti∨c=to∨c=i1∨c=i2:=by simpa using hc
   obtain ⟨a1,a2,a3⟩:=st.to
   obtain ⟨o1,e1,_⟩:=st.i1
   obtain ⟨o2,e2,_⟩:=st.i2
   rcases hc' with rfl | rfl | rfl | rfl | rfl
   ·exact zlt
   ·exact Heap.lt_size st.ti
   ·exact Heap.lt_size a3
   ·exact Heap.lt_size e1
   ·exact Heap.lt_size e2
  rw [Zab (Nat.ne_of_lt (lt c hc))]
  exact (hf c hc).1
 done:=by
  intro X hP hw hK hc i pins s σ H E I hf st hg
  subst hP hw hK
  obtain ⟨hi,ha,hb⟩:=hg
  obtain ⟨its,rv,pa,_⟩:=I.tuple ha
  obtain ⟨jts,rw',pb,_⟩:=I.tuple hb
  have l1:=rv.length
  have l2:=rw'.length
  have hend:its.toArray[i]?=none∨jts.toArray[i]?=none:=by
   rw [List.length_zip] at hi
   rcases Nat.le_total xs.length ys.length with h | h
   ·rw [Nat.min_eq_left h] at hi
    exact .inl (by simp;omega)
   ·rw [Nat.min_eq_right h] at hi
    exact .inr (by simp;omega)
  exact nextZipT_none (I.ok.hd hc) D st (show s.heap.IsTuple a its.toArray from pa) (show s.heap.IsTuple b jts.toArray from pb) hend fun g hk=>⟨rfl,I.turnedL (t':=s.toks) (its:=[z,ti,to,i1,i2]) (fun c o hc e=>hk c o (fun q=>hc (by simp [q])) (fun q=>hc (by simp [q])) (fun q=>hc (by simp [q])) (fun q=>hc (by simp [q])) e) hf⟩
 self:=fun A i s Q E st h=>wpAny_pyIter_zip st.z h
section
variable {X:Cx}
def iZip (K:W.Frag) (ta:TA):TI:=fun σ H R=>ta σ H fun vs H1=>∃ (a b:Addr) (xs ys:List V),vs=[.ref a,.ref b]∧SqT K H1 a xs∧SqT K H1 b ys∧R (Itp (xs.zip ys) fun H=>SqT K H a xs∧SqT K H b ys) H1
theorem pi_zip {elts:List Expr}{x1}{tpos:Pos}{a b:Expr}{ta:TA}{p pos:Pos}(hg:Gl X "zip") (hm:X.mg "zip"=none) (ha:PA X [a,b] ta) (hs:starEach [a,b] X.env=[(false,eval a X.env),(false,eval b X.env)]:=by rfl) (hs2:starEach [b] X.env=[(false,eval b X.env)]:=by rfl):
  PI X (.Tuple elts x1 tpos) (.Call (.Name "zip" p) [a,b] [] pos) (iZip X.K ta):=by
 intro pins s σ H R I h
 refine Call_ (ld_blt I hg hm boot_zip (PyProof.Rows.callWith_type1 (thn (ha pos pins s σ H _ I h) fun us s1 ⟨vs,H1,I1,r1,q1⟩=>?_) (by rw [hs,hs2]) (by rw [hs2];rfl)))
 obtain ⟨l1,l2,xs,ys,e,t1,t2,q⟩:=q1
 subst e
 cases r1 with
 | cons r rr =>
  cases rr with
  | cons r' rr =>
   cases rr
   obtain rfl:_=Value.ref l1:=r
   obtain rfl:_=Value.ref l2:=r'
   obtain ⟨its,rv,pa,_⟩:=I1.tuple t1
   obtain ⟨jts,rw',pb,_⟩:=I1.tuple t2
   have b1:s1.heap.IsTuple l1 its.toArray:=pa
   have b2:s1.heap.IsTuple l2 jts.toArray:=pb
   have lt1:l1<s1.heap.objs.size:=let ⟨_,e,_⟩:=b1;Heap.lt_size e
   have lt2:l2<s1.heap.objs.size:=let ⟨_,e,_⟩:=b2;Heap.lt_size e
   refine call_zipT b1 b2 fun g st hk=>wpAny_pyIter_zip (s:={ s1 with heap:=g }) st.z ?_
   have D:ZipApart (s1.heap.objs.size + 4) (s1.heap.objs.size + 2) (s1.heap.objs.size + 3) s1.heap.objs.size (s1.heap.objs.size + 1) l1 l2:=W.ktu_apart _ _ _ lt1 lt2
   refine ⟨_,[s1.heap.objs.size + 4,s1.heap.objs.size + 2,s1.heap.objs.size + 3,s1.heap.objs.size,s1.heap.objs.size + 1],_,_,H1,rfl,I1.kept (t':=s1.toks) fun b o e=>hk b o e,turn_zip l1 l2 _ _ _ _ _ D,st,fun c hc=>?_,q⟩
   have hc':c=s1.heap.objs.size + 4∨c=s1.heap.objs.size + 2∨c=s1.heap.objs.size + 3∨c=s1.heap.objs.size∨c=s1.heap.objs.size + 1:=by simpa using hc
   have ge:s1.heap.objs.size≤c:=by
    rcases hc' with rfl | rfl | rfl | rfl | rfl
    ·exact Nat.le_add_right _ _
    ·exact Nat.le_add_right _ _
    ·exact Nat.le_add_right _ _
    ·exact Nat.le_refl _
    ·exact Nat.le_add_right _ _
   exact I1.fpOk ge (I1.hok.fresh ge)
end
end L2
namespace L2
open PySem PySem.Spec PyProof.Rows
theorem draws_tup {prog:Program}{w:World}{A:Around}(hh:A.handled=none) (p t:Addr) (ne:t≠p) (us:Array Value):Draws prog w A p [p,t] us.size (fun i v=>us[i]?=some v) (fun i h=>h.IsTupleIter p t i∧h.IsTuple t us) where
 live:=fun _ _ st=>let ⟨o,ho,_⟩:=st.1;⟨o,ho⟩
 frame:=fun _ _ _ st hk=>⟨st.1.at fun o e=>hk p (by simp) o e,let ⟨o,ho,r⟩:=st.2;⟨o,hk t (by simp) o ho,r⟩⟩
 item:=fun i s Q E hi st q=>Ze4 st.1 st.2 (u:=us[i]) (by simp [hi]) fun g st' sb=>q _ g s.toks (by simp [hi]) ⟨st',st.2.extBut sb.extBut ne⟩ sb
 done:=fun s Q E st q=>Ze5 hh st.1 st.2 (by simp) q
def SIt (b:Bool) (h:Heap) (p a:Addr) (i:Nat):Prop:=if b=true then h.IsListIter p a i else h.IsTupleIter p a i
def SSq (b:Bool) (h:Heap) (a:Addr) (us:Array Value):Prop:=if b=true then h.IsList a us else h.IsTuple a us
theorem SIt.at {b:Bool}{h h':Heap}{p a:Addr}{i:Nat}(x:SIt b h p a i) (e:∀ o,h.get? p=some o→h'.get? p=some o):SIt b h' p a i:=by
 cases b with
 | true=>exact Heap.IsListIter.at (show h.IsListIter p a i from x) e
 | false=>exact Heap.IsTupleIter.at (show h.IsTupleIter p a i from x) e
theorem SIt.obj {b:Bool}{h:Heap}{p a:Addr}{i:Nat}(x:SIt b h p a i):∃ o,h.get? p=some o∧∀ v,o.data≠.cell v:=by
 cases b with
 | true =>
  obtain ⟨o,e,_,d⟩:=(show h.IsListIter p a i from x)
  exact ⟨o,e,fun v z=>by rw [d] at z;cases z⟩
 | false =>
  obtain ⟨o,e,_,d⟩:=(show h.IsTupleIter p a i from x)
  exact ⟨o,e,fun v z=>by rw [d] at z;cases z⟩
theorem draws_seq {prog:Program}{w:World}{A:Around}(b:Bool) (hh:A.handled=none) (p t:Addr) (ne:t≠p) (us:Array Value):Draws prog w A p [p,t] us.size (fun i v=>us[i]?=some v) (fun i h=>SIt b h p t i∧SSq b h t us):=by
 cases b with
 | true=>exact Draws.list hh p t ne us
 | false=>exact draws_tup hh p t ne us
theorem Inv.sseq {X:Cx}{pins:List (Addr×Obj)}{σ:St}{H:Hp}{s:Shared}{b:Bool}{a:Addr}{xs:List V}(I:Inv X pins σ H s) (h:SqB X.K b H a xs):∃ its:List Value,Zb7 xs its∧SSq b s.heap a its.toArray:=by
 cases b with
 | true =>
  obtain ⟨its,rv,p,_⟩:=I.list (show SqL X.K H a xs from h)
  exact ⟨its,rv,p.isList⟩
 | false =>
  obtain ⟨its,rv,p,_⟩:=I.tuple (show SqT X.K H a xs from h)
  exact ⟨its,rv,p⟩
def enumV (xs:List V):List (V×V):=(Zcq 0 xs.length).zip xs
theorem Zer (xs:List V):(enumV xs).length=xs.length:=by
 unfold enumV
 rw [List.length_zip,Zay,Nat.min_self]
theorem enumV_get {xs:List V}{i:Nat}{p:V×V}(h:(enumV xs)[i]?=some p):p.1=.int i∧xs[i]?=some p.2:=by
 obtain ⟨h1,h2⟩:=zipV_get h
 obtain ⟨_,e⟩:=Zaz h1
 exact ⟨by rw [e,Int.zero_add],h2⟩
section
variable {prog:Program} {w:World} {A:Around} {E:Value→Shared→Prop} {s:Shared}
theorem meets_enumT (l:Addr) (us:Array Value):Meets (Builtin.«enumerate.__new__» ⟨[.type "enumerate",.ref l],[]⟩) (fun _ R s=>s.heap.IsTuple l us ∧
   R (.ok (.ret (.ref (s.heap.push { cls:=.type "tuple_iterator",data:=.fields #[.ref l,.int 0 0] }).objs.size)))
    { s with heap:=(s.heap.push { cls:=.type "tuple_iterator",data:=.fields #[.ref l,.int 0 0] }).push { cls:=.type "enumerate",data:=.fields #[.none,.bool false,.ref s.heap.objs.size,rawInt 0,.none,.none] } }):=
 .of_wp fun prog w A R s h=>by
  obtain ⟨hp,g,d,tk,os⟩:=s
  obtain ⟨ht,h⟩:=h
  have hsub:=sub_enumerate
  obtain ⟨⟨c,dct,dt,sl⟩,hl,hc,n,hd⟩:=id ht
  replace hc:c=.type "tuple":=hc
  replace hd:dt=.seq us n:=hd
  subst hc hd
  have hT:Heap.IsTuple (Shared.heap ⟨hp,g,d,tk,os⟩) l us:=ht
  wp_walk using AutoSeq1.wpAny_loadPart' hl
  refine wpAny_stack_any fun st=>wpAny_pure ?_
  split
  ·rename_i c _ _ _ _ _
   cases (c == Value.type "enumerate")
   ·wp_walk using AutoSeq1.wpAny_loadPart' hl,wpAny_pyIter_tuple hT
    exact ⟨_,rfl,h⟩
   ·wp_walk using AutoSeq1.wpAny_loadPart' hl,wpAny_pyIter_tuple hT
    exact ⟨_,rfl,h⟩
  ·wp_walk using AutoSeq1.wpAny_loadPart' hl,wpAny_pyIter_tuple hT
   exact ⟨_,rfl,h⟩
theorem call_enum (b:Bool) {l:Addr}{us:Array Value}{Q:Value→Shared→Prop}(hl:SSq b s.heap l us)
  (q:∀ g,IsEnum g (s.heap.objs.size + 1) s.heap.objs.size 0 .none→SIt b g s.heap.objs.size l 0→(∀ c o,s.heap.get? c=some o→g.get? c=some o)→Q (.ref (s.heap.objs.size + 1)) { s with heap:=g }):
  wpAny (model prog w) A (call (.type "enumerate") [.ref l]) Q E s:=by
 cases b with
 | true=>exact call_enumerate_list (show s.heap.IsList l us from hl) fun g h1 h2 _ h4=>q g h1 h2 h4
 | false =>
  refine callType_new PySem.F.called_enumerate (by decide) (PySem.F.typeCall_enumerate_1 _) (PySem.F.newCall_enumerate_1 _) (fun obj=>PySem.F.args_object_init_2 obj _) PySem.F.entry_enumerate_new (meets_enumT l us) ⟨hl,?_⟩
  have n1:(zg1 s.heap l).objs.size=s.heap.objs.size + 1:=Heap.size_push ..
  show _∧_
  rw [n1]
  have he:IsEnum ((zg1 s.heap l).push { cls:=.type "enumerate",data:=.fields #[.none,.bool false,.ref s.heap.objs.size,rawInt 0,.none,.none] }) (s.heap.objs.size + 1) s.heap.objs.size 0 .none:=by
   have:=Heap.get?_push_size (zg1 s.heap l) (o:={ cls:=.type "enumerate",data:=.fields #[.none,.bool false,.ref s.heap.objs.size,rawInt 0,.none,.none] }) rfl
   rw [n1] at this
   exact this
  exact ⟨⟨_,he,rfl⟩,q _ he ⟨_,Heap.get?_push_of_some _ (Heap.get?_push_size _ rfl),rfl,rfl⟩ fun c o x=>Heap.get?_push_of_some _ (Heap.get?_push_of_some _ x)⟩
end
theorem enumEnd {prog:Program}{w:World}{A:Around}{E:Value→Shared→Prop}{s:Shared}{e p:Addr}{i:Int}{old:Value}{Q:Option Value→Shared→Prop}(hh:A.handled=none) (he:IsEnum s.heap e p i old)
  (nx:∀ (Q:Value→Shared→Prop) (E:Value→Shared→Prop),(∀ g e,Heap.ExtBut p s.heap g→(∃ o,g.get? e=some o∧o.cls=.type "StopIteration")→E (.ref e) { s with heap:=g })→wpAny (model prog w) A.in1 (Builtin.SmallTypes.nextOf (.ref p)) Q E s)
  (q:∀ g,Heap.ExtBut p s.heap g→Q none { s with heap:=g }):wpAny (model prog w) A (pyNext (.ref e)) Q E s:=by
 have hT:s.TypeIs (.ref e) "enumerate":=⟨_,he,rfl⟩
 unfold pyNext
 refine wpAny_bind (wpAny_attempt (wpAny_callSpecial?_slot (name:=Str.ofString "__next__") hT PySem.F.slot_enumerate_next (wpAny_call_entry PySem.F.slot_enumerate_next hT PySem.F.entry_enumerate_next ?_ (PySem.F.args_enumerate_next_1 _))))
 show wpAny _ _ (field (.ref e) 2>>=_) _ _ _
 refine wpAny_bind (wpAny_field he rfl (x:=.ref p) rfl (wpAny_bind (nx _ _ fun g x eb hx=>?_)))
 obtain ⟨o,ho,hc⟩:=hx
 refine wpAny_bind (wpAny_isInstance (T:="StopIteration") (b:=true) ⟨o,ho,hc⟩ isSubtype_stop ?_)
 exact wpAny_pure (q _ eb)
theorem turn_enum {P:Program}{w:World}{K:W.Frag}{elts:List Expr}{x1}{pos:Pos}{xs:List V}(b:Bool) (a e p:Addr) (ep:e≠p) (ea:e≠a) (ap:a≠p):
  Turn P w K (.Tuple elts x1 pos) (Itp (enumV xs) fun H=>SqB K b H a xs) [e,p] e (fun i h=>(∃ old,IsEnum h e p i old)∧SIt b h p a i) where
 mem:=by simp
 obj:=fun i h st c hc=>by
  have hc':c=e∨c=p:=by simpa using hc
  obtain ⟨⟨old,he⟩,si⟩:=st
  rcases hc' with rfl | rfl
  ·exact ⟨_,he,fun v q=>by cases q⟩
  ·exact si.obj
 keep:=fun i h h' st k=>by
  obtain ⟨⟨old,he⟩,si⟩:=st
  exact ⟨⟨old,k e (by simp) _ he⟩,si.at fun o q=>k p (by simp) o q⟩
 item:=by
  intro X hP hw hK hc i pins s σ H E I hf st hg
  subst hP hw hK
  obtain ⟨hi,ha⟩:=hg
  obtain ⟨⟨old,he⟩,si⟩:=st
  obtain ⟨pr,hp⟩:∃ p,(enumV xs)[i]?=some p:=⟨(enumV xs)[i]'hi,List.getElem?_eq_getElem hi⟩
  obtain ⟨e1,hx⟩:=enumV_get hp
  obtain ⟨its,rv,sq⟩:=I.sseq ha
  obtain ⟨u,hu,ru⟩:=rv.get hx
  have hil:i<its.toArray.size:=by rw [Zer] at hi;have:=rv.length;simp;omega
  have D:=draws_seq (prog:=X.prog) (w:=X.w) (A:=X.A.in1) b (I.ok.hd hc) p a ap its.toArray
  refine wpAny_pyNext_enum_itemD D he ⟨si,sq⟩ hil ep (by simp;exact ⟨ep,ea⟩) fun x g tk hPx ho hst hT _ hk=>?_
  have exu:x=u:=by
   have h1:its.toArray[i]?=some x:=hPx
   have h2:its.toArray[i]?=some u:=by simpa using hu
   rw [h1] at h2
   exact Option.some.inj h2
  subst exu
  refine ⟨_,rfl,?_⟩
  refine wpAny_letOwnedTupleGo_enum (s:={ s with heap:=g,toks:=tk + 1 }) ho fun g' he' sb=>?_
  have elt:e<s.heap.objs.size:=Heap.lt_size he
  have plt:p<s.heap.objs.size:=let ⟨o,q,_⟩:=si.obj;Heap.lt_size q
  have sb':Heap.ExtBut e g g':=sb.extBut
  have hT':IsPair g' s.heap.objs.size (.int i tk) x:=sb' _ _ (Nat.ne_of_gt elt) hT
  have I1:Inv X pins σ (upd H s.heap.objs.size (.tup [pr.1,pr.2])) { s with heap:=g',toks:=tk + 1 }:=I.turnedNewL (t':=tk + 1) (its:=[e,p]) (fun c o hc q=>sb' c o (fun z=>hc (by simp [z])) (hk c o (fun z=>hc (by simp [z])) (fun z=>hc (by simp [z])) q)) hf (Nat.le_refl _)
   ⟨sL (by show 2≤100000;decide),[.int i tk,x],.cons (by rw [e1];exact ⟨tk,rfl⟩) (.cons ru .nil),⟨_,hT',rfl,_,rfl⟩⟩
  refine ⟨.ref s.heap.objs.size,_,I1,rfl,⟨s.heap.objs.size,pr,hp,I.hok.fresh (Nat.le_refl _),rfl,rfl⟩,⟨⟨x,by simpa using he'⟩,hst.1.at fun o q=>sb' _ o (Ne.symm ep) q⟩,fun c hc=>?_⟩
  have hc':c=e∨c=p:=by simpa using hc
  have ne:c≠s.heap.objs.size:=by
   rcases hc' with rfl | rfl
   ·exact Nat.ne_of_lt elt
   ·exact Nat.ne_of_lt plt
  rw [Zab ne]
  exact (hf c hc).1
 done:=by
  intro X hP hw hK hc i pins s σ H E I hf st hg
  subst hP hw hK
  obtain ⟨hi,ha⟩:=hg
  obtain ⟨⟨old,he⟩,si⟩:=st
  obtain ⟨its,rv,sq⟩:=I.sseq ha
  have hl:=rv.length
  rw [Zer] at hi
  cases b with
  | true =>
   have si:s.heap.IsListIter p a i:=si
   have sq:s.heap.IsList a its.toArray:=sq
   refine enumEnd (I.ok.hd hc) he (fun Q E hE=>wpAny_nextOf_list_end (I.ok.hd hc) si sq (by simp;omega) hE) fun g eb=>⟨rfl,I.turnedL (t':=s.toks) (its:=[e,p]) (fun c o hc q=>eb c o (fun z=>hc (by simp [z])) q) hf⟩
  | false =>
   have si:s.heap.IsTupleIter p a i:=si
   have sq:s.heap.IsTuple a its.toArray:=sq
   refine enumEnd (I.ok.hd hc) he (fun Q E hE=>Ze5 (I.ok.hd hc) si sq (by simp;omega) hE) fun g eb=>⟨rfl,I.turnedL (t':=s.toks) (its:=[e,p]) (fun c o hc q=>eb c o (fun z=>hc (by simp [z])) q) hf⟩
 self:=fun A i s Q E st h=>let ⟨⟨_,he⟩,_⟩:=st;wpAny_pyIter_enum he h
section
variable {X:Cx}
def iEnum (K:W.Frag) (ta:TA):TI:=fun σ H R=>ta σ H fun vs H1=>∃ (b:Bool) (a:Addr) (xs:List V),vs=[.ref a]∧SqB K b H1 a xs∧R (Itp (enumV xs) fun H=>SqB K b H a xs) H1
theorem pi_enum {elts:List Expr}{x1}{tpos:Pos}{a:Expr}{ta:TA}{p pos:Pos}(hg:Gl X "enumerate") (hm:X.mg "enumerate"=none) (ha:PA X [a] ta) (hs:starEach [a] X.env=[(false,eval a X.env)]:=by rfl):
  PI X (.Tuple elts x1 tpos) (.Call (.Name "enumerate" p) [a] [] pos) (iEnum X.K ta):=by
 intro pins s σ H R I h
 refine Call_ (ld_blt I hg hm boot_enumerate (PyProof.Rows.callWith_type1 (thn (ha pos pins s σ H _ I h) fun us s1 ⟨vs,H1,I1,r1,q1⟩=>?_) hs rfl))
 obtain ⟨b,l,xs,e,t1,q⟩:=q1
 subst e
 cases r1 with
 | cons r rr =>
  cases rr
  obtain rfl:_=Value.ref l:=r
  obtain ⟨its,rv,sq⟩:=I1.sseq t1
  have lt1:l<s1.heap.objs.size:=by
   cases b with
   | true=>obtain ⟨_,e,_⟩:=(show s1.heap.IsList l its.toArray from sq);exact Heap.lt_size e
   | false=>obtain ⟨_,e,_⟩:=(show s1.heap.IsTuple l its.toArray from sq);exact Heap.lt_size e
  refine call_enum b sq fun g he si hk=>wpAny_pyIter_enum (s:={ s1 with heap:=g }) he ?_
  refine ⟨_,[s1.heap.objs.size + 1,s1.heap.objs.size],_,_,H1,rfl,I1.kept (t':=s1.toks) fun b o e=>hk b o e,turn_enum b l _ _ (Nat.succ_ne_self _) (Nat.ne_of_gt (Nat.lt_succ_of_lt lt1)) (Nat.ne_of_lt lt1),⟨⟨_,he⟩,si⟩,fun c hc=>?_,q⟩
  have hc':c=s1.heap.objs.size + 1∨c=s1.heap.objs.size:=by simpa using hc
  have ge:s1.heap.objs.size≤c:=by
   rcases hc' with rfl | rfl
   ·exact Nat.le_add_right _ _
   ·exact Nat.le_refl _
  exact I1.fpOk ge (I1.hok.fresh ge)
end
end L2
namespace L2
open PySem PySem.Spec PyProof.Rows PySem.W
theorem hu65 {A:Around}{k:Nat}(hr:Zcm k A):A.units + 65<cLine:=by have:=hr.un;omega
theorem valV_noneG {κ:Type} [DecidableEq κ] {kvs:List (κ×V)}{k:κ}(h:k∉kvs.map (·.1)):Zet kvs k=none:=by
 cases e:Zet kvs k with
 | none=>rfl
 | some v=>exact absurd (valV_in e) h
theorem putK_keysG {κ:Type} [DecidableEq κ] {kvs:List (κ×V)}{k:κ}{v:V}(h:k∉kvs.map (·.1)):(Zdj kvs k v).map (·.1)=kvs.map (·.1)++[k]:=by
 rw [Zfx v (valV_noneG h),List.map_append]
 rfl
theorem not_taken {α:Type}{l:List α}(nd:l.Nodup) {i:Nat}{x:α}(h:l[i]?=some x):x∉l.take i:=by
 intro m
 have hi:=(List.getElem?_eq_some_iff.mp h).1
 have e:=(List.getElem?_eq_some_iff.mp h).2
 have sp:l=l.take i++l.drop i:=(List.take_append_drop i l).symm
 rw [sp] at nd
 have q:=(List.nodup_append.mp nd).2.2 x m
 refine q x ?_ rfl
 rw [List.drop_eq_getElem_cons hi,e]
 exact List.mem_cons_self
theorem for_pairs {ps:List (V×V)}{Ok:Hp→Prop}{g:TG}{tb:TS}{D:Ends}{σ:St}{H:Hp}(Pv:Nat→St→Hp→Prop) (h0:Pv 0 σ H) (hl:∀ i σ H,i≤ps.length→Pv i σ H→Ok H)
  (hs:∀ i p t σ H,ps[i]?=some p→Pv i σ H→H t=none→g (.ref t) σ (upd H t (.tup [p.1,p.2])) fun σ2 H2=>tb { D with nx:=Pv (i + 1),ct:=Pv (i + 1),bk:=D.nx } σ2 H2) (hd:∀ σ H,Pv ps.length σ H→D.nx σ H):
  ∃ W:Nat→Nat→St→Hp→Prop,(∃ m,W 0 m σ H)∧∀ i m σ H,W i m σ H →
   ((Itp ps Ok).stop i H∧D.nx σ H)∨((Itp ps Ok).go i H∧∃ N:St→Hp→Prop,(∀ σ' H',N σ' H'→∃ m',m'<m∧W (i + 1) m' σ' H')∧∀ x H',(Itp ps Ok).yld i H x H'→g x σ H' fun σ2 H2=>tb { D with nx:=N,ct:=N,bk:=D.nx } σ2 H2):=by
 refine ⟨fun i m σ H=>m=ps.length - i∧i≤ps.length∧Pv i σ H,⟨ps.length,by simp,Nat.zero_le _,h0⟩,?_⟩
 rintro i m σ H ⟨rfl,hi,p⟩
 have q:=hl i σ H hi p
 by_cases hlt:i<ps.length
 ·refine .inr ⟨⟨hlt,q⟩,Pv (i + 1),fun σ' H' p'=>⟨ps.length - (i + 1),by omega,rfl,hlt,p'⟩,fun x H' y=>?_⟩
  obtain ⟨t,pr,hp,ht,rfl,rfl⟩:=y
  exact hs i pr t σ H hp p ht
 ·have e:i=ps.length:=by omega
  subst e
  exact .inl ⟨⟨Nat.le_refl _,q⟩,hd σ H p⟩
abbrev g2 (K:W.Frag) (i j:Nat):TG:=gTup K 2 (gCons (gName i) (gCons (gName j) gNil))
theorem g2_at {K:W.Frag}{i j:Nat}{t:Addr}{x y:V}{σ:St}{H:Hp}{R:St→Hp→Prop}(h:SqT K H t [x,y]) (q:R ((σ.set i (some x)).set j (some y)) H):g2 K i j (.ref t) σ H R :=
 ⟨t,[x,y],rfl,h,rfl,x,[y],rfl,y,[],rfl,rfl,q⟩
theorem g2_new {K:W.Frag}{i j:Nat}{t:Addr}{x y:V}{σ:St}{H:Hp}{R:St→Hp→Prop}(q:R ((σ.set i (some x)).set j (some y)) (upd H t (.tup [x,y]))):g2 K i j (.ref t) σ (upd H t (.tup [x,y])) R :=
 g2_at (SqT.of uS) q
theorem pg_two {X:Cx}{K:W.Frag}{i j:Nat}{x y:Str}{p q pos:Pos}{c:Nat}(hK:X.K=K) (hc:X.calm=true) (hN:X.N.Nodup) (hi:X.N[i]?=some x) (hj:X.N[j]?=some y) (hx:Loc X.env.scope x) (hy:Loc X.env.scope y)
  (fx:X.fn x=true∨X.env.scope.names.lookup x=some .local) (fy:X.fn y=true∨X.env.scope.names.lookup y=some .local):PG X (.Tuple [.Name x p,.Name y q] c pos) (g2 K i j):=by
 subst hK
 exact pg_tup hc (gC (Zah (i:=i) hN hi hx fx) (gC (Zah (i:=j) hN hj hy fy) Zd3))
theorem Zbj {H:Hp}{t:Addr}{o:HO}(h:H t=none):Zaj H (upd H t o):=fun b u e=>by rw [Zab (nNo e h)];exact e
theorem Zeg {α:Type}(p:α→Bool):∀ (xs:List α) (i:Nat) (x:α),xs[i]?=some x→(xs.take (i + 1)).filter p=(xs.take i).filter p++if p x=true then [x] else []:=by
 intro xs i x h
 rw [List.take_add_one,h,List.filter_append]
 congr 1
 cases e:p x <;> simp [List.filter,e]
theorem comp_rel2 {K:W.Frag}{ps:List (V×V)}{Ok:Hp→Prop}{js:List Nat}{tt:TT}{te:TE}{σ:St}{Q:VK}{H1:Hp}(hz:ps.length≤sizeLine) (p:V×V→Bool) (F:Addr→V×V→V→Hp→Prop)
  (hF:∀ D x v H H',(∀ b o,b≠D→H b=some o→H' b=some o)→F D x v H→F D x v H')
  (hok:∀ H,Zaj H1 H→Ok H)
  (ht:∀ x H (R:Bool→Hp→Prop),Zaj H1 H→x∈ps→(∀ H',Zaj H H'→R (p x) H')→tt (some x.1 :: some x.2 :: js.map fun j=>(σ[j]?).join) H R)
  (he:∀ D x H (R:V→Hp→Prop),Zaj H1 H→(∃ ys,H D=some (.lst ys))→H1 D=none→x∈ps→p x=true→(∀ v H',Zaj H H'→F D x v H'→R v H')→te (some x.1 :: some x.2 :: js.map fun j=>(σ[j]?).join) H R)
  (hd:∀ D H' ys,H1 D=none→Zaj H1 H'→H' D=some (.lst ys)→Paired (fun x v=>F D x v H') (ps.filter p) ys→Q (.ref D) H'):
  compBody 2 js (g2 K 0 1) tt te σ Q (Itp ps Ok) H1:=by
 intro D hD
 refine ⟨fun i m ys σ' H=>m=ps.length - i∧i≤ps.length∧Zaj H1 H∧H D=some (.lst ys)∧Paired (fun x v=>F D x v H) ((ps.take i).filter p) ys∧∃ o u,σ'=o :: u :: js.map fun j=>(σ[j]?).join,
  ⟨ps.length,by simp,Nat.zero_le _,Zbj hD,uS,by simpa using Paired.nil,none,none,rfl⟩,?_⟩
 rintro i m ys σ' H ⟨rfl,hi,hs,hl,hp,o,u,rfl⟩
 have mono:∀ {H H':Hp},(∀ b o,b≠D→H b=some o→H' b=some o)→Paired (fun x v=>F D x v H) ((ps.take i).filter p) ys→Paired (fun x v=>F D x v H') ((ps.take i).filter p) ys:=fun h q=>Paired.mapP q fun a b z=>hF D a b _ _ h z
 by_cases hlt:i<ps.length
 ·have yl:ys.length<sizeLine:=by
   rw [← hp.length]
   refine Nat.lt_of_le_of_lt (List.length_filter_le _ _) ?_
   rw [List.length_take]
   omega
  refine .inr ⟨⟨hlt,hok H hs⟩,yl,fun ys3 σ3 H3=>Zaj H1 H3∧H3 D=some (.lst ys3)∧Paired (fun x v=>F D x v H3) ((ps.take (i + 1)).filter p) ys3∧∃ o u,σ3=o :: u :: js.map fun j=>(σ[j]?).join,
   fun ys3 σ3 H3 z=>⟨ps.length - (i + 1),by omega,rfl,hlt,z⟩,fun x H2 y=>?_⟩
  obtain ⟨t,x,hx,ht0,rfl,rfl⟩:=y
  refine g2_new ?_
  show tt (some x.1 :: some x.2 :: js.map fun j=>(σ[j]?).join) (upd H t (.tup [x.1,x.2])) _
  have hm:x∈ps:=List.mem_of_getElem? hx
  have st:Zaj H (upd H t (.tup [x.1,x.2])):=Zbj ht0
  refine ht x _ _ (hs.trans st) hm fun H4 s4=>?_
  have s04:Zaj H H4:=st.trans s4
  have hs4:Zaj H1 H4:=hs.trans s04
  cases hpx:p x with
  | true =>
   rw [if_pos rfl]
   refine he D x H4 _ hs4 ⟨_,s04 _ _ hl⟩ hD hm hpx fun v H5 s5 f5=>⟨s5 _ _ (s04 _ _ hl),fun b o e=>?_,uS,?_,_,_,rfl⟩
   ·rw [Zab (nNo e hD)]
    exact s5 _ _ (hs4 _ _ e)
   ·rw [Zeg p ps i x hx,hpx,if_pos rfl]
    refine Paired.snoc (mono (fun b o hb e=>by rw [Zab hb];exact s5 _ _ (s04 _ _ e)) hp) (hF D _ _ _ _ (fun b o hb e=>by rw [Zab hb];exact e) f5)
  | false =>
   rw [if_neg Bool.false_ne_true]
   refine ⟨hs4,s04 _ _ hl,?_,_,_,rfl⟩
   rw [Zeg p ps i x hx,hpx,if_neg Bool.false_ne_true,List.append_nil]
   exact mono (fun b o _ e=>s04 _ _ e) hp
 ·have e:i=ps.length:=by omega
  subst e
  rw [List.take_length] at hp
  exact .inl ⟨⟨Nat.le_refl _,hok H hs⟩,hd D H ys hD hs hl hp⟩
theorem paired_eq {α:Type}{f:α→V}:∀ {xs:List α}{ys:List V},Paired (fun x v=>v=f x) xs ys→ys=xs.map f
 | _,_,.nil=>rfl
 | _,_,.cons r t=>by rw [List.map_cons,r,paired_eq t]
theorem comp_val2 {K:W.Frag}{ps:List (V×V)}{Ok:Hp→Prop}{js:List Nat}{tt:TT}{te:TE}{σ:St}{Q:VK}{H1:Hp}(hz:ps.length≤sizeLine) (p:V×V→Bool) (f:V×V→V)
  (hok:∀ H,Zaj H1 H→Ok H)
  (ht:∀ x H (R:Bool→Hp→Prop),Zaj H1 H→x∈ps→(∀ H',Zaj H H'→R (p x) H')→tt (some x.1 :: some x.2 :: js.map fun j=>(σ[j]?).join) H R)
  (he:∀ x H (R:V→Hp→Prop),Zaj H1 H→x∈ps→p x=true→(∀ H',Zaj H H'→R (f x) H')→te (some x.1 :: some x.2 :: js.map fun j=>(σ[j]?).join) H R)
  (hd:∀ D H',H1 D=none→Zaj H1 H'→H' D=some (.lst ((ps.filter p).map f))→Q (.ref D) H'):
  compBody 2 js (g2 K 0 1) tt te σ Q (Itp ps Ok) H1 :=
 comp_rel2 hz p (fun _ x v _=>v=f x) (fun _ _ _ _ _ _ z=>z) hok ht (fun D x H R hs _ _ hx hp k=>he x H R hs hx hp fun H' s'=>k _ _ s' rfl)
  fun D H' ys hD hs hl hp=>hd D H' hD hs (by rw [hl,paired_eq hp])
theorem comp_val {J:It}{xs:List V}{Ok:Hp→Prop}(R:Runs J xs Ok) {js:List Nat}{tt:TT}{te:TE}{σ:St}{Q:VK}{H1:Hp}(hz:xs.length≤sizeLine) (p:V→Bool) (f:V→V)
  (hok:∀ H,Zaj H1 H→Ok H)
  (ht:∀ x H (R:Bool→Hp→Prop),Zaj H1 H→x∈xs→(∀ H',Zaj H H'→R (p x) H')→tt (some x :: js.map fun j=>(σ[j]?).join) H R)
  (he:∀ x H (R:V→Hp→Prop),Zaj H1 H→x∈xs→p x=true→(∀ H',Zaj H H'→R (f x) H')→te (some x :: js.map fun j=>(σ[j]?).join) H R)
  (hd:∀ D H',H1 D=none→Zaj H1 H'→H' D=some (.lst ((xs.filter p).map f))→Q (.ref D) H'):
  compBody 1 js (gName 0) tt te σ Q J H1 :=
 Ze8 R hz p (fun _ x v _=>v=f x) (fun _ _ _ _ _ _ z=>z) hok ht (fun D x H R hs _ _ hx hp k=>he x H R hs hx hp fun H' s'=>k _ _ s' rfl)
  fun D H' ys hD hs hl hp=>hd D H' hD hs (by rw [hl,paired_eq hp])
section
variable {X:Cx}
theorem any_dEq {d:Dat}{n:Nat} (h2:kqdOk n d=true):∀ {ds:List Dat},ds.all (kqdOk 8)=true→((kqdPs ds).any fun y=>PyData.eqv y (kqdP d))=ds.any fun e=>dEq e d
 | [],_=>by rw [kqdPs];rfl
 | e :: ds,h=>by
  rw [List.all_cons,Bool.and_eq_true] at h
  rw [kqdPs,List.any_cons,List.any_cons,eqv_dEq h.1 h2,any_dEq h2 h.2]
noncomputable def rInD (K:W.Frag) (f:Bool→Bool):R2:=fun x y H Q=>∃ d ds,Rep K H x d∧Rep K H y (.list ds)∧kqdOk 9 d=true∧ds.all (kqdOk 8)=true∧Q (.bl (f (ds.any fun e=>dEq e d))) H
theorem shaped_l {ds:List Dat}(h:ds.all (kqdOk 8)=true):SeqAt.shaped (PyData.list (kqdPs ds))=true:=by
 have:=Zei (d:=.list ds) (by rw [kqdOk];exact h)
 rw [kqdP] at this
 exact this
theorem op_notInD (hu:X.A.units + 65<cLine):OpR X (compareOp .NotIn) (rInD X.K Bool.not):=by
 intro pins s σ H x y v u Q I rx ry h
 obtain ⟨d,ds,h1,h2,k1,k2,q⟩:=h
 obtain ⟨as,ra⟩:=h1.reads I rx
 obtain ⟨bs,rb⟩:=h2.reads I ry
 rw [kqdP] at rb
 exact SeqAt.notIn_list_reads rb ra (SeqAt.canLay_of_shaped (shaped_l k2)) (SeqAt.canLay_of_shaped (Zei k1)) (room_in_shaped (Zei k1) hu) (Zbp I q (by rw [any_dEq k1 k2]))
end
end L2
namespace L2
open PySem PySem.Spec PyProof.Rows PySem.W
def Ze6 (i:Nat):V:=.int (i:Nat)
def natD (i:Nat):Dat:=.int (i:Nat)
theorem reps_nats {K:W.Frag}{H:Hp}:∀ ns:List Nat,Reps K H (ns.map Ze6) (ns.map natD)
 | []=>.nil
 | n :: r=>.cons (.int _) (reps_nats r)
theorem ok_nats (n:Nat) (ns:List Nat):kqdOk (n + 1) (.list (ns.map natD))=true:=by
 rw [kqdOk,List.all_eq_true]
 intro z hz
 obtain ⟨x,_,rfl⟩:=List.mem_map.mp hz
 unfold natD
 rw [kqdOk]
theorem rep_nats {K:W.Frag}{H:Hp}{a:Addr}{ns:List Nat}(h:H a=some (.lst (ns.map Ze6))):Rep K H (.ref a) (.list (ns.map natD)):=.list (SqL.of h) (reps_nats ns)
theorem rangeV_nat (n:Nat):Zcq 0 n=(List.range n).map Ze6:=by
 refine List.ext_getElem? fun i=>?_
 by_cases hi:i<n
 ·have h1:(Zcq 0 n)[i]?=some ((Zcq 0 n)[i]'(by rw [Zay];exact hi)):=List.getElem?_eq_getElem _
  obtain ⟨_,e⟩:=Zaz h1
  rw [h1,e,List.getElem?_map,List.getElem?_range hi]
  show some (V.int (0 + (i:Nat)))=some (V.int (i:Nat))
  rw [Int.zero_add]
 ·rw [List.getElem?_eq_none (by rw [Zay];omega),List.getElem?_eq_none (by simp;omega)]
end L2
namespace L2
open PySem PySem.Spec PyProof.Rows
section
variable {X:Cx}
end
end L2
namespace L2
open PySem PySem.W PySem.Spec PyProof.Rows
section
variable {X:Cx}
end
end L2
namespace L2
open PySem PySem.Spec PyProof.Rows
section
variable {prog:Program} {w:World} {A:Around} {E:Value→Shared→Prop} {s:Shared} {d it:Addr} {es:Array DictEntry} {ep i:Nat}
end
end L2
namespace L2
open PySem PySem.Spec PyProof.Rows
section
variable {X:Cx} {pins:List (Addr×Obj)} {σ:St} {H H':Hp} {s:Shared} {a:Addr} {kvs:List (List Key×V)} {o:Obj}
end
section
variable {X:Cx} {tg:Expr}
end
end L2
namespace L2
open PySem PySem.Spec PyProof.Rows
end L2
namespace L2
open PySem PySem.Spec PyProof.Rows
end L2
namespace L2
open PySem PySem.Spec PyProof.Rows
theorem comp_relT {K:W.Frag}{J:It}{xs:List V}{Ok:Hp→Prop}(R:Runs J xs Ok) {js:List Nat}{tt:TT}{te:TE}{σ:St}{Q:VK}{H1:Hp}(hz:xs.length≤sizeLine) (p:V→Bool) (F:Addr→V→V→Hp→Prop) (l r:V→V)
  (hF:∀ D x v H H',(∀ b o,b≠D→H b=some o→H' b=some o)→F D x v H→F D x v H')
  (hok:∀ H,Zaj H1 H→Ok H) (hp:∀ x∈xs,∃ t,x=.ref t∧H1 t=some (.tup [l x,r x]))
  (ht:∀ x H (R:Bool→Hp→Prop),Zaj H1 H→x∈xs→(∀ H',Zaj H H'→R (p x) H')→tt (some (l x):: some (r x):: js.map fun j=>(σ[j]?).join) H R)
  (he:∀ D x H (R:V→Hp→Prop),Zaj H1 H→(∃ ys,H D=some (.lst ys))→H1 D=none→x∈xs→p x=true→(∀ v H',Zaj H H'→F D x v H'→R v H')→te (some (l x):: some (r x):: js.map fun j=>(σ[j]?).join) H R)
  (hd:∀ D H' ys,H1 D=none→Zaj H1 H'→H' D=some (.lst ys)→Paired (fun x v=>F D x v H') (xs.filter p) ys→Q (.ref D) H'):
  compBody 2 js (g2 K 0 1) tt te σ Q J H1:=by
 refine Zdb R hz (fun D i ys σ' H=>H1 D=none∧Zaj H1 H∧H D=some (.lst ys)∧Paired (fun x v=>F D x v H) ((xs.take i).filter p) ys∧∃ o u,σ'=o :: u :: js.map fun j=>(σ[j]?).join) ?_ ?_ ?_ ?_
 ·intro D hD
  exact ⟨hD,Zbj hD,uS,by simpa using Paired.nil,none,none,rfl⟩
 ·rintro D i ys σ' H hi ⟨hD,hs,hl,q,_⟩
  refine ⟨hok H hs,?_⟩
  rw [← q.length]
  exact Nat.le_trans (List.length_filter_le _ _) (by rw [List.length_take];omega)
 ·rintro D i x ys σ' H hD hx ⟨_,hs,hl,q,o,u,rfl⟩
  have mono:∀ {H H':Hp},(∀ b o,b≠D→H b=some o→H' b=some o)→Paired (fun x v=>F D x v H) ((xs.take i).filter p) ys→Paired (fun x v=>F D x v H') ((xs.take i).filter p) ys:=fun h q=>Paired.mapP q fun a b z=>hF D a b _ _ h z
  have hm:x∈xs:=List.mem_of_getElem? hx
  obtain ⟨t,rfl,hxt⟩:=hp x hm
  refine g2_at (SqT.of (hs _ _ hxt)) ?_
  show tt (some (l (.ref t)):: some (r (.ref t)):: js.map fun j=>(σ[j]?).join) H _
  refine ht (.ref t) H _ hs hm fun H4 s4=>?_
  have hs4:=hs.trans s4
  cases hpx:p (.ref t) with
  | true =>
   rw [if_pos rfl]
   refine he D (.ref t) H4 _ hs4 ⟨_,s4 _ _ hl⟩ hD hm hpx fun v H5 s5 f5=>⟨s5 _ _ (s4 _ _ hl),hD,fun b o e=>?_,uS,?_,_,_,rfl⟩
   ·rw [Zab (nNo e hD)]
    exact s5 _ _ (hs4 _ _ e)
   ·rw [Zeg p xs i _ hx,hpx,if_pos rfl]
    exact Paired.snoc (mono (fun b o hb e=>by rw [Zab hb];exact s5 _ _ (s4 _ _ e)) q) (hF D _ _ _ _ (fun b o hb e=>by rw [Zab hb];exact e) f5)
  | false =>
   rw [if_neg Bool.false_ne_true]
   refine ⟨hD,hs4,s4 _ _ hl,?_,_,_,rfl⟩
   rw [Zeg p xs i _ hx,hpx,if_neg Bool.false_ne_true,List.append_nil]
   exact mono (fun b o _ e=>s4 _ _ e) q
 ·rintro D ys σ' H hD ⟨_,hs,hl,q,_⟩
  rw [List.take_length] at q
  exact hd D H ys hD hs hl q
end L2
namespace L2
open PySem PySem.Spec PyProof.Rows
structure Air (h:Heap) (e T:Addr) (cls:Value) (dx:Option Addr) (fl:Value):Prop where
 ne:T≠e
 obj:∃ oe vs,h.get? e=some oe∧oe.cls=cls∧oe.dict=dx∧oe.data=.fields vs∧vs[1]?=some (.ref T)
 tb:∃ oT ts,h.get? T=some oT∧oT.data=.fields ts∧ts[3]?=some fl
structure Chg (S R:List Addr) (h h':Heap):Prop where
 sz:h.objs.size≤h'.objs.size
 keep:∀ b o,h.get? b=some o→b∉S→b∉R→h'.get? b=some o
 slot:∀ b o,h.get? b=some o→b∉R→∃ sl,h'.get? b=some { o with slots:=sl }
 there:∀ b o,h.get? b=some o→∃ o',h'.get? b=some o'
section
variable {M:Model} {A:Around} {E:Value→Shared→Prop} {s:Shared}
end
def CX1 (P:Program) (w:World):CXT:=fun outer H s E ev s'=>∃ (e T:Addr) (cls:Value) (dx:Option Addr) (H':Hp),ev=.ref e∧s'.os=s.os∧AllBare s'.gens∧Un (frs outer) [] H H' s.heap s'.heap∧HOk P w H' s'.heap ∧
 H' e=none∧H' T=none∧s.heap.objs.size≤e∧s.heap.objs.size≤T∧Air s'.heap e T cls dx .none∧E cls dx H'
structure Fns (X:Cx) (E:XK):Prop where
 xe:X.xe=fun e s'=>wpAny (model X.prog X.w) X.A (leaving X.env e) (fun _ s''=>CX1 X.prog X.w X.outer X.H₀ X.s₀ E e s'') (fun e' s''=>CX1 X.prog X.w X.outer X.H₀ X.s₀ E e' s'') s'
 stk:X.stack=X.env :: X.outer
 fr:X.env.frame=some X.env.locals
 ex:X.ex=[]
section
variable {X:Cx} {pins:List (Addr×Obj)} {σ:St} {H:Hp} {s:Shared} {E:XK} {e T:Addr} {cls:Value} {dx:Option Addr}
end
end L2
namespace L2
open PySem PySem.Spec
structure ExC (K:W.Frag) (C:Addr):Prop where
 obj:∃ nm q N bs bm hdct sn sub ab col dd k0 k1 k2 k3 k5,K.lookup C=some (excClassObj nm q C N bs bm hdct sn sub ab col dd k0 k1 k2 k3 k5 "ValueError.__new__")
 val:W.subIn K (.ref C) (.type "ValueError")=some true
 bas:W.subIn K (.ref C) (.type "BaseException")=some true
 att:W.subIn K (.ref C) (.type "AttributeError")=some false
 nam:W.subIn K (.ref C) (.type "NameError")=some false
 kp:W.keepIn K (.ref C)=true
section
variable {K:W.Frag} {prog:Program} {w:World} {A:Around} {E:Value→Shared→Prop} {h:Heap} {g:Array GenState} {d:Drawn} {t:Nat} {os:OsState} {C:Addr}
end
end L2
namespace L2
open PySem PySem.Spec PySem.Builtin PySem.Builtin.ObjectAttr PySem.W
structure ExA (K:W.Frag) (C:Addr):Prop extends ExC K C where
 ga:W.findIn K (.ref C) "__getattribute__"=some (some (.builtin "BaseException.__getattribute__"))
 gt:W.findIn K (.ref C) "__getattr__"=some none
 ca:W.findIn K (.ref C) "__class__"=some (some (.builtin "object.__class__"))
 cg:W.specialIn K (.builtin "object.__class__") "__get__"=some (some (.builtin "getset_descriptor.__get__"))
 ct:W.takesIn K (.builtin "object.__class__")=some true
 ob:W.mroIn K C (.type "object")=some true
section
variable {K:W.Frag} {prog:Program} {w:World} {A:Around} {E:Value→Shared→Prop} {h:Heap} {g:Array GenState} {d:Drawn} {t:Nat} {os:OsState} {x C:Addr} {ox:Obj} {od:Option Obj} {name:Str}
end
end L2
namespace L2
open PySem PySem.Spec PyProof.Rows
abbrev TF:=St→Hp→(Hp→Prop)→Prop
section
variable {X:Cx} {e:Expr} {es:List Expr} {te:TE} {t u:TF} {pos:Pos}
end
section
variable {X:Cx} {E:XK} {C:Addr} {x:Str} {np cpos pos:Pos} {e:Expr} {es:List Expr} {t:TA}
end
section
variable {X:Cx} {pins:List (Addr×Obj)} {σ:St} {H:Hp} {s:Shared} {A:Around} {E:Value→Shared→Prop} {Q:Value→Shared→Prop} {e C:Addr} {dx:Option Addr} {cv:Value} {b:Bool}
end
abbrev XKs:=Value→Option Addr→St→Hp→Prop
abbrev TSx:=Ends→XKs→St→Hp→Prop
abbrev TEx:=St→Hp→VK→XK→Prop
def XP (X:Cx) (pins:List (Addr×Obj)) (E:XKs) (ev:Value) (s':Shared):Prop:=∃ (e T:Addr) (cls:Value) (dx:Option Addr) (σ':St) (H':Hp),ev=.ref e∧Inv X pins σ' H' s'∧FpOk X pins H' e∧FpOk X pins H' T∧Air s'.heap e T cls dx .none∧E cls dx σ' H'
section
variable {X:Cx} {st:Stmt} {rest:List Stmt} {t u:TSx} {e:Expr} {te:TEx} {pos:Pos}
end
section
variable {X:Cx} {k:Nat} {f C:Addr} {fd:FuncData} {ps:List Str} {sp:Sp} {dvs:List V} {ds:List Value} {x m:Str} {p pos apos:Pos} {e o:Expr} {es:List Expr} {ta:TE} {t:TA}
end
end L2
namespace L2
open PySem PySem.Spec PyProof.Rows
section
variable {K:W.Frag} {M:Model} {A:Around} {E:Value→Shared→Prop} {h:Heap} {g:Array GenState} {d:Drawn} {t:Nat} {os:OsState} {e C D:Addr}
end
section
variable {X:Cx} {pins:List (Addr×Obj)} {σ:St} {H:Hp} {s:Shared}
end
section
variable {X:Cx} {D:Addr} {body:List Stmt} {t:TSx} {x n dn:Str} {np xp ep ap hp pos:Pos} {i j:Nat}
end
section
variable {X:Cx} {k:Nat} {f C:Addr} {fd:FuncData} {ps:List Str} {sp:Sp} {x m:Str} {p pos apos:Pos} {e o:Expr} {es:List Expr} {ta:TE} {t:TA}
end
end L2
namespace L2
open PySem PySem.Spec PyProof.Rows
end L2
namespace L2
open PySem PySem.Spec PyProof.Rows
section
variable {X:Cx}
end
end L2
namespace L2
open PySem PySem.Spec PyProof.Rows
end L2
namespace L2
open PySem PySem.Spec PyProof.Rows
end L2
namespace L2
open PySem PySem.W PySem.Spec PyProof.Rows
section
variable {X:Cx} {e:Expr} {te:TE} {pos:Pos} {k:Nat}
end
end L2
namespace L2
open PySem PySem.Spec PyProof.Rows HT
section
variable {prog:Program} {w:World} {A:Around} {E:Value→Shared→Prop} {s:Shared}
theorem getItem_tuple_all {t sl:Addr}{items:Array Value}{vl vu:Value}{lo hi:Option Int}{Q:Value→Shared→Prop}(ht:IsTup s.heap t items) (hs:s.heap.IsSliceOf sl vl vu .none) (pl:IsPart vl lo) (pu:IsPart vu hi)
  (hw:sIx items.size 0 lo=0∧sIx items.size items.size hi=items.size) (h:Q (.ref t) s):wpAny (model prog w) A (getItem (.ref t) (.ref sl)) Q E s:=by
 obtain ⟨os,hos,hcs,hds⟩:=id hs
 have hTs:s.TypeIs (.ref sl) "slice":=⟨os,hos,hcs⟩
 unfold getItem
 try with_reducible refine wpAny_holding ?_
 first | refine wpAny_bind (wpAny_pure ?_) | skip
 refine wpAny_bind (wpAny_sequenceKey ht.typeIs (by decide) ?_)
 refine wpAny_bind (wpAny_callSpecial?_slot (name:=Str.ofString "__getitem__") ht.typeIs PyProof.Rows.slot_tuple_getitem
  (wpAny_call_entry PyProof.Rows.slot_tuple_getitem ht.typeIs entry_tuple_getitem ?_ (args_tuple_getitem _ _)))
 show wpAny _ _ (Builtin.Tuple.tupleItemsOf (.ref t)>>=_) _ _ s
 refine wpAny_bind (tupleItemsOf_ ht ?_)
 refine wpAny_bind (wpAny_typeOf hTs ?_)
 rw [if_pos (by decide)]
 refine wpAny_bind (sliceApplied_gen hs pl pu ?_)
 have yes:(((sIx items.size 0 lo:Nat):Int) == 0&&(1:Int) == 1&&(sIx items.size items.size hi - sIx items.size 0 lo) == items.size)=true:=by
  rw [hw.1,hw.2]
  simp
 show wpAny _ _ (if (((sIx items.size 0 lo:Nat):Int) == 0&&(1:Int) == 1&&(sIx items.size items.size hi - sIx items.size 0 lo) == items.size)=true then _ else _) _ _ s
 rw [if_pos yes]
 apply wpAny_bind
 unfold Builtin.Tuple.tupleIsExact
 refine wpAny_bind (wpAny_typeOf ht.typeIs ?_)
 apply wpAny_pure
 rw [if_pos (by decide)]
 refine wpAny_bind (wpAny_rule ?_)
 refine wpAny_pure ?_
 exact ⟨_,rfl,wpAny_pure h⟩
end
def rSlA (K:W.Frag):V→Option Int→Option Int→Hp→VK→Prop:=fun x lo hi H Q=>∃ a xs,x=.ref a∧SqT K H a xs ∧
 ((sIx xs.length 0 lo=0∧sIx xs.length xs.length hi=xs.length)→Q (.ref a) H)∧(¬ (sIx xs.length 0 lo=0∧sIx xs.length xs.length hi=xs.length)→∀ p,H p=none→Q (.ref p) (upd H p (.tup (cutV xs lo hi))))
theorem sl_tupA {X:Cx}:SlR X (rSlA X.K):=by
 intro pins s σ H x v vl vu lo hi sl Q I rx hs pl pu h
 obtain ⟨a,xs,ex,hx,q1,q2⟩:=h
 by_cases hw:sIx xs.length 0 lo=0∧sIx xs.length xs.length hi=xs.length
 ·subst ex
  cases rx
  obtain ⟨its,r,ht,hz⟩:=I.tuple hx
  have hlen:its.toArray.size=xs.length:=by rw [List.size_toArray];exact r.length.symm
  refine ⟨"tuple",_,PyProof.Rows.slot_tuple_getitem.lookup,ht.typeIs,?_⟩
  exact getItem_tuple_all ht hs pl pu (by rw [hlen];exact hw) ⟨.ref a,H,I,rfl,q1 hw⟩
 ·exact sl_tup pins s σ H x v vl vu lo hi sl Q I rx hs pl pu ⟨a,xs,ex,hx,hw,q2 hw⟩
theorem cut_all {xs:List V}{lo hi:Option Int}(h:sIx xs.length 0 lo=0∧sIx xs.length xs.length hi=xs.length):cutV xs lo hi=xs:=by
 unfold cutV
 rw [h.1,h.2,List.drop_zero,Nat.sub_zero,List.take_length]
theorem rSlA_of {K:W.Frag}{H:Hp}{a:Addr}{xs:List V}{lo hi:Option Int}{Q:VK}(hx:H a=some (.tup xs)) (q:∀ p H',Zaj H H'→H' p=some (.tup (cutV xs lo hi))→Q (.ref p) H'):rSlA K (.ref a) lo hi H Q :=
 ⟨a,xs,rfl,SqT.of hx,fun h=>q a H (Zaj.refl _) (by rw [cut_all h];exact hx),fun _ p hp=>q p _ (fun b o e=>by rw [Zab (nNo e hp)];exact e) uS⟩
theorem rCatA_of {K:W.Frag}{H:Hp}{a b:Addr}{xs ys:List V}{Q:VK}(hx:H a=some (.tup xs)) (hy:H b=some (.tup ys)) (hz:xs.length + ys.length≤sizeLine) (q:∀ p H',Zaj H H'→H' p=some (.tup (xs++ys))→Q (.ref p) H'):rCatA K (.ref a) (.ref b) H Q :=
 ⟨a,b,xs,ys,rfl,rfl,SqT.of hx,SqT.of hy,hz,fun e=>q b H (Zaj.refl _) (by rw [e];exact hy),fun _ e=>q a H (Zaj.refl _) (by rw [e,List.append_nil];exact hx),fun _ _ p hp=>q p _ (fun c o e=>by rw [Zab (nNo e hp)];exact e) uS⟩
end L2
namespace L2
open PySem PySem.Spec PyProof.Rows
section
variable {X:Cx}
end
end L2
namespace L2
open PySem PySem.Spec PySem.Builtin PySem.Builtin.ObjectAttr PySem.W
structure ExI (K:W.Frag) (C D:Addr) (a:Str):Prop extends ExA K C where
 lk:∃ nm q N bs sn sub ab col dd k0 k1 k2 k3 k5,K.lookup C=some (excClassObj nm q C N bs [.ref D,.type "ValueError",.type "Exception",.type "BaseException",.type "object"] true sn sub ab col dd k0 k1 k2 k3 k5 "ValueError.__new__")
 sa:W.findIn K (.ref C) "__setattr__"=some (some (.builtin "object.__setattr__"))
 na:W.findIn K (.ref C) a=some none
section
variable {K:W.Frag} {prog:Program} {w:World} {A:Around} {E:Value→Shared→Prop} {s:Shared} {C D e t0:Addr} {a:Str} {v:Value}
end
end L2
namespace L2
open PySem PySem.Spec PyProof.Rows
structure DIn (K:W.Frag) (D:Addr):Prop where
 ga:W.specialIn K (.ref D) "__getattribute__"=some (some (.builtin "type.__getattribute__"))
 rd:W.readsIn K D (.type "type")=true
 fi:W.findCls K (.ref D) (.type "type") "__init__"=some (.val (.builtin "ValueError.__init__"))
section
variable {X:Cx} {pins:List (Addr×Obj)} {σ:St} {H:Hp} {s:Shared} {a:Addr} {φ:Heap→Prop}
end
section
variable {X:Cx} {C D f:Addr} {fd:FuncData} {k:Nat} {x dn a:Str} {np cpos pos apos pos':Pos} {e o value:Expr} {es:List Expr} {t:TA} {ta tv:TE} {ps:List Str}
end
end L2
namespace L2
open PySem PySem.Spec PyProof.Rows
structure CompOkC (X:Cx) (scope:Scope) (own frees:List Str) (js:List Nat):Prop where
 calm:X.calm=true
 kind:scope.kind=.function
 cells:∀ y∈scope.names,y.2=.cell→scope.names.lookup y.1=some .cell
 locals:∀ y∈scope.names,y.2=.local→scope.names.lookup y.1=some .local
 fr:∀ y∈scope.names,y.2=.free→X.env.scope.names.lookup y.1=some .cell∨X.env.scope.names.lookup y.1=some .free
 fre:∀ x∈frees,scope.names.lookup x=some .free
 slots:js.map (fun j=>X.N[j]?)=frees.map some
section
variable {X:Cx} {pins:List (Addr×Obj)} {σ:St} {scope:Scope} {own frees:List Str} {js:List Nat}
end
section
variable {X:Cx} {scope:Scope} {own frees:List Str} {js:List Nat} {tg iter elt:Expr} {ifs:List Expr} {wi:TI} {g:TG} {tt:TT} {te:TE} {pos:Pos}
end
end L2
namespace L2
open PySem PySem.Spec PyProof.Rows
section
variable {prog:Program} {w:World} {A:Around} {E:Value→Shared→Prop} {s:Shared} {r:Addr}
end
section
variable {X:Cx}
end
end L2
namespace L2
open PySem PySem.Spec PyProof.Rows
structure IsCls (K:W.Frag) (D:Addr):Prop where
 ha:W.findIn K (.ref D) "__class__"=some (some (.builtin "object.__class__"))
 hn:W.specialIn K (.builtin "object.__class__") "__get__"=some (some (.builtin "getset_descriptor.__get__"))
 ht:W.takesIn K (.builtin "object.__class__")=some true
 hm:W.mroIn K D (.type "object")=some true
 ki:W.kitOne K (.ref D) (.ref D)=some true
end L2
namespace L2
open PySem PySem.Spec PyProof.Rows
section
variable {prog:Program} {w:World} {A:Around}
end
section
variable {X:Cx}
end
end L2
namespace L2
open PySem PySem.Spec PyProof.Rows
section
variable {X:Cx} {pins:List (Addr×Obj)} {σ:St} {H:Hp} {s:Shared} {a:Addr} {o:Obj} {kvs:List (List Key×V)}
end
end L2
namespace L2
open PySem PySem.Spec PySem.Builtin
section
variable {X:Cx}
end
end L2
namespace L2
open PySem PySem.Spec PyProof.Rows
section
variable {X:Cx} {C D f:Addr} {fd:FuncData} {k:Nat} {x dn a:Str} {np cpos pos apos pos':Pos} {e o value:Expr} {es:List Expr} {t:TA} {ta tv:TE} {ps:List Str}
end
end L2
namespace L2
open PySem PySem.Spec PySem.Builtin
section
variable {X:Cx}
end
section
variable {X:Cx}
end
end L2
namespace L2
open PySem PySem.Spec PyProof.Rows
structure ZLt (h:Heap) (z ti to i1 i2 l1 l2:Addr) (k:Nat) (f:Value):Prop where
 z:IsZip h z ti to f
 ti:IsPair h ti (.ref i1) (.ref i2)
 to:∃ a b,IsPair h to a b
 i1:h.IsListIter i1 l1 k
 i2:h.IsListIter i2 l2 k
section
variable {prog:Program} {w:World} {A:Around} {E:Value→Shared→Prop} {s:Shared}
end
section
variable {X:Cx}
end
end L2
namespace L2
open PySem PySem.Spec PyProof.Rows
structure Tp (K:W.Frag) (x:Str) (st:Stmt) (f:Addr) (fd:FuncData):Prop where
 a:W.nsIn K mainGlobals x=some (some (.ref f))
 fn:Fun K x x st f fd
structure Mp (K:W.Frag) (C:Addr) (x q:Str) (st:Stmt) (f:Addr) (fd:FuncData):Prop where
 a:W.findIn K (.ref C) x=some (some (.ref f))
 i:W.isFn K (.ref f)=true
 fn:Fun K x q st f fd
structure Cp (K:W.Frag) (x:Str) (C:Addr):Prop where
 a:W.nsIn K mainGlobals x=some (some (.ref C))
 pg:W.plainGet K C Str.empty=true
 hd:W.hasDictIn K C=true
 po:W.plainOver K C=true
 sa:W.findIn K (.ref C) "__setattr__"=some (some (.builtin "object.__setattr__"))
 mx:W.makesIn K C=true
 kc:W.keepIn K (.ref C)=true
section
variable {K:W.Frag} {x q:Str} {st:Stmt} {f C:Addr} {oc:Value} {od an:Option Addr} {osl:Array (Option Value)} {kV doc pm cdv ct:Value}
theorem tp (a:W.nsIn K mainGlobals x=some (some (.ref f))) (l:K.lookup f=some ⟨oc,od,.func (W.fnOf x x (Zcu st) (Zbs st) (Zad st) .none kV doc pm an cdv ct),osl⟩) (c:W.codeIn K cdv x=true) (k:W.keepIn K (.ref f)=true):
  Tp K x st f (W.fnOf x x (Zcu st) (Zbs st) (Zad st) .none kV doc pm an cdv ct):=⟨a,fun_mk l c k⟩
theorem mp (a:W.findIn K (.ref C) x=some (some (.ref f))) (i:W.isFn K (.ref f)=true) (l:K.lookup f=some ⟨oc,od,.func (W.fnOf x q (Zcu st) (Zbs st) (Zad st) .none kV doc pm an cdv ct),osl⟩) (c:W.codeIn K cdv q=true) (k:W.keepIn K (.ref f)=true):
  Mp K C x q st f (W.fnOf x q (Zcu st) (Zbs st) (Zad st) .none kV doc pm an cdv ct):=⟨a,i,fun_mk l c k⟩
end
section
variable {K:W.Frag} {mg:Str→Option Value} {x q:Str} {st:Stmt} {f:Addr} {fd:FuncData} {h:Heap}
theorem bn1 (a:Str) (F:Fun K x q st f fd) (e:∀ (kV doc pm:Value) (an:Option Addr) (cdv ct u:Value),bindArgs (W.fnOf x q (Zcu st) (Zbs st) (Zad st) .none kV doc pm an cdv ct) ⟨[u],[]⟩=pure ([a].zip [u]):=by intros;rfl):Zes K fd [a] [] :=
 F.binds fun _ _ _ _ _ _ us hl=>match us,hl with | [_],_=>e ..
theorem bn2 (a b:Str) (F:Fun K x q st f fd) (e:∀ (kV doc pm:Value) (an:Option Addr) (cdv ct u v:Value),bindArgs (W.fnOf x q (Zcu st) (Zbs st) (Zad st) .none kV doc pm an cdv ct) ⟨[u,v],[]⟩=pure ([a,b].zip [u,v]):=by intros;rfl):Zes K fd [a,b] [] :=
 F.binds fun _ _ _ _ _ _ us hl=>match us,hl with | [_,_],_=>e ..
theorem bn3 (a b c:Str) (F:Fun K x q st f fd) (e:∀ (kV doc pm:Value) (an:Option Addr) (cdv ct u v w:Value),bindArgs (W.fnOf x q (Zcu st) (Zbs st) (Zad st) .none kV doc pm an cdv ct) ⟨[u,v,w],[]⟩=pure ([a,b,c].zip [u,v,w]):=by intros;rfl):Zes K fd [a,b,c] [] :=
 F.binds fun _ _ _ _ _ _ us hl=>match us,hl with | [_,_,_],_=>e ..
theorem bn4 (a b c d:Str) (F:Fun K x q st f fd) (e:∀ (kV doc pm:Value) (an:Option Addr) (cdv ct u v w y:Value),bindArgs (W.fnOf x q (Zcu st) (Zbs st) (Zad st) .none kV doc pm an cdv ct) ⟨[u,v,w,y],[]⟩=pure ([a,b,c,d].zip [u,v,w,y]):=by intros;rfl):Zes K fd [a,b,c,d] [] :=
 F.binds fun _ _ _ _ _ _ us hl=>match us,hl with | [_,_,_,_],_=>e ..
theorem bn5 (a b c d g:Str) (F:Fun K x q st f fd) (e:∀ (kV doc pm:Value) (an:Option Addr) (cdv ct u v w y z:Value),bindArgs (W.fnOf x q (Zcu st) (Zbs st) (Zad st) .none kV doc pm an cdv ct) ⟨[u,v,w,y,z],[]⟩=pure ([a,b,c,d,g].zip [u,v,w,y,z]):=by intros;rfl):Zes K fd [a,b,c,d,g] [] :=
 F.binds fun _ _ _ _ _ _ us hl=>match us,hl with | [_,_,_,_,_],_=>e ..
theorem bn7 (a b c d g i j:Str) (F:Fun K x q st f fd) (e:∀ (kV doc pm:Value) (an:Option Addr) (cdv ct u v w y z r s:Value),bindArgs (W.fnOf x q (Zcu st) (Zbs st) (Zad st) .none kV doc pm an cdv ct) ⟨[u,v,w,y,z,r,s],[]⟩=pure ([a,b,c,d,g,i,j].zip [u,v,w,y,z,r,s]):=by intros;rfl):Zes K fd [a,b,c,d,g,i,j] [] :=
 F.binds fun _ _ _ _ _ _ us hl=>match us,hl with | [_,_,_,_,_,_,_],_=>e ..
theorem df {ps:List Str}(X:K.In h) (G:h.Ns mainGlobals mg) (T:Tp K x st f fd) (b:Zes K fd ps []):Def K mg x st ps f fd:=⟨T.fn,b,W.mg_of X G T.a⟩
theorem Tp.ex {x q:Str}(F:Fun K x q st f fd):∃ (kV doc pm:Value) (an:Option Addr) (cdv ct:Value),fd=W.fnOf x q (Zcu st) (Zbs st) (Zad st) .none kV doc pm an cdv ct:=by
 obtain ⟨oc,od,kV,doc,pm,an,cdv,ct,osl,e,_⟩:=F.ex
 exact ⟨kV,doc,pm,an,cdv,ct,e⟩
end
end L2
namespace PySem
open Builtin AutoSeq1
set_option maxRecDepth 8000 in
theorem list_extend_tupG (l:Addr) (items:Array Value) (n:Nat) (b:Addr) (items2:Array Value) (n2:Nat) (dt:Option Addr) (sl:Array (Option Value)) (hs0:¬(!items.isEmpty&&Builtin.List.listTooLong (items.size + items2.size))=true) (hs1:items.size≤sizeLine) (hs2:items.size + items2.size≤sizeLine + 1):
  Meets (Builtin.«list.extend» ⟨[.ref l,.ref b],[]⟩) (fun _ R s=>s.heap.get? l=some { cls:=.type "list",dict:=none,data:=.seq items n,slots:=#[] }∧s.heap.get? b=some { cls:=.type "tuple",dict:=dt,data:=.seq items2 n2,slots:=sl }∧R (.ok (.ret Value.none)) { s with heap:=s.heap.update l (Obj.mapSeq fun x=>x++items2),toks:=s.toks }):=
 .of_wp fun prog w A R s h=>by
  obtain ⟨hp,g,d,tk,os⟩:=s;obtain ⟨hl,hb,h⟩:=h;have f1:=idx_int;have f2:=sub_tuple_tuple;have f3:=sub_list_list;have f4:=sub_tuple_list;have f5:=sub_list_tuple;
  have hz':(items++items2).size≤sizeLine + 1:=by rw [Array.size_append];exact hs2
  wp_walk using (wpAny_updateSeq hl rfl (hz:=hs1) (_hz':=hz')),wpAny_loadPart' hl,wpAny_loadPart' hb;exact ⟨_,rfl,h⟩
end PySem
namespace L2
open PySem PySem.Spec PyProof.Rows
section
variable {X:Cx}
def rExtT (K:W.Frag):V→List V→Hp→VK→Prop:=fun x vs H Q=>∃ l b xs zs,x=.ref l∧vs=[.ref b]∧H l=some (.lst xs)∧SqT K H b zs∧xs.length + zs.length≤sizeLine∧Q .non (upd H l (.lst (xs++zs)))
theorem mt_extT:MtM X "list.extend" (rExtT X.K):=by
 intro pins s σ H x vs v us Q I rx rv h
 obtain ⟨l,b,xs,zs,rfl,rfl,hH,hB,hz,q⟩:=h
 cases rx
 obtain ⟨u,rfl,ru⟩:=rv.one
 cases ru
 obtain ⟨z,its,n,r,hl,e⟩:=I.lstM hH
 obtain ⟨its2,r2,⟨⟨cl,dt,dat,sl⟩,e2,hc2,n2,hd2⟩,hl2⟩:=I.tuple hB
 dsimp only at hc2 hd2
 subst hc2 hd2
 have l2:=r2.length
 have hsz:its.toArray.size + its2.toArray.size≤sizeLine:=by rw [List.size_toArray,List.size_toArray];omega
 have hlong:¬ (!its.toArray.isEmpty&&Builtin.List.listTooLong (its.toArray.size + its2.toArray.size))=true:=by
  rw [notLongL hsz,Bool.and_false]
  exact Bool.false_ne_true
 refine call_meets F.slot_list_extend ⟨_,e,rfl⟩ F.entry_list_extend (F.args_list_extend_2 _ _)
  (list_extend_tupG l its.toArray n b its2.toArray n2 dt sl hlong (by rw [List.size_toArray];omega) (by omega)) ⟨e,e2,?_⟩
 refine ⟨.non,_,I.lset (its':=its++its2) hH e (by simp) (r.append r2) ?_,rfl,q⟩
 rw [List.length_append]
 omega
def tNotL (K:W.Frag) (ta:TE):TE:=fun σ H Q=>ta σ H fun x H1=>∃ k,TruV K x H1 k∧Q (.bl (!k)) H1
theorem pe_notL {a:Expr}{ta:TE}{pos:Pos}(ha:PE X a ta):PE X (.UnaryOp .Not a pos) (tNotL X.K ta):=by
 intro pins s σ H Q I h
 refine UnaryOp_ (thn (ha pins s σ H _ I h) fun v s1 ⟨x,H1,I1,r1,k,ty,q⟩=>?_)
 exact not_of (thn (tru_ok pins s1 σ H1 x v (fun c H2=>Q (.bl (!c)) H2) I1 r1 ⟨k,ty,q⟩) fun c s2 ⟨H2,I2,q2⟩=>⟨.bl (!c),H2,I2,rfl,q2⟩)
end
end L2
namespace L2
open PySem PySem.Spec PyProof.Rows PySem.W
section
variable {X:Cx}
end
end L2
namespace K68
open PySem L2
def top (i:Nat):Stmt:=PySem.Challenge.pw_manydeeds_k68_what_comes_of_a_term.main.body.getD i (.Pass ⟨0,0,0,0⟩)
abbrev Zdw:Stmt:=top 17
abbrev Zc1:Stmt:=top 18
abbrev Zd5:Stmt:=top 19
abbrev Zd2:Stmt:=Zcl (top 20) 0
abbrev Zd9:Stmt:=Zcl (top 20) 1
abbrev Zdr:Stmt:=Zcl (top 20) 2
abbrev Zea:Stmt:=Zcl (top 20) 3
abbrev Zew:Stmt:=top 22
abbrev s_within:Stmt:=top 23
abbrev s_fitting:Stmt:=top 24
abbrev Zb9:Stmt:=top 25
abbrev Zc2:Stmt:=top 26
abbrev s_nearest:Stmt:=top 27
abbrev s_told_of:Stmt:=top 28
abbrev s_told:Stmt:=top 29
abbrev Zek:Stmt:=top 34
abbrev s_parts_of:Stmt:=top 35
abbrev s_is_small:Stmt:=top 36
abbrev s_has_name:Stmt:=top 37
abbrev Zfi:Stmt:=top 38
abbrev Zc3:Stmt:=top 39
abbrev s_is_term:Stmt:=top 40
abbrev Zeu:Stmt:=top 41
abbrev s_run_call:Stmt:=top 42
abbrev s_run_part:Stmt:=top 43
abbrev Zdq:Stmt:=top 46
abbrev s_comes:Stmt:=top 47
abbrev Zej:Stmt:=top 53
abbrev Zev:Stmt:=top 54
abbrev Zfs:Stmt:=top 55
abbrev Zcg:Stmt:=top 56
abbrev Zfj:Stmt:=top 57
abbrev Zfr:Stmt:=top 58
abbrev Zft:Stmt:=top 59
abbrev Zd1:Stmt:=Zcl (top 60) 0
abbrev Zfv:Stmt:=Zcl (top 60) 1
abbrev Zci:Stmt:=Zcl (top 60) 2
abbrev Zd7:Stmt:=Zcl (top 60) 3
abbrev Zd8:Stmt:=Zcl (top 60) 6
abbrev Zc6:Stmt:=Zcl (top 60) 9
abbrev Zd4:Stmt:=top 63
abbrev Zce:Stmt:=Zcl (top 64) 0
abbrev Zcj:Stmt:=Zcl (top 64) 1
abbrev Ze2:Stmt:=Zcl (top 64) 2
abbrev Ze0:Stmt:=Zcl (top 64) 3
abbrev Ze3:Stmt:=Zcl (top 64) 4
abbrev Ze1:Stmt:=Zcl (top 64) 5
abbrev Zfk:Stmt:=top 66
abbrev Za9:Stmt:=top 67
abbrev Zcb:Stmt:=top 68
abbrev Zbc:Stmt:=top 69
abbrev Zex:Stmt:=top 70
abbrev Zdg:Stmt:=top 71
abbrev Zdi:Stmt:=top 72
abbrev Zez:Stmt:=top 73
abbrev Zcw:Stmt:=top 74
abbrev Zc4:Stmt:=top 75
abbrev Zca:Stmt:=top 76
abbrev Zfu:Stmt:=top 77
abbrev Zd6:Stmt:=top 78
abbrev Zdx:Stmt:=top 79
abbrev Zcv:Stmt:=top 80
abbrev Zey:Stmt:=top 81
abbrev Zdh:Stmt:=top 82
abbrev Zch:Stmt:=top 83
abbrev Zcp:Stmt:=top 84
abbrev Zcx:Stmt:=top 85
abbrev Zel:Stmt:=top 86
abbrev s__law_ran:Stmt:=top 87
abbrev Zc5:Stmt:=top 88
abbrev s__law_cut:Stmt:=top 89
abbrev Zfl:Stmt:=top 90
abbrev s_law:Stmt:=top 91
end K68
namespace K68
open PySem L2 Md
def spPot (K:W.Frag):Sp:=fun vs H Q _=>∃ (a:Addr) (k:Int) (ns:List Int),vs=[.ref a,.int k]∧SqL K H a (ns.map V.int)∧ns.length≤100∧0≤k∧k≤1000∧∀ p o,H p=none→PotO o→Q (.ref p) (upd H p o)
def spTake:Sp:=fun vs H Q _=>∃ (p:Addr) (m:Int) (o:HO),vs=[.ref p,.int m]∧H p=some o∧PotO o∧0<m∧m<4611686018427387904∧∀ (v:Int) o',0≤v→v<m→PotO o'→Q (.int v) (upd H p o')
def spLetters:Sp:=fun vs H Q _=>∃ n:Nat,vs=[.int n]∧n<26 ^ 8∧Q (.str (Zb6 n)) H
section
variable {P:Program} {w:World} {K:W.Frag} {mg:Str→Option Value} {base:Heap}
theorem scPot:Zai ["script","k","cell","rest"] ["script","k"] (Zad Zfk):=⟨rfl,rfl,rfl,by decide +kernel,rfl,by decide +kernel,by decide +kernel⟩
theorem big_eq:(10:Int) ^ (64:Int).toNat * 10 ^ (64:Int).toNat * 10 ^ (64:Int).toNat * 10 ^ (64:Int).toNat=10 ^ 256:=by decide +kernel
theorem ok_pot {f:Addr}{fd:FuncData}(F:Def K mg "_law_pot" Zfk ["script","k"] f fd) (len:mg "len"=none):Zar P w K mg base CX0 1 f fd ["script","k"] (spPot K):=by
 refine F.fn.ok scPot (fun vs H Q E h=>?_) (fun cdv A outer s H vs Q E hr h=>?_)
 ·obtain ⟨a,k,ns,rfl,_⟩:=h
  rfl
 ·obtain ⟨a,k,ns,rfl,hS,hl,hk0,hk1,q⟩:=h
  refine ⟨_,pS (Zag (i:=2) scPot.nd rfl (Or.inl rfl) Zaf)
   (Zfd (Za4 (Zan op_lt (pv 1) (Zam Zcs (by rfl) len PySem.boot_len (pC (pv 0) Zaa)) (Zau _))
    (Zac (Zag (i:=2) scPot.nd rfl (Or.inl rfl) (Za0 op_mod (Zaw Zav (pv 0) (pv 1) (fun _ _=>rfl))
     (Za0 op_mulB (Za0 op_mulB (Za0 op_mulB (Za0 op_pow Zaf Zaf) (Za0 op_pow Zaf Zaf)) (Za0 op_pow Zaf Zaf)) (Za0 op_pow Zaf Zaf))))) Zak)
   (pS (Zag (i:=3) scPot.nd rfl (Or.inl rfl) Zaf)
   (Zfd (Za4 (Zan op_ge (pv 2) (Za0 op_pow Zaf Zaf) (Zau _)) (Zac (Zag (i:=3) scPot.nd rfl (Or.inl rfl) (pv 2))) Zak)
   (Zac (Zal (Zbn (pC (pv 3) (pC (Za0 op_mod (Za0 op_mul (Za0 Zck (Za0 Zck (Za0 op_mod (pv 2) Zaf) (Za0 op_mul Zaf (pv 1))) Zaf) Zaf) Zaf) Zaa)))))))),?_⟩
  refine ⟨fun σ' H'=>H'=H∧∃ c:Int,0≤c∧c<10 ^ 256∧σ'=[some (.ref a),some (.int k),some (.int c),none],?_,?_⟩
  ·refine ⟨_,rfl,_,rfl,_,_,rfl,.inl ⟨_,hS,rfl⟩,_,_,rfl,rfl,_,rfl,?_⟩
   refine Zed (fun h1=>?_) (fun h1=>?_)
   ·have h1:k<((ns.map V.int).length:Int):=of_decide_eq_true h1
    rw [List.length_map] at h1
    have hi:k.toNat<ns.length:=by omega
    have hat:atI (ns.map V.int) k=some (V.int ns[k.toNat]):=by
     have e:(ns.map V.int)[k.toNat]?=some (V.int ns[k.toNat]):=by rw [List.getElem?_map,List.getElem?_eq_getElem hi];rfl
     have:=Za6 e
     rwa [Int.toNat_of_nonneg hk0] at this
    refine ⟨_,rfl,_,rfl,_,_,_,_,rfl,rfl,hS,hat,_,_,rfl,rfl,⟨by decide,by decide,by decide +kernel⟩,_,_,rfl,rfl,⟨by decide,by decide,by decide +kernel⟩,_,_,rfl,rfl,⟨by decide +kernel,by decide +kernel⟩,
     _,_,rfl,rfl,⟨by decide,by decide,by decide +kernel⟩,_,_,rfl,rfl,⟨by decide +kernel,by decide +kernel⟩,_,_,rfl,rfl,⟨by decide,by decide,by decide +kernel⟩,_,_,rfl,rfl,⟨by decide +kernel,by decide +kernel⟩,_,_,rfl,rfl,?_,rfl,_,?_,?_,rfl⟩
    ·show (0:Int)<_
     rw [big_eq];decide +kernel
    ·rw [big_eq];exact Int.emod_nonneg _ (by decide +kernel)
    ·rw [big_eq];exact Int.emod_lt_of_pos _ (by decide +kernel)
   ·exact ⟨rfl,0,by decide,by decide +kernel,rfl⟩
  ·rintro σ' H' ⟨rfl,c,hc0,hc1,rfl⟩
   refine ⟨fun σ2 H2=>H2=H'∧∃ r:Int,0≤r∧r<10 ^ 256∧σ2=[some (.ref a),some (.int k),some (.int c),some (.int r)],?_,?_⟩
   ·refine ⟨_,rfl,_,_,rfl,rfl,⟨by decide,by decide,by decide +kernel⟩,_,_,rfl,rfl,_,rfl,?_⟩
    refine Zed (fun h1=>?_) (fun h1=>?_)
    ·exact ⟨_,rfl,rfl,c,hc0,hc1,rfl⟩
    ·exact ⟨rfl,0,by decide,by decide +kernel,rfl⟩
   ·rintro σ2 H2 ⟨rfl,r,hr0,hr1,rfl⟩
    have m0:=Int.emod_nonneg c (b:=2147483629) (by decide)
    have m1:=Int.emod_lt_of_pos c (b:=2147483629) (by decide)
    refine ⟨_,rfl,_,rfl,_,_,rfl,rfl,(by show (0:Int)<2147483629;decide),_,rfl,_,_,rfl,rfl,.inl ⟨by decide,by decide⟩,_,_,rfl,rfl,_,_,rfl,rfl,_,_,rfl,rfl,.inr ⟨by decide,by decide⟩,_,_,rfl,rfl,(by show (0:Int)<2147483647;decide),sL (by show 2≤100000;decide),fun p hp=>?_⟩
    refine q p _ hp ⟨r,_,rfl,hr0,hr1,Int.emod_nonneg _ (by decide),Int.emod_lt_of_pos _ (by decide)⟩
theorem scTake:Zai ["pot","many","found"] ["pot","many"] (Zad Za9):=⟨rfl,rfl,rfl,by decide +kernel,rfl,by decide +kernel,by decide +kernel⟩
theorem ok_take {f:Addr}{fd:FuncData}(F:Def K mg "_law_take" Za9 ["pot","many"] f fd):Zar P w K mg base CX0 1 f fd ["pot","many"] spTake:=by
 refine F.fn.ok scTake (fun vs H Q E h=>?_) (fun cdv A outer s H vs Q E hr h=>?_)
 ·obtain ⟨p,m,o,rfl,_⟩:=h
  rfl
 ·obtain ⟨p,m,o,rfl,hp,⟨r,b,rfl,hr0,hr1,hb0,hb1⟩,hm0,hm1,q⟩:=h
  refine ⟨_,pS (Za4 (Zan op_gt (Zaw Zav (pv 0) Zaf (fun _ _=>rfl)) Zaf (Zau _))
    (pS (Zag (i:=2) scTake.nd rfl (Or.inl rfl) (Za0 op_mod (Zaw Zav (pv 0) Zaf (fun _ _=>rfl)) (pv 1)))
    (pS (ps_asg (Za0 op_fdivB (Zaw Zav (pv 0) Zaf (fun _ _=>rfl)) (pv 1)) (pg_sub (pv 0) Zaf set_list)) (Zac (Zal (pv 2))))) Zak)
   (pS (ps_asg (Za0 op_mod (Za0 Zck (Za0 op_mul (Zaw Zav (pv 0) Zaf (fun _ _=>rfl)) Zaf) Zaf) Zaf) (pg_sub (pv 0) Zaf set_list))
   (Zac (Zal (Za0 op_mod (Za0 op_fdiv (Za0 op_mod (Za0 op_mul (Zaw Zav (pv 0) Zaf (fun _ _=>rfl)) (Zaw Zav (pv 0) Zaf (fun _ _=>rfl))) Zaf) Zaf) (pv 1))))),?_⟩
  refine ⟨_,rfl,p,_,_,_,rfl,rfl,SqL.of hp,rfl,_,_,rfl,rfl,_,rfl,?_⟩
  refine Zed (fun h1=>?_) (fun h1=>?_)
  ·refine ⟨_,rfl,p,_,_,_,rfl,rfl,SqL.of hp,rfl,_,rfl,_,_,rfl,rfl,hm0,?_⟩
   refine ⟨_,rfl,p,_,_,_,rfl,rfl,SqL.of hp,rfl,_,rfl,_,_,rfl,rfl,⟨hm0,hm1⟩,?_⟩
   refine ⟨_,rfl,p,_,_,0,rfl,rfl,hp,rfl,_,rfl,?_⟩
   have h1:0<r:=of_decide_eq_true h1
   exact q _ _ (Int.emod_nonneg _ (by omega)) (Int.emod_lt_of_pos _ hm0) ⟨r / m,b,rfl,Int.ediv_nonneg hr0 (by omega),Int.lt_of_le_of_lt (Int.ediv_le_self _ hr0) hr1,hb0,hb1⟩
  ·refine ⟨_,rfl,p,_,_,_,rfl,rfl,SqL.of hp,rfl,_,_,rfl,rfl,.inr ⟨by decide,by decide⟩,_,_,rfl,rfl,_,_,rfl,rfl,(by show (0:Int)<2147483647;decide),?_⟩
   refine ⟨_,rfl,p,_,_,1,rfl,rfl,hp,rfl,?_⟩
   have m0:=Int.emod_nonneg (b * 69621 + 12345) (b:=2147483647) (by decide)
   have m1:=Int.emod_lt_of_pos (b * 69621 + 12345) (b:=2147483647) (by decide)
   refine ⟨_,rfl,p,_,_,_,rfl,rfl,SqL.of uS,rfl,_,rfl,p,_,_,_,rfl,rfl,SqL.of uS,rfl,_,_,rfl,rfl,.inl ⟨by omega,by omega⟩,_,_,rfl,rfl,(by show (0:Int)<2147483629;decide),_,_,rfl,rfl,⟨by decide,by decide⟩,_,rfl,_,_,rfl,rfl,hm0,?_⟩
   exact q _ _ (Int.emod_nonneg _ (by omega)) (Int.emod_lt_of_pos _ hm0) ⟨r,_,rfl,hr0,hr1,m0,m1⟩
theorem scLet:Zai ["number","word"] ["number"] (Zad Zcb):=⟨rfl,rfl,rfl,by decide +kernel,rfl,by decide +kernel,by decide +kernel⟩
theorem ok_letters {f:Addr}{fd:FuncData}(F:Def K mg "_law_letters" Zcb ["number"] f fd):Zar P w K mg base CX0 1 f fd ["number"] spLetters:=by
 refine F.fn.ok scLet (fun vs H Q E h=>?_) (fun cdv A outer s H vs Q E hr h=>?_)
 ·obtain ⟨n,rfl,_⟩:=h
  rfl
 ·obtain ⟨n,rfl,hn,q⟩:=h
  have nd:=scLet.nd
  refine ⟨_,pS (Zag (i:=1) nd rfl (Or.inl rfl) Zb3)
   (pS (ps_while PassesOwn.never (pw_or (Zan Zec (pv 1) Zb3 (Zau _)) (pw_or1 (Zan op_gt (pv 0) Zaf (Zau _)))).pt
    (pS (Zag (i:=1) nd rfl (Or.inl rfl) (Za0 op_add_str (pv 1) (Zaw ix_str Zb3 (Za0 op_mod (pv 0) Zaf) (fun _ _=>rfl))))
    (Zac (Zag (i:=0) nd rfl (Or.inl rfl) (Za0 op_fdiv (pv 0) Zaf)))))
   (Zac (Zal (pv 1)))),?_⟩
  have e0:("":Str).cps.toList=[]:=by decide +kernel
  have hlen:(Zbr n).length≤8:=lettersF_len 7 n hn
  refine ⟨fun m σ H2=>H2=H∧∃ (x:Str) (k:Nat),σ=[some (.int k),some (.str x)]∧m=k + (if x.cps.toList=[] then 1 else 0) ∧
   ((x.cps.toList=[]∧k=n)∨(x.cps.toList≠[]∧k=0∧x.cps.toList=Zbr n)∨(x.cps.toList≠[]∧0<k∧x.cps.toList++Zbr k=Zbr n)),⟨_,rfl,_,n,rfl,rfl,.inl ⟨e0,rfl⟩⟩,?_⟩
  rintro m σ H2 ⟨rfl,x,k,rfl,rfl,inv⟩
  have more:(x.cps.toList=[]∨0<k)→∃ N:St→Hp→Prop,(∀ σ' H',N σ' H'→∃ m',m'<k + (if x.cps.toList=[] then 1 else 0)∧(H'=H2∧∃ (y:Str) (j:Nat),σ'=[some (.int j),some (.str y)]∧m'=j + (if y.cps.toList=[] then 1 else 0) ∧
    ((y.cps.toList=[]∧j=n)∨(y.cps.toList≠[]∧j=0∧y.cps.toList=Zbr n)∨(y.cps.toList≠[]∧0<j∧y.cps.toList++Zbr j=Zbr n)))) ∧
    N [some (.int ((k:Int) / 26)),some (.str (x++⟨#[97 + k % 26]⟩))] H2:=fun hk=>by
   refine ⟨fun σ' H'=>σ'=[some (.int ((k:Int) / 26)),some (.str (x++⟨#[97 + k % 26]⟩))]∧H'=H2,?_,rfl,rfl⟩
   rintro σ' H' ⟨rfl,rfl⟩
   have el:(x++⟨#[97 + k % 26]⟩:Str).cps.toList=x.cps.toList++[97 + k % 26]:=app_list _ _
   have ne:(x++⟨#[97 + k % 26]⟩:Str).cps.toList≠[]:=by rw [el];simp
   have kd:((k:Int) / 26)=((k / 26:Nat):Int):=by omega
   have whole:(x.cps.toList++[97 + k % 26])++(if k / 26=0 then [] else Zbr (k / 26))=Zbr n:=by
    rw [List.append_assoc,List.singleton_append,← Zdl]
    rcases inv with ⟨h1,h2⟩ | ⟨h1,h2,_⟩ | ⟨_,_,h3⟩
    ·rw [h1,h2];rfl
    ·rcases hk with z | z
     ·exact absurd z h1
     ·omega
    ·exact h3
   refine ⟨k / 26,?_,rfl,_,k / 26,by rw [kd],by rw [if_neg ne];rfl,?_⟩
   ·rcases hk with z | z
    ·rw [if_pos z];omega
    ·have:k / 26<k:=by omega
     omega
   ·right
    rw [el]
    by_cases z:k / 26=0
    ·rw [if_pos z,List.append_nil] at whole
     exact .inl ⟨by simp,z,whole⟩
    ·rw [if_neg z] at whole
     exact .inr ⟨by simp,by omega,whole⟩
  have xlen:x.length≤8:=by
   rw [← str_len]
   rcases inv with ⟨h1,_⟩ | ⟨_,_,h3⟩ | ⟨_,_,h3⟩
   ·rw [h1];simp
   ·rw [h3];exact hlen
   ·have:=congrArg List.length h3
    rw [List.length_append] at this
    omega
  have at1:atI letters.cps.toList ((k:Int) % 26)=some (97 + k % 26):=by
   have:=Za6 (letters_at (i:=k % 26) (by omega))
   have e:((k % 26:Nat):Int)=(k:Int) % 26:=by omega
   rwa [e] at this
  refine ⟨_,rfl,rfl,_,rfl,?_⟩
  refine Zed (fun h1=>?_) (fun h1=>?_)
  ·have hx:x.cps.toList=[]:=by
    have:=of_decide_eq_true h1
    injection this with this
    rw [this];exact e0
   obtain ⟨N,hN,n0⟩:=more (.inl hx)
   refine iteT ⟨N,hN,?_⟩
   exact ⟨_,rfl,_,rfl,_,_,rfl,rfl,(by show (0:Int)<26;decide),_,_,_,rfl,rfl,sL (by rw [← str_len,letters_eq];decide),at1,_,_,rfl,rfl,sL (by rw [len_one];omega),_,rfl,_,_,rfl,rfl,⟨by decide,by decide⟩,n0⟩
  ·have hx:x.cps.toList≠[]:=fun z=>h1 (decide_eq_true (by rw [str_ext (z.trans e0.symm)]))
   refine ⟨_,rfl,_,_,rfl,rfl,_,rfl,?_⟩
   refine Zed (fun h2=>?_) (fun h2=>?_)
   ·have hk:0<k:=by have:(0:Int)<(k:Int):=of_decide_eq_true h2;omega
    obtain ⟨N,hN,n0⟩:=more (.inr hk)
    refine ⟨N,hN,?_⟩
    exact ⟨_,rfl,_,rfl,_,_,rfl,rfl,(by show (0:Int)<26;decide),_,_,_,rfl,rfl,sL (by rw [← str_len,letters_eq];decide),at1,_,_,rfl,rfl,sL (by rw [len_one];omega),_,rfl,_,_,rfl,rfl,⟨by decide,by decide⟩,n0⟩
   ·have hk:k=0:=by
     have:¬ (0:Int)<(k:Int):=fun z=>h2 (decide_eq_true z)
     omega
    have hf:x=Zb6 n:=by
     refine str_ext ?_
     rw [lettersS_list]
     rcases inv with ⟨h1,_⟩ | ⟨_,_,h3⟩ | ⟨_,h2,_⟩
     ·exact absurd h1 hx
     ·exact h3
     ·omega
    rw [hf]
    exact ⟨_,rfl,q⟩
end
end K68
namespace K68
open PySem L2 Md
structure WordsOk (ws:List Str):Prop where
 word:∀ x∈ws,Zbh x=true
 nd:ws.Nodup
def spWord:Sp:=fun vs H Q _=>∃ (p a:Addr) (ws:List Str),vs=[.ref p,.ref a]∧p≠a∧(∃ o,H p=some o∧PotO o)∧H a=some (.lst (ws.map V.str))∧WordsOk ws∧ws.length≤24 ∧
 ∀ x H',Drawn p H H'→Zbh x=true→x∉ws→Q (.str x) H'
def spWords:Sp:=fun vs H Q _=>∃ (p:Addr) (m:Nat),vs=[.ref p,.int m]∧(∃ o,H p=some o∧PotO o)∧m≤24 ∧
 ∀ l (ws:List Str) H',Drawn p H H'→H l=none→H' l=some (.lst (ws.map V.str))→WordsOk ws→ws.length=m→Q (.ref l) H'
def some13:List Str:=["kind","under","name","deed","gives","with","none","clash","a","ab","abc","abcdefgh","even"]
theorem some13_ok:some13.all Zbh=true:=by decide +kernel
theorem at_strs {ws:List Str}{v:Int} (h0:0≤v) (h1:v<ws.length):∃ x,x∈ws∧atI (ws.map V.str) v=some (.str x):=by
 have hi:v.toNat<ws.length:=by omega
 have e:(ws.map V.str)[v.toNat]?=some (V.str ws[v.toNat]):=by rw [List.getElem?_map,List.getElem?_eq_getElem hi];rfl
 have:=Za6 e
 rw [Int.toNat_of_nonneg h0] at this
 exact ⟨_,List.getElem_mem hi,this⟩
theorem ne_nil_dat (ws:List Str):(!dEq (.list (ws.map W.Dat.str)) (.list []))=true↔ws≠[]:=by
 cases ws with
 | nil=>simp [dEq_self]
 | cons w r =>
  rw [dEq_neg (by simp)]
  simp
theorem ok_dat {ws:List Str}(h:∀ x∈ws,Zbh x=true):W.kqdOk 9 (.list (ws.map W.Dat.str))=true:=by
 show (ws.map W.Dat.str).all (W.kqdOk 8)=true
 rw [List.all_eq_true]
 intro d hd
 obtain ⟨x,hx,e⟩:=List.mem_map.mp hd
 rw [← e]
 exact word_ok (h x hx)
section
variable {P:Program} {w:World} {K:W.Frag} {mg:Str→Option Value} {base:Heap}
theorem scWord:Zai ["pot","words","some","way","word","number"] ["pot","words"] (Zad Zbc):=⟨rfl,rfl,rfl,by decide +kernel,rfl,by decide +kernel,by decide +kernel⟩
theorem prefix_word {x y:Str}{n:Nat}(hn:1≤n) (h:y.cps.toList=x.cps.toList.take n) (h1:1≤x.length) (h8:x.length≤8∨n≤8) (hl:∀ c∈x.cps.toList,isLow c=true):Zbh y=true:=by
 rw [Zdm,h,List.length_take,str_len]
 refine ⟨⟨by omega,by omega⟩,fun c hc=>hl c (List.mem_of_mem_take hc)⟩
def tupStrs:Expr→Option (List Str)
 | .Tuple es _ _=>strsOf es
 | _=>none
theorem pe_tupOf {X:Cx}{ws:List Str}:∀ {e:Expr},tupStrs e=some ws→PE X e (tTup (fun _ H Q=>Q (ws.map V.str) H)):=by
 intro e h
 cases e with
 | Tuple es x p=>exact Zbm (pa_strsOf h)
 | _=>cases h
def bodyE:Stmt→Expr
 | .Assign _ e _=>e
 | _=>.Constant (.int 0) 0 ⟨0,0,0,0⟩
def hdS:List Stmt→Stmt
 | s :: _=>s
 | []=>.Pass ⟨0,0,0,0⟩
theorem e13:tupStrs (bodyE (hdS (Zbs Zbc)))=some some13:=by decide +kernel
def t13:TE:=tTup (fun _ H Q=>Q (some13.map V.str) H)
theorem pe_13g {X:Cx}{e:Expr}(h:tupStrs e=some some13):PE X e t13:=pe_tupOf h
def isTup:Expr→Bool
 | .Tuple _ _ _=>true
 | _=>false
theorem sw_tup {e:Expr}{t:Option Expr}{l:Nat}{env:Env}(h:isTup e=true):swapsWith e t l env=pure false:=by
 cases e with
 | Tuple es x p=>rfl
 | _=>cases h
def asgs:Stmt→Option (Str×Expr)
 | .Assign [.Name x _] e _=>some (x,e)
 | _=>none
theorem ps_asgs {X:Cx}{st:Stmt}{i:Nat}{x:Str}{e:Expr}{te:TE}(h:asgs st=some (x,e)) (he:PE X e te) (ht:isTup e=true) (hN:X.N.Nodup) (hi:X.N[i]?=some x) (hx:Loc X.env.scope x) (hf:X.fn x=true∨X.env.scope.names.lookup x=some .local):PS X st (tAsg te (gName i)):=by
 unfold asgs at h
 split at h
 ·next x' p' e' p =>
  have h1:x'=x:=congrArg Prod.fst (Option.some.inj h)
  have h2:e'=e:=congrArg Prod.snd (Option.some.inj h)
  subst h1
  subst h2
  exact Zag hN hi hx he (sw_tup ht) hf
 ·cases h
def s13:Stmt:=hdS (Zbs Zbc)
def e13x:Expr:=bodyE s13
theorem a13:asgs s13=some (("some":Str),e13x):=by rfl
theorem u13:isTup e13x=true:=by decide +kernel
theorem p13 {X:Cx}:PE X e13x t13:=@pe_13g X e13x e13
theorem ps_13 {X:Cx}(hN:X.N.Nodup) (hi:X.N[2]?=some ("some":Str)) (hx:Loc X.env.scope ("some":Str)) (hf:X.fn ("some":Str)=true∨X.env.scope.names.lookup ("some":Str)=some NameKind.local):PS X s13 (tAsg t13 (gName 2)):=
 @ps_asgs X s13 2 ("some":Str) e13x t13 a13 (@p13 X) u13 hN hi hx hf
def tlS:List Stmt→List Stmt
 | _ :: r=>r
 | []=>[]
theorem pss_hd {X:Cx}{l:List Stmt}{t u:TS} (h0:l.isEmpty=false) (h1:PS X (hdS l) t) (h2:PSs X (tlS l) u):PSs X l (tSeq t u):=by
 cases l with
 | nil=>cases h0
 | cons a r=>exact pS h1 h2
theorem n13:(Zbs Zbc).isEmpty=false:=by decide +kernel
theorem pss_13 {X:Cx}{u:TS}(hN:X.N.Nodup) (hi:X.N[2]?=some ("some":Str)) (hx:Loc X.env.scope ("some":Str)) (hf:X.fn ("some":Str)=true∨X.env.scope.names.lookup ("some":Str)=some NameKind.local) (h2:PSs X (tlS (Zbs Zbc)) u):PSs X (Zbs Zbc) (tSeq (tAsg t13 (gName 2)) u):=
 @pss_hd X (Zbs Zbc) (tAsg t13 (gName 2)) u n13 (@ps_13 X hN hi hx hf) h2
theorem ex_13 {X:Cx}{D:Ends}{σ:St}{H:Hp}(hN:X.N.Nodup) (hi:X.N[2]?=some ("some":Str)) (hx:Loc X.env.scope ("some":Str)) (hf:X.fn ("some":Str)=true∨X.env.scope.names.lookup ("some":Str)=some NameKind.local)
  (h:∃ u,PSs X (tlS (Zbs Zbc)) u∧tSeq (tAsg t13 (gName 2)) u D σ H):∃ t,PSs X (Zbs Zbc) t∧t D σ H:=by
 obtain ⟨u,h1,h2⟩:=h
 exact ⟨tSeq (tAsg t13 (gName 2)) u,@pss_13 X u hN hi hx hf h1,h2⟩
theorem ok_word {f fT fL:Addr}{fd fdT fdL:FuncData}(F:Def K mg "_law_word" Zbc ["pot","words"] f fd) (DT:Def K mg "_law_take" Za9 ["pot","many"] fT fdT) (DL:Def K mg "_law_letters" Zcb ["number"] fL fdL) (len:mg "len"=none):
  Zar P w K mg base CX0 2 f fd ["pot","words"] spWord:=by
 have GT:Zar P w K mg base CX0 1 fT fdT ["pot","many"] spTake:=ok_take DT
 have GL:Zar P w K mg base CX0 1 fL fdL ["number"] spLetters:=ok_letters DL
 refine F.fn.ok scWord (fun vs H Q E h=>?_) (fun cdv A outer s H vs Q E hr h=>?_)
 ·obtain ⟨p,a,ws,rfl,_⟩:=h
  rfl
 ·obtain ⟨p,a,ws,rfl,hpa,hpot,ha,hw,hl24,q⟩:=h
  have nd:=scWord.nd
  have hu:=hr.units
  refine @ex_13 _ _ _ _ nd rfl (Or.inl rfl) (Or.inl rfl) ?_
  refine ⟨_,(pS (Zag (i:=3) nd rfl (Or.inl rfl) (Zae DT GT hr (pC (pv 0) (pC Zaf Zaa))))
   (pS (Zag (i:=4) nd rfl (Or.inl rfl) (Zaw Zbb (pv 2) (Zae DT GT hr (pC (pv 0) (pC Zaf Zaa))) (fun _ _=>rfl)))
   (Zfd (Za4 (Zan Zec (pv 3) Zaf (Zau _)) (Zac (Zag (i:=4) nd rfl (Or.inl rfl) (Zae DL GL hr (pC (Zae DT GT hr (pC (pv 0) (pC (Za0 op_sub (Za0 op_pow Zaf Zaf) Zaf) Zaa))) Zaa)))) Zak)
   (Zfd (Za4 (pw_and (Zan Zec (pv 3) Zaf (Zau _)) (pw_and1 (Zan (op_neD hu) (pv 1) (Zbn Zaa) (Zau _)))).pt
    (pS (Zag (i:=4) nd rfl (Or.inl rfl) (Zaw Zav (pv 1) (Zae DT GT hr (pC (pv 0) (pC (Zam Zcs (by rfl) len PySem.boot_len (pC (pv 1) Zaa)) Zaa))) (fun _ _=>rfl)))
    (Zac (Zag (i:=4) nd rfl (Or.inl rfl) (Zds sl_str (Za0 op_add_str (pv 4) (Zae DL GL hr (pC (Zae DT GT hr (pC (pv 0) (pC Zaf Zaa))) Zaa))) Zff (Zfe Zaf))))) Zak)
   (Zfd (Za4 (pw_and (Zan Zec (pv 3) Zaf (Zau _)) (pw_and1 (Zan (op_neD hu) (pv 1) (Zbn Zaa) (Zau _)))).pt
    (pS (Zag (i:=4) nd rfl (Or.inl rfl) (Zaw Zav (pv 1) (Zae DT GT hr (pC (pv 0) (pC (Zam Zcs (by rfl) len PySem.boot_len (pC (pv 1) Zaa)) Zaa))) (fun _ _=>rfl)))
    (Zac (Zag (i:=4) nd rfl (Or.inl rfl) (Zds sl_str (pv 4) Zff (Zfe (Za0 Zck Zaf (Zae DT GT hr (pC (pv 0) (pC (Zam Zcs (by rfl) len PySem.boot_len (pC (pv 4) Zaa)) Zaa))))))))) Zak)
   (pS (Zag (i:=5) nd rfl (Or.inl rfl) Zaf)
   (pS (ps_while PassesOwn.never (Zan op_in_seq (pv 4) (pv 1) (by with_unfolding_all rfl))
    (pS (Zag (i:=4) nd rfl (Or.inl rfl) (Zae DL GL hr (pC (pv 5) Zaa)))
    (Zac (Zag (i:=5) nd rfl (Or.inl rfl) (Za0 Zck (pv 5) Zaf)))))
   (Zac (Zal (pv 4)))))))))),?_⟩
  have hap:a≠p:=Ne.symm hpa
  obtain ⟨o0,hp0,ho0⟩:=hpot
  have wl:∀ {H':Hp},Drawn p H H'→SqL K H' a (ws.map V.str):=fun d=>SqL.of (d.keep _ _ hap ha)
  refine ⟨sL (by show 13≤100000;decide),fun t ht=>?_⟩
  have d1:Drawn p H (upd H t (.tup (some13.map V.str))):=(Drawn.refl ⟨o0,hp0,ho0⟩).new ht
  have tp:t≠p:=fun e=>by rw [e,hp0] at ht;cases ht
  refine ⟨_,rfl,p,4,o0,rfl,(by rw [Zab (Ne.symm tp)];exact hp0),ho0,by decide,by decide,fun way o1 hw0 hw1 ho1=>?_⟩
  refine ⟨_,rfl,_,rfl,p,13,o1,rfl,uS,ho1,by decide,by decide,fun v o2 hv0 hv1 ho2=>?_⟩
  obtain ⟨x0,hx0,hat⟩:=at_strs (ws:=some13) hv0 (by show v<13;exact hv1)
  refine ⟨t,some13.map V.str,_,_,rfl,rfl,SqT.of (by rw [Zab tp,Zab tp];exact uS),hat,?_⟩
  have w0:Zbh x0=true:=List.all_eq_true.mp some13_ok x0 hx0
  have d3:Drawn p H (upd (upd (upd H t (.tup (some13.map V.str))) p o1) p o2):=(d1.trans (Drawn.upd ho1)).trans (Drawn.upd ho2)
  refine ⟨fun σ' H'=>∃ x:Str,σ'=[some (.ref p),some (.ref a),some (.ref t),some (.int way),some (.str x),none]∧Zbh x=true∧Drawn p H H',?_,?_⟩
  ·refine ⟨_,rfl,rfl,_,rfl,?_⟩
   refine Zed (fun _=>?_) (fun _=>?_)
   ·obtain ⟨o3,hp3,ho3⟩:=d3.pot
    refine ⟨_,rfl,_,_,rfl,rfl,⟨by decide,by decide,by decide +kernel⟩,_,_,rfl,rfl,p,_,o3,rfl,hp3,ho3,by decide,by decide,fun v o4 hv0 hv1 ho4=>?_⟩
    have hv1:v<208827064550:=hv1
    refine ⟨v.toNat,by rw [Int.toNat_of_nonneg hv0];rfl,by omega,_,rfl,lettersS_word (by omega),d3.trans (Drawn.upd ho4)⟩
   ·exact ⟨x0,rfl,w0,d3⟩
  ·rintro σ' H1 ⟨x1,rfl,w1,d4⟩
   refine ⟨fun σ' H'=>∃ x:Str,σ'=[some (.ref p),some (.ref a),some (.ref t),some (.int way),some (.str x),none]∧Zbh x=true∧Drawn p H H',?_,?_⟩
   ·refine ⟨_,rfl,rfl,_,rfl,?_⟩
    refine Zed (fun _=>?_) (fun _=>Zdv ⟨x1,rfl,w1,d4⟩)
    refine ⟨_,rfl,Nat.zero_le _,fun t2 ht2=>⟨.list (ws.map W.Dat.str),.list [],.list ((wl d4).mono_new ht2) (Zdy ws),.list (SqL.of uS) .nil,ok_dat hw.word,rfl,_,rfl,?_⟩⟩
    have d5:Drawn p H (upd H1 t2 (.lst [])):=d4.new ht2
    refine Zed (fun hne=>?_) (fun _=>⟨x1,rfl,w1,d5⟩)
    have hne:ws≠[]:=(ne_nil_dat ws).mp hne
    have hpos:0<ws.length:=List.length_pos_iff.mpr hne
    obtain ⟨o5,hp5,ho5⟩:=d5.pot
    refine ⟨_,rfl,_,rfl,_,rfl,_,_,rfl,.inl ⟨_,wl d5,rfl⟩,p,_,o5,rfl,hp5,ho5,by rw [List.length_map];omega,by rw [List.length_map];omega,fun v o6 hv0 hv1 ho6=>?_⟩
    rw [List.length_map] at hv1
    obtain ⟨x2,hx2,hat2⟩:=at_strs (ws:=ws) hv0 hv1
    have d6:Drawn p H (upd (upd H1 t2 (.lst [])) p o6):=d5.trans (Drawn.upd ho6)
    have w2:Zbh x2=true:=hw.word x2 hx2
    refine ⟨a,ws.map V.str,_,_,rfl,rfl,wl d6,hat2,?_⟩
    refine ⟨_,rfl,_,rfl,p,26,o6,rfl,uS,ho6,by decide,by decide,fun v o7 hv0 hv1 ho7=>?_⟩
    refine ⟨v.toNat,by rw [Int.toNat_of_nonneg hv0];rfl,by omega,?_⟩
    have wl3:Zbh (Zb6 v.toNat)=true:=lettersS_word (by omega)
    have l2:=word_len w2
    have l3:=word_len wl3
    refine ⟨_,_,rfl,rfl,sL (by omega),_,rfl,_,rfl,sL (by rw [len_app];omega),?_⟩
    refine ⟨_,rfl,?_,d6.trans (Drawn.upd ho7)⟩
    refine prefix_word (x:=x2++Zb6 v.toNat) (n:=8) (by decide) (slice_take _ 8 (by decide)) (by rw [len_app];omega) (.inr (Nat.le_refl _)) fun c hc=>?_
    rw [app_list] at hc
    rcases List.mem_append.mp hc with hc | hc
    ·exact ((Zdm x2).mp w2).2 c hc
    ·exact ((Zdm _).mp wl3).2 c hc
   ·rintro σ' H2 ⟨x2,rfl,w2,d5⟩
    refine ⟨fun σ' H'=>∃ x:Str,σ'=[some (.ref p),some (.ref a),some (.ref t),some (.int way),some (.str x),none]∧Zbh x=true∧Drawn p H H',?_,?_⟩
    ·refine ⟨_,rfl,rfl,_,rfl,?_⟩
     refine Zed (fun _=>?_) (fun _=>Zdv ⟨x2,rfl,w2,d5⟩)
     refine ⟨_,rfl,Nat.zero_le _,fun t2 ht2=>⟨.list (ws.map W.Dat.str),.list [],.list ((wl d5).mono_new ht2) (Zdy ws),.list (SqL.of uS) .nil,ok_dat hw.word,rfl,_,rfl,?_⟩⟩
     have d6:Drawn p H (upd H2 t2 (.lst [])):=d5.new ht2
     refine Zed (fun hne=>?_) (fun _=>⟨x2,rfl,w2,d6⟩)
     have hne:ws≠[]:=(ne_nil_dat ws).mp hne
     have hpos:0<ws.length:=List.length_pos_iff.mpr hne
     obtain ⟨o6,hp6,ho6⟩:=d6.pot
     refine ⟨_,rfl,_,rfl,_,rfl,_,_,rfl,.inl ⟨_,wl d6,rfl⟩,p,_,o6,rfl,hp6,ho6,by rw [List.length_map];omega,by rw [List.length_map];omega,fun v o7 hv0 hv1 ho7=>?_⟩
     rw [List.length_map] at hv1
     obtain ⟨x3,hx3,hat3⟩:=at_strs (ws:=ws) hv0 hv1
     have d7:Drawn p H (upd (upd H2 t2 (.lst [])) p o7):=d6.trans (Drawn.upd ho7)
     have w3:Zbh x3=true:=hw.word x3 hx3
     have l3:=word_len w3
     refine ⟨a,ws.map V.str,_,_,rfl,rfl,wl d7,hat3,?_⟩
     refine ⟨_,rfl,_,rfl,_,rfl,_,_,rfl,⟨sL (by omega),rfl⟩,p,_,o7,rfl,uS,ho7,by omega,by omega,fun v o8 hv0 hv1 ho8=>?_⟩
     refine ⟨_,_,rfl,rfl,_,rfl,_,rfl,sL (by omega),?_⟩
     refine ⟨_,rfl,?_,d7.trans (Drawn.upd ho8)⟩
     exact prefix_word (x:=x3) (n:=(1 + v).toNat) (by omega) (slice_take _ (1 + v) (by omega)) (by omega) (.inl (by omega)) ((Zdm x3).mp w3).2
    ·rintro σ' H3 ⟨x3,rfl,w3,d6⟩
     refine ⟨fun m σ H'=>∃ (x:Str) (n:Nat),σ=[some (.ref p),some (.ref a),some (.ref t),some (.int way),some (.str x),some (.int n)]∧Zbh x=true∧Drawn p H H'∧m=ws.length + 1 - n∧n≤ws.length + 1 ∧
      (n=0∨x=Zb6 (n - 1))∧∀ j,j + 1<n→Zb6 j∈ws,⟨_,x3,0,rfl,w3,d6,rfl,by omega,.inl rfl,fun j hj=>by omega⟩,?_⟩
     rintro m σ H4 ⟨x,n,rfl,wx,dx,rfl,hn,hxn,hall⟩
     refine ⟨_,rfl,_,rfl,a,_,rfl,.inl (wl dx),rfl,Zdz ws,_,rfl,?_⟩
     show if inV (.str x) (ws.map V.str)=true then _ else _
     rw [in_strs]
     refine Zed (fun hin=>?_) (fun hin=>?_)
     ·have hin:x∈ws:=of_decide_eq_true hin
      have all:∀ j,j<n→Zb6 j∈ws:=fun j hj=>by
       by_cases z:j + 1<n
       ·exact hall j z
       ·rcases hxn with e | e
        ·omega
        ·have:j=n - 1:=by omega
         rw [this,← e];exact hin
      have hle:n≤ws.length:=by
       have:=Graph.nodup_le (l:=(List.range n).map Zb6) (k:=ws) ?_ ?_
       ·simpa using this
       ·rw [List.nodup_iff_pairwise_ne,List.pairwise_map]
        exact (List.nodup_iff_pairwise_ne.mp List.nodup_range).imp fun h e=>h (lettersS_inj e)
       ·intro y hy
        obtain ⟨j,hj,e⟩:=List.mem_map.mp hy
        rw [← e]
        exact all j (List.mem_range.mp hj)
      refine ⟨fun σ' H'=>σ'=[some (.ref p),some (.ref a),some (.ref t),some (.int way),some (.str (Zb6 n)),some (.int ((n:Int) + 1))]∧H'=H4,?_,?_⟩
      ·rintro σ' H' ⟨rfl,rfl⟩
       exact ⟨ws.length + 1 - (n + 1),by omega,Zb6 n,n + 1,rfl,lettersS_word (by omega),dx,rfl,by omega,.inr rfl,fun j hj=>all j (by omega)⟩
      ·exact ⟨_,rfl,n,rfl,by omega,_,rfl,_,_,rfl,rfl,rfl,rfl⟩
     ·have hin:x∉ws:=fun z=>hin (decide_eq_true z)
      exact ⟨_,rfl,q x H4 dx wx hin⟩
theorem scWords:Zai ["pot","many","words","k"] ["pot","many"] (Zad Zex):=⟨rfl,rfl,rfl,by decide +kernel,rfl,by decide +kernel,by decide +kernel⟩
theorem ok_words {f fW fT fL:Addr}{fd fdW fdT fdL:FuncData}(F:Def K mg "_law_words" Zex ["pot","many"] f fd) (DW:Def K mg "_law_word" Zbc ["pot","words"] fW fdW) (DT:Def K mg "_law_take" Za9 ["pot","many"] fT fdT) (DL:Def K mg "_law_letters" Zcb ["number"] fL fdL) (len:mg "len"=none) (range:mg "range"=none):
  Zar P w K mg base CX0 3 f fd ["pot","many"] spWords:=by
 have GW:Zar P w K mg base CX0 2 fW fdW ["pot","words"] spWord:=ok_word DW DT DL len
 refine F.fn.ok scWords (fun vs H Q E h=>?_) (fun cdv A outer s H vs Q E hr h=>?_)
 ·obtain ⟨p,m,rfl,_⟩:=h
  rfl
 ·obtain ⟨p,m,rfl,⟨o0,hp0,ho0⟩,hm,q⟩:=h
  have nd:=scWords.nd
  refine ⟨_,pS (Zag (i:=2) nd rfl (Or.inl rfl) (Zbn Zaa))
   (pS (Za8 PassesOwn.never rfl (Zbu rfl range (pC (pv 1) Zaa)) (Zah (i:=3) nd rfl (Or.inl rfl))
    (Zac (Za3 (Zfo PySem.F.plainAttrs_list PySem.F.slot_list_append PySem.F.type_list_append Zbv (pv 2) (pC (Zae DW GW hr (pC (pv 0) (pC (pv 2) Zaa))) Zaa)))))
   (Zac (Zal (pv 2)))),?_⟩
  refine ⟨Nat.zero_le _,fun l hl=>?_⟩
  have lp:p≠l:=nNo hp0 hl
  refine ⟨_,rfl,m,rfl,by omega,by omega,Zaq Zbg (fun i σ H'=>∃ (ws:List Str) (kv:Option V),σ=[some (.ref p),some (.int m),some (.ref l),kv]∧Drawn p H H'∧H' l=some (.lst (ws.map V.str))∧WordsOk ws∧ws.length=i)
   ⟨[],none,rfl,(Drawn.refl ⟨o0,hp0,ho0⟩).new hl,uS,⟨(fun _ h=>nomatch h),List.nodup_nil⟩,rfl⟩ (fun _ _ _ _ _=>trivial) ?_ ?_⟩
  ·rintro i v σ H' hi ⟨ws,kv,rfl,d,hw,ok,rfl⟩
   obtain ⟨hi,rfl⟩:=Zaz hi
   refine ⟨_,rfl,.inl ⟨rfl,_,SqL.of hw⟩,_,rfl,_,rfl,p,l,ws,rfl,lp,d.pot,hw,ok,by omega,fun x H2 d2 wx nx=>?_⟩
   have hw2:H2 l=some (.lst (ws.map V.str)):=d2.keep _ _ (Ne.symm lp) hw
   refine ⟨l,_,_,rfl,rfl,hw2,Za1 (by rw [List.length_map];omega),?_⟩
   refine ⟨ws++[x],_,rfl,?_,by rw [uS,List.map_append];rfl,⟨fun y hy=>?_,?_⟩,by simp⟩
   ·refine (d.trans d2).sub (q:=l) (o':=.lst []) (fun b o hb e=>by rw [Zab hb];exact e) hl lp
   ·rcases List.mem_append.mp hy with hy | hy
    ·exact ok.word y hy
    ·rw [List.mem_singleton.mp hy];exact wx
   ·rw [List.nodup_append]
    exact ⟨ok.nd,by simp,fun a ha b hb e=>nx (by rw [← List.mem_singleton.mp hb,← e];exact ha)⟩
  ·rintro σ H' ⟨ws,kv,rfl,d,hw,ok,hlen⟩
   rw [Zay] at hlen
   exact ⟨_,rfl,q l ws H' d hl hw ok (by simpa using hlen)⟩
end
end K68
namespace K68
open PySem L2 Md
def Zdn (js:List Nat):List V:=js.map fun (j:Nat)=>V.int (j:Int)
structure UpsOk (k:Nat) (js:List Nat):Prop where
 below:∀ j∈js,j<k
 nd:js.Nodup
 few:js.length≤8
def spUps:Sp:=fun vs H Q _=>∃ (p:Addr) (k sh:Nat),vs=[.ref p,.int k,.int sh]∧(∃ o,H p=some o∧PotO o)∧k≤24 ∧
 ∀ l (js:List Nat) H',Drawn p H H'→H' l=some (.lst (Zdn js))→UpsOk k js→Q (.ref l) H'
section
variable {P:Program} {w:World} {K:W.Frag} {mg:Str→Option Value} {base:Heap}
structure TxtU (mg:Str→Option Value):Prop where
 range:mg "range"=none
 int:mg "int"=none
theorem scUps:Zai ["pot","k","shape","one","other","bits"] ["pot","k","shape"] (Zad Zdg):=⟨rfl,rfl,rfl,by decide +kernel,rfl,by decide +kernel,by decide +kernel⟩
abbrev nUps:List Str:=["pot","k","shape","one","other","bits"]
theorem nd_j:(["j"]:List Str).Nodup:=by decide +kernel
theorem nd_jb:(["j","bits"]:List Str).Nodup:=by decide +kernel
def okJ (v:V):Bool:=match v with | .int i=>decide (0≤i) | _=>false
def eight:List V:=[.int 1,.int 2,.int 4,.int 8,.int 16,.int 32,.int 64,.int 128]
def bitV (bits:Int) (v:V):Bool:=match v with
 | .int j=>decide (j<8)&&(match atI eight j with | some (.int e)=>decide (bits / e % 2=1) | _=>false)
 | _=>false
theorem eight_at {j:Int} (h0:0≤j) (h1:j<8):∃ e:Int,atI eight j=some (.int e)∧0<e∧e<1000:=by
 have:∀ i:_root_.Fin 8,∃ e:Int,atI eight (i.1:Int)=some (.int e)∧0<e∧e<1000:=by
  intro i
  match i with
  | ⟨0,_⟩=>exact ⟨1,rfl,by decide,by decide⟩
  | ⟨1,_⟩=>exact ⟨2,rfl,by decide,by decide⟩
  | ⟨2,_⟩=>exact ⟨4,rfl,by decide,by decide⟩
  | ⟨3,_⟩=>exact ⟨8,rfl,by decide,by decide⟩
  | ⟨4,_⟩=>exact ⟨16,rfl,by decide,by decide⟩
  | ⟨5,_⟩=>exact ⟨32,rfl,by decide,by decide⟩
  | ⟨6,_⟩=>exact ⟨64,rfl,by decide,by decide⟩
  | ⟨7,_⟩=>exact ⟨128,rfl,by decide,by decide⟩
 have q:=this ⟨j.toNat,by omega⟩
 rwa [Int.toNat_of_nonneg h0] at q
theorem filt_range (k:Nat) (p:V→Bool):∃ js:List Nat,(Zcq 0 k).filter p=Zdn js∧(∀ j∈js,j<k∧p (.int (j:Int))=true)∧js.Nodup:=by
 refine ⟨(List.range k).filter fun j=>p (.int (j:Int)),?_,fun j hj=>?_,List.nodup_range.filter _⟩
 ·unfold Zcq Zdn
  rw [List.filter_map]
  have e:((fun (j:Nat)=>V.int (0 + (j:Int))))=fun (j:Nat)=>V.int (j:Int):=by
   funext j
   rw [Int.zero_add]
  rw [e]
  rfl
 ·obtain ⟨h1,h2⟩:=List.mem_filter.mp hj
  exact ⟨List.mem_range.mp h1,h2⟩
theorem paired_self:∀ {xs ys:List V},Paired (fun x v=>v=x) xs ys→ys=xs
 | _,_,.nil=>rfl
 | _,_,.cons h t=>by rw [h,paired_self t]
theorem ok_ups {f fT:Addr}{fd fdT:FuncData}(F:Def K mg "_law_ups" Zdg ["pot","k","shape"] f fd) (DT:Def K mg "_law_take" Za9 ["pot","many"] fT fdT) (T:TxtU mg):Zar P w K mg base CX0 2 f fd ["pot","k","shape"] spUps:=by
 have GT:Zar P w K mg base CX0 1 fT fdT ["pot","many"] spTake:=ok_take DT
 refine F.fn.ok scUps (fun vs H Q E h=>?_) (fun cdv A outer s H vs Q E hr h=>?_)
 ·obtain ⟨p,k,sh,rfl,_⟩:=h
  rfl
 ·obtain ⟨p,k,sh,rfl,⟨o0,hp0,ho0⟩,hk,q⟩:=h
  have nd:=scUps.nd
  refine ⟨_,pS (Za4 (Zan Zec (pv 1) Zaf (Zau _)) (Zac (Zal (Zbn Zaa))) Zak)
   (pS (Zag (i:=3) nd rfl (Or.inl rfl) (Zae DT GT hr (pC (pv 0) (pC (pv 1) Zaa))))
   (pS (Zag (i:=4) nd rfl (Or.inl rfl) (Zae DT GT hr (pC (pv 0) (pC (pv 1) Zaa))))
   (pS (Za4 (Zan Zec (pv 2) Zaf (Zau _)) (Zac (Zal (Zbn (pC (pv 3) Zaa)))) Zak)
   (pS (Za4 (Zan Zec (pv 2) Zaf (Zau _)) (Zac (Zal (Zds sl_list
     (Zbl ["j"] [] [] (fun _=>Zax (osc:=Zad Zdg) (on:=nUps) (by decide +kernel) rfl rfl rfl) (pi_tup (Zbm (pC (pv 3) (pC (pv 4) Zaa)))) (fun C s H fp=>Zah (i:=0) nd_j rfl (Or.inl rfl) (Or.inr rfl)) (fun C s H fp=>Zbw) (fun C s H fp=>pv 0))
     Zff (Zfe (Za0 Zck Zaf (Zbd call_int1 (by rfl) T.int PyProof.Rows.boot_int (pC (pe_cmpR op_ne (pv 3) (pv 4) (Zau _)) Zaa))))))) Zak)
   (pS (Za4 (Zan Zec (pv 2) Zaf (Zau _)) (Zac (Zal
     (Zbl ["j"] [] [] (fun _=>Zax (osc:=Zad Zdg) (on:=nUps) (by decide +kernel) rfl rfl rfl) (pi_tup (Zbm (pC (Za0 op_sub (Za0 op_sub (pv 1) Zaf) (Za0 op_mod (pv 1) Zaf)) (pC (Za0 op_sub (Za0 op_sub (pv 1) Zaf) (Za0 op_mod (pv 1) Zaf)) Zaa)))) (fun C s H fp=>Zah (i:=0) nd_j rfl (Or.inl rfl) (Or.inr rfl))
      (fun C s H fp=>Zem (Zan op_ge (pv 0) Zaf (Zau _))) (fun C s H fp=>pv 0)))) Zak)
   (pS (Za4 (Zan Zec (pv 2) Zaf (Zau _)) (Zac (Zal (Zbn (pC (Za0 op_sub (pv 1) Zaf) Zaa)))) Zak)
   (pS (Zag (i:=5) nd rfl (Or.inr rfl) (Zae DT GT hr (pC (pv 0) (pC Zaf Zaa))))
   (Zac (Zal (Zbl ["j"] ["bits"] [5] (fun _=>Zax (osc:=Zad Zdg) (on:=nUps) (by decide +kernel) rfl rfl rfl) (Zbu rfl T.range (pC (pv 1) Zaa)) (fun C s H fp=>Zah (i:=0) nd_jb rfl (Or.inl rfl) (Or.inr rfl))
    (fun C s H fp=>Zem (PW.pt (pw_and (Zan op_lt (pv 0) Zaf (Zau _)) (pw_and1 (Zan Zec (Za0 op_mod (Za0 op_fdiv (pv 1) (Zaw (r:=Zfm K) Zbb (Zbm (pC Zaf (pC Zaf (pC Zaf (pC Zaf (pC Zaf (pC Zaf (pC Zaf (pC Zaf Zaa))))))))) (pv 0) (fun _ _=>rfl))) Zaf) Zaf (Zau _)))))) (fun C s H fp=>pv 0))))))))))),?_⟩
  have dr:Drawn p H H:=Drawn.refl ⟨o0,hp0,ho0⟩
  refine ⟨_,rfl,rfl,_,rfl,?_⟩
  refine Zed (fun h0=>?_) (fun h0=>?_)
  ·exact ⟨Nat.zero_le _,fun l hl=>q l [] _ (dr.new hl) uS ⟨(fun _ h=>nomatch h),List.nodup_nil,Nat.zero_le _⟩⟩
  have hk0:0<k:=by
   refine Nat.pos_of_ne_zero fun z=>h0 (decide_eq_true ?_)
   rw [z]
   rfl
  refine ⟨_,rfl,_,rfl,p,k,o0,rfl,hp0,ho0,by omega,by omega,fun one o1 h10 h11 ho1=>?_⟩
  refine ⟨_,rfl,_,rfl,p,k,o1,rfl,uS,ho1,by omega,by omega,fun oth o2 h20 h21 ho2=>?_⟩
  rw [upd_upd]
  have d2:Drawn p H (upd H p o2):=Drawn.upd ho2
  refine ⟨_,rfl,rfl,_,rfl,?_⟩
  refine Zed (fun _=>?_) (fun _=>?_)
  ·refine ⟨_,rfl,sL (by show 1≤100000;decide),fun l hl=>q l [one.toNat] _ (d2.new hl) ?_ ⟨fun j hj=>?_,by simp,by simp⟩⟩
   ·rw [uS]
    show some (HO.lst [V.int one])=some (HO.lst [V.int ((one.toNat:Nat):Int)])
    rw [Int.toNat_of_nonneg h10]
   ·rw [List.mem_singleton.mp hj];omega
  refine ⟨_,rfl,rfl,_,rfl,?_⟩
  refine Zed (fun _=>?_) (fun _=>?_)
  ·-- [j for j in (one,other)][:1 + int(one != other)]
   refine ⟨_,rfl,_,rfl,sL (by show 2≤100000;decide),fun t ht=>⟨t,rfl,⟨_,SqT.of uS⟩,Zdc (Zc7 (xs:=[V.int one,V.int oth])) (sL (by show 2≤100000;decide)) (fun _=>true) (fun v=>v) (fun D ys hD=>SqT.of (by rw [Zab (nNo uS hD)];exact uS)) ?_ ?_ ?_⟩⟩
   ·intro D ys x R _ _ hR
    exact hR
   ·intro D ys x R _ _ _ hR
    exact ⟨_,rfl,hR⟩
   ·intro D hD
    have e2:([V.int one,V.int oth].filter fun _=>true).map (fun v=>v)=[V.int one,V.int oth]:=rfl
    rw [e2]
    have d4:Drawn p H (upd (upd (upd H p o2) t (.tup [V.int one,V.int oth])) D (.lst [V.int one,V.int oth])):=(d2.new ht).new hD
    refine ⟨_,rfl,_,rfl,rfl,.inr ⟨_,rfl,_,_,rfl,rfl,_,rfl,D,_,rfl,SqL.of uS,fun l hl=>?_⟩⟩
    by_cases he:one=oth
    ·have e3:(!decide (V.int one=V.int oth))=false:=by rw [he];simp
     rw [e3]
     refine q l [one.toNat] _ (d4.new hl) ?_ ⟨fun j hj=>by rw [List.mem_singleton.mp hj];omega,by simp,by simp⟩
     rw [uS]
     show some (HO.lst [V.int one])=some (HO.lst [V.int ((one.toNat:Nat):Int)])
     rw [Int.toNat_of_nonneg h10]
    ·have e3:(!decide (V.int one=V.int oth))=true:=by
      rw [decide_eq_false (fun z=>he (by injection z))]
      rfl
     rw [e3]
     refine q l [one.toNat,oth.toNat] _ (d4.new hl) ?_ ⟨fun j hj=>?_,?_,by simp⟩
     ·rw [uS]
      show some (HO.lst [V.int one,V.int oth])=some (HO.lst [V.int ((one.toNat:Nat):Int),V.int ((oth.toNat:Nat):Int)])
      rw [Int.toNat_of_nonneg h10,Int.toNat_of_nonneg h20]
     ·rcases List.mem_cons.mp hj with e | e
      ·rw [e];omega
      ·rw [List.mem_singleton.mp e];omega
     ·refine List.nodup_cons.mpr ⟨fun z=>he ?_,by simp⟩
      have:=List.mem_singleton.mp z
      omega
  refine ⟨_,rfl,rfl,_,rfl,?_⟩
  refine Zed (fun _=>?_) (fun _=>?_)
  ·-- diamonds
   have hm0:=Int.emod_nonneg (k:Int) (b:=2) (by decide)
   have hm1:=Int.emod_lt_of_pos (k:Int) (b:=2) (by decide)
   refine ⟨_,rfl,_,_,rfl,rfl,_,rfl,_,_,rfl,rfl,(by show (0:Int)<2;decide),_,_,rfl,rfl,_,rfl,_,_,rfl,rfl,_,rfl,_,_,rfl,rfl,(by show (0:Int)<2;decide),_,_,rfl,rfl,sL (by show 2≤100000;decide),fun t ht=>⟨t,rfl,⟨_,SqT.of uS⟩,
    Zdc (Zc7 (xs:=[V.int ((k:Int) - 2 - (k:Int) % 2),V.int ((k:Int) - 1 - (k:Int) % 2)])) (sL (by show 2≤100000;decide)) okJ (fun v=>v) (fun D ys hD=>SqT.of (by rw [Zab (nNo uS hD)];exact uS)) ?_ ?_ ?_⟩⟩
   ·intro D ys x R _ hx hR
    obtain ⟨i,rfl⟩:∃ i,x=V.int i:=by
     rcases List.mem_cons.mp hx with e | e
     ·exact ⟨_,e⟩
     ·exact ⟨_,List.mem_singleton.mp e⟩
    exact ⟨_,rfl,_,_,rfl,rfl,_,rfl,hR⟩
   ·intro D ys x R _ _ _ hR
    exact ⟨_,rfl,hR⟩
   ·intro D hD
    have d4:=(d2.new (o:=.tup [V.int ((k:Int) - 2 - (k:Int) % 2),V.int ((k:Int) - 1 - (k:Int) % 2)]) ht).new (o:=.lst (([V.int ((k:Int) - 2 - (k:Int) % 2),V.int ((k:Int) - 1 - (k:Int) % 2)].filter okJ).map fun v=>v)) hD
    by_cases h2:2≤(k:Int) - (k:Int) % 2
    ·refine q D [((k:Int) - 2 - (k:Int) % 2).toNat,((k:Int) - 1 - (k:Int) % 2).toNat] _ d4 ?_ ⟨fun j hj=>?_,?_,by simp⟩
     ·rw [uS]
      have a1:okJ (V.int ((k:Int) - 2 - (k:Int) % 2))=true:=decide_eq_true (by omega)
      have a2:okJ (V.int ((k:Int) - 1 - (k:Int) % 2))=true:=decide_eq_true (by omega)
      rw [List.filter_cons,a1,if_pos rfl,List.filter_cons,a2,if_pos rfl]
      show some (HO.lst [V.int _,V.int _])=some (HO.lst [V.int ((Int.toNat _:Nat):Int),V.int ((Int.toNat _:Nat):Int)])
      rw [Int.toNat_of_nonneg (by omega),Int.toNat_of_nonneg (by omega)]
     ·rcases List.mem_cons.mp hj with e | e
      ·rw [e];omega
      ·rw [List.mem_singleton.mp e];omega
     ·refine List.nodup_cons.mpr ⟨fun z=>?_,by simp⟩
      have:=List.mem_singleton.mp z
      omega
    ·refine q D [] _ d4 ?_ ⟨(fun _ h=>nomatch h),List.nodup_nil,Nat.zero_le _⟩
     rw [uS]
     have a1:okJ (V.int ((k:Int) - 2 - (k:Int) % 2))=false:=decide_eq_false (by omega)
     have a2:okJ (V.int ((k:Int) - 1 - (k:Int) % 2))=false:=decide_eq_false (by omega)
     rw [List.filter_cons,a1,if_neg Bool.false_ne_true,List.filter_cons,a2,if_neg Bool.false_ne_true]
     rfl
  refine ⟨_,rfl,rfl,_,rfl,?_⟩
  refine Zed (fun _=>?_) (fun _=>?_)
  ·refine ⟨_,rfl,_,_,rfl,rfl,sL (by show 1≤100000;decide),fun l hl=>q l [k - 1] _ (d2.new hl) ?_ ⟨fun j hj=>?_,by simp,by simp⟩⟩
   ·rw [uS]
    show some (HO.lst [V.int ((k:Int) - 1)])=some (HO.lst [V.int ((k - 1:Nat):Int)])
    have:((k - 1:Nat):Int)=(k:Int) - 1:=by omega
    rw [this]
   ·rw [List.mem_singleton.mp hj];omega
  refine ⟨_,rfl,p,256,o2,rfl,uS,ho2,by decide,by decide,fun bits o3 hb0 hb1 ho3=>?_⟩
  rw [upd_upd]
  have d3:Drawn p H (upd H p o3):=Drawn.upd ho3
  refine ⟨_,rfl,(k:Int),rfl,by omega,by omega,?_⟩
  rw [show ((k:Int)).toNat=k from rfl]
  refine Ze8 Zbg (sL (by rw [Zay];omega)) (bitV bits) (fun _ x v _=>v=x) (fun _ _ _ _ _ _ h=>h) (fun _ _=>trivial) ?_ ?_ ?_
  ·intro x H2 R hs hx hR
   obtain ⟨i,hi⟩:=List.mem_iff_getElem?.mp hx
   obtain ⟨hik,rfl⟩:=Zaz hi
   refine ⟨_,rfl,_,_,rfl,rfl,_,rfl,?_⟩
   refine Zed (fun h8=>?_) (fun h8=>?_)
   ·have h8:(0:Int) + (i:Int)<8:=of_decide_eq_true h8
    obtain ⟨e,he,he0,he1⟩:=eight_at (j:=(0:Int) + (i:Int)) (by omega) h8
    refine ⟨_,rfl,sL (by show 8≤100000;decide),fun t ht=>⟨_,rfl,t,eight,_,_,rfl,rfl,SqT.of uS,he,_,_,rfl,rfl,⟨he0,by omega⟩,_,_,rfl,rfl,(by show (0:Int)<2;decide),rfl,_,rfl,?_⟩⟩
    have e1:bitV bits (V.int (0 + (i:Int)))=decide (V.int (bits / e % 2)=V.int 1):=by
     show (decide ((0:Int) + (i:Int)<8)&&(match atI eight (0 + (i:Int)) with | some (.int e)=>decide (bits / e % 2=1) | _=>false))=_
     rw [he,decide_eq_true h8,Bool.true_and]
     show decide (bits / e % 2=1)=_
     rw [decide_eq_decide]
     constructor
     ·intro z;rw [z]
     ·intro z;injection z
    have:=hR (upd H2 t (.tup eight)) fun b o e=>by rw [Zab (nNo e ht)];exact e
    rw [e1] at this
    exact this
   ·have h8:¬ ((0:Int) + (i:Int)<8):=fun z=>h8 (decide_eq_true z)
    have e1:bitV bits (V.int (0 + (i:Int)))=false:=by
     show (decide ((0:Int) + (i:Int)<8)&&_)=false
     rw [decide_eq_false h8,Bool.false_and]
    have:=hR H2 (Zaj.refl _)
    rw [e1] at this
    exact this
  ·intro D x H2 R hs _ _ hx _ hR
   exact ⟨_,rfl,hR x H2 (Zaj.refl _) rfl⟩
  ·intro D H2 ys hD hs hl hp
   have e:=paired_self hp
   subst e
   obtain ⟨js,e,hj,hnd⟩:=filt_range k (bitV bits)
   refine q D js H2 (d3.same hs) (by rw [hl,e]) ⟨fun j h=>(hj j h).1,hnd,?_⟩
   have:=Graph.nodup_le (l:=js) (k:=List.range 8) hnd fun j h=>by
    have h2:(decide ((j:Int)<8)&&_)=true:=(hj j h).2
    have h3:=(Bool.and_eq_true _ _ ▸ h2:_∧_).1
    have h4:(j:Int)<8:=of_decide_eq_true h3
    exact List.mem_range.mpr (by omega)
   simpa using this
end
end K68
namespace K68
open PySem L2 Md
def spRowsL:Sp:=fun vs H Q _=>∃ (p:Addr) (m:Nat),vs=[.ref p,.int m]∧(∃ o,H p=some o∧PotO o)∧1≤m∧m≤24 ∧
 ∀ l (rows:List (Str×List Str)) H',Drawn p H H'→H l=none→Zdf H' l rows→Zcr rows→rows.length≤m→Q (.ref l) H'
def wAt (ws:List Str):V→V
 | .int j=>.str (ws.getD j.toNat "")
 | _=>.non
theorem wAt_ints (ws:List Str) (js:List Nat):(Zdn js).map (wAt ws)=(js.map fun i=>ws.getD i "").map V.str:=by
 unfold Zdn
 rw [List.map_map,List.map_map]
 rfl
theorem at_word {ws:List Str}{j:Nat}(h:j<ws.length):atI (ws.map V.str) (j:Int)=some (.str (ws.getD j "")):=by
 have e:(ws.map V.str)[j]?=some (V.str (ws.getD j "")):=by
  rw [List.getElem?_map,List.getD_eq_getElem?_getD,List.getElem?_eq_getElem h]
  rfl
 exact Za6 e
theorem intsV_range (m:Nat):Zcq 0 m=Zdn (List.range m):=by
 unfold Zcq Zdn
 refine List.map_congr_left fun j _=>?_
 rw [Int.zero_add]
theorem all_true {α:Type}(l:List α):l.filter (fun _=>true)=l:=List.filter_eq_self.mpr fun _ _=>rfl
def UpV (ws:List Str) (H:Hp) (js:List Nat) (v:V):Prop:=∃ t,v=.ref t∧H t=some (.tup ((js.map fun i=>ws.getD i "").map V.str))
theorem UpV.mono {ws:List Str}{H H':Hp}{js:List Nat}{v:V}(h:UpV ws H js v) (k:∀ b xs,H b=some (.tup xs)→H' b=some (.tup xs)):UpV ws H' js v:=by
 obtain ⟨t,e,h⟩:=h
 exact ⟨t,e,k _ _ h⟩
theorem paired_get {α β:Type}{F:α→β→Prop}:∀ {l:List α}{k:List β},Paired F l k→∀ {i:Nat}{a:α},l[i]?=some a→∃ b,k[i]?=some b∧F a b
 | _,_,.nil,i,a,h=>by simp at h
 | _,_,.cons r t,0,a,h=>by simp at h;subst h;exact ⟨_,rfl,r⟩
 | _,_,.cons r t,i + 1,a,h=>by
  obtain ⟨b,h1,h2⟩:=paired_get t (i:=i) (a:=a) (by simpa using h)
  exact ⟨b,by simpa using h1,h2⟩
theorem keepD_of {H:Hp}{D b:Addr}{o u:HO}(hD:H D=none) (e:H b=some o):(upd H D u) b=some o:=by rw [Zab (nNo e hD)];exact e
theorem paired_rows {ws:List Str}{uf:List (List Nat)}{D:Addr}{H:Hp}:∀ {os:List Nat}{ys:List V},
  Paired (fun x v=>∃ (j:Nat) (t u:Addr),x=V.int (j:Int)∧v=.ref t∧t≠D∧u≠D∧H t=some (.tup [.str (ws.getD j ""),.ref u])∧H u=some (.tup (((uf.getD j []).map fun i=>ws.getD i "").map V.str))) (Zdn os) ys→Paired (RowV H) (rowsOf ws uf os) ys
 | [],_,h=>by cases h;exact .nil
 | j :: os,_,h=>by
  cases h with
  | cons r t =>
   obtain ⟨i,a,u,e,rfl,_,_,h3,h4⟩:=r
   have e':(j:Int)=(i:Int):=by injection e
   have e'':j=i:=by omega
   subst e''
   exact .cons ⟨a,u,rfl,h3,h4⟩ (paired_rows t)
structure Grown (p lw lo lu:Addr) (ws:List Str) (H H':Hp) (i:Nat) (os:List Nat) (uf:List (List Nat)) (us:List V):Prop where
 d:Drawn p H H'
 w:H' lw=some (.lst (ws.map V.str))
 o:H' lo=some (.lst (Zdn os))
 u:H' lu=some (.lst us)
 pu:Paired (UpV ws H') uf us
 ul:uf.length=i
 uok:∀ (k:Nat) (js:List Nat),uf[k]?=some js→UpsOk k js
 on:os.Nodup
 om:∀ j,j∈os↔j<i
 ol:os.length=i
theorem nd_jw:(["j","words"]:List Str).Nodup:=by decide +kernel
theorem nd_kwu:(["k","words","ups"]:List Str).Nodup:=by decide +kernel
structure TxtR (mg:Str→Option Value):Prop where
 range:mg "range"=none
 int:mg "int"=none
 len:mg "len"=none
 tuple:mg "tuple"=none
 list:mg "list"=none
section
variable {P:Program} {w:World} {K:W.Frag} {mg:Str→Option Value} {base:Heap}
abbrev nRows:List Str:=["pot","most","many","words","shape","order","ups","k"]
theorem scRows:Zai nRows ["pot","most"] (Zad Zdi):=⟨rfl,rfl,rfl,by decide +kernel,rfl,by decide +kernel,by decide +kernel⟩
theorem ok_rowsL {f fT fU fWs fW fL:Addr}{fd fdT fdU fdWs fdW fdL:FuncData}(F:Def K mg "_law_rows" Zdi ["pot","most"] f fd) (DT:Def K mg "_law_take" Za9 ["pot","many"] fT fdT) (DU:Def K mg "_law_ups" Zdg ["pot","k","shape"] fU fdU)
  (DWs:Def K mg "_law_words" Zex ["pot","many"] fWs fdWs) (DW:Def K mg "_law_word" Zbc ["pot","words"] fW fdW) (DL:Def K mg "_law_letters" Zcb ["number"] fL fdL) (T:TxtR mg):Zar P w K mg base CX0 4 f fd ["pot","most"] spRowsL:=by
 have GT:Zar P w K mg base CX0 1 fT fdT ["pot","many"] spTake:=ok_take DT
 have GU:Zar P w K mg base CX0 2 fU fdU ["pot","k","shape"] spUps:=ok_ups DU DT ⟨T.range,T.int⟩
 have GW:Zar P w K mg base CX0 3 fWs fdWs ["pot","many"] spWords:=ok_words DWs DW DT DL T.len T.range
 refine F.fn.ok scRows (fun vs H Q E h=>?_) (fun cdv A outer s H vs Q E hr h=>?_)
 ·obtain ⟨p,m,rfl,_⟩:=h
  rfl
 ·obtain ⟨p,most,rfl,⟨o0,hp0,ho0⟩,hm1,hm24,q⟩:=h
  have nd:=scRows.nd
  have hr1:Zcm 1 _:=hr.mono (by decide)
  have hr2:Zcm 2 _:=hr.mono (by decide)
  refine ⟨_,pS (Zag (i:=2) nd rfl (Or.inl rfl) (Za0 Zck Zaf (Zae DT GT hr1 (pC (pv 0) (pC (pv 1) Zaa)))))
   (pS (Zag (i:=3) nd rfl (Or.inr rfl) (Zae DWs GW hr (pC (pv 0) (pC (pv 2) Zaa))))
   (pS (Zag (i:=4) nd rfl (Or.inl rfl) (Zae DT GT hr1 (pC (pv 0) (pC Zaf Zaa))))
   (pS (Zag (i:=5) nd rfl (Or.inl rfl) (Zbn Zaa))
   (pS (Zag (i:=6) nd rfl (Or.inr rfl) (Zbn Zaa))
   (pS (Za8 PassesOwn.never rfl (Zbu (by rfl) T.range (pC (pv 2) Zaa)) (Zah (i:=7) nd rfl (Or.inl rfl))
    (pS (Za3 (Zfo PySem.F.plainAttrs_list PySem.F.slot_list_append PySem.F.type_list_append Zbv (pv 6) (pC (Zbd Zbe (by rfl) T.tuple PyProof.Rows.boot_tuple (pC
     (Zbl ["j"] ["words"] [3] (fun _=>Zax (osc:=Zad Zdi) (on:=nRows) (by decide +kernel) rfl rfl rfl) (Za7 (Zae DU GU hr2 (pC (pv 0) (pC (pv 7) (pC (pv 4) Zaa))))) (fun C s H fp=>Zah (i:=0) nd_jw rfl (Or.inl rfl) (Or.inr rfl)) (fun C s H fp=>Zbw)
      (fun C s H fp=>Zaw (r:=rIxL K) Zav (pv 1) (pv 0) (fun _ _=>rfl))) Zaa)) Zaa)))
    (Zac (Za3 (Zfo PySem.F.plainAttrs_list PySem.F.slot_list_insert PySem.F.type_list_insert mt_insert (pv 5) (pC (Zae DT GT hr1 (pC (pv 0) (pC (Za0 Zck (pv 7) Zaf) Zaa))) (pC (pv 7) Zaa)))))))
   (Zfd (Za4 (Zan Zec (Zae DT GT hr1 (pC (pv 0) (pC Zaf Zaa))) Zaf (Zau _)) (Zac (Zag (i:=5) nd rfl (Or.inl rfl) (pe_listRange rfl (pv 2) (by rfl) T.list (by rfl) T.range))) Zak)
   (Zac (Zal (Zbl ["k"] ["words","ups"] [3,6] (fun _=>Zax (osc:=Zad Zdi) (on:=nRows) (by decide +kernel) rfl rfl rfl) (Za7 (pv 5)) (fun C s H fp=>Zah (i:=0) nd_kwu rfl (Or.inl rfl) (Or.inr rfl)) (fun C s H fp=>Zbw)
    (fun C s H fp=>Zbm (pC (Zaw (r:=rIxL K) Zav (pv 1) (pv 0) (fun _ _=>rfl)) (pC (Zaw (r:=rIxL K) Zav (pv 2) (pv 0) (fun _ _=>rfl)) Zaa)))))))))))),?_⟩
  refine ⟨_,rfl,_,rfl,p,most,o0,rfl,hp0,ho0,by omega,by omega,fun v o1 hv0 hv1 ho1=>⟨_,_,rfl,rfl,?_⟩⟩
  have hv:(1:Int) + v=((1 + v.toNat:Nat):Int):=by omega
  have d1:Drawn p H (upd H p o1):=Drawn.upd ho1
  refine ⟨_,rfl,_,rfl,p,1 + v.toNat,(by show [V.ref p,V.int (1 + v)]=[V.ref p,V.int ((1 + v.toNat:Nat):Int)];rw [← hv]),d1.pot,by omega,fun lw ws H2 d2 hlw hw ok hwl=>?_⟩
  have hlw0:H lw=none:=by
   cases e:H lw with
   | none=>rfl
   | some o =>
    by_cases z:lw=p
    ·rw [z] at hlw
     rw [uS] at hlw
     cases hlw
    ·rw [d1.keep lw o z e] at hlw
     cases hlw
  have d12:=d1.trans d2
  obtain ⟨o2,hp2,ho2⟩:=d2.pot
  have pw:p≠lw:=ne_of hp2 hw (by
   obtain ⟨r,b,e,_⟩:=ho2
   rw [e]
   intro z
   injection z with z
   have z2:=congrArg (fun l=>l[0]?) z
   cases ws with
   | nil=>simp at z2
   | cons x r=>simp at z2)
  refine ⟨_,rfl,p,5,o2,rfl,hp2,ho2,by decide,by decide,fun sh o3 hs0 hs1 ho3=>?_⟩
  have d3:Drawn p H (upd H2 p o3):=d12.trans (Drawn.upd ho3)
  refine ⟨Nat.zero_le _,fun lo hlo=>⟨Nat.zero_le _,fun lu hlu=>?_⟩⟩
  have d5:Drawn p H (upd (upd (upd H2 p o3) lo (.lst [])) lu (.lst [])):=(d3.new hlo).new hlu
  have w5:(upd (upd (upd H2 p o3) lo (.lst [])) lu (.lst [])) lw=some (.lst (ws.map V.str)):=by
   have a1:(upd H2 p o3) lw=some (.lst (ws.map V.str)):=by rw [Zab (Ne.symm pw)];exact hw
   have a2:(upd (upd H2 p o3) lo (.lst [])) lw=some (.lst (ws.map V.str)):=by rw [Zab (nNo a1 hlo)];exact a1
   rw [Zab (nNo a2 hlu)];exact a2
  have o5:(upd (upd (upd H2 p o3) lo (.lst [])) lu (.lst [])) lo=some (.lst (Zdn [])):=by
   rw [Zab (nNo uS hlu)];exact uS
  have plo:p≠lo:=nNo (show (upd H2 p o3) p=some o3 from uS) hlo
  have plu:p≠lu:=nNo (show (upd (upd H2 p o3) lo (.lst [])) p=some o3 by rw [Zab plo];exact uS) hlu
  have lou:lo≠lu:=nNo uS hlu
  have lwo:lw≠lo:=fun z=>by
   have a1:(upd H2 p o3) lw=some (.lst (ws.map V.str)):=by rw [Zab (Ne.symm pw)];exact hw
   rw [z,hlo] at a1;cases a1
  have lwu:lw≠lu:=fun z=>by
   have a1:(upd H2 p o3) lw=some (.lst (ws.map V.str)):=by rw [Zab (Ne.symm pw)];exact hw
   have a2:(upd (upd H2 p o3) lo (.lst [])) lw=some (.lst (ws.map V.str)):=by rw [Zab lwo];exact a1
   rw [z,hlu] at a2;cases a2
  have hloH:H lo=none:=by
   cases e:H lo with
   | none=>rfl
   | some o=>rw [d3.keep lo o (Ne.symm plo) e] at hlo;cases hlo
  have hluH:H lu=none:=by
   cases e:H lu with
   | none=>rfl
   | some o=>rw [(d3.new (o:=.lst []) hlo).keep lu o (Ne.symm plu) e] at hlu;cases hlu
  refine ⟨_,rfl,(1:Int) + v,rfl,by omega,by omega,?_⟩
  have hmn:((1:Int) + v).toNat=ws.length:=by omega
  rw [hmn]
  refine Zaq Zbg (fun i σ H'=>∃ (os:List Nat) (uf:List (List Nat)) (us:List V) (kv:Option V),σ=[some (.ref p),some (.int most),some (.int (1 + v)),some (.ref lw),some (.int sh),some (.ref lo),some (.ref lu),kv]∧Grown p lw lo lu ws H H' i os uf us)
   ⟨[],[],[],none,rfl,d5,w5,o5,uS,.nil,rfl,fun k js h=>by simp at h,List.nodup_nil,fun j=>by simp,rfl⟩ (fun _ _ _ _ _=>trivial) ?_ ?_
  ·rintro i x σ H' hi ⟨os,uf,us,kv,rfl,g⟩
   obtain ⟨hi,rfl⟩:=Zaz hi
   have hul:us.length=i:=by rw [← g.pu.length];exact g.ul
   refine ⟨_,rfl,.inl ⟨rfl,_,SqL.of g.u⟩,_,rfl,_,rfl,_,rfl,p,i,sh.toNat,by rw [Int.zero_add,Int.toNat_of_nonneg hs0];rfl,g.d.pot,by omega,fun l js H6 d6 hl uok=>⟨l,rfl,⟨_,SqL.of hl⟩,?_⟩⟩
   have w6:H6 lw=some (.lst (ws.map V.str)):=d6.keep _ _ (Ne.symm pw) g.w
   refine Zdc (Zat (xs:=Zdn js)) (sL (by unfold Zdn;rw [List.length_map];have:=uok.few;omega)) (fun _=>true) (wAt ws) (fun D ys hD=>SqL.of (by rw [Zab (nNo hl hD)];exact hl)) ?_ ?_ ?_
   ·intro D ys y R _ _ hR
    exact hR
   ·intro D ys y R hD hy _ hR
    obtain ⟨j,hj,rfl⟩:=List.mem_map.mp hy
    have hjl:j<ws.length:=by have:=uok.below j hj;omega
    exact ⟨_,rfl,_,rfl,lw,_,_,_,rfl,rfl,SqL.of (by rw [Zab (nNo w6 hD)];exact w6),at_word hjl,hR⟩
   ·intro D hD
    rw [all_true,wAt_ints]
    refine ⟨D,_,rfl,.inl ⟨SqL.of uS,fun t ht=>?_⟩⟩
    have keepDt:∀ b o,H6 b=some o→(upd (upd H6 D (.lst ((js.map fun i=>ws.getD i "").map V.str))) t (.tup ((js.map fun i=>ws.getD i "").map V.str))) b=some o:=fun b o e=>by
     have e1:(upd H6 D (.lst ((js.map fun i=>ws.getD i "").map V.str))) b=some o:=by rw [Zab (nNo e hD)];exact e
     rw [Zab (nNo e1 ht)];exact e1
    have u6:H6 lu=some (.lst us):=d6.keep _ _ (Ne.symm plu) g.u
    have o6:H6 lo=some (.lst (Zdn os)):=d6.keep _ _ (Ne.symm plo) g.o
    refine ⟨lu,us,_,rfl,rfl,keepDt _ _ u6,Za1 (by omega),?_⟩
    obtain ⟨o7,hp7,ho7⟩:=d6.pot
    refine ⟨_,rfl,.inl ⟨rfl,_,SqL.of (by rw [Zab lou];exact keepDt _ _ o6)⟩,_,rfl,_,rfl,_,_,rfl,rfl,p,_,o7,rfl,(by rw [Zab plu];exact keepDt _ _ hp7),ho7,by omega,by omega,fun at_ o8 ha0 ha1 ho8=>?_⟩
    refine ⟨_,rfl,lo,Zdn os,at_,_,rfl,rfl,(by rw [Zab (Ne.symm plo),Zab lou];exact keepDt _ _ o6),ha0,(by unfold Zdn;rw [List.length_map,g.ol];omega),Za1 (by unfold Zdn;rw [List.length_map,g.ol];omega),?_⟩
    have tlu:t≠lu:=fun z=>by rw [z] at ht;rw [keepD_of hD u6] at ht;cases ht
    have tlo:t≠lo:=fun z=>by rw [z] at ht;rw [keepD_of hD o6] at ht;cases ht
    have tp:t≠p:=fun z=>by rw [z] at ht;rw [keepD_of hD hp7] at ht;cases ht
    have all:∀ b o,b≠p→b≠lu→b≠lo→H6 b=some o→(upd (upd (upd (upd (upd H6 D (.lst ((js.map fun i=>ws.getD i "").map V.str))) t (.tup ((js.map fun i=>ws.getD i "").map V.str))) lu (.lst (us++[.ref t]))) p o8) lo (.lst ((Zdn os).take at_.toNat++V.int (0 + (i:Int)):: (Zdn os).drop at_.toNat))) b=some o:=fun b o h1 h2 h3 e=>by
     rw [Zab h3,Zab h1,Zab h2];exact keepDt _ _ e
    have tt:(upd (upd (upd (upd (upd H6 D (.lst ((js.map fun i=>ws.getD i "").map V.str))) t (.tup ((js.map fun i=>ws.getD i "").map V.str))) lu (.lst (us++[.ref t]))) p o8) lo (.lst ((Zdn os).take at_.toNat++V.int (0 + (i:Int)):: (Zdn os).drop at_.toNat))) t=some (.tup ((js.map fun i=>ws.getD i "").map V.str)):=by
     rw [Zab tlo,Zab tp,Zab tlu];exact uS
    have tups:∀ b xs,H' b=some (.tup xs)→(upd (upd (upd (upd (upd H6 D (.lst ((js.map fun i=>ws.getD i "").map V.str))) t (.tup ((js.map fun i=>ws.getD i "").map V.str))) lu (.lst (us++[.ref t]))) p o8) lo (.lst ((Zdn os).take at_.toNat++V.int (0 + (i:Int)):: (Zdn os).drop at_.toNat))) b=some (.tup xs):=fun b xs e=>by
     obtain ⟨oP,hP,r,b',eP,_⟩:=g.d.pot
     have bp:b≠p:=fun z=>by rw [z,hP,eP] at e;cases e
     have bu:b≠lu:=fun z=>by rw [z,g.u] at e;cases e
     have bo:b≠lo:=fun z=>by rw [z,g.o] at e;cases e
     exact all b _ bp bu bo (d6.keep b _ bp e)
    refine ⟨os.take at_.toNat++i :: os.drop at_.toNat,uf++[js],us++[.ref t],_,rfl,?_⟩
    refine ⟨⟨fun b o hb e=>?_,?_⟩,?_,?_,?_,?_,by rw [List.length_append,g.ul];rfl,?_,?_,?_,?_⟩
    ·have e6:=(g.d.trans d6).keep b o hb e
     exact all b o hb (fun z=>by rw [z,hluH] at e;cases e) (fun z=>by rw [z,hloH] at e;cases e) e6
    ·exact ⟨o8,by rw [Zab plo];exact uS,ho8⟩
    ·exact all lw _ (Ne.symm pw) lwu lwo w6
    ·rw [uS]
     unfold Zdn
     rw [List.map_append,List.map_cons,List.map_take,List.map_drop,Int.zero_add]
    ·rw [Zab (Ne.symm lou),Zab (Ne.symm plu)];exact uS
    ·exact Paired.snoc (Paired.mapP g.pu fun a b z=>z.mono tups) ⟨t,rfl,tt⟩
    ·intro k js' hk
     by_cases hki:k<uf.length
     ·rw [List.getElem?_append_left hki] at hk
      exact g.uok k js' hk
     ·rw [List.getElem?_append_right (by omega)] at hk
      have hk0:k - uf.length=0:=by
       have:=(List.getElem?_eq_some_iff.mp hk).1
       simp at this
       omega
      rw [hk0] at hk
      have e:js=js':=by simpa using hk
      have e2:k=i:=by have:=g.ul;omega
      rw [← e,e2]
      exact uok
    ·have hperm:(os.take at_.toNat++i :: os.drop at_.toNat).Perm (i :: os):=by
      refine List.perm_middle.trans ?_
      rw [List.take_append_drop]
     exact hperm.nodup_iff.mpr (List.nodup_cons.mpr ⟨fun z=>by have:=(g.om i).mp z;omega,g.on⟩)
    ·intro j
     have hperm:(os.take at_.toNat++i :: os.drop at_.toNat).Perm (i :: os):=by
      refine List.perm_middle.trans ?_
      rw [List.take_append_drop]
     rw [hperm.mem_iff,List.mem_cons,g.om]
     omega
    ·have hperm:(os.take at_.toNat++i :: os.drop at_.toNat).Perm (i :: os):=by
      refine List.perm_middle.trans ?_
      rw [List.take_append_drop]
     rw [hperm.length_eq,List.length_cons,g.ol]
  ·rintro σ H' ⟨os,uf,us,kv,rfl,g⟩
   rw [Zay] at g
   refine ⟨fun σ' H2=>∃ (lo':Addr) (os':List Nat) (kv:Option V),σ'=[some (.ref p),some (.int most),some (.int (1 + v)),some (.ref lw),some (.int sh),some (.ref lo'),some (.ref lu),kv]∧Drawn p H H2∧H2 lw=some (.lst (ws.map V.str))∧H2 lo'=some (.lst (Zdn os')) ∧
    H2 lu=some (.lst us)∧Paired (UpV ws H2) uf us∧os'.Nodup∧(∀ j,j∈os'↔j<ws.length)∧os'.length=ws.length,?_,?_⟩
   ·obtain ⟨oP,hP,hoP⟩:=g.d.pot
    refine ⟨_,rfl,p,3,oP,rfl,hP,hoP,by decide,by decide,fun v3 o9 _ _ ho9=>⟨rfl,_,rfl,?_⟩⟩
    have d9:Drawn p H (upd H' p o9):=g.d.trans (Drawn.upd ho9)
    have t9:∀ b xs,H' b=some (.tup xs)→(upd H' p o9) b=some (.tup xs):=fun b xs e=>by
     obtain ⟨r,b',eP,_⟩:=hoP
     rw [Zab (fun z=>by rw [z,hP,eP] at e;cases e)];exact e
    refine Zed (fun _=>?_) (fun _=>?_)
    ·refine ⟨_,rfl,(1:Int) + v,rfl,by omega,by omega,fun l hl=>?_⟩
     rw [hmn,intsV_range]
     have nn:∀ {b:Addr} {o:HO},(upd H' p o9) b=some o→(upd (upd H' p o9) l (.lst (Zdn (List.range ws.length)))) b=some o:=fun {b o} e=>by rw [Zab (nNo e hl)];exact e
     exact ⟨l,List.range ws.length,_,rfl,d9.new hl,nn (by rw [Zab (Ne.symm pw)];exact g.w),uS,nn (by rw [Zab (Ne.symm plu)];exact g.u),Paired.mapP g.pu fun a b z=>(z.mono t9).mono fun b xs e=>nn e,List.nodup_range,fun j=>List.mem_range,by simp⟩
    ·exact ⟨lo,os,_,rfl,d9,by rw [Zab (Ne.symm pw)];exact g.w,by rw [Zab (Ne.symm plo)];exact g.o,by rw [Zab (Ne.symm plu)];exact g.u,Paired.mapP g.pu fun a b z=>z.mono t9,g.on,g.om,g.ol⟩
   ·rintro σ' H2 ⟨lo',os',kv',rfl,dE,wE,oE,uE,pE,on,om,ol⟩
    refine ⟨_,rfl,lo',rfl,⟨_,SqL.of oE⟩,?_⟩
    refine Ze8 (Zat (xs:=Zdn os')) (sL (by unfold Zdn;rw [List.length_map];omega)) (fun _=>true)
     (fun D x v H=>∃ (j:Nat) (t u:Addr),x=.int (j:Int)∧v=.ref t∧t≠D∧u≠D∧H t=some (.tup [.str (ws.getD j ""),.ref u])∧H u=some (.tup (((uf.getD j []).map fun i=>ws.getD i "").map V.str))) ?_ ?_ ?_ ?_ ?_
    ·rintro D x v H H'' hk ⟨j,t,u,e1,e2,h1,h2,h3,h4⟩
     exact ⟨j,t,u,e1,e2,h1,h2,hk _ _ h1 h3,hk _ _ h2 h4⟩
    ·intro H3 hs
     exact hs.seq (SqL.of oE)
    ·intro x H3 R hs hx hR
     exact hR H3 (Zaj.refl _)
    ·intro D x H3 R hs ⟨ys,hD⟩ hD0 hx _ hR
     obtain ⟨j,hj,rfl⟩:=List.mem_map.mp hx
     have hjl:j<ws.length:=(om j).mp hj
     have huj:uf[j]?=some (uf.getD j []):=by
      have:j<uf.length:=by rw [g.ul];exact hjl
      rw [List.getD_eq_getElem?_getD,List.getElem?_eq_getElem this]
      rfl
     obtain ⟨uv,hu1,t,rfl,hu2⟩:=paired_get pE huj
     have hu3:=hs _ _ hu2
     refine ⟨_,rfl,_,rfl,lw,_,_,_,rfl,rfl,SqL.of (hs _ _ wE),at_word hjl,_,rfl,_,rfl,lu,_,_,_,rfl,rfl,SqL.of (hs _ _ uE),Za6 hu1,sL (by show 2≤100000;decide),fun tn htn=>?_⟩
     have tD:tn≠D:=fun z=>by rw [z,hD] at htn;cases htn
     have uD:t≠D:=fun z=>by rw [z,hD] at hu3;cases hu3
     exact hR _ _ (fun b o e=>by rw [Zab (nNo e htn)];exact e) ⟨j,tn,t,rfl,rfl,tD,uD,uS,by rw [Zab (nNo hu3 htn)];exact hu3⟩
    ·intro D H3 ys hD hs hl hp
     rw [all_true] at hp
     have hDH:H D=none:=by
      cases e:H D with
      | none=>rfl
      | some o =>
       by_cases z:D=p
       ·obtain ⟨oP,hP,_⟩:=dE.pot
        rw [z,hP] at hD;cases hD
       ·rw [dE.keep D o z e] at hD;cases hD
     refine q D (rowsOf ws uf os') H3 (dE.same hs) hDH ⟨ys,hl,?_⟩ (good_of (m:=ws.length) (by omega) (by omega) ok.word ok.nd rfl (fun k js h=>⟨(g.uok k js h).below,(g.uok k js h).nd,(g.uok k js h).few⟩) g.ul on om ol) (by unfold rowsOf;rw [List.length_map];omega)
     exact paired_rows hp
end
end K68
namespace K68
open PySem L2 Md
def spIsWord:Sp:=fun vs H Q _=>∃ x:Str,vs=[.str x]∧x.length≤1000∧∀ H',Zaj H H'→Q (.bl (Zbh x)) H'
def spCheckRows (K:W.Frag):Sp:=fun vs H Q _=>∃ (l:Addr) (rows:List (Str×List Str)),vs=[.ref l]∧RowsG K H l rows∧Zcr rows∧∀ H',Zaj H H'→Q .non H'
structure BookD (H:Hp) (d:Addr) (o:Obj) (rows:List (Str×List Str)) (kvs:List (Key×V)):Prop where
 at_:H d=some (.frz o (.dK kvs))
 ups:UpsD H rows kvs
theorem BookD.mono {H H':Hp}{d:Addr}{o:Obj}{rows:List (Str×List Str)}{kvs:List (Key×V)}(b:BookD H d o rows kvs) (s:Zaj H H'):BookD H' d o rows kvs:=⟨s _ _ b.at_,b.ups.mono fun _ _ e=>s _ _ e⟩
def spCheckUps:Sp:=fun vs H Q _=>∃ (d:Addr) (o:Obj) (rows:List (Str×List Str)) (kvs:List (Key×V)),vs=[.ref d]∧BookD H d o rows kvs∧Zcr rows∧∀ H',Zaj H H'→Q .non H'
def foundV (us left:List Str):V:=match us.find? (fun x=>decide (x∈left)) with | some x=>.str x | none=>.non
def spFirst (K:W.Frag):Sp:=fun vs H Q _=>∃ (a b:Addr) (us left:List Str),vs=[.ref a,.ref b]∧SqT K H a (us.map V.str)∧SqL K H b (left.map V.str)∧Q (foundV us left) H
def spEndless:Sp:=fun vs H Q _=>∃ (d:Addr) (o:Obj) (rows:List (Str×List Str)) (kvs:List (Key×V)),vs=[.ref d]∧BookD H d o rows kvs∧Zcr rows∧∀ l H',Zaj H H'→H' l=some (.lst [])→Q (.ref l) H'
def spRing:Sp:=fun vs H Q _=>∃ (d:Addr) (o:Obj) (rows:List (Str×List Str)) (kvs:List (Key×V)),vs=[.ref d]∧BookD H d o rows kvs∧Zcr rows∧∀ H',Zaj H H'→Q .non H'
structure TxtK (mg:Str→Option Value):Prop where
 letters:∃ t,mg "LETTERS"=some (.str letters t)
 most:∃ t,mg "MOST_LETTERS"=some (.int 8 t)
 kinds:∃ t,mg "MOST_KINDS"=some (.int 24 t)
 ups:∃ t,mg "MOST_UPS"=some (.int 8 t)
 len:mg "len"=none
 all:mg "all"=none
 list:mg "list"=none
 tuple:mg "tuple"=none
section
variable {P:Program} {w:World} {K:W.Frag} {mg:Str→Option Value} {base:Heap}
theorem scW:Zai ["text"] ["text"] (Zad Zej):=⟨rfl,rfl,rfl,by decide +kernel,rfl,by decide +kernel,by decide +kernel⟩
theorem nd_sign:(["sign"]:List Str).Nodup:=by decide +kernel
theorem ok_isword {f:Addr}{fd:FuncData}(F:Def K mg "is_word" Zej ["text"] f fd) (T:TxtK mg):Zar P w K mg base CX0 1 f fd ["text"] spIsWord:=by
 refine F.fn.ok scW (fun vs H Q E h=>?_) (fun cdv A outer s H vs Q E hr h=>?_)
 ·obtain ⟨x,rfl,_⟩:=h
  rfl
 ·obtain ⟨x,rfl,hx,k⟩:=h
  obtain ⟨t1,hl⟩:=T.letters
  obtain ⟨t2,hm⟩:=T.most
  refine ⟨_,pS (Za4 (Zc8 (pt_chain op_le op_le Zaf (Zam Zcs (by rfl) T.len PySem.boot_len (pC (pv 0) Zaa)) (Zeo (v:=.int 8) (by rfl) hm ⟨_,rfl⟩))) (Zac (Zal pe_bl)) Zak)
   (Zac (Zal (Zam (call_all rfl) (by rfl) T.all PyProof.Rows.boot_all (pC
    (Zbl ["sign"] [] [] (fun _=>Zax (osc:=Zad Zej) (on:=["text"]) (by decide +kernel) rfl rfl rfl) (pi_str (pv 0)) (fun C s H fp=>Zah (i:=0) nd_sign rfl (Or.inl rfl) (Or.inr rfl)) (fun C s H fp=>Zbw)
     (fun C s H fp=>pe_cmpR op_in_str (pv 0) (Zeo (v:=.str letters) (by rfl) hl ⟨_,rfl⟩) (by with_unfolding_all rfl))) Zaa)))),?_⟩
  refine ⟨_,rfl,_,_,rfl,⟨sL (by omega),rfl⟩,_,_,rfl,rfl,_,rfl,?_⟩
  have no:¬ (1≤x.length∧x.length≤8)→Zbh x=false:=fun h=>by unfold Zbh;rw [decide_eq_false h];rfl
  have same:Zaj H H:=Zaj.refl H
  refine Zed (fun h1=>?_) (fun h1=>?_)
  ·have h1:(1:Int)≤(x.length:Int):=of_decide_eq_true h1
   refine ⟨_,_,rfl,rfl,_,rfl,?_⟩
   refine Zed (fun h2=>?_) (fun h2=>?_)
   ·have h2:¬ ((x.length:Int)≤8):=by simpa using h2
    have q:=k H same
    rw [no (by omega)] at q
    exact q
   ·have h2:((x.length:Int)≤8):=by simpa using h2
    refine ⟨_,rfl,_,rfl,Zdc runs_str (by unfold signsV;rw [List.length_map,str_len];exact sL (by omega)) (fun _=>true) inLet (fun _ _ _=>trivial) ?_ ?_ ?_⟩
    ·intro D ys v R _ _ hR
     exact hR
    ·intro D ys v R _ hv _ hR
     obtain ⟨c,_,e⟩:=List.mem_map.mp hv
     subst e
     exact ⟨_,rfl,_,_,rfl,rfl,hR⟩
    ·intro D hD
     refine ⟨D,x.cps.toList.map isLow,rfl,SqL.of (by rw [← signs_low];exact uS),?_⟩
     have e:(x.cps.toList.map isLow).all id=Zbh x:=by
      unfold Zbh
      rw [decide_eq_true (by omega),Bool.true_and,List.all_map]
      rfl
     have q:=k (upd H D (.lst (((signsV x).filter fun _=>true).map inLet))) fun b o hb=>by rw [Zab (nNo hb hD)];exact hb
     rw [← e] at q
     exact q
  ·have h1:¬ ((1:Int)≤(x.length:Int)):=fun z=>h1 (decide_eq_true z)
   refine ⟨_,rfl,?_⟩
   refine iteT ?_
   have q:=k H same
   rw [no (by omega)] at q
   exact q
theorem len_seq {b:Bool}{H:Hp}{a:Addr}{xs:List V}(h:SqB K b H a xs):LenV K (.ref a) H xs.length:=by
 cases b with
 | true=>exact .inl ⟨xs,h,rfl⟩
 | false=>exact .inr ⟨xs,h,rfl⟩
theorem scCR:Zai ["rows","seen","word","ups"] ["rows"] (Zad Zev):=⟨rfl,rfl,rfl,by decide +kernel,rfl,by decide +kernel,by decide +kernel⟩
theorem ok_check_rows {f fW:Addr}{fd fdW:FuncData}(F:Def K mg "check_rows" Zev ["rows"] f fd) (DW:Def K mg "is_word" Zej ["text"] fW fdW) (T:TxtK mg):Zar P w K mg base CX0 2 f fd ["rows"] (spCheckRows K):=by
 have GW:Zar P w K mg base CX0 1 fW fdW ["text"] spIsWord:=ok_isword DW T
 refine F.fn.ok scCR (fun vs H Q E h=>?_) (fun cdv A outer s H vs Q E hr h=>?_)
 ·obtain ⟨l,rows,rfl,_⟩:=h
  rfl
 ·obtain ⟨l,rows,rfl,⟨b,vs,hl,hp⟩,g,q⟩:=h
  obtain ⟨t1,hK⟩:=T.kinds
  obtain ⟨t2,hU⟩:=T.ups
  have nd:=scCR.nd
  have hu:=Zfp hr
  refine ⟨_,pS (Za4 (Zc8 (pt_chain op_le op_le Zaf (Zam Zcs (by rfl) T.len PySem.boot_len (pC (pv 0) Zaa)) (Zeo (v:=.int 24) (by rfl) hK ⟨_,rfl⟩))) Za5 Zak)
   (pS (Zag (i:=1) nd rfl (Or.inl rfl) Zeb)
   (Zac (Za8 PassesOwn.never rfl (pi_seq (pv 0)) (pg_tup rfl (gC (Zah (i:=2) nd rfl (Or.inl rfl)) (gC (Zah (i:=3) nd rfl (Or.inl rfl)) Zd3)))
    (pS (Za4 (Zc8 (Zcz (Zae DW GW hr (pC (pv 2) Zaa)))) Za5 Zak)
    (pS (Za4 (pt_cmp (pc_din hu (pv 2) (pv 1))) Za5 Zak)
    (pS (Za4 (Zan op_gt (Zam Zcs (by rfl) T.len PySem.boot_len (pC (pv 3) Zaa)) (Zeo (v:=.int 8) (by rfl) hU ⟨_,rfl⟩) (Zau _)) Za5 Zak)
    (Zac (Zen hu (pv 1) (pv 2) pe_bl rfl)))))))),?_⟩
  have hvl:=hp.length
  have g1:=g.ne
  have g2:=g.le
  refine ⟨_,rfl,_,_,rfl,len_seq hl,_,_,rfl,rfl,_,rfl,?_⟩
  rw [show decide ((1:Int)≤(vs.length:Int))=true from decide_eq_true (by omega)]
  refine iteT ⟨_,_,rfl,rfl,_,rfl,?_⟩
  rw [show (decide ((vs.length:Int)≤24))=true from decide_eq_true (by omega)]
  refine Zdv ?_
  intro d hd
  have s0:Zaj H (upd H d (.dK [])):=fun b o e=>by rw [Zab (nNo e hd)];exact e
  refine ⟨_,rfl,b,l,vs,rfl,hl.mono s0,Zaq Zfw (fun i σ H'=>∃ (kvs:List (Key×V)) (a c:Option V),σ=[some (.ref l),some (.ref d),a,c]∧Zaj H H'∧H' d=some (.dK kvs)∧kvs.map (·.1)=(rows.take i).map fun r=>(Sum.inr r.1:Key))
   ⟨[],none,none,rfl,s0,uS,by simp⟩ (fun i σ H' _ ⟨_,_,_,_,s,_⟩=>hl.mono s) ?_ ?_⟩
  ·rintro i v σ H' hi ⟨kvs,a,c,rfl,s,hdk,hk⟩
   obtain ⟨r,hr',t,u,rfl,ht,hug⟩:=Zas hp hi
   obtain ⟨b',hu'⟩:=hug.sq
   have hmem:r∈rows:=List.mem_of_getElem? hr'
   have hw:=g.word r hmem
   have hwl:=word_len hw
   refine ⟨t,_,rfl,s.tup ht,rfl,_,_,rfl,_,_,rfl,rfl,?_⟩
   refine ⟨_,rfl,r.1,rfl,by omega,fun H2 s2=>⟨_,rfl,?_⟩⟩
   rw [hw]
   refine Zdv ?_
   have hd2:H2 d=some (.dK kvs):=s2 _ _ hdk
   refine ⟨_,rfl,_,rfl,d,_,rfl,DGet.k (k:=Sum.inr r.1) hd2,_,rfl,?_⟩
   have hnew:(Sum.inr r.1:Key)∉kvs.map (·.1):=by rw [hk];exact taken_not g.nd hr'
   rw [Zb8 hnew]
   refine Zdv ?_
   refine ⟨_,rfl,_,_,rfl,len_seq (hu'.mono (s.trans s2)),_,_,rfl,rfl,_,rfl,?_⟩
   rw [show decide ((8:Int)<((r.2.map V.str).length:Int))=false from decide_eq_false (by rw [List.length_map];have:=g.few r hmem;omega)]
   refine Zdv ?_
   have hkl:kvs.length=(rows.take i).length:=by have:=congrArg List.length hk;simpa using this
   have hil:(rows.take i).length≤24:=by rw [List.length_take];omega
   refine ⟨_,rfl,_,rfl,d,_,rfl,DPut.k (k:=Sum.inr r.1) hd2 (Za1 (by omega)),?_⟩
   refine ⟨_,_,_,rfl,fun b o e=>?_,uS,?_⟩
   ·rw [Zab (nNo e hd)];exact s2 _ _ (s _ _ e)
   ·rw [putK_keys hnew,hk,List.take_add_one,hr',List.map_append]
    rfl
  ·rintro σ H' ⟨kvs,a,c,rfl,s,hdk,hk⟩
   exact q H' s
theorem scCU:Zai ["ups_of","ups","seen","up"] ["ups_of"] (Zad Zfs):=⟨rfl,rfl,rfl,by decide +kernel,rfl,by decide +kernel,by decide +kernel⟩
theorem strs_at {us:List Str}{i:Nat}{v:V}(h:(us.map V.str)[i]?=some v):∃ x,us[i]?=some x∧v=.str x:=by
 rw [List.getElem?_map] at h
 obtain ⟨x,hx,e⟩:=Option.map_eq_some_iff.mp h
 exact ⟨x,hx,e.symm⟩
theorem taken_str {us:List Str}{i:Nat}{x:Str}(nd:us.Nodup) (h:us[i]?=some x):(Sum.inr x:Key)∉(us.take i).map fun y=>(Sum.inr y:Key):=by
 intro m
 obtain ⟨y,hy,e⟩:=List.mem_map.mp m
 have e:y=x:=by injection e
 subst e
 obtain ⟨j,hj,ej⟩:=List.mem_iff_getElem.mp hy
 rw [List.length_take] at hj
 rw [List.getElem_take] at ej
 have a:us[j]?=some y:=by rw [List.getElem?_eq_getElem (by omega),ej]
 have:=nodup_ix nd a h
 omega
theorem ok_check_ups {f:Addr}{fd:FuncData}(F:Def K mg "check_ups" Zfs ["ups_of"] f fd):Zar P w K mg base CX0 1 f fd ["ups_of"] spCheckUps:=by
 refine F.fn.ok scCU (fun vs H Q E h=>?_) (fun cdv A outer s H vs Q E hr h=>?_)
 ·obtain ⟨d,o,rows,kvs,rfl,_⟩:=h
  rfl
 ·obtain ⟨d,o,rows,kvs,rfl,bk,g,q⟩:=h
  have nd:=scCU.nd
  have hu:=Zfp hr
  refine ⟨_,Zac (Za8 PassesOwn.never rfl (pi_vals (pv 0)) (Zah (i:=1) nd rfl (Or.inl rfl))
    (pS (Zag (i:=2) nd rfl (Or.inl rfl) Zeb)
    (Zac (Za8 PassesOwn.never rfl (pi_tup (pv 1)) (Zah (i:=3) nd rfl (Or.inl rfl))
     (pS (Za4 (pt_cmp (pc_dnotin hu (pv 3) (pv 0))) Za5 Zak)
     (pS (Za4 (pt_cmp (pc_din hu (pv 3) (pv 2))) Za5 Zak)
     (Zac (Zen hu (pv 2) (pv 3) pe_bl rfl)))))))),?_⟩
  refine ⟨_,rfl,d,o,kvs,rfl,bk.at_,Zaq runs_vals (fun i σ H'=>∃ (a b c:Option V),σ=[some (.ref d),a,b,c]∧Zaj H H') ⟨none,none,none,rfl,Zaj.refl H⟩ (fun i σ H' _ ⟨_,_,_,_,s⟩=>s _ _ bk.at_) ?_ ?_⟩
  ·rintro i v σ H' hi ⟨a,b,c,rfl,s⟩
   rw [List.getElem?_map] at hi
   obtain ⟨p,hp,e⟩:=Option.map_eq_some_iff.mp hi
   obtain ⟨r,hr',hk,t,ht,htup⟩:=Zas bk.ups hp
   have hmem:r∈rows:=List.mem_of_getElem? hr'
   subst e
   show gName 1 p.2 _ _ _
   rw [ht]
   intro sd hsd
   have s1:Zaj H (upd H' sd (.dK [])):=fun b o e=>by rw [Zab (nNo (s _ _ e) hsd)];exact s _ _ e
   have t1:(upd H' sd (.dK [])) t=some (.tup (r.2.map V.str)):=s1 _ _ htup
   refine ⟨_,rfl,t,rfl,⟨_,SqT.of t1⟩,Zaq (Zc7 (xs:=r.2.map V.str)) (fun j σ H2=>∃ (kvs':List (Key×V)) (c:Option V),σ=[some (.ref d),some (.ref t),some (.ref sd),c]∧Zaj H H2∧H2 sd=some (.dK kvs')∧kvs'.map (·.1)=(r.2.take j).map fun y=>(Sum.inr y:Key))
    ⟨[],_,rfl,s1,uS,by simp⟩ (fun j σ H2 _ ⟨_,_,_,s,_⟩=>SqT.of (s _ _ htup)) ?_ ?_⟩
   ·rintro j v σ H2 hj ⟨kvs',c,rfl,s2,hsd2,hk'⟩
    obtain ⟨x,hx,rfl⟩:=strs_at hj
    have xm:x∈r.2:=List.mem_of_getElem? hx
    have known:=g.known r hmem x xm
    refine ⟨_,rfl,_,rfl,d,_,rfl,DGet.f (k:=Sum.inr x) (s2 _ _ bk.at_),_,rfl,?_⟩
    obtain ⟨r2,hr2,er2⟩:=List.mem_map.mp known
    obtain ⟨t2,hv2,_⟩:=bk.ups.val g.nd hr2
    rw [← er2,hv2,er2]
    refine Zdv ?_
    have hnew:(Sum.inr x:Key)∉kvs'.map (·.1):=by rw [hk'];exact taken_str (g.upnd r hmem) hx
    refine ⟨_,rfl,_,rfl,sd,_,rfl,DGet.k (k:=Sum.inr x) hsd2,_,rfl,?_⟩
    rw [Zb8 hnew]
    refine Zdv ?_
    have hkl:kvs'.length=(r.2.take j).length:=by have:=congrArg List.length hk';simpa using this
    have hjl:(r.2.take j).length≤8:=by rw [List.length_take];have:=g.few r hmem;omega
    have hsH:H sd=none:=s.free hsd
    refine ⟨_,rfl,_,rfl,sd,_,rfl,DPut.k (k:=Sum.inr x) hsd2 (Za1 (by omega)),_,_,rfl,fun b o e=>?_,uS,?_⟩
    ·rw [Zab (nNo e hsH)];exact s2 _ _ e
    ·rw [putK_keys hnew,hk',List.take_add_one,hx,List.map_append]
     rfl
   ·rintro σ H2 ⟨kvs',c,rfl,s2,hsd2,hk'⟩
    exact ⟨_,_,_,rfl,s2⟩
  ·rintro σ H' ⟨a,b,c,rfl,s⟩
   exact q H' s
theorem scFA:Zai ["words","others","word"] ["words","others"] (Zad Zcg):=⟨rfl,rfl,rfl,by decide +kernel,rfl,by decide +kernel,by decide +kernel⟩
theorem ok_first {f:Addr}{fd:FuncData}(F:Def K mg "first_among" Zcg ["words","others"] f fd):Zar P w K mg base CX0 1 f fd ["words","others"] (spFirst K):=by
 refine F.fn.ok scFA (fun vs H Q E h=>?_) (fun cdv A outer s H vs Q E hr h=>?_)
 ·obtain ⟨a,b,us,left,rfl,_⟩:=h
  rfl
 ·obtain ⟨a,b,us,left,rfl,ha,hb,q⟩:=h
  have nd:=scFA.nd
  refine ⟨_,pS (Za8 PassesOwn.never rfl (pi_tup (pv 0)) (Zah (i:=2) nd rfl (Or.inl rfl)) (Zac (Za4 (Zan op_in_seq (pv 2) (pv 1) (by with_unfolding_all rfl)) (Zac (Zal (pv 2))) Zak)))
   (Zac (Zal pe_non)),?_⟩
  refine ⟨_,rfl,a,rfl,⟨_,ha⟩,Zaq (Zc7 (xs:=us.map V.str)) (fun i σ H'=>H'=H∧(∃ c:Option V,σ=[some (.ref a),some (.ref b),c])∧(us.take i).find? (fun x=>decide (x∈left))=none) ⟨rfl,⟨none,rfl⟩,by simp⟩ (fun i σ H' _ ⟨e,_⟩=>by rw [e];exact ha) ?_ ?_⟩
  ·rintro i v σ H' hi ⟨rfl,⟨c,rfl⟩,hf⟩
   obtain ⟨x,hx,rfl⟩:=strs_at hi
   refine ⟨_,rfl,_,rfl,b,_,rfl,.inl hb,rfl,Zdz left,_,rfl,?_⟩
   show if inV (.str x) (left.map V.str)=true then _ else _
   rw [in_strs]
   have split:us=us.take i++x :: us.drop (i + 1):=by
    have hlt:=(List.getElem?_eq_some_iff.mp hx).1
    have e:us[i]=x:=(List.getElem?_eq_some_iff.mp hx).2
    rw [← e,List.getElem_cons_drop hlt,List.take_append_drop]
   refine Zed (fun h=>?_) (fun h=>?_)
   ·have fv:foundV us left=.str x:=by
     unfold foundV
     rw [split,List.find?_append,hf,List.find?_cons]
     simp only [h]
     rfl
    rw [fv] at q
    exact ⟨_,rfl,q⟩
   ·refine ⟨rfl,⟨_,rfl⟩,?_⟩
    rw [List.take_add_one,hx,List.find?_append,hf]
    have h':decide (x∈left)=false:=by simpa using h
    simp [h']
  ·rintro σ H' ⟨rfl,⟨c,rfl⟩,hf⟩
   rw [List.length_map,List.take_length] at hf
   have fv:foundV us left=.non:=by unfold foundV;rw [hf]
   rw [fv] at q
   exact q
end
end K68
namespace K68
open PySem L2 Md
def keptV (rows:List (Str×List Str)) (ls:List Str):V→Bool
 | .str x=>(Zb2 rows x).any fun u=>decide (u∈ls)
 | _=>false
theorem kept_map (rows:List (Str×List Str)) (ls:List Str):((ls.map V.str).filter (keptV rows ls)).map (fun v=>v)=(Graph.kept (Zb2 rows) ls).map V.str:=by
 rw [List.map_id',List.filter_map]
 rfl
theorem found_is (us ls:List Str):(!decide (foundV us ls=V.non))=us.any fun u=>decide (u∈ls):=by
 unfold foundV
 cases e:us.find? fun x=>decide (x∈ls) with
 | none =>
  have:∀ x∈us,¬ decide (x∈ls)=true:=List.find?_eq_none.mp e
  rw [Bool.eq_iff_iff]
  constructor
  ·intro h;simp at h
  ·intro h
   obtain ⟨x,hx,h1⟩:=List.any_eq_true.mp h
   exact absurd h1 (this x hx)
 | some x =>
  have h1:=List.find?_some e
  have h2:=List.mem_of_find?_eq_some e
  rw [Bool.eq_iff_iff]
  constructor
  ·intro _;exact List.any_eq_true.mpr ⟨x,h2,h1⟩
  ·intro _;rfl
section
variable {P:Program} {w:World} {K:W.Frag} {mg:Str→Option Value} {base:Heap}
abbrev nEnd:List Str:=["ups_of","left","kept"]
theorem scE:Zai nEnd ["ups_of"] (Zad Zfj):=⟨rfl,rfl,rfl,by decide +kernel,rfl,by decide +kernel,by decide +kernel⟩
theorem nd_wul:(["word","ups_of","left"]:List Str).Nodup:=by decide +kernel
theorem Zdp {rows:List (Str×List Str)}{x:Str}(h:x∈rows.map (·.1)):∃ r∈rows,r.1=x:=by
 obtain ⟨r,hr,e⟩:=List.mem_map.mp h
 exact ⟨r,hr,e⟩
theorem ok_endless {f fF:Addr}{fd fdF:FuncData}(F:Def K mg "endless" Zfj ["ups_of"] f fd) (DF:Def K mg "first_among" Zcg ["words","others"] fF fdF) (T:TxtK mg):Zar P w K mg base CX0 2 f fd ["ups_of"] spEndless:=by
 have GF:Zar P w K mg base CX0 1 fF fdF ["words","others"] (spFirst K):=ok_first DF
 refine F.fn.ok scE (fun vs H Q E h=>?_) (fun cdv A outer s H vs Q E hr h=>?_)
 ·obtain ⟨d,o,rows,kvs,rfl,_⟩:=h
  rfl
 ·obtain ⟨d,o,rows,kvs,rfl,bk,g,q⟩:=h
  have nd:=scE.nd
  have hu:=Zfp hr
  refine ⟨_,pS (Zag (i:=1) nd rfl (Or.inr rfl) (Zbd (Zfh rfl) (by rfl) T.list PyProof.Rows.boot_list (pC (pv 0) Zaa)))
   (Zac (ps_while PassesOwn.never (Zcz pe_bl)
    (pS (Zee (k:=2) ["word"] ["ups_of","left"] [0,1] nd rfl rfl (fun _=>Zax (osc:=Zad Zfj) (on:=nEnd) (by decide +kernel) rfl rfl rfl) (Za7 (pv 1)) (fun C s H fp=>Zah (i:=0) nd_wul rfl (Or.inl rfl) (Or.inr rfl))
     (fun C s H fp=>Zem (pt_cmp (pc_notN (Zae DF GF hr (pC (Zdk hu (pv 1) (pv 0) (fun _ _=>rfl)) (pC (pv 2) Zaa)))))) (fun C s H fp=>pv 0))
    (pS (Za4 (Zan Zec (Zam Zcs (by rfl) T.len PySem.boot_len (pC (pv 2) Zaa)) (Zam Zcs (by rfl) T.len PySem.boot_len (pC (pv 1) Zaa)) (Zau _)) (Zac (Zal (pv 2))) Zak)
    (Zac (Zag (i:=1) nd rfl (Or.inr rfl) (pv 2))))))),?_⟩
  have wl:(rows.map (·.1)).length≤24:=by rw [List.length_map];exact g.le
  refine ⟨_,rfl,d,kvs,rfl,.inr ⟨o,bk.at_⟩,fun l0 hl0=>?_⟩
  refine ⟨fun m σ H'=>∃ (ll:Addr) (ls:List Str) (c:Option V),σ=[some (.ref d),some (.ref ll),c]∧Zaj H H'∧H' ll=some (.lst (ls.map V.str))∧(∀ x∈ls,x∈rows.map (·.1))∧ls.length≤24∧m=ls.length,
   ⟨_,l0,rows.map (·.1),none,rfl,fun b o e=>by rw [Zab (nNo e hl0)];exact e,by rw [uS,keysV bk.ups],fun x h=>h,wl,rfl⟩,?_⟩
  rintro m σ H' ⟨ll,ls,c,rfl,s1,hll,hsub,h24,rfl⟩
  refine ⟨true,rfl,?_⟩
  refine iteT ⟨fun σ' H2=>∃ m',m'<ls.length∧∃ (ll:Addr) (ls:List Str) (c:Option V),σ'=[some (.ref d),some (.ref ll),c]∧Zaj H H2∧H2 ll=some (.lst (ls.map V.str))∧(∀ x∈ls,x∈rows.map (·.1))∧ls.length≤24∧m'=ls.length,fun _ _ h=>h,?_⟩
  refine ⟨_,rfl,ll,rfl,⟨_,SqL.of hll⟩,Zdc (Zat (xs:=ls.map V.str)) (sL (by rw [List.length_map];omega)) (keptV rows ls) (fun v=>v) (fun D ys hD=>SqL.of (by rw [Zab (nNo hll hD)];exact hll)) ?_ ?_ ?_⟩
  ·intro D ys v R hD hv hR
   obtain ⟨x,hx,rfl⟩:=List.mem_map.mp hv
   obtain ⟨r,hr',rfl⟩:=Zdp (hsub x hx)
   obtain ⟨t,hvt,ht⟩:=bk.ups.val g.nd hr'
   have kp:∀ b o,H b=some o→(upd H' D (.lst ys)) b=some o:=fun b o e=>by rw [Zab (nNo (s1 _ _ e) hD)];exact s1 _ _ e
   refine ⟨_,rfl,_,rfl,d,_,rfl,(by rw [← hvt];exact DGet.f (k:=Sum.inr r.1) (kp _ _ bk.at_)),_,rfl,t,ll,r.2,ls,rfl,SqT.of (kp _ _ ht),SqL.of (by rw [Zab (nNo hll hD)];exact hll),_,rfl,?_⟩
   have e:(!decide (foundV r.2 ls=V.non))=keptV rows ls (V.str r.1):=by
    rw [found_is]
    show _=(Zb2 rows r.1).any _
    rw [upsOf_at g.nd hr']
   rw [e]
   exact hR
  ·intro D ys v R hD hv _ hR
   exact ⟨_,rfl,hR⟩
  ·intro D hD
   rw [kept_map]
   have hDl:(upd H' D (.lst ((Graph.kept (Zb2 rows) ls).map V.str))) ll=some (.lst (ls.map V.str)):=by rw [Zab (nNo hll hD)];exact hll
   have s2:Zaj H (upd H' D (.lst ((Graph.kept (Zb2 rows) ls).map V.str))):=fun b o e=>by rw [Zab (nNo (s1 _ _ e) hD)];exact s1 _ _ e
   refine ⟨_,rfl,_,_,rfl,.inl ⟨_,SqL.of uS,rfl⟩,_,rfl,_,_,rfl,.inl ⟨_,SqL.of hDl,rfl⟩,rfl,_,rfl,?_⟩
   have kle:=Graph.kept_le (Zb2 rows) ls
   refine Zed (fun h=>?_) (fun h=>?_)
   ·have h:(Graph.kept (Zb2 rows) ls).length=ls.length:=by
     have:=of_decide_eq_true h
     injection this with this
     rw [List.length_map,List.length_map] at this
     omega
    obtain ⟨rk,hrk⟩:=g.rank
    have nil:ls=[]:=Graph.kept_nil (rk:=rk) (fun a ha b hb=>by
     obtain ⟨r,hr',rfl⟩:=Zdp (hsub a ha)
     rw [upsOf_at g.nd hr'] at hb
     exact hrk r hr' b hb) h
    have kn:Graph.kept (Zb2 rows) ls=[]:=by rw [nil];rfl
    refine ⟨_,rfl,q D _ s2 ?_⟩
    rw [uS,kn]
    rfl
   ·have h:(Graph.kept (Zb2 rows) ls).length≠ls.length:=fun z=>h (decide_eq_true (by rw [List.length_map,List.length_map,z]))
    exact ⟨_,rfl,_,by omega,D,_,_,rfl,s2,uS,fun x hx=>hsub x (Graph.kept_sub hx),by omega,rfl⟩
theorem scR:Zai ["ups_of","left","way","here"] ["ups_of"] (Zad Zfr):=⟨rfl,rfl,rfl,by decide +kernel,rfl,by decide +kernel,by decide +kernel⟩
theorem ok_ring {f fE fF:Addr}{fd fdE fdF:FuncData}(F:Def K mg "find_ring" Zfr ["ups_of"] f fd) (DE:Def K mg "endless" Zfj ["ups_of"] fE fdE) (DF:Def K mg "first_among" Zcg ["words","others"] fF fdF) (T:TxtK mg):Zar P w K mg base CX0 3 f fd ["ups_of"] spRing:=by
 have GE:Zar P w K mg base CX0 2 fE fdE ["ups_of"] spEndless:=ok_endless DE DF T
 refine F.fn.ok scR (fun vs H Q E h=>?_) (fun cdv A outer s H vs Q E hr h=>?_)
 ·obtain ⟨d,o,rows,kvs,rfl,_⟩:=h
  rfl
 ·obtain ⟨d,o,rows,kvs,rfl,bk,g,q⟩:=h
  have nd:=scR.nd
  refine ⟨_,pS (Zag (i:=1) nd rfl (Or.inl rfl) (Zae DE GE hr (pC (pv 0) Zaa)))
   (pS (Za4 (Zc8 (pt_truth (pv 1) (fun _=>rfl))) (Zac (Zal pe_non)) Zak) Za5),?_⟩
  refine ⟨_,rfl,d,o,rows,kvs,rfl,bk,g,fun l H' s1 hl=>?_⟩
  exact ⟨_,rfl,false,.inl ⟨[],SqL.of hl,rfl⟩,iteT (q H' s1)⟩
def inK (x:Str):Key:=Sum.inr x
def spAbove:Sp:=fun vs H Q _=>∃ (d:Addr) (o:Obj) (rows:List (Str×List Str)) (kvs:List (Key×V)) (x:Str),vs=[.ref d,.str x]∧BookD H d o rows kvs∧Zcr rows∧x∈rows.map (·.1) ∧
 ∀ a o' fk H',H a=none→Zaj H H'→H' a=some (.frz o' (.dK fk))→(∀ y,(Sum.inr y:Key)∈fk.map (·.1)↔Graph.Reach (Zb2 rows) x y)→Q (.ref a) H'
structure Going (rows:List (Str×List Str)) (x:Str) (fs ws:List Str):Prop where
 start:x∈fs
 sub:∀ y∈ws,y∈fs
 known:∀ y∈fs,y∈rows.map (·.1)
 nd:fs.Nodup
 reach:∀ y∈fs,Graph.Reach (Zb2 rows) x y
 closed:∀ y∈fs,y∉ws→∀ u∈Zb2 rows y,u∈fs
 few:ws.length≤fs.length
theorem scA:Zai ["ups_of","word","found","waiting","here","up"] ["ups_of","word"] (Zad Zft):=⟨rfl,rfl,rfl,by decide +kernel,rfl,by decide +kernel,by decide +kernel⟩
theorem keys_strs {fk:List (Key×V)}{fs:List Str}(h:fk.map (·.1)=fs.map inK) (y:Str):(Sum.inr y:Key)∈fk.map (·.1)↔y∈fs:=by
 rw [h]
 constructor
 ·intro m
  obtain ⟨z,hz,e⟩:=List.mem_map.mp m
  have e:z=y:=by
   unfold inK at e
   injection e
  rw [← e];exact hz
 ·intro m
  exact List.mem_map.mpr ⟨y,m,rfl⟩
theorem Zeh {fk:List (Key×V)}{k:Key}(h:k∈fk.map (·.1)):(Zet fk k).isSome=true:=by
 cases e:Zet fk k with
 | none=>exact absurd h (valV_not e)
 | some v=>rfl
theorem ok_above {f:Addr}{fd:FuncData}(F:Def K mg "all_above" Zft ["ups_of","word"] f fd):Zar P w K mg base CX0 1 f fd ["ups_of","word"] spAbove:=by
 refine F.fn.ok scA (fun vs H Q E h=>?_) (fun cdv A outer s H vs Q E hr h=>?_)
 ·obtain ⟨d,o,rows,kvs,x,rfl,_⟩:=h
  rfl
 ·obtain ⟨d,o,rows,kvs,x,rfl,bk,g,hx,q⟩:=h
  have nd:=scA.nd
  have hu:=Zfp hr
  refine ⟨_,pS (Zag (i:=2) nd rfl (Or.inl rfl) (pe_disp (pps_cons (pv 1) pe_bl pps_nil) rfl rfl (by simp) (by show 1≤15;decide)))
   (pS (Zag (i:=3) nd rfl (Or.inl rfl) (Zbn (pC (pv 1) Zaa)))
   (pS (ps_while PassesOwn.never (pt_truth (pv 3) (fun _=>rfl))
    (pS (Zag (i:=4) nd rfl (Or.inl rfl) (pe_bm0 PySem.F.plainAttrs_list PySem.F.slot_list_pop PySem.F.type_list_pop mt_pop (pv 3)))
    (Zac (Za8 PassesOwn.never rfl (pi_tup (Zdk hu (pv 0) (pv 4) (fun _ _=>rfl))) (Zah (i:=5) nd rfl (Or.inl rfl))
     (Zac (Za4 (pt_cmp (pc_dnotin hu (pv 5) (pv 2))) (pS (Zen hu (pv 2) (pv 5) pe_bl rfl)
      (Zac (Za3 (Zfo PySem.F.plainAttrs_list PySem.F.slot_list_append PySem.F.type_list_append Zbv (pv 3) (pC (pv 5) Zaa))))) Zak))))))
   (pss_frz (Zac (Zal (pv 2)))))),?_⟩
  intro fa hfa
  refine ⟨_,rfl,uS,[(Sum.inr x,.bl true)],rfl,(by show 1≤15;decide),?_⟩
  rw [upd_upd]
  refine ⟨_,rfl,sL (by show 1≤100000;decide),fun wa hwa=>?_⟩
  have fw:fa≠wa:=nNo uS hwa
  have hwaH:H wa=none:=by
   cases e:H wa with
   | none=>rfl
   | some u=>rw [Zab (Ne.symm fw),e] at hwa;cases hwa
  have bound:∀ {fs ws:List Str},Going rows x fs ws→fs.length≤rows.length:=fun {fs ws} h=>by
   have:=Graph.nodup_le h.nd h.known
   rwa [List.length_map] at this
  have gle:=g.le
  refine ⟨fun m σ H'=>∃ (fs ws:List Str) (fk:List (Key×V)) (a b:Option V),σ=[some (.ref d),some (.str x),some (.ref fa),some (.ref wa),a,b]∧Zaj H H'∧H' fa=some (.dK fk)∧fk.map (·.1)=fs.map inK∧H' wa=some (.lst (ws.map V.str))∧Going rows x fs ws∧m + 2 * fs.length=2 * rows.length + ws.length,
   ⟨2 * rows.length - 1,[x],[x],[(Sum.inr x,.bl true)],none,none,rfl,fun b o e=>by rw [Zab (nNo e hwaH),Zab (nNo e hfa)];exact e,by rw [Zab fw];exact uS,rfl,uS,
    ⟨by simp,fun y h=>h,fun y h=>by rw [List.mem_singleton.mp h];exact hx,by simp,fun y h=>by rw [List.mem_singleton.mp h];exact .refl x,fun y h n=>absurd h n,Nat.le_refl _⟩,by have:=g.ne;simp;omega⟩,?_⟩
  rintro m σ H' ⟨fs,ws,fk,a,b,rfl,s1,hf,hk,hw,go,hm⟩
  have flen:=bound go
  refine ⟨_,rfl,_,.inl ⟨_,SqL.of hw,rfl⟩,?_⟩
  refine Zed (fun hne=>?_) (fun hne=>?_)
  ·-- here=waiting.pop()
   have wne:ws≠[]:=by
    intro z
    rw [z] at hne
    cases hne
   have hpos:0<ws.length:=List.length_pos_iff.mpr wne
   have split:ws=ws.dropLast++[ws.getLast wne]:=(List.dropLast_concat_getLast wne).symm
   generalize hhere:ws.getLast wne=here at split
   have hmem:here∈ws:=by rw [split];simp
   have hfs:here∈fs:=go.sub here hmem
   obtain ⟨r,hr',er⟩:=Zdp (go.known here hfs)
   obtain ⟨t,hvt,ht⟩:=bk.ups.val g.nd hr'
   have last:(ws.map V.str)[(ws.map V.str).length - 1]?=some (V.str here):=by
    rw [List.getElem?_map,List.length_map]
    have:ws[ws.length - 1]?=some here:=by
     rw [← hhere,List.getLast_eq_getElem,List.getElem?_eq_getElem (by omega)]
    rw [this]
    rfl
   refine ⟨fun σ' H2=>∃ m',m'<m∧∃ (fs ws:List Str) (fk:List (Key×V)) (a b:Option V),σ'=[some (.ref d),some (.str x),some (.ref fa),some (.ref wa),a,b]∧Zaj H H2∧H2 fa=some (.dK fk)∧fk.map (·.1)=fs.map inK∧H2 wa=some (.lst (ws.map V.str))∧Going rows x fs ws∧m' + 2 * fs.length=2 * rows.length + ws.length,fun _ _ h=>h,?_⟩
   refine ⟨_,rfl,.inl ⟨rfl,_,SqL.of hw⟩,wa,_,_,rfl,rfl,hw,last,?_⟩
   have s2:Zaj H (upd H' wa (.lst (ws.map V.str).dropLast)):=fun b o e=>by rw [Zab (nNo e hwaH)];exact s1 _ _ e
   refine ⟨_,rfl,_,rfl,d,_,rfl,(by rw [← hvt,er];exact DGet.f (k:=Sum.inr here) (s2 _ _ bk.at_)),t,rfl,⟨_,SqT.of (s2 _ _ ht)⟩,?_⟩
   have uo:Zb2 rows here=r.2:=by rw [← er];exact upsOf_at g.nd hr'
   refine Zaq (Zc7 (xs:=r.2.map V.str)) (fun j σ H2=>∃ (fs' ws':List Str) (fk':List (Key×V)) (b:Option V),σ=[some (.ref d),some (.str x),some (.ref fa),some (.ref wa),some (.str here),b]∧Zaj H H2∧H2 fa=some (.dK fk')∧fk'.map (·.1)=fs'.map inK∧H2 wa=some (.lst (ws'.map V.str)) ∧
    (∀ y∈fs,y∈fs')∧(∀ y∈ws.dropLast,y∈ws')∧(∀ y∈ws',y∈fs')∧(∀ y∈fs',y∈rows.map (·.1))∧fs'.Nodup∧(∀ y∈fs',Graph.Reach (Zb2 rows) x y)∧(∀ y∈fs',y∈fs∨y∈ws')∧(∀ u∈r.2.take j,u∈fs')∧ws'.length + 2 * fs.length + fs'.length≤ws.dropLast.length + 2 * fs'.length + fs.length)
    ⟨fs,ws.dropLast,fk,_,rfl,s2,by rw [Zab fw];exact hf,hk,by rw [uS,List.map_dropLast],fun y h=>h,fun y h=>h,fun y h=>go.sub y ((List.dropLast_sublist ws).subset h),go.known,go.nd,go.reach,fun y h=>.inl h,fun u h=>by simp at h,by omega⟩ (fun j σ H2 _ ⟨_,_,_,_,_,s,_⟩=>SqT.of (s _ _ ht)) ?_ ?_
   ·rintro j v σ H2 hj ⟨fs',ws',fk',b,rfl,s3,hf3,hk3,hw3,c1,c2,c3,c4,c5,c6,c7,c8,c9⟩
    obtain ⟨u,hu',rfl⟩:=strs_at hj
    have um:u∈r.2:=List.mem_of_getElem? hu'
    have fl3:fs'.length≤rows.length:=by
     have:=Graph.nodup_le c5 c4
     rwa [List.length_map] at this
    have kl:fk'.length=fs'.length:=by have:=congrArg List.length hk3;simpa using this
    refine ⟨_,rfl,_,rfl,fa,_,rfl,DGet.k (k:=Sum.inr u) hf3,_,rfl,?_⟩
    have dl:ws.dropLast.length=ws.length - 1:=List.length_dropLast
    have gf:=go.few
    by_cases nin:u∉fs'
    ·have nk:(Sum.inr u:Key)∉fk'.map (·.1):=fun z=>nin ((keys_strs hk3 u).mp z)
     have wl3:ws'.length≤rows.length * 3:=by omega
     rw [Zb8 nk]
     refine iteT ?_
     refine ⟨_,rfl,_,rfl,fa,_,rfl,DPut.k (k:=Sum.inr u) hf3 (Za1 (by omega)),?_⟩
     have hw4:(upd H2 fa (.dK (Zdj fk' (Sum.inr u) (.bl true)))) wa=some (.lst (ws'.map V.str)):=by rw [Zab (Ne.symm fw)];exact hw3
     refine ⟨_,rfl,.inl ⟨rfl,_,SqL.of hw4⟩,_,rfl,wa,_,_,rfl,rfl,hw4,Za1 (by rw [List.length_map];omega),?_⟩
     refine ⟨fs'++[u],ws'++[u],Zdj fk' (Sum.inr u) (.bl true),_,rfl,fun b o e=>by rw [Zab (nNo e hwaH),Zab (nNo e hfa)];exact s3 _ _ e,by rw [Zab fw];exact uS,?_,by rw [uS,List.map_append];rfl,fun y h=>List.mem_append_left _ (c1 y h),fun y h=>List.mem_append_left _ (c2 y h),fun y h=>?_,fun y h=>?_,?_,fun y h=>?_,fun y h=>?_,fun y h=>?_,?_⟩
     ·rw [putK_keys nk,hk3,List.map_append]
      rfl
     ·rcases List.mem_append.mp h with h | h
      ·exact List.mem_append_left _ (c3 y h)
      ·exact List.mem_append_right _ h
     ·rcases List.mem_append.mp h with h | h
      ·exact c4 y h
      ·rw [List.mem_singleton.mp h];exact g.known r hr' u um
     ·rw [List.nodup_append]
      exact ⟨c5,by simp,fun a ha b hb e=>nin (by rw [← List.mem_singleton.mp hb,← e];exact ha)⟩
     ·rcases List.mem_append.mp h with h | h
      ·exact c6 y h
      ·rw [List.mem_singleton.mp h];exact (go.reach here hfs).snoc (by rw [uo];exact um)
     ·rcases List.mem_append.mp h with h | h
      ·rcases c7 y h with h | h
       ·exact .inl h
       ·exact .inr (List.mem_append_left _ h)
      ·exact .inr (List.mem_append_right _ h)
     ·rw [List.take_add_one,hu'] at h
      rcases List.mem_append.mp h with h | h
      ·exact List.mem_append_left _ (c8 y h)
      ·have:y=u:=by simpa using h
       rw [this];exact List.mem_append_right _ (by simp)
     ·rw [List.length_append,List.length_append]
      simp only [List.length_singleton]
      omega
    ·have yin:u∈fs':=Classical.byContradiction nin
     rw [Zeh ((keys_strs hk3 u).mpr yin)]
     refine Zdv ?_
     refine ⟨fs',ws',fk',_,rfl,s3,hf3,hk3,hw3,c1,c2,c3,c4,c5,c6,c7,fun y h=>?_,c9⟩
     rw [List.take_add_one,hu'] at h
     rcases List.mem_append.mp h with h | h
     ·exact c8 y h
     ·have:y=u:=by simpa using h
      rw [this];exact yin
   ·rintro σ H2 ⟨fs',ws',fk',b,rfl,s3,hf3,hk3,hw3,c1,c2,c3,c4,c5,c6,c7,c8,c9⟩
    rw [List.length_map,List.take_length] at c8
    have fl3:fs'.length≤rows.length:=by
     have:=Graph.nodup_le c5 c4
     rwa [List.length_map] at this
    have dl:ws.dropLast.length=ws.length - 1:=List.length_dropLast
    have fle:fs.length≤fs'.length:=Graph.nodup_le go.nd c1
    have gf:=go.few
    refine ⟨2 * rows.length + ws'.length - 2 * fs'.length,by omega,fs',ws',fk',_,_,rfl,s3,hf3,hk3,hw3,⟨c1 x go.start,c3,c4,c5,c6,fun y hy hn u hu'=>?_,by omega⟩,by omega⟩
    rcases c7 y hy with hy' | hy'
    ·by_cases yh:y=here
     ·rw [yh,uo] at hu'
      exact c8 u hu'
     ·have nw:y∉ws:=fun z=>by
       rw [split] at z
       rcases List.mem_append.mp z with z | z
       ·exact hn (c2 y z)
       ·exact yh (List.mem_singleton.mp z)
      exact c1 u (go.closed y hy' nw u hu')
    ·exact absurd hy' hn
  ·have wnil:ws=[]:=by
    cases ws with
    | nil=>rfl
    | cons y r=>exact absurd rfl hne
   refine ⟨fa,fk,hf,fun o'=>⟨_,rfl,q fa o' fk _ hfa (fun b o e=>by rw [Zab (nNo e hfa)];exact s1 _ _ e) uS fun y=>?_⟩⟩
   rw [keys_strs hk y]
   constructor
   ·exact fun h=>go.reach y h
   ·intro h
    refine Graph.closed_reach (S:=fun y=>y∈fs) (fun y hy u hu'=>go.closed y hy (by rw [wnil];simp) u hu') h go.start
end
end K68
namespace K68
open PySem L2 Md
theorem fne:¬ (("ups_of":Str)="above_of"):=by decide +kernel
def flds (d a:Addr):List (Str×V):=putF "above_of" (.ref a) (putF "ups_of" (.ref d) [])
theorem flds_u (d a:Addr):(flds d a).lookup ("ups_of":Str)=some (.ref d):=by
 unfold flds
 rw [Zap,if_neg fne,Zap,if_pos rfl]
theorem flds_a (d a:Addr):(flds d a).lookup ("above_of":Str)=some (.ref a):=by
 unfold flds
 rw [Zap,if_pos rfl]
theorem flds_no (d a:Addr) {m:Str} (h1:¬ m="above_of") (h2:¬ m="ups_of"):(flds d a).lookup m=none:=by
 unfold flds
 rw [Zap,if_neg h1,Zap,if_neg h2]
 rfl
def AboveD (H:Hp) (all rows:List (Str×List Str)) (avs:List (Key×V)):Prop :=
 Paired (fun r (p:Key×V)=>p.1=Sum.inr r.1∧∃ t o' fk,p.2=.ref t∧H t=some (.frz o' (.dK fk))∧∀ y,(Sum.inr y:Key)∈fk.map (·.1)↔Graph.Reach (Zb2 all) r.1 y) rows avs
theorem AboveD.mono {H H':Hp}{all rows:List (Str×List Str)}{avs:List (Key×V)}(h:AboveD H all rows avs) (s:∀ b o' fk,H b=some (.frz o' (.dK fk))→H' b=some (.frz o' (.dK fk))):AboveD H' all rows avs :=
 Paired.mapP h fun _ _ z=>⟨z.1,let ⟨t,o',fk,e,x,y⟩:=z.2;⟨t,o',fk,e,s _ _ _ x,y⟩⟩
theorem AboveD.keys:∀ {H:Hp}{all rows:List (Str×List Str)}{kvs:List (Key×V)},AboveD H all rows kvs→kvs.map (·.1)=rows.map fun r=>(Sum.inr r.1:Key)
 | _,_,_,_,.nil=>rfl
 | _,_,_,_,.cons r t=>by rw [List.map_cons,List.map_cons,r.1,AboveD.keys t]
theorem AboveD.val:∀ {H:Hp}{all rows:List (Str×List Str)}{kvs:List (Key×V)},AboveD H all rows kvs→(rows.map (·.1)).Nodup→∀ {r:Str×List Str},r∈rows→∃ t o' fk,Zet kvs (Sum.inr r.1)=some (.ref t)∧H t=some (.frz o' (.dK fk))∧∀ y,(Sum.inr y:Key)∈fk.map (·.1)↔Graph.Reach (Zb2 all) r.1 y
 | _,_,_,_,.nil,_,r,h=>nomatch h
 | _,_,q :: rs,p :: ps,.cons z t,nd,r,h=>by
  have nd':(q.1 :: rs.map (·.1)).Nodup:=nd
  obtain ⟨n1,n2⟩:=List.nodup_cons.mp nd'
  obtain ⟨z1,u,o',fk,z2,z3,z4⟩:=z
  rcases List.mem_cons.mp h with e | h
  ·subst e
   exact ⟨u,o',fk,by rw [Zb4 z1,z2],z3,z4⟩
  ·have ne:¬ p.1=(Sum.inr r.1:Key):=fun e=>n1 (by
    rw [z1] at e
    have e':q.1=r.1:=by injection e
    rw [e']
    exact List.mem_map.mpr ⟨r,h,rfl⟩)
   obtain ⟨u',o'',fk',h1,h2⟩:=AboveD.val t n2 h
   exact ⟨u',o'',fk',by rw [Zb5 ne];exact h1,h2⟩
structure Zbo (C:Addr) (H:Hp) (p:Addr) (rows:List (Str×List Str)):Prop where
 ex:∃ (dx d a:Addr) (o oa:Obj) (kvs avs:List (Key×V)),H p=some (.ins C dx (flds d a))∧BookD H d o rows kvs∧H a=some (.frz oa (.dK avs))∧AboveD H rows rows avs
theorem Zbo.mono {C:Addr}{H H':Hp}{p:Addr}{rows:List (Str×List Str)}(h:Zbo C H p rows) (s:Zaj H H'):Zbo C H' p rows:=by
 obtain ⟨dx,d,a,o,oa,kvs,avs,h1,h2,h3,h4⟩:=h.ex
 exact ⟨dx,d,a,o,oa,kvs,avs,s _ _ h1,h2.mono s,s _ _ h3,h4.mono fun _ _ _ e=>s _ _ e⟩
structure TxtC (K:W.Frag) (C:Addr):Prop where
 cl:Cls K C
 nU:Zfa K C "ups_of"
 nA:Zfa K C "above_of"
structure MDef (K:W.Frag) (C:Addr) (m qual:Str) (st:Stmt) (ps:List Str) (f:Addr) (fd:FuncData):Prop where
 fn:Fun K m qual st f fd
 b:Zes K fd ps []
 me:Meth K C m f
def spInit (K:W.Frag) (C:Addr):Sp:=fun vs H Q _=>∃ (p dx l:Addr) (rows:List (Str×List Str)),vs=[.ref p,.ref l]∧H p=some (.ins C dx [])∧RowsG K H l rows∧Zcr rows ∧
 ∀ H',Zbo C H' p rows→(∀ b o,b≠p→H b=some o→H' b=some o)→Q .non H'
def spCheck (C:Addr):Sp:=fun vs H Q _=>∃ (p:Addr) (rows:List (Str×List Str)) (x:Str),vs=[.ref p,.str x]∧Zbo C H p rows∧Zcr rows∧x∈rows.map (·.1)∧Q .non H
def spHas (C:Addr):Sp:=fun vs H Q _=>∃ (p:Addr) (rows:List (Str×List Str)) (x:Str),vs=[.ref p,.str x]∧Zbo C H p rows∧Zcr rows∧Q (.bl (decide (x∈rows.map (·.1)))) H
def spWordsOf (C:Addr):Sp:=fun vs H Q _=>∃ (p:Addr) (rows:List (Str×List Str)),vs=[.ref p]∧Zbo C H p rows∧Zcr rows∧∀ l,H l=none→Q (.ref l) (upd H l (.lst ((rows.map (·.1)).map V.str)))
noncomputable def Zcy (rows:List (Str×List Str)) (x y:Str):Bool:=@decide (Graph.Reach (Zb2 rows) x y) (Classical.propDecidable _)
noncomputable def spUnder (C:Addr):Sp:=fun vs H Q _=>∃ (p:Addr) (rows:List (Str×List Str)) (x y:Str),vs=[.ref p,.str x,.str y]∧Zbo C H p rows∧Zcr rows∧x∈rows.map (·.1)∧y∈rows.map (·.1)∧Q (.bl (Zcy rows x y)) H
section
variable {P:Program} {w:World} {K:W.Frag} {mg:Str→Option Value} {base:Heap}
theorem scI:Zai ["self","rows","ups_of","word","ups","ring","above_of"] ["self","rows"] (Zad Zd1):=⟨rfl,rfl,rfl,by decide +kernel,rfl,by decide +kernel,by decide +kernel⟩
theorem ok_init {f C f1 f2 f3 f4 f5 f6 f7:Addr}{fd d1 d2 d3 d4 d5 d6 d7:FuncData}(F:Fun K "__init__" "Kinds.__init__" Zd1 f fd) (T:TxtK mg) (TC:TxtC K C) (D1:Def K mg "check_rows" Zev ["rows"] f1 d1) (D2:Def K mg "is_word" Zej ["text"] f2 d2)
  (D3:Def K mg "check_ups" Zfs ["ups_of"] f3 d3) (D4:Def K mg "find_ring" Zfr ["ups_of"] f4 d4) (D5:Def K mg "endless" Zfj ["ups_of"] f5 d5) (D6:Def K mg "first_among" Zcg ["words","others"] f6 d6) (D7:Def K mg "all_above" Zft ["ups_of","word"] f7 d7):
  Zar P w K mg base CX0 4 f fd ["self","rows"] (spInit K C):=by
 have G1:Zar P w K mg base CX0 2 f1 d1 ["rows"] (spCheckRows K):=ok_check_rows D1 D2 T
 have G3:Zar P w K mg base CX0 1 f3 d3 ["ups_of"] spCheckUps:=ok_check_ups D3
 have G4:Zar P w K mg base CX0 3 f4 d4 ["ups_of"] spRing:=ok_ring D4 D5 D6 T
 have G7:Zar P w K mg base CX0 1 f7 d7 ["ups_of","word"] spAbove:=ok_above D7
 refine F.ok scI (fun vs H Q E h=>?_) (fun cdv A outer s H vs Q E hr h=>?_)
 ·obtain ⟨p,dx,l,rows,rfl,_⟩:=h
  rfl
 ·obtain ⟨p,dx,l,rows,rfl,hp,hR,g,q⟩:=h
  have nd:=scI.nd
  have hu:=Zfp hr
  have hr1:Zcm 1 _:=hr.mono (by decide)
  have hr2:Zcm 2 _:=hr.mono (by decide)
  refine ⟨_,pS (Za3 (Zae D1 G1 hr2 (pC (pv 1) Zaa)))
   (pS (Zag (i:=2) nd rfl (Or.inl rfl) Zeb)
   (pS (Za8 PassesOwn.never rfl (pi_seq (pv 1)) (pg_tup rfl (gC (Zah (i:=3) nd rfl (Or.inl rfl)) (gC (Zah (i:=4) nd rfl (Or.inl rfl)) Zd3)))
    (Zac (Zen hu (pv 2) (pv 3) (Zbd Zbe (by rfl) T.tuple PyProof.Rows.boot_tuple (pC (pv 4) Zaa)) rfl)))
   (pss_frz (pS (Za3 (Zae D3 G3 hr1 (pC (pv 2) Zaa)))
   (pS (Zag (i:=5) nd rfl (Or.inl rfl) (Zae D4 G4 hr (pC (pv 2) Zaa)))
   (pS (Za4 (pt_cmp (pc_notN (pv 5))) Za5 Zak)
   (pS (Zag (i:=6) nd rfl (Or.inl rfl) Zeb)
   (pS (Za8 PassesOwn.never rfl (pi_keys (pv 2)) (Zah (i:=3) nd rfl (Or.inl rfl)) (Zac (Zen hu (pv 6) (pv 3) (Zae D7 G7 hr1 (pC (pv 2) (pC (pv 3) Zaa))) rfl)))
   (pss_frz (pS (ps_fld (pv 0) (pv 2) rfl) (Zac (ps_fld (pv 0) (pv 6) rfl)))))))))))),?_⟩
  refine ⟨_,rfl,l,rows,rfl,hR,g,fun H1 s1=>?_⟩
  intro d hd
  have s2:Zaj H (upd H1 d (.dK [])):=fun b o e=>by rw [Zab (nNo (s1 _ _ e) hd)];exact s1 _ _ e
  obtain ⟨b,vs,hl,hpr⟩:=hR
  refine ⟨_,rfl,b,l,vs,rfl,hl.mono s2,Zaq Zfw (fun i σ H'=>∃ (kvs:List (Key×V)) (a c:Option V),σ=[some (.ref p),some (.ref l),some (.ref d),a,c,none,none]∧Zaj H H'∧H' d=some (.dK kvs)∧UpsD H' (rows.take i) kvs)
   ⟨[],none,none,rfl,s2,uS,by rw [List.take_zero];exact .nil⟩ (fun i σ H' _ ⟨_,_,_,_,s,_⟩=>hl.mono s) ?_ ?_⟩
  ·rintro i v σ H' hi ⟨kvs,a,c,rfl,s3,hdk,hU⟩
   obtain ⟨r,hr',t,u,rfl,ht,hug⟩:=Zas hpr hi
   have dH:H d=none:=s1.free hd
   refine ⟨t,_,rfl,s3.tup ht,rfl,_,_,rfl,_,_,rfl,rfl,?_⟩
   have hnew:(Sum.inr r.1:Key)∉kvs.map (·.1):=by rw [hU.keys];exact taken_not g.nd hr'
   have hil:(rows.take i).length≤24:=by rw [List.length_take];have:=g.le;omega
   have hkl:kvs.length=(rows.take i).length:=(Paired.length hU).symm
   have fin:∀ (t2:Addr) (H2:Hp),Zaj H' H2→H2 t2=some (.tup (r.2.map V.str))→∃ (kvs':List (Key×V)) (a c:Option V),[some (V.ref p),some (V.ref l),some (V.ref d),some (V.str r.1),some (V.ref u),none,none]=[some (V.ref p),some (V.ref l),some (V.ref d),a,c,none,none]∧Zaj H (upd H2 d (.dK (Zdj kvs (Sum.inr r.1) (.ref t2)))) ∧
     (upd H2 d (.dK (Zdj kvs (Sum.inr r.1) (.ref t2)))) d=some (.dK kvs')∧UpsD (upd H2 d (.dK (Zdj kvs (Sum.inr r.1) (.ref t2)))) (rows.take (i + 1)) kvs':=fun t2 H2 s4 ht2=>by
    have d2:=s4 _ _ hdk
    have tk:∀ b xs,H2 b=some (.tup xs)→(upd H2 d (.dK (Zdj kvs (Sum.inr r.1) (.ref t2)))) b=some (.tup xs):=fun b xs e=>by
     rw [Zab (fun z=>by rw [z,d2] at e;cases e)];exact e
    refine ⟨_,_,_,rfl,fun b o e=>by rw [Zab (nNo e dH)];exact s4 _ _ (s3 _ _ e),uS,?_⟩
    have sn:UpsD (upd H2 d (.dK (Zdj kvs (Sum.inr r.1) (.ref t2)))) (rows.take i++[r]) (kvs++[(Sum.inr r.1,V.ref t2)]):=Paired.snoc ((hU.mono fun b xs e=>s4 _ _ e).mono tk) ⟨rfl,t2,rfl,tk t2 _ ht2⟩
    rw [← Zfx _ (Zb8 hnew)] at sn
    rw [List.take_add_one,hr']
    exact sn
   rcases hug with hug | hug
   ·refine ⟨_,rfl,u,_,rfl,.inr ⟨SqT.of (s3 _ _ hug),_,rfl,_,rfl,d,_,rfl,DPut.k (k:=Sum.inr r.1) hdk (Za1 (by omega)),fin u H' (Zaj.refl _) (s3 _ _ hug)⟩⟩
   ·refine ⟨_,rfl,u,_,rfl,.inl ⟨s3.seq hug,fun t2 ht2=>?_⟩⟩
    have s4:Zaj H' (upd H' t2 (.tup (r.2.map V.str))):=fun b o e=>by rw [Zab (nNo e ht2)];exact e
    exact ⟨_,rfl,_,rfl,d,_,rfl,DPut.k (k:=Sum.inr r.1) (s4 _ _ hdk) (Za1 (by omega)),fin t2 _ s4 uS⟩
  ·rintro σ H2 ⟨kvs,a,c,rfl,s3,hdk,hU⟩
   have hvl:=hpr.length
   rw [← hvl,List.take_length] at hU
   refine ⟨d,kvs,hdk,fun o=>?_⟩
   have dH:H d=none:=s1.free hd
   have s4:Zaj H (upd H2 d (.frz o (.dK kvs))):=fun b u e=>by rw [Zab (nNo e dH)];exact s3 _ _ e
   have bk:BookD (upd H2 d (.frz o (.dK kvs))) d o rows kvs:=⟨uS,hU.mono fun b xs e=>by rw [Zab (fun z=>by rw [z,hdk] at e;cases e)];exact e⟩
   refine ⟨_,rfl,d,o,rows,kvs,rfl,bk,g,fun H5 s5=>?_⟩
   refine ⟨_,rfl,d,o,rows,kvs,rfl,bk.mono s5,g,fun H6 s6=>?_⟩
   refine ⟨_,rfl,_,rfl,Zdv ?_⟩
   have s56:=s5.trans s6
   have bk6:=bk.mono s56
   have s7:Zaj H H6:=s4.trans s56
   intro aa haa
   have s8:Zaj H (upd H6 aa (.dK [])):=fun b u e=>by rw [Zab (nNo (s7 _ _ e) haa)];exact s7 _ _ e
   have s68:Zaj H6 (upd H6 aa (.dK [])):=fun b u e=>by rw [Zab (nNo e haa)];exact e
   refine ⟨_,rfl,d,o,kvs,rfl,(bk6.mono s68).at_,Zaq runs_keys (fun i σ H'=>∃ (avs:List (Key×V)) (a b c:Option V),σ=[some (.ref p),some (.ref l),some (.ref d),a,b,c,some (.ref aa)]∧Zaj H H'∧BookD H' d o rows kvs∧H' aa=some (.dK avs)∧AboveD H' rows (rows.take i) avs)
    ⟨[],_,_,_,rfl,s8,bk6.mono s68,uS,by rw [List.take_zero];exact .nil⟩ (fun i σ H' _ ⟨_,_,_,_,_,_,b,_⟩=>b.at_) ?_ ?_⟩
   ·rintro i v σ H' hi ⟨avs,a,b,c,rfl,s9,bk9,haa9,hA⟩
    rw [List.getElem?_map] at hi
    obtain ⟨pr,hpr',e⟩:=Option.map_eq_some_iff.mp hi
    obtain ⟨r,hr',hk,_⟩:=Zas bk9.ups hpr'
    have hmem:r∈rows:=List.mem_of_getElem? hr'
    have ev:v=.str r.1:=by rw [← e,hk];rfl
    subst ev
    have aaH:H aa=none:=s7.free haa
    refine ⟨_,rfl,_,rfl,d,o,rows,kvs,r.1,rfl,bk9,g,List.mem_map.mpr ⟨r,hmem,rfl⟩,fun x o' fk H10 hx s10 hxk hreach=>?_⟩
    have hnew:(Sum.inr r.1:Key)∉avs.map (·.1):=by rw [hA.keys];exact taken_not g.nd hr'
    have hil:(rows.take i).length≤24:=by rw [List.length_take];have:=g.le;omega
    have hkl:avs.length=(rows.take i).length:=(Paired.length hA).symm
    have aa10:=s10 _ _ haa9
    refine ⟨_,rfl,_,rfl,aa,_,rfl,DPut.k (k:=Sum.inr r.1) aa10 (Za1 (by omega)),?_⟩
    have kp:∀ b u,b≠aa→H10 b=some u→(upd H10 aa (.dK (Zdj avs (Sum.inr r.1) (.ref x)))) b=some u:=fun b u hb e=>by rw [Zab hb];exact e
    refine ⟨_,_,_,_,rfl,fun b u e=>kp b u (nNo e aaH) (s10 _ _ (s9 _ _ e)),⟨kp _ _ (fun z=>?_) (s10 _ _ bk9.at_),(bk9.ups.mono fun b xs e=>s10 _ _ e).mono fun b xs e=>kp _ _ (fun z=>by rw [z,aa10] at e;cases e) e⟩,uS,?_⟩
    ·have:=bk9.at_
     rw [z,haa9] at this
     cases this
    ·rw [Zfx _ (Zb8 hnew),List.take_add_one,hr']
     have fz:∀ b o'' fk',H10 b=some (.frz o'' (.dK fk'))→(upd H10 aa (.dK (avs++[(Sum.inr r.1,V.ref x)]))) b=some (.frz o'' (.dK fk')):=fun b o'' fk' e=>by rw [Zab (fun z=>by rw [z,aa10] at e;cases e)];exact e
     exact Paired.snoc ((hA.mono fun b o'' fk' e=>s10 _ _ e).mono fz) ⟨rfl,x,o',fk,rfl,fz _ _ _ hxk,hreach⟩
   ·rintro σ H' ⟨avs,a,b,c,rfl,s9,bk9,haa9,hA⟩
    have hkv:kvs.length=rows.length:=(Paired.length bk9.ups).symm
    rw [List.length_map,hkv,List.take_length] at hA
    have aaH:H aa=none:=s7.free haa
    refine ⟨aa,avs,haa9,fun oa=>?_⟩
    have hp9:H' p=some (.ins C dx []):=s9 _ _ hp
    have pa:p≠aa:=nNo hp aaH
    have pd:p≠d:=nNo hp dH
    have da:d≠aa:=fun z=>by have:=bk9.at_;rw [z,haa9] at this;cases this
    refine ⟨_,rfl,_,rfl,p,C,dx,[],rfl,(by rw [Zab pa];exact hp9),TC.cl,TC.nU,(by show 0<1000;decide),_,rfl,_,rfl,p,C,dx,_,rfl,uS,TC.cl,TC.nA,(by show 1<1000;decide),?_⟩
    rw [upd_upd]
    have kp:∀ b u,b≠p→b≠aa→H' b=some u→(upd (upd H' aa (.frz oa (.dK avs))) p (.ins C dx (flds d aa))) b=some u:=fun b u h1 h2 e=>by rw [Zab h1,Zab h2];exact e
    refine q _ ⟨dx,d,aa,o,oa,kvs,avs,uS,⟨kp _ _ (Ne.symm pd) da bk9.at_,bk9.ups.mono fun b xs e=>kp _ _ (fun z=>by rw [z,hp9] at e;cases e) (fun z=>by rw [z,haa9] at e;cases e) e⟩,by rw [Zab (Ne.symm pa)];exact uS,hA.mono fun b o'' fk' e=>kp _ _ (fun z=>by rw [z,hp9] at e;cases e) (fun z=>by rw [z,haa9] at e;cases e) e⟩ fun b u hb e=>kp _ _ hb (nNo e aaH) (s9 _ _ e)
theorem scHa:Zai ["self","word"] ["self","word"] (Zad Zfv):=⟨rfl,rfl,rfl,by decide +kernel,rfl,by decide +kernel,by decide +kernel⟩
theorem ok_has {f C:Addr}{fd:FuncData}(F:Fun K "has" "Kinds.has" Zfv f fd) (TC:TxtC K C):Zar P w K mg base CX0 1 f fd ["self","word"] (spHas C):=by
 refine F.ok scHa (fun vs H Q E h=>?_) (fun cdv A outer s H vs Q E hr h=>?_)
 ·obtain ⟨p,rows,x,rfl,_⟩:=h
  rfl
 ·obtain ⟨p,rows,x,rfl,⟨dx,d,a,o,oa,kvs,avs,h1,h2,h3,h4⟩,g,q⟩:=h
  have hu:=Zfp hr
  refine ⟨_,Zac (Zal (pe_cmp (pc_din hu (pv 1) (Zfn (pv 0) rfl)))),?_⟩
  refine ⟨_,rfl,_,rfl,p,C,dx,_,_,rfl,h1,TC.cl,TC.nU,flds_u _ _,d,_,rfl,DGet.f (k:=Sum.inr x) h2.at_,?_⟩
  have e:(Zet kvs (Sum.inr x:Key)).isSome=decide (x∈rows.map (·.1)):=by
   have hk:(Sum.inr x:Key)∈kvs.map (·.1)↔x∈rows.map (·.1):=by
    rw [h2.ups.keys]
    constructor
    ·intro m
     obtain ⟨r,hr',e⟩:=List.mem_map.mp m
     exact List.mem_map.mpr ⟨r,hr',by injection e⟩
    ·intro m
     obtain ⟨r,hr',e⟩:=List.mem_map.mp m
     exact List.mem_map.mpr ⟨r,hr',by rw [e]⟩
   by_cases z:x∈rows.map (·.1)
   ·rw [Zeh (hk.mpr z),decide_eq_true z]
   ·rw [Zb8 fun k=>z (hk.mp k),decide_eq_false z]
    rfl
  rw [e]
  exact q
abbrev MHas (K:W.Frag) (C fH:Addr) (fdH:FuncData):Prop:=MDef K C "has" "Kinds.has" Zfv ["self","word"] fH fdH
theorem scCk:Zai ["self","word"] ["self","word"] (Zad Zci):=⟨rfl,rfl,rfl,by decide +kernel,rfl,by decide +kernel,by decide +kernel⟩
theorem no_has (d a:Addr):(flds d a).lookup ("has":Str)=none:=flds_no d a (by decide +kernel) (by decide +kernel)
theorem ok_check {f C fH:Addr}{fd fdH:FuncData}(F:Fun K "check" "Kinds.check" Zci f fd) (TC:TxtC K C) (MH:MHas K C fH fdH):Zar P w K mg base CX0 2 f fd ["self","word"] (spCheck C):=by
 have GH:Zar P w K mg base CX0 1 fH fdH ["self","word"] (spHas C):=ok_has MH.fn TC
 refine F.ok scCk (fun vs H Q E h=>?_) (fun cdv A outer s H vs Q E hr h=>?_)
 ·obtain ⟨p,rows,x,rfl,_⟩:=h
  rfl
 ·obtain ⟨p,rows,x,rfl,kd,g,hx,q⟩:=h
  obtain ⟨dx,d,a,o,oa,kvs,avs,h1,h2,h3,h4⟩:=kd.ex
  refine ⟨_,Zac (Za4 (Zc8 (Zcz (Zc9 (pv 0) TC.cl MH.me GH hr MH.b .nil Zde (pC (pv 1) Zaa)))) Za5 Zak),?_⟩
  refine ⟨_,rfl,p,dx,_,rfl,h1,no_has _ _,_,rfl,p,rows,x,rfl,kd,g,_,rfl,?_⟩
  rw [decide_eq_true hx]
  exact Zdv q
theorem scWo:Zai ["self"] ["self"] (Zad Zd7):=⟨rfl,rfl,rfl,by decide +kernel,rfl,by decide +kernel,by decide +kernel⟩
theorem ok_wordsOf {f C:Addr}{fd:FuncData}(F:Fun K "words" "Kinds.words" Zd7 f fd) (TC:TxtC K C) (list:mg "list"=none):Zar P w K mg base CX0 1 f fd ["self"] (spWordsOf C):=by
 refine F.ok scWo (fun vs H Q E h=>?_) (fun cdv A outer s H vs Q E hr h=>?_)
 ·obtain ⟨p,rows,rfl,_⟩:=h
  rfl
 ·obtain ⟨p,rows,rfl,⟨dx,d,a,o,oa,kvs,avs,h1,h2,h3,h4⟩,g,q⟩:=h
  refine ⟨_,Zac (Zal (Zbd (Zfh rfl) (by rfl) list PyProof.Rows.boot_list (pC (Zfn (pv 0) rfl) Zaa))),?_⟩
  refine ⟨_,rfl,p,C,dx,_,_,rfl,h1,TC.cl,TC.nU,flds_u _ _,d,kvs,rfl,.inr ⟨o,h2.at_⟩,fun l hl=>?_⟩
  rw [keysV h2.ups]
  exact q l hl
theorem no_check (d a:Addr):(flds d a).lookup ("check":Str)=none:=flds_no d a (by decide +kernel) (by decide +kernel)
theorem scUn:Zai ["self","one","other"] ["self","one","other"] (Zad Zd8):=⟨rfl,rfl,rfl,by decide +kernel,rfl,by decide +kernel,by decide +kernel⟩
theorem ok_under {f C fC fH:Addr}{fd fdC fdH:FuncData}(F:Fun K "under" "Kinds.under" Zd8 f fd) (TC:TxtC K C) (MC:MDef K C "check" "Kinds.check" Zci ["self","word"] fC fdC) (MH:MHas K C fH fdH):Zar P w K mg base CX0 3 f fd ["self","one","other"] (spUnder C):=by
 have GC:Zar P w K mg base CX0 2 fC fdC ["self","word"] (spCheck C):=ok_check MC.fn TC MH
 refine F.ok scUn (fun vs H Q E h=>?_) (fun cdv A outer s H vs Q E hr h=>?_)
 ·obtain ⟨p,rows,x,y,rfl,_⟩:=h
  rfl
 ·obtain ⟨p,rows,x,y,rfl,kd,g,hx,hy,q⟩:=h
  obtain ⟨dx,d,a,o,oa,kvs,avs,h1,h2,h3,h4⟩:=kd.ex
  have hu:=Zfp hr
  refine ⟨_,pS (Za3 (Zc9 (pv 0) TC.cl MC.me GC hr MC.b .nil Zde (pC (pv 1) Zaa)))
   (pS (Za3 (Zc9 (pv 0) TC.cl MC.me GC hr MC.b .nil Zde (pC (pv 2) Zaa)))
   (Zac (Zal (pe_cmp (pc_din hu (pv 2) (Zdk hu (Zfn (pv 0) rfl) (pv 1) (fun _ _=>rfl))))))),?_⟩
  obtain ⟨r,hr',er⟩:=Zdp hx
  obtain ⟨t,o',fk,hv,ht,hreach⟩:=h4.val g.nd hr'
  refine ⟨_,rfl,p,dx,_,rfl,h1,no_check _ _,_,rfl,p,rows,x,rfl,kd,g,hx,?_⟩
  refine ⟨_,rfl,p,dx,_,rfl,h1,no_check _ _,_,rfl,p,rows,y,rfl,kd,g,hy,?_⟩
  refine ⟨_,rfl,_,rfl,p,C,dx,_,_,rfl,h1,TC.cl,TC.nA,flds_a _ _,_,rfl,a,_,rfl,(by rw [← hv,er];exact DGet.f (k:=Sum.inr x) h3),t,_,rfl,DGet.f (k:=Sum.inr y) ht,?_⟩
  have e:(Zet fk (Sum.inr y:Key)).isSome=Zcy rows x y:=by
   have hh:=hreach y
   rw [er] at hh
   unfold Zcy
   by_cases z:Graph.Reach (Zb2 rows) x y
   ·rw [Zeh (hh.mpr z)]
    exact (@decide_eq_true _ (Classical.propDecidable _) z).symm
   ·rw [Zb8 fun k=>z (hh.mp k)]
    exact (@decide_eq_false _ (Classical.propDecidable _) z).symm
  rw [e]
  exact q
end
end K68
namespace K68
open PySem L2 Md
noncomputable def Zb1 (rows:List (Str×List Str)) (x:Str):List Str:=(rows.map (·.1)).filter fun y=>Zcy rows y x
noncomputable def spBelowOf (C:Addr):Sp:=fun vs H Q _=>∃ (p:Addr) (rows:List (Str×List Str)) (x:Str),vs=[.ref p,.str x]∧Zbo C H p rows∧Zcr rows∧x∈rows.map (·.1)∧∀ l,H l=none→Q (.ref l) (upd H l (.lst ((Zb1 rows x).map V.str)))
noncomputable def downV (rows:List (Str×List Str)) (x:Str):V→Bool
 | .str y=>Zcy rows y x
 | _=>false
theorem lows_map (rows:List (Str×List Str)) (x:Str):(((rows.map (·.1)).map V.str).filter (downV rows x)).map (fun v=>v)=(Zb1 rows x).map V.str:=by
 rw [List.map_id',List.filter_map]
 rfl
theorem key_reach {fk:List (Key×V)}{rows:List (Str×List Str)}{x:Str}(h:∀ y,(Sum.inr y:Key)∈fk.map (·.1)↔Graph.Reach (Zb2 rows) x y) (y:Str):(Zet fk (Sum.inr y:Key)).isSome=Zcy rows x y:=by
 unfold Zcy
 by_cases z:Graph.Reach (Zb2 rows) x y
 ·rw [Zeh ((h y).mpr z)]
  exact (@decide_eq_true _ (Classical.propDecidable _) z).symm
 ·rw [Zb8 fun k=>z ((h y).mp k)]
  exact (@decide_eq_false _ (Classical.propDecidable _) z).symm
theorem no_under (d a:Addr):(flds d a).lookup ("under":Str)=none:=flds_no d a (by decide +kernel) (by decide +kernel)
theorem no_below (d a:Addr):(flds d a).lookup ("below":Str)=none:=flds_no d a (by decide +kernel) (by decide +kernel)
theorem nd_lsw:(["low","self","word"]:List Str).Nodup:=by decide +kernel
section
variable {P:Program} {w:World} {K:W.Frag} {mg:Str→Option Value} {base:Heap}
abbrev MCheck (K:W.Frag) (C fC:Addr) (fdC:FuncData):Prop:=MDef K C "check" "Kinds.check" Zci ["self","word"] fC fdC
abbrev MUnder (K:W.Frag) (C fU:Addr) (fdU:FuncData):Prop:=MDef K C "under" "Kinds.under" Zd8 ["self","one","other"] fU fdU
theorem pe_fldK {X:Cx}{e:Expr}{ta:TE}{f:Str}{pos:Pos}{K:W.Frag}(hK:X.K=K) (he:PE X e ta) (hb:attributeBase e f X.env (eval e X.env)=eval e X.env):PE X (.Attribute e f pos) (tFld K ta f):=by
 subst hK
 exact Zfn he hb
end
end K68
namespace K68
open PySem L2 Md
section
variable {P:Program} {w:World} {K:W.Frag} {mg:Str→Option Value} {base:Heap}
theorem scBl:Zai ["self","word"] ["self","word"] (Zad Zc6):=⟨rfl,rfl,rfl,by decide +kernel,rfl,by decide +kernel,by decide +kernel⟩
theorem ok_belowOf {f C fC fH:Addr}{fd fdC fdH:FuncData}(F:Fun K "below" "Kinds.below" Zc6 f fd) (TC:TxtC K C) (MC:MCheck K C fC fdC) (MH:MHas K C fH fdH):Zar P w K mg base CX0 3 f fd ["self","word"] (spBelowOf C):=by
 have GC:Zar P w K mg base CX0 2 fC fdC ["self","word"] (spCheck C):=ok_check MC.fn TC MH
 refine F.ok scBl (fun vs H Q E h=>?_) (fun cdv A outer s H vs Q E hr h=>?_)
 ·obtain ⟨p,rows,x,rfl,_⟩:=h
  rfl
 ·obtain ⟨p,rows,x,rfl,kd,g,hx,q⟩:=h
  obtain ⟨dx,d,a,o,oa,kvs,avs,h1,h2,h3,h4⟩:=kd.ex
  have hu:=Zfp hr
  refine ⟨_,pS (Za3 (Zc9 (pv 0) TC.cl MC.me GC hr MC.b .nil Zde (pC (pv 1) Zaa)))
   (Zac (Zal (Zbl ["low"] ["self","word"] [0,1] (fun _=>Zax (osc:=Zad Zc6) (on:=["self","word"]) (by decide +kernel) rfl rfl rfl) (pi_keys (Zfn (pv 0) rfl)) (fun C s H fp=>Zah (i:=0) nd_lsw rfl (Or.inl rfl) (Or.inr rfl))
    (fun C s H fp=>Zem (pt_cmp (pc_din hu (pv 2) (Zdk hu (pe_fldK (K:=K) rfl (pv 1) rfl) (pv 0) (fun _ _=>rfl))))) (fun C s H fp=>pv 0)))),?_⟩
  have hkv:kvs.length≤24:=by rw [← Paired.length h2.ups];exact g.le
  refine ⟨_,rfl,p,dx,_,rfl,h1,no_check _ _,_,rfl,p,rows,x,rfl,kd,g,hx,?_⟩
  refine ⟨_,rfl,p,C,dx,_,_,rfl,h1,TC.cl,TC.nU,flds_u _ _,d,o,kvs,rfl,h2.at_,Zdc runs_keys (sL (by rw [List.length_map];omega)) (downV rows x) (fun v=>v) (fun D ys hD=>by rw [Zab (nNo h2.at_ hD)];exact h2.at_) ?_ ?_ ?_⟩
  ·intro D ys v R hD hv' hR
   rw [keysV h2.ups] at hv'
   obtain ⟨y,hy,rfl⟩:=List.mem_map.mp hv'
   obtain ⟨r,hr',er⟩:=Zdp hy
   obtain ⟨t,o',fk,hv,ht,hreach⟩:=h4.val g.nd hr'
   rw [er] at hv hreach
   have kp:∀ b o,H b=some o→(upd H D (.lst ys)) b=some o:=fun b o e=>by rw [Zab (nNo e hD)];exact e
   refine ⟨_,rfl,_,rfl,p,C,dx,_,_,rfl,kp _ _ h1,TC.cl,TC.nA,flds_a _ _,_,rfl,a,_,rfl,(by rw [← hv];exact DGet.f (k:=Sum.inr y) (kp _ _ h3)),t,_,rfl,DGet.f (k:=Sum.inr x) (kp _ _ ht),_,rfl,?_⟩
   rw [key_reach hreach x]
   exact hR
  ·intro D ys v R hD hv' _ hR
   exact ⟨_,rfl,hR⟩
  ·intro D hD
   rw [keysV h2.ups,lows_map]
   exact q D hD
end
end K68
namespace K68
open PySem L2 Md
def Zbt (H:Hp) (all rows:List (Str×List Str)) (avs:List (Key×V)):Prop :=
 Paired (fun r (p:Key×V)=>p.1=Sum.inr r.1∧∃ (t:Addr) (fs:List Str),p.2=.ref t∧H t=some (.lst (fs.map V.str))∧(∀ y,y∈fs↔Graph.Reach (Zb2 all) r.1 y)∧fs.length≤all.length) rows avs
theorem Zbt.mono {H H':Hp}{all rows:List (Str×List Str)}{avs:List (Key×V)}(h:Zbt H all rows avs) (s:∀ b xs,H b=some (.lst xs)→H' b=some (.lst xs)):Zbt H' all rows avs :=
 Paired.mapP h fun _ _ z=>⟨z.1,let ⟨t,fs,e,x,y⟩:=z.2;⟨t,fs,e,s _ _ x,y⟩⟩
theorem Zbt.keys:∀ {H:Hp}{all rows:List (Str×List Str)}{kvs:List (Key×V)},Zbt H all rows kvs→kvs.map (·.1)=rows.map fun r=>(Sum.inr r.1:Key)
 | _,_,_,_,.nil=>rfl
 | _,_,_,_,.cons r t=>by rw [List.map_cons,List.map_cons,r.1,Zbt.keys t]
theorem Zbt.val':∀ {H:Hp}{all rows:List (Str×List Str)}{kvs:List (Key×V)},Zbt H all rows kvs→(rows.map (·.1)).Nodup→∀ {r:Str×List Str},r∈rows→∃ (t:Addr) (fs:List Str),Zet kvs (Sum.inr r.1)=some (.ref t)∧H t=some (.lst (fs.map V.str))∧(∀ y,y∈fs↔Graph.Reach (Zb2 all) r.1 y)∧fs.length≤all.length
 | _,_,_,_,.nil,_,r,h=>nomatch h
 | _,_,q :: rs,p :: ps,.cons z t,nd,r,h=>by
  have nd':(q.1 :: rs.map (·.1)).Nodup:=nd
  obtain ⟨n1,n2⟩:=List.nodup_cons.mp nd'
  obtain ⟨z1,u,fs,z2,z3,z4⟩:=z
  rcases List.mem_cons.mp h with e | h
  ·subst e
   exact ⟨u,fs,by rw [Zb4 z1,z2],z3,z4⟩
  ·have ne:¬ p.1=(Sum.inr r.1:Key):=fun e=>n1 (by
    rw [z1] at e
    have e':q.1=r.1:=by injection e
    rw [e']
    exact List.mem_map.mpr ⟨r,h,rfl⟩)
   obtain ⟨u',fs',h1,h2⟩:=Zbt.val' t n2 h
   exact ⟨u',fs',by rw [Zb5 ne];exact h1,h2⟩
theorem Zbt.val {H:Hp}{all rows:List (Str×List Str)}{kvs:List (Key×V)}(h:Zbt H all rows kvs) (nd:(rows.map (·.1)).Nodup) {r:Str×List Str}(hr:r∈rows):∃ (t:Addr) (fs:List Str),Zet kvs (Sum.inr r.1)=some (.ref t)∧H t=some (.lst (fs.map V.str))∧∀ y,y∈fs↔Graph.Reach (Zb2 all) r.1 y :=
 let ⟨u,fs,h1,h2,h3,_⟩:=h.val' nd hr;⟨u,fs,h1,h2,h3⟩
theorem mem_reach {rows:List (Str×List Str)}{x:Str}{fs:List Str}(h:∀ y,y∈fs↔Graph.Reach (Zb2 rows) x y) (y:Str):decide (y∈fs)=Zcy rows x y:=by
 unfold Zcy
 by_cases z:Graph.Reach (Zb2 rows) x y
 ·rw [decide_eq_true ((h y).mpr z)]
  exact (@decide_eq_true _ (Classical.propDecidable _) z).symm
 ·rw [decide_eq_false fun k=>z ((h y).mp k)]
  exact (@decide_eq_false _ (Classical.propDecidable _) z).symm
def spLAbove:Sp:=fun vs H Q _=>∃ (l:Addr) (rows:List (Str×List Str)),vs=[.ref l]∧Zdf H l rows∧Zcr rows∧∀ a avs H',Zaj H H'→H' a=some (.dK avs)→Zbt H' rows rows avs→Q (.ref a) H'
structure GoL (rows:List (Str×List Str)) (x:Str) (fs:List Str) (k:Nat):Prop where
 start:x∈fs
 known:∀ y∈fs,y∈rows.map (·.1)
 nd:fs.Nodup
 reach:∀ y∈fs,Graph.Reach (Zb2 rows) x y
 closed:∀ y∈fs.take k,∀ u∈Zb2 rows y,u∈fs
theorem GoL.le {rows:List (Str×List Str)}{x:Str}{fs:List Str}{k:Nat}(h:GoL rows x fs k):fs.length≤rows.length:=by
 have:=Graph.nodup_le h.nd h.known
 rwa [List.length_map] at this
theorem GoL.all {rows:List (Str×List Str)}{x:Str}{fs:List Str}{k:Nat}(h:GoL rows x fs k) (hk:fs.length≤k) (y:Str):y∈fs↔Graph.Reach (Zb2 rows) x y :=
 ⟨h.reach y,fun r=>Graph.closed_reach (S:=fun y=>y∈fs) (fun z hz u hu=>h.closed z (by rw [List.take_of_length_le hk];exact hz) u hu) r h.start⟩
theorem reach_known {rows:List (Str×List Str)}(g:Zcr rows) {y u:Str}(hy:y∈rows.map (·.1)) (hu:u∈Zb2 rows y):u∈rows.map (·.1):=by
 obtain ⟨r,hr,e⟩:=Zdp hy
 rw [← e,upsOf_at g.nd hr] at hu
 exact g.known r hr u hu
section
variable {P:Program} {w:World} {K:W.Frag} {mg:Str→Option Value} {base:Heap}
abbrev nLA:List Str:=["rows","ups","word","some","above","found","at","up"]
theorem scLA:Zai nLA ["rows"] (Zad Zez):=⟨rfl,rfl,rfl,by decide +kernel,rfl,by decide +kernel,by decide +kernel⟩
theorem ok_labove {f:Addr}{fd:FuncData}(F:Def K mg "_law_above" Zez ["rows"] f fd) (len:mg "len"=none):Zar P w K mg base CX0 1 f fd ["rows"] spLAbove:=by
 refine F.fn.ok scLA (fun vs H Q E h=>?_) (fun cdv A outer s H vs Q E hr h=>?_)
 ·obtain ⟨l,rows,rfl,_⟩:=h
  rfl
 ·obtain ⟨l,rows,rfl,hR,g,q⟩:=h
  have nd:=scLA.nd
  have hu:=Zfp hr
  refine ⟨_,pS (Zag (i:=1) nd rfl (Or.inl rfl) Zeb)
   (pS (Za8 PassesOwn.never rfl (Za7 (pv 0)) (pg_tup rfl (gC (Zah (i:=2) nd rfl (Or.inl rfl)) (gC (Zah (i:=3) nd rfl (Or.inl rfl)) Zd3)))
    (Zac (Zen hu (pv 1) (pv 2) (pv 3) rfl)))
   (pS (Zag (i:=4) nd rfl (Or.inl rfl) Zeb)
   (pS (Za8 PassesOwn.never rfl (Za7 (pv 0)) (pg_tup rfl (gC (Zah (i:=2) nd rfl (Or.inl rfl)) (gC (Zah (i:=3) nd rfl (Or.inl rfl)) Zd3)))
    (pS (Zag (i:=5) nd rfl (Or.inl rfl) (Zbn (pC (pv 2) Zaa)))
    (pS (Zag (i:=6) nd rfl (Or.inl rfl) Zaf)
    (pS (ps_while PassesOwn.never (Zan op_lt (pv 6) (Zam Zcs (by rfl) len PySem.boot_len (pC (pv 5) Zaa)) (Zau _))
     (pS (Za8 PassesOwn.never rfl (pi_tup (Zdk hu (pv 1) (Zaw Zav (pv 5) (pv 6) (fun _ _=>rfl)) (fun _ _=>rfl))) (Zah (i:=7) nd rfl (Or.inl rfl))
      (Zac (Za4 (Zan op_notIn_seq (pv 7) (pv 5) (by with_unfolding_all rfl)) (Zac (Za3 (Zfo PySem.F.plainAttrs_list PySem.F.slot_list_append PySem.F.type_list_append Zbv (pv 5) (pC (pv 7) Zaa)))) Zak)))
     (Zac (Zag (i:=6) nd rfl (Or.inl rfl) (Za0 Zck (pv 6) Zaf)))))
    (Zac (Zen hu (pv 4) (pv 2) (pv 5) rfl))))))
   (Zac (Zal (pv 4)))))),?_⟩
  have gle:=g.le
  obtain ⟨vs,hvs,hpr⟩:=hR
  intro d hd
  have s1:Zaj H (upd H d (.dK [])):=fun b o e=>by rw [Zab (nNo e hd)];exact e
  refine ⟨_,rfl,l,rfl,⟨_,SqL.of (s1 _ _ hvs)⟩,Zaq (Zat (xs:=vs)) (fun i σ H'=>∃ (kvs:List (Key×V)) (a c:Option V),σ=[some (.ref l),some (.ref d),a,c,none,none,none,none]∧Zaj H H'∧H' d=some (.dK kvs)∧UpsD H' (rows.take i) kvs)
   ⟨[],none,none,rfl,s1,uS,by rw [List.take_zero];exact .nil⟩ (fun i σ H' _ ⟨_,_,_,_,s,_⟩=>SqL.of (s _ _ hvs)) ?_ ?_⟩
  ·rintro i v σ H' hi ⟨kvs,a,c,rfl,s3,hdk,hU⟩
   obtain ⟨r,hr',t,u,rfl,ht,hug⟩:=Zas hpr hi
   refine ⟨t,_,rfl,SqT.of (s3 _ _ ht),rfl,_,_,rfl,_,_,rfl,rfl,?_⟩
   have hnew:(Sum.inr r.1:Key)∉kvs.map (·.1):=by rw [hU.keys];exact taken_not g.nd hr'
   have hil:(rows.take i).length≤24:=by rw [List.length_take];omega
   have hkl:kvs.length=(rows.take i).length:=(Paired.length hU).symm
   refine ⟨_,rfl,_,rfl,_,rfl,d,_,rfl,DPut.k (k:=Sum.inr r.1) hdk (Za1 (by omega)),?_⟩
   have tk:∀ b xs,H' b=some (.tup xs)→(upd H' d (.dK (Zdj kvs (Sum.inr r.1) (.ref u)))) b=some (.tup xs):=fun b xs e=>by
    rw [Zab (fun z=>by rw [z,hdk] at e;cases e)];exact e
   refine ⟨_,_,_,rfl,fun b o e=>by rw [Zab (nNo e hd)];exact s3 _ _ e,uS,?_⟩
   have sn:UpsD (upd H' d (.dK (Zdj kvs (Sum.inr r.1) (.ref u)))) (rows.take i++[r]) (kvs++[(Sum.inr r.1,V.ref u)]):=Paired.snoc (hU.mono tk) ⟨rfl,u,rfl,tk u _ (s3 _ _ hug)⟩
   rw [← Zfx _ (Zb8 hnew)] at sn
   rw [List.take_add_one,hr']
   exact sn
  ·rintro σ H2 ⟨kvs,a,c,rfl,s3,hdk,hU⟩
   have hvl:=hpr.length
   rw [← hvl,List.take_length] at hU
   intro aa haa
   have s4:Zaj H2 (upd H2 aa (.dK [])):=fun b o e=>by rw [Zab (nNo e haa)];exact e
   have aaH:H aa=none:=s3.free haa
   have daa:d≠aa:=nNo hdk haa
   have hU4:UpsD (upd H2 aa (.dK [])) rows kvs:=hU.mono fun b xs e=>s4 _ _ e
   have hd4:=s4 _ _ hdk
   have s04:=s3.trans s4
   refine ⟨_,rfl,l,rfl,⟨_,SqL.of (s04 _ _ hvs)⟩,Zaq (Zat (xs:=vs)) (fun i σ H'=>∃ (avs:List (Key×V)) (a b c e f:Option V),σ=[some (.ref l),some (.ref d),a,b,some (.ref aa),c,e,f]∧(∀ b o,b≠aa→H2 b=some o→H' b=some o)∧H' aa=some (.dK avs)∧Zbt H' rows (rows.take i) avs)
    ⟨[],_,_,_,_,_,rfl,fun b o hb e=>by rw [Zab hb];exact e,uS,by rw [List.take_zero];exact .nil⟩ (fun i σ H' _ ⟨_,_,_,_,_,_,_,k,_⟩=>SqL.of (k _ _ (nNo hvs aaH) (s3 _ _ hvs))) ?_ ?_⟩
   ·rintro i v σ H' hi ⟨avs,a,b,c,e,f',rfl,k1,haa1,hA⟩
    obtain ⟨r,hr',t,u,rfl,ht,hug⟩:=Zas hpr hi
    have hmem:r∈rows:=List.mem_of_getElem? hr'
    have keep1:∀ b o,H b=some o→H' b=some o:=fun b o e=>k1 b o (nNo e aaH) (s3 _ _ e)
    refine ⟨t,_,rfl,SqT.of (keep1 _ _ ht),rfl,_,_,rfl,_,_,rfl,rfl,?_⟩
    refine ⟨_,rfl,sL (by show 1≤100000;decide),fun fa hfa=>?_⟩
    have sF:∀ {H5:Hp},Zaj H' H5→UpsD H5 rows kvs:=fun {H5} s=>hU.mono fun b xs e=>s _ _ (k1 b _ (fun z=>by rw [z,haa] at e;cases e) e)
    have dF:∀ {H5:Hp},Zaj H' H5→H5 d=some (.dK kvs):=fun {H5} s=>s _ _ (k1 _ _ daa hdk)
    refine ⟨fun m σ H5=>∃ (fs:List Str) (k:Nat) (f:Option V),σ=[some (.ref l),some (.ref d),some (.str r.1),some (.ref u),some (.ref aa),some (.ref fa),some (.int (k:Int)),f]∧Zaj H' H5∧H5 fa=some (.lst (fs.map V.str))∧GoL rows r.1 fs k∧k≤fs.length∧m + k=rows.length,
     ⟨rows.length,[r.1],0,_,rfl,fun b o e=>by rw [Zab (nNo e hfa)];exact e,uS,⟨by simp,fun y h=>by rw [List.mem_singleton.mp h];exact List.mem_map.mpr ⟨r,hmem,rfl⟩,by simp,fun y h=>by rw [List.mem_singleton.mp h];exact .refl _,fun y h=>by simp at h⟩,by simp,rfl⟩,?_⟩
    rintro m σ H5 ⟨fs,k,f2,rfl,s5,hf5,go,hk,hm⟩
    have flen:=go.le
    refine ⟨_,rfl,_,rfl,_,_,rfl,.inl ⟨_,SqL.of hf5,rfl⟩,_,_,rfl,rfl,_,rfl,?_⟩
    rw [List.length_map]
    refine Zed (fun hlt=>?_) (fun hlt=>?_)
    ·have hlt:k<fs.length:=by have:=of_decide_eq_true hlt;omega
     refine ⟨fun σ' H6=>∃ m',m'<m∧∃ (fs:List Str) (k:Nat) (f:Option V),σ'=[some (.ref l),some (.ref d),some (.str r.1),some (.ref u),some (.ref aa),some (.ref fa),some (.int (k:Int)),f]∧Zaj H' H6∧H6 fa=some (.lst (fs.map V.str))∧GoL rows r.1 fs k∧k≤fs.length∧m' + k=rows.length,fun _ _ h=>h,?_⟩
     have hat:fs[k]?=some fs[k]:=List.getElem?_eq_getElem hlt
     generalize hhere:fs[k]=here at hat
     have hin:here∈fs:=List.mem_of_getElem? hat
     obtain ⟨r2,hr2,er⟩:=Zdp (go.known here hin)
     obtain ⟨t2,hvt,ht2⟩:=(sF s5).val g.nd hr2
     rw [er] at hvt
     have uo:Zb2 rows here=r2.2:=by rw [← er];exact upsOf_at g.nd hr2
     have hix:atI (fs.map V.str) (k:Int)=some (V.str here):=Za6 (by rw [List.getElem?_map,hat];rfl)
     refine ⟨_,rfl,_,rfl,_,rfl,fa,_,_,_,rfl,rfl,SqL.of hf5,hix,d,_,rfl,(by rw [← hvt];exact DGet.k (k:=Sum.inr here) (dF s5)),t2,rfl,⟨_,SqT.of ht2⟩,?_⟩
     have ht2f:t2≠fa:=fun z=>by rw [z,hf5] at ht2;cases ht2
     refine Zaq (Zc7 (xs:=r2.2.map V.str)) (fun j σ H6=>∃ (ex:List Str) (f:Option V),σ=[some (.ref l),some (.ref d),some (.str r.1),some (.ref u),some (.ref aa),some (.ref fa),some (.int (k:Int)),f]∧(∀ b o,b≠fa→H5 b=some o→H6 b=some o)∧H6 fa=some (.lst ((fs++ex).map V.str)) ∧
      (∀ y∈fs++ex,y∈rows.map (·.1))∧(fs++ex).Nodup∧(∀ y∈fs++ex,Graph.Reach (Zb2 rows) r.1 y)∧∀ z∈r2.2.take j,z∈fs++ex)
      ⟨[],_,rfl,fun b o _ e=>e,by rw [List.append_nil];exact hf5,by rw [List.append_nil];exact go.known,by rw [List.append_nil];exact go.nd,by rw [List.append_nil];exact go.reach,fun z h=>by simp at h⟩ (fun j σ H6 _ ⟨_,_,_,k6,_⟩=>SqT.of (k6 _ _ ht2f ht2)) ?_ ?_
     ·rintro j v σ H6 hj ⟨ex,f3,rfl,k6,hf6,kn,ndx,rch,seen⟩
      obtain ⟨z,hz,rfl⟩:=strs_at hj
      have hzu:z∈Zb2 rows here:=by rw [uo];exact List.mem_of_getElem? hz
      have hle:(fs++ex).length≤24:=by
       have:=Graph.nodup_le ndx kn
       rw [List.length_map] at this
       omega
      refine ⟨_,rfl,_,rfl,fa,_,rfl,.inl (SqL.of hf6),rfl,Zdz _,_,rfl,?_⟩
      show if (!inV (.str z) ((fs++ex).map V.str))=true then _ else _
      rw [in_strs]
      have sj:∀ y∈r2.2.take (j + 1),y∈r2.2.take j∨y=z:=fun y h=>by
       rw [List.take_add_one,hz] at h
       rcases List.mem_append.mp h with h | h
       ·exact .inl h
       ·simp at h;exact .inr h
      refine Zed (fun hn=>?_) (fun hn=>?_)
      ·have hn:z∉fs++ex:=fun c=>by rw [decide_eq_true c] at hn;cases hn
       refine ⟨_,rfl,.inl ⟨rfl,_,SqL.of hf6⟩,_,rfl,fa,_,_,rfl,rfl,hf6,Za1 (by rw [List.length_map];omega),?_⟩
       refine ⟨ex++[z],_,rfl,fun b o hb e=>by rw [Zab hb];exact k6 b o hb e,?_,?_,?_,?_,?_⟩
       ·have e:(fs++(ex++[z])).map V.str=(fs++ex).map V.str++[V.str z]:=by simp
        rw [uS,e]
       ·intro y hy
        rw [← List.append_assoc] at hy
        rcases List.mem_append.mp hy with h | h
        ·exact kn y h
        ·rw [List.mem_singleton.mp h]
         exact reach_known g (go.known here hin) hzu
       ·rw [← List.append_assoc]
        refine List.nodup_append.mpr ⟨ndx,by simp,fun a ha b hb e=>?_⟩
        rw [List.mem_singleton.mp hb] at e
        rw [e] at ha
        exact hn ha
       ·intro y hy
        rw [← List.append_assoc] at hy
        rcases List.mem_append.mp hy with h | h
        ·exact rch y h
        ·rw [List.mem_singleton.mp h]
         exact (go.reach here hin).snoc hzu
       ·intro y hy
        rw [← List.append_assoc]
        rcases sj y hy with h | h
        ·exact List.mem_append.mpr (.inl (seen y h))
        ·rw [h];simp
      ·have hn:z∈fs++ex:=Classical.byContradiction fun c=>hn (by rw [decide_eq_false c];rfl)
       refine ⟨ex,_,rfl,k6,hf6,kn,ndx,rch,fun y hy=>?_⟩
       rcases sj y hy with h | h
       ·exact seen y h
       ·rw [h];exact hn
     ·rintro σ H6 ⟨ex,f3,rfl,k6,hf6,kn,ndx,rch,seen⟩
      rw [List.length_map,List.take_length] at seen
      refine ⟨_,rfl,_,_,rfl,rfl,m - 1,by omega,fs++ex,k + 1,_,rfl,fun b o e=>k6 b o (nNo e hfa) (s5 _ _ e),hf6,⟨List.mem_append.mpr (.inl go.start),kn,ndx,rch,?_⟩,by rw [List.length_append];omega,by omega⟩
      intro y hy z hz
      have htk:(fs++ex).take (k + 1)=fs.take k++[here]:=by
       rw [List.take_append_of_le_length (by omega),List.take_add_one,hat]
       rfl
      rw [htk] at hy
      rcases List.mem_append.mp hy with h | h
      ·exact List.mem_append.mpr (.inl (go.closed y h z hz))
      ·rw [List.mem_singleton.mp h,uo] at hz
       exact seen z hz
    ·have hge:fs.length≤k:=by
      have:¬ ((k:Int)<(fs.length:Int)):=fun z=>hlt (decide_eq_true z)
      omega
     have aa5:=s5 _ _ haa1
     have hnew:(Sum.inr r.1:Key)∉avs.map (·.1):=by rw [hA.keys];exact taken_not g.nd hr'
     have hil:(rows.take i).length≤24:=by rw [List.length_take];omega
     have hkl:avs.length=(rows.take i).length:=(Paired.length hA).symm
     refine ⟨_,rfl,_,rfl,_,rfl,aa,_,rfl,DPut.k (k:=Sum.inr r.1) aa5 (Za1 (by omega)),?_⟩
     have lk:∀ b xs,H5 b=some (.lst xs)→(upd H5 aa (.dK (Zdj avs (Sum.inr r.1) (.ref fa)))) b=some (.lst xs):=fun b xs e=>by
      rw [Zab (fun z=>by rw [z,aa5] at e;cases e)];exact e
     refine ⟨_,_,_,_,_,_,rfl,fun b o hb e=>by rw [Zab hb];exact s5 _ _ (k1 b o hb e),uS,?_⟩
     have sn:Zbt (upd H5 aa (.dK (Zdj avs (Sum.inr r.1) (.ref fa)))) rows (rows.take i++[r]) (avs++[(Sum.inr r.1,V.ref fa)]):=Paired.snoc ((hA.mono fun b xs e=>s5 _ _ e).mono lk) ⟨rfl,fa,fs,rfl,lk _ _ hf5,go.all hge,go.le⟩
     rw [← Zfx _ (Zb8 hnew)] at sn
     rw [List.take_add_one,hr']
     exact sn
   ·rintro σ H' ⟨avs,a,b,c,e,f',rfl,k1,haa1,hA⟩
    rw [← hvl,List.take_length] at hA
    exact ⟨_,rfl,q aa avs H' (fun b o e=>k1 b o (nNo e aaH) (s3 _ _ e)) haa1 hA⟩
end
end K68
namespace K68
open PySem L2 Md
def callB (rows:List (Str×List Str)) (n:Nat) (xs:List Str):Bool:=decide (xs.length=n)&&xs.all fun x=>decide (x∈rows.map (·.1))
structure Zbz (rows:List (Str×List Str)) (n:Nat) (xs:List Str):Prop where
 len:xs.length=n
 known:∀ x∈xs,x∈rows.map (·.1)
theorem Zbz.is {rows:List (Str×List Str)}{n:Nat}{xs:List Str}(h:Zbz rows n xs):callB rows n xs=true:=by
 unfold callB
 rw [decide_eq_true h.len,Bool.true_and,List.all_eq_true]
 exact fun x hx=>decide_eq_true (h.known x hx)
def spIsCall (C:Addr):Sp:=fun vs H Q _=>∃ (p t:Addr) (n:Nat) (rows:List (Str×List Str)) (xs:List Str),vs=[.ref p,.int n,.ref t]∧Zbo C H p rows∧Zcr rows∧H t=some (.tup (xs.map V.str))∧xs.length≤1000∧∀ H',Zaj H H'→Q (.bl (callB rows n xs)) H'
def knownV (rows:List (Str×List Str)):V→V
 | .str x=>.bl (decide (x∈rows.map (·.1)))
 | _=>.non
theorem knownV_map (rows:List (Str×List Str)) (xs:List Str):(((xs.map V.str).filter fun _=>true).map (knownV rows))=(xs.map fun x=>decide (x∈rows.map (·.1))).map V.bl:=by
 rw [List.filter_eq_self.mpr (fun _ _=>rfl),List.map_map,List.map_map]
 rfl
theorem nd_wk:(["word","kinds"]:List Str).Nodup:=by decide +kernel
section
variable {P:Program} {w:World} {K:W.Frag} {mg:Str→Option Value} {base:Heap}
abbrev nIC:List Str:=["kinds","places","call"]
theorem scIC:Zai nIC nIC (Zad Zdw):=⟨rfl,rfl,rfl,by decide +kernel,rfl,by decide +kernel,by decide +kernel⟩
theorem ok_is_call {f C fH:Addr}{fd fdH:FuncData}(F:Def K mg "is_call" Zdw nIC f fd) (len:mg "len"=none) (all:mg "all"=none) (TC:TxtC K C) (MH:MHas K C fH fdH):Zar P w K mg base CX0 2 f fd nIC (spIsCall C):=by
 have GH:Zar P w K mg base CX0 1 fH fdH ["self","word"] (spHas C):=ok_has MH.fn TC
 refine F.fn.ok scIC (fun vs H Q E h=>?_) (fun cdv A outer s H vs Q E hr h=>?_)
 ·obtain ⟨p,t,n,rows,xs,rfl,_⟩:=h
  rfl
 ·obtain ⟨p,t,n,rows,xs,rfl,kd,g,ht,hz,q⟩:=h
  obtain ⟨dx,d,a,o,oa,kvs,avs,h1,_⟩:=kd.ex
  have hr1:Zcm 1 _:=hr.mono (by decide)
  refine' ⟨_,Zac (Zal (pe_and ?ea (pe_one ?eb))),?_⟩
  case ea=>exact pe_cmpR Zec (Zam Zao (by rfl) len PySem.boot_len (pC (pv 2) Zaa)) (pv 1) (Zau _)
  case eb=>exact Zam (call_all rfl) (by rfl) all PyProof.Rows.boot_all (pC
    (Zbl ["word"] ["kinds"] [0] (fun _=>Zax (osc:=Zad Zdw) (on:=nIC) (by decide +kernel) rfl rfl rfl) (pi_tup (pv 2)) (fun C s H fp=>Zah (i:=0) nd_wk rfl (Or.inl rfl) (Or.inr rfl)) (fun C s H fp=>Zbw)
     (fun C s H fp=>Zc9 (pv 1) TC.cl MH.me GH hr1 MH.b .nil Zde (pC (pv 0) Zaa))) Zaa)
  refine ⟨_,rfl,t,_,rfl,.inr (SqT.of ht),_,rfl,rfl,_,rfl,?_⟩
  have e:decide (V.int ((xs.map V.str).length:Nat)=V.int n)=decide (xs.length=n):=by
   rw [List.length_map]
   exact decide_eq_decide.mpr ⟨fun z=>by injection z with z;omega,fun z=>by rw [z]⟩
  rw [e]
  refine Zed (fun h=>?_) (fun h=>?_)
  ·refine ⟨_,rfl,t,rfl,⟨_,SqT.of ht⟩,Zdc (Zc7 (xs:=xs.map V.str)) (sL (by rw [List.length_map];omega)) (fun _=>true) (knownV rows) (fun D ys hD=>SqT.of (by rw [Zab (nNo ht hD)];exact ht)) ?_ ?_ ?_⟩
   ·intro D ys v R _ _ hR
    exact hR
   ·intro D ys v R hD hv _ hR
    obtain ⟨x,hx,rfl⟩:=List.mem_map.mp hv
    have s2:Zaj H (upd H D (.lst ys)):=Zbj hD
    exact ⟨_,rfl,p,dx,_,rfl,s2 _ _ h1,no_has _ _,_,rfl,p,rows,x,rfl,kd.mono s2,g,hR⟩
   ·intro D hD
    refine ⟨D,_,rfl,SqL.of (by rw [uS,knownV_map]),?_⟩
    have q':=q _ (Zbj (o:=.lst (((xs.map V.str).filter fun _=>true).map (knownV rows))) hD)
    unfold callB at q'
    rw [h,Bool.true_and] at q'
    show Q (.bl ((xs.map fun x=>decide (x∈rows.map (·.1))).all id)) _
    rw [List.all_map]
    exact q'
  ·have q':=q H (Zaj.refl H)
   unfold callB at q'
   rw [show decide (xs.length=n)=false by simpa using h,Bool.false_and] at q'
   exact q'
def Za2 (H:Hp) (ds:List (List Str)) (vs:List V):Prop:=Paired (fun (d:List Str) v=>∃ t,v=V.ref t∧H t=some (.tup (d.map V.str))) ds vs
theorem Za2.mono {H H':Hp}{ds:List (List Str)}{vs:List V}(h:Za2 H ds vs) (s:Zaj H H'):Za2 H' ds vs:=Paired.mapP h fun _ _ ⟨t,e,x⟩=>⟨t,e,s _ _ x⟩
structure Zbi (rows:List (Str×List Str)) (n:Nat) (ds:List (List Str)):Prop where
 call:∀ d∈ds,Zbz rows n d
 nd:ds.Nodup
 few:ds.length≤64
def keyC (d:List Str):List Key:=d.map Sum.inr
theorem keyC_map (d:List Str):(keyC d).map kV=d.map V.str:=by
 unfold keyC
 rw [List.map_map]
 rfl
theorem keyC_inj {d e:List Str}(h:keyC d=keyC e):d=e:=by
 unfold keyC at h
 exact List.map_inj_right (fun a b z=>by injection z) |>.mp h
theorem taken_notD {ds:List (List Str)}(nd:ds.Nodup) {i:Nat}{d:List Str}(h:ds[i]?=some d):keyC d∉(ds.take i).map keyC:=by
 intro m
 obtain ⟨e,he,q⟩:=List.mem_map.mp m
 rw [keyC_inj q] at he
 exact not_taken nd h he
def spCheckDeeds (K:W.Frag) (C:Addr):Sp:=fun vs H Q _=>∃ (p l:Addr) (n:Nat) (b:Bool) (rows:List (Str×List Str)) (ds:List (List Str)) (us:List V),vs=[.ref p,.int n,.ref l]∧Zbo C H p rows∧Zcr rows∧SqB K b H l us∧Za2 H ds us∧Zbi rows n ds∧n≤4∧∀ H',Zaj H H'→Q .non H'
abbrev nCD:List Str:=["kinds","places","deeds","seen","number","call"]
theorem scCD:Zai nCD ["kinds","places","deeds"] (Zad Zd5):=⟨rfl,rfl,rfl,by decide +kernel,rfl,by decide +kernel,by decide +kernel⟩
theorem ok_check_deeds {f C fI fH:Addr}{fd fdI fdH:FuncData}(F:Def K mg "check_deeds" Zd5 ["kinds","places","deeds"] f fd) (DI:Def K mg "is_call" Zdw nIC fI fdI) (enum:mg "enumerate"=none) (len:mg "len"=none) (all:mg "all"=none) (TC:TxtC K C) (MH:MHas K C fH fdH):
  Zar P w K mg base CX0 3 f fd ["kinds","places","deeds"] (spCheckDeeds K C):=by
 have GI:Zar P w K mg base CX0 2 fI fdI nIC (spIsCall C):=ok_is_call DI len all TC MH
 refine F.fn.ok scCD (fun vs H Q E h=>?_) (fun cdv A outer s H vs Q E hr h=>?_)
 ·obtain ⟨p,l,n,b,rows,ds,us,rfl,_⟩:=h
  rfl
 ·obtain ⟨p,l,n,b,rows,ds,us,rfl,kd,g,hl,hD,gd,hn,q⟩:=h
  have nd:=scCD.nd
  have hu:=Zfp hr
  refine ⟨_,pS (Zag (i:=3) nd rfl (Or.inl rfl) pe_dnewT)
   (Zac (Za8 PassesOwn.never rfl (pi_enum (by rfl) enum (pC (pv 2) Zaa)) (pg_tup rfl (gC (Zah (i:=4) nd rfl (Or.inl rfl)) (gC (Zah (i:=5) nd rfl (Or.inl rfl)) Zd3)))
    (pS (Za4 (Zc8 (Zcz (Zae DI GI hr (pC (pv 0) (pC (pv 1) (pC (pv 5) Zaa)))))) Za5 Zak)
    (pS (Za4 (pt_cmp (pc_din hu (pv 5) (pv 3))) Za5 Zak)
    (Zac (Zen hu (pv 3) (pv 5) pe_bl rfl)))))),?_⟩
  intro d hd
  have s0:Zaj H (upd H d (.dT [])):=Zbj hd
  have hvl:=hD.length
  have few:=gd.few
  refine ⟨_,rfl,b,l,us,rfl,hl.mono s0,for_pairs (fun i σ H'=>∃ (kvs:List (List Key×V)) (a c:Option V),σ=[some (.ref p),some (.int n),some (.ref l),some (.ref d),a,c]∧Zaj H H'∧H' d=some (.dT kvs)∧kvs.map (·.1)=(ds.take i).map keyC)
   ⟨[],none,none,rfl,s0,uS,by simp⟩ (fun i σ H' _ ⟨_,_,_,_,s,_⟩=>hl.mono s) ?_ ?_⟩
  ·rintro i pr t σ H' hi ⟨kvs,a,c,rfl,s1,hdk,hk⟩ ht0
   obtain ⟨e1,hx⟩:=enumV_get hi
   obtain ⟨dd,hdd,t2,e2,ht2⟩:=Zas hD hx
   refine g2_new ?_
   have s2:Zaj H' (upd H' t (.tup [pr.1,pr.2])):=Zbj ht0
   have hmem:dd∈ds:=List.mem_of_getElem? hdd
   have gc:=gd.call dd hmem
   rw [e2]
   show tSeq _ _ _ [some (.ref p),some (.int n),some (.ref l),some (.ref d),some pr.1,some (.ref t2)] _
   have s02:=s1.trans s2
   refine ⟨_,rfl,_,rfl,_,rfl,p,t2,n,rows,dd,rfl,kd.mono ?_,g,?_,by have:=gc.len;omega,fun H3 s3=>⟨_,rfl,?_⟩⟩
   ·rw [← e2];exact s02
   ·rw [← e2];exact s02 _ _ ht2
   rw [gc.is]
   refine Zdv ?_
   rw [← e2] at s3
   have s03:=s02.trans s3
   have hd3:H3 d=some (.dT kvs):=s3 _ _ (s2 _ _ hdk)
   have ht3:H3 t2=some (.tup ((keyC dd).map kV)):=by rw [keyC_map];exact s03 _ _ ht2
   refine ⟨_,rfl,_,rfl,d,_,rfl,DGet.t (k:=keyC dd) hd3 ht3,_,rfl,?_⟩
   have hnew:keyC dd∉kvs.map (·.1):=by rw [hk];exact taken_notD gd.nd hdd
   rw [valV_noneG hnew]
   refine Zdv ?_
   have hkl:kvs.length=(ds.take i).length:=by have:=congrArg List.length hk;simpa using this
   have hil:(ds.take i).length≤64:=by rw [List.length_take];omega
   refine ⟨_,rfl,_,rfl,d,_,rfl,DPut.t (k:=keyC dd) hd3 ht3 (Za1 (by omega)),?_⟩
   refine ⟨_,_,_,rfl,fun b o e=>?_,uS,?_⟩
   ·rw [Zab (nNo e hd)];exact s03 _ _ e
   ·rw [putK_keysG hnew,hk,List.take_add_one,hdd,List.map_append]
    rfl
  ·rintro σ H' ⟨kvs,a,c,rfl,s1,hdk,hk⟩
   exact q H' s1
end
end K68
namespace K68
open PySem L2 Md
theorem bne1:¬ (("book":Str)="stands"):=by decide +kernel
theorem bne2:¬ (("book":Str)="width"):=by decide +kernel
theorem bne3:¬ (("width":Str)="stands"):=by decide +kernel
def fldsB (k t:Addr) (n:Nat):List (Str×V):=putF "stands" (.ref t) (putF "width" (.int n) (putF "book" (.ref k) []))
theorem fldsB_b (k t:Addr) (n:Nat):(fldsB k t n).lookup ("book":Str)=some (.ref k):=by
 unfold fldsB
 rw [Zap,if_neg bne1,Zap,if_neg bne2,Zap,if_pos rfl]
theorem fldsB_w (k t:Addr) (n:Nat):(fldsB k t n).lookup ("width":Str)=some (.int n):=by
 unfold fldsB
 rw [Zap,if_neg bne3,Zap,if_pos rfl]
theorem fldsB_s (k t:Addr) (n:Nat):(fldsB k t n).lookup ("stands":Str)=some (.ref t):=by
 unfold fldsB
 rw [Zap,if_pos rfl]
theorem fldsB_no (k t:Addr) (n:Nat) {m:Str} (h1:¬ m="stands") (h2:¬ m="width") (h3:¬ m="book"):(fldsB k t n).lookup m=none:=by
 unfold fldsB
 rw [Zap,if_neg h1,Zap,if_neg h2,Zap,if_neg h3]
 rfl
theorem no_bkinds (k t:Addr) (n:Nat):(fldsB k t n).lookup ("kinds":Str)=none:=fldsB_no k t n (by decide +kernel) (by decide +kernel) (by decide +kernel)
theorem no_bplaces (k t:Addr) (n:Nat):(fldsB k t n).lookup ("places":Str)=none:=fldsB_no k t n (by decide +kernel) (by decide +kernel) (by decide +kernel)
theorem no_bdeeds (k t:Addr) (n:Nat):(fldsB k t n).lookup ("deeds":Str)=none:=fldsB_no k t n (by decide +kernel) (by decide +kernel) (by decide +kernel)
structure Zco (C B:Addr) (H:Hp) (p k:Addr) (rows:List (Str×List Str)) (n:Nat) (ds:List (List Str)):Prop where
 ex:∃ (dx t:Addr) (us:List V),H p=some (.ins B dx (fldsB k t n))∧Zbo C H k rows∧H t=some (.tup us)∧Za2 H ds us
theorem Zco.mono {C B:Addr}{H H':Hp}{p k:Addr}{rows:List (Str×List Str)}{n:Nat}{ds:List (List Str)}(h:Zco C B H p k rows n ds) (s:Zaj H H'):Zco C B H' p k rows n ds:=by
 obtain ⟨dx,t,us,h1,h2,h3,h4⟩:=h.ex
 exact ⟨dx,t,us,s _ _ h1,h2.mono s,s _ _ h3,h4.mono s⟩
structure TxtBd (K:W.Frag) (B:Addr):Prop where
 cl:Cls K B
 nB:Zfa K B "book"
 nW:Zfa K B "width"
 nS:Zfa K B "stands"
structure TxtBm (mg:Str→Option Value):Prop where
 places:∃ t,mg "MOST_PLACES"=some (.int 4 t)
 deeds:∃ t,mg "MOST_DEEDS"=some (.int 64 t)
 len:mg "len"=none
 all:mg "all"=none
 tuple:mg "tuple"=none
 list:mg "list"=none
 enum:mg "enumerate"=none
def spBInit (K:W.Frag) (C B:Addr):Sp:=fun vs H Q _=>∃ (p dx k l:Addr) (n:Nat) (rows:List (Str×List Str)) (ds:List (List Str)) (us:List V),vs=[.ref p,.ref k,.int n,.ref l]∧H p=some (.ins B dx [])∧Zbo C H k rows∧Zcr rows∧(SqL K H l us∨H l=some (.tup us))∧Za2 H ds us∧Zbi rows n ds∧1≤n∧n≤4 ∧
 ∀ H',Zco C B H' p k rows n ds→(∀ b o,b≠p→H b=some o→H' b=some o)→Q .non H'
theorem kinds_keep {C p:Addr}{H H':Hp}{k:Addr}{rows:List (Str×List Str)}{o:HO}(h:Zbo C H k rows) (hp:H p=some o) (s:∀ b o,b≠p→H b=some o→H' b=some o) (nk:k≠p) (no:∀ o' u,o≠.frz o' u) (nt:∀ xs,o≠.tup xs):Zbo C H' k rows:=by
 obtain ⟨dx,d,a,o1,oa,kvs,avs,h1,h2,h3,h4⟩:=h.ex
 have ne:∀ {b o' u},H b=some (.frz o' u)→b≠p:=fun {b o' u} e z=>by rw [z,hp] at e;exact no _ _ (Option.some.inj e)
 have net:∀ {b xs},H b=some (.tup xs)→b≠p:=fun {b xs} e z=>by rw [z,hp] at e;exact nt _ (Option.some.inj e)
 exact ⟨dx,d,a,o1,oa,kvs,avs,s _ _ nk h1,⟨s _ _ (ne h2.at_) h2.at_,h2.ups.mono fun b xs e=>s _ _ (net e) e⟩,s _ _ (ne h3) h3,h4.mono fun b o' fk e=>s _ _ (ne e) e⟩
section
variable {P:Program} {w:World} {K:W.Frag} {mg:Str→Option Value} {base:Heap}
abbrev nBI:List Str:=["self","kinds","places","deeds"]
theorem scBI:Zai nBI nBI (Zad Zd2):=⟨rfl,rfl,rfl,by decide +kernel,rfl,by decide +kernel,by decide +kernel⟩
theorem ok_binit {f B C fD fI fH:Addr}{fd fdD fdI fdH:FuncData}(F:Fun K "__init__" "Board.__init__" Zd2 f fd) (T:TxtBm mg) (TB:TxtBd K B) (TC:TxtC K C) (DD:Def K mg "check_deeds" Zd5 ["kinds","places","deeds"] fD fdD) (DI:Def K mg "is_call" Zdw nIC fI fdI) (MH:MHas K C fH fdH) (hBC:B≠C):
  Zar P w K mg base CX0 4 f fd nBI (spBInit K C B):=by
 have GD:Zar P w K mg base CX0 3 fD fdD ["kinds","places","deeds"] (spCheckDeeds K C):=ok_check_deeds DD DI T.enum T.len T.all TC MH
 refine F.ok scBI (fun vs H Q E h=>?_) (fun cdv A outer s H vs Q E hr h=>?_)
 ·obtain ⟨p,dx,k,l,n,rows,ds,us,rfl,_⟩:=h
  rfl
 ·obtain ⟨p,dx,k,l,n,rows,ds,us,rfl,hp,kd,g,hl,hD,gd,n1,n4,q⟩:=h
  obtain ⟨b,hl,hb0⟩:∃ b,SqB K b H l us∧(b=false→H l=some (.tup us)):=by
   rcases hl with hl | hl
   ·exact ⟨true,hl,fun z=>by cases z⟩
   ·exact ⟨false,SqT.of hl,fun _=>hl⟩
  obtain ⟨t1,hP⟩:=T.places
  obtain ⟨t2,hM⟩:=T.deeds
  have hr3:Zcm 3 _:=hr.mono (by decide)
  refine ⟨_,pS (Za4 (Zc8 (pt_chain op_le op_le Zaf (pv 2) (Zeo (v:=.int 4) (by rfl) hP ⟨_,rfl⟩))) Za5 Zak)
   (pS (Za4 (Zan op_gt (Zam Zcs (by rfl) T.len PySem.boot_len (pC (pv 3) Zaa)) (Zeo (v:=.int 64) (by rfl) hM ⟨_,rfl⟩) (Zau _)) Za5 Zak)
   (pS (Za3 (Zae DD GD hr3 (pC (pv 1) (pC (pv 2) (pC (pv 3) Zaa)))))
   (pS (ps_fld (pv 0) (pv 1) rfl) (pS (ps_fld (pv 0) (pv 2) rfl)
   (Zac (ps_fld (pv 0) (Zbd Zbe (by rfl) T.tuple PyProof.Rows.boot_tuple (pC (pv 3) Zaa)) rfl)))))),?_⟩
  refine ⟨_,rfl,_,_,rfl,rfl,_,rfl,?_⟩
  rw [show decide ((1:Int)≤(n:Int))=true from decide_eq_true (by omega)]
  refine iteT ⟨_,_,rfl,rfl,_,rfl,?_⟩
  rw [show (decide ((n:Int)≤4))=true from decide_eq_true (by omega)]
  refine Zdv ?_
  have hul:=hD.length
  have few:=gd.few
  refine ⟨_,rfl,_,_,rfl,len_seq hl,_,_,rfl,rfl,_,rfl,?_⟩
  rw [show decide ((64:Int)<(us.length:Int))=false from decide_eq_false (by omega)]
  refine Zdv ?_
  refine ⟨_,rfl,_,rfl,_,rfl,p |> fun _=>k,l,n,b,rows,ds,us,rfl,kd,g,hl,hD,gd,n4,fun H1 s1=>?_⟩
  have hp1:=s1 _ _ hp
  have kd1:=kd.mono s1
  have nkp:k≠p:=by
   intro z
   obtain ⟨dx',d,a,o,oa,kvs,avs,h1,_⟩:=kd.ex
   rw [z,hp] at h1
   injection h1 with h1
   injection h1 with h1
   exact hBC h1
  refine ⟨_,rfl,_,rfl,p,B,dx,[],rfl,hp1,TB.cl,TB.nB,(by show 0<1000;decide),?_⟩
  refine ⟨_,rfl,_,rfl,p,B,dx,_,rfl,uS,TB.cl,TB.nW,(by show 1<1000;decide),?_⟩
  rw [upd_upd]
  have kp:∀ {fs:List (Str×V)} (b:Addr) (o:HO),b≠p→H b=some o→(upd H1 p (.ins B dx fs)) b=some o:=fun b o hb e=>by rw [Zab hb];exact s1 _ _ e
  have hlp:∀ {fs:List (Str×V)},SqB K b (upd H1 p (.ins B dx fs)) l us:=fun {fs}=>by
   have hl1:=hl.mono s1
   cases b with
   | true =>
    rcases (show SqL K H1 l us from hl1) with (e | ⟨o,e⟩) | e
    ·exact .inl (.inl (by rw [Zab (fun z=>by rw [z,hp1] at e;cases e)];exact e))
    ·exact .inl (.inr ⟨o,by rw [Zab (fun z=>by rw [z,hp1] at e;cases e)];exact e⟩)
    ·exact .inr e
   | false =>
    rcases (show SqT K H1 l us from hl1) with (e | ⟨o,e⟩) | e
    ·exact .inl (.inl (by rw [Zab (fun z=>by rw [z,hp1] at e;cases e)];exact e))
    ·exact .inl (.inr ⟨o,by rw [Zab (fun z=>by rw [z,hp1] at e;cases e)];exact e⟩)
    ·exact .inr e
  have fin:∀ (t:Addr) (H2:Hp),Zaj (upd H1 p (.ins B dx (putF "width" (.int n) (putF "book" (.ref k) [])))) H2→H2 t=some (.tup us)→Q .non (upd H2 p (.ins B dx (fldsB k t n))):=fun t H2 s2 ht=>by
   have hp2:H2 p=some (.ins B dx (putF "width" (.int n) (putF "book" (.ref k) []))):=s2 _ _ uS
   have k2:∀ b o,b≠p→H b=some o→(upd H2 p (.ins B dx (fldsB k t n))) b=some o:=fun b o hb e=>by rw [Zab hb];exact s2 _ _ (kp b o hb e)
   refine q _ ⟨dx,t,us,uS,kinds_keep kd hp k2 nkp (fun _ _ z=>by cases z) (fun _ z=>by cases z),by rw [Zab (fun z=>by rw [z,hp2] at ht;cases ht)];exact ht,Paired.mapP hD fun d v ⟨t',e,x⟩=>⟨t',e,k2 _ _ (fun z=>by rw [z,hp] at x;cases x) x⟩⟩ k2
  refine ⟨_,rfl,l,us,rfl,?_⟩
  have no:=hlp (fs:=putF "width" (.int n) (putF "book" (.ref k) []))
  have wd:(putF "width" (V.int n) (putF "book" (V.ref k) [])).length<1000:=by show 2<1000;decide
  cases b with
  | true =>
   refine .inl ⟨no,fun t ht=>⟨_,rfl,p,B,dx,_,rfl,(Zbj ht) _ _ uS,TB.cl,TB.nS,wd,fin t _ (Zbj ht) uS⟩⟩
  | false =>
   have e:(upd H1 p (.ins B dx (putF "width" (.int n) (putF "book" (.ref k) [])))) l=some (.tup us):=by
    have e0:=s1 _ _ (hb0 rfl)
    rw [Zab (fun z=>by rw [z,hp1] at e0;cases e0)]
    exact e0
   exact .inr ⟨no,_,rfl,p,B,dx,_,rfl,uS,TB.cl,TB.nS,wd,fin l _ (Zaj.refl _) e⟩
def spBKinds (C B:Addr):Sp:=fun vs H Q _=>∃ (p k:Addr) (rows:List (Str×List Str)) (n:Nat) (ds:List (List Str)),vs=[.ref p]∧Zco C B H p k rows n ds∧Q (.ref k) H
def spBPlaces (C B:Addr):Sp:=fun vs H Q _=>∃ (p k:Addr) (rows:List (Str×List Str)) (n:Nat) (ds:List (List Str)),vs=[.ref p]∧Zco C B H p k rows n ds∧Q (.int n) H
def spBDeeds (C B:Addr):Sp:=fun vs H Q _=>∃ (p k:Addr) (rows:List (Str×List Str)) (n:Nat) (ds:List (List Str)),vs=[.ref p]∧Zco C B H p k rows n ds∧∀ l us,H l=none→Za2 H ds us→Q (.ref l) (upd H l (.lst us))
theorem scBK:Zai ["self"] ["self"] (Zad Zd9):=⟨rfl,rfl,rfl,by decide +kernel,rfl,by decide +kernel,by decide +kernel⟩
theorem ok_bkinds {f C B:Addr}{fd:FuncData}(F:Fun K "kinds" "Board.kinds" Zd9 f fd) (TB:TxtBd K B):Zar P w K mg base CX0 1 f fd ["self"] (spBKinds C B):=by
 refine F.ok scBK (fun vs H Q E h=>?_) (fun cdv A outer s H vs Q E hr h=>?_)
 ·obtain ⟨p,k,rows,n,ds,rfl,_⟩:=h
  rfl
 ·obtain ⟨p,k,rows,n,ds,rfl,⟨dx,t,us,h1,h2,h3,h4⟩,q⟩:=h
  exact ⟨_,Zac (Zal (Zfn (pv 0) rfl)),_,rfl,p,B,dx,_,_,rfl,h1,TB.cl,TB.nB,fldsB_b _ _ _,q⟩
theorem scBP:Zai ["self"] ["self"] (Zad Zdr):=⟨rfl,rfl,rfl,by decide +kernel,rfl,by decide +kernel,by decide +kernel⟩
theorem ok_bplaces {f C B:Addr}{fd:FuncData}(F:Fun K "places" "Board.places" Zdr f fd) (TB:TxtBd K B):Zar P w K mg base CX0 1 f fd ["self"] (spBPlaces C B):=by
 refine F.ok scBP (fun vs H Q E h=>?_) (fun cdv A outer s H vs Q E hr h=>?_)
 ·obtain ⟨p,k,rows,n,ds,rfl,_⟩:=h
  rfl
 ·obtain ⟨p,k,rows,n,ds,rfl,⟨dx,t,us,h1,h2,h3,h4⟩,q⟩:=h
  exact ⟨_,Zac (Zal (Zfn (pv 0) rfl)),_,rfl,p,B,dx,_,_,rfl,h1,TB.cl,TB.nW,fldsB_w _ _ _,q⟩
theorem scBD:Zai ["self"] ["self"] (Zad Zea):=⟨rfl,rfl,rfl,by decide +kernel,rfl,by decide +kernel,by decide +kernel⟩
theorem ok_bdeeds {f C B:Addr}{fd:FuncData}(F:Fun K "deeds" "Board.deeds" Zea f fd) (TB:TxtBd K B) (list:mg "list"=none):Zar P w K mg base CX0 1 f fd ["self"] (spBDeeds C B):=by
 refine F.ok scBD (fun vs H Q E h=>?_) (fun cdv A outer s H vs Q E hr h=>?_)
 ·obtain ⟨p,k,rows,n,ds,rfl,_⟩:=h
  rfl
 ·obtain ⟨p,k,rows,n,ds,rfl,⟨dx,t,us,h1,h2,h3,h4⟩,q⟩:=h
  exact ⟨_,Zac (Zal (Zbd Ze9 (by rfl) list PyProof.Rows.boot_list (pC (Zfn (pv 0) rfl) Zaa))),_,rfl,p,B,dx,_,_,rfl,h1,TB.cl,TB.nS,fldsB_s _ _ _,t,us,rfl,.inr (SqT.of h3),fun l hl=>q l us hl h4⟩
abbrev MBKinds (K:W.Frag) (B f:Addr) (fd:FuncData):Prop:=MDef K B "kinds" "Board.kinds" Zd9 ["self"] f fd
abbrev MBPlaces (K:W.Frag) (B f:Addr) (fd:FuncData):Prop:=MDef K B "places" "Board.places" Zdr ["self"] f fd
abbrev MBDeeds (K:W.Frag) (B f:Addr) (fd:FuncData):Prop:=MDef K B "deeds" "Board.deeds" Zea ["self"] f fd
end
end K68
namespace K68
open PySem L2 Md
noncomputable def Zbq (rows:List (Str×List Str)) (xs ys:List Str):Bool:=(xs.zip ys).all fun p=>Zcy rows p.1 p.2
def str2 (p:Str×Str):V×V:=(V.str p.1,V.str p.2)
theorem zip_str (xs ys:List Str):(xs.map V.str).zip (ys.map V.str)=(xs.zip ys).map str2:=by rw [List.zip_map];rfl
theorem mapped_at {α β:Type}{f:α→β}{l:List α}{i:Nat}{y:β}(h:(l.map f)[i]?=some y):∃ x,l[i]?=some x∧f x=y:=by
 rw [List.getElem?_map] at h
 exact Option.map_eq_some_iff.mp h
def spWithin (C:Addr):Sp:=fun vs H Q _=>∃ (p a b:Addr) (rows:List (Str×List Str)) (xs ys:List Str),vs=[.ref p,.ref a,.ref b]∧Zbo C H p rows∧Zcr rows∧H a=some (.tup (xs.map V.str))∧H b=some (.tup (ys.map V.str))∧(∀ x∈xs,x∈rows.map (·.1))∧(∀ y∈ys,y∈rows.map (·.1)) ∧
 ∀ H',Zaj H H'→Q (.bl (Zbq rows xs ys)) H'
def spCheckCall (C:Addr):Sp:=fun vs H Q _=>∃ (p t:Addr) (n:Nat) (rows:List (Str×List Str)) (xs:List Str),vs=[.ref p,.int n,.ref t]∧Zbo C H p rows∧Zcr rows∧H t=some (.tup (xs.map V.str))∧Zbz rows n xs∧n≤4∧∀ H',Zaj H H'→Q .non H'
noncomputable def fits (rows:List (Str×List Str)) (ds:List (List Str)) (xs:List Str):List Nat:=(List.range ds.length).filter fun i=>Zbq rows xs (ds.getD i [])
def spFitting (C B:Addr):Sp:=fun vs H Q _=>∃ (p k t:Addr) (rows:List (Str×List Str)) (n:Nat) (ds:List (List Str)) (xs:List Str),vs=[.ref p,.ref t]∧Zco C B H p k rows n ds∧Zcr rows∧Zbi rows n ds∧n≤4∧H t=some (.tup (xs.map V.str))∧Zbz rows n xs ∧
 ∀ l H',H l=none→Zaj H H'→H' l=some (.lst ((fits rows ds xs).map fun i=>V.int (i:Nat)))→Q (.ref l) H'
section
variable {P:Program} {w:World} {K:W.Frag} {mg:Str→Option Value} {base:Heap}
abbrev nWi:List Str:=["kinds","one","other","low","high"]
theorem scWi:Zai nWi ["kinds","one","other"] (Zad s_within):=⟨rfl,rfl,rfl,by decide +kernel,rfl,by decide +kernel,by decide +kernel⟩
theorem ok_within {f C fU fC fH:Addr}{fd fdU fdC fdH:FuncData}(F:Def K mg "within" s_within ["kinds","one","other"] f fd) (zip:mg "zip"=none) (TC:TxtC K C) (MU:MUnder K C fU fdU) (MC:MCheck K C fC fdC) (MH:MHas K C fH fdH):
  Zar P w K mg base CX0 4 f fd ["kinds","one","other"] (spWithin C):=by
 have GU:Zar P w K mg base CX0 3 fU fdU ["self","one","other"] (spUnder C):=ok_under MU.fn TC MC MH
 refine F.fn.ok scWi (fun vs H Q E h=>?_) (fun cdv A outer s H vs Q E hr h=>?_)
 ·obtain ⟨p,a,b,rows,xs,ys,rfl,_⟩:=h
  rfl
 ·obtain ⟨p,a,b,rows,xs,ys,rfl,kd,g,ha,hb,hx,hy,q⟩:=h
  obtain ⟨dx,d,a1,o,oa,kvs,avs,h1,_⟩:=kd.ex
  have nd:=scWi.nd
  refine ⟨_,pS (Za8 PassesOwn.never rfl (pi_zip (by rfl) zip (pC (pv 1) (pC (pv 2) Zaa))) (pg_tup rfl (gC (Zah (i:=3) nd rfl (Or.inl rfl)) (gC (Zah (i:=4) nd rfl (Or.inl rfl)) Zd3)))
    (Zac (Za4 (Zc8 (Zcz (Zc9 (pv 0) TC.cl MU.me GU hr MU.b .nil Zde (pC (pv 3) (pC (pv 4) Zaa))))) (Zac (Zal pe_bl)) Zak)))
   (Zac (Zal pe_bl)),?_⟩
  refine ⟨_,rfl,_,rfl,a,b,_,_,rfl,SqT.of ha,SqT.of hb,for_pairs (fun i σ H'=>∃ (u v:Option V),σ=[some (.ref p),some (.ref a),some (.ref b),u,v]∧Zaj H H'∧∀ z∈(xs.zip ys).take i,Zcy rows z.1 z.2=true)
   ⟨none,none,rfl,Zaj.refl H,by simp⟩ (fun i σ H' _ ⟨_,_,_,s,_⟩=>⟨SqT.of (s _ _ ha),SqT.of (s _ _ hb)⟩) ?_ ?_⟩
  ·rintro i pr t σ H' hi ⟨u,v,rfl,s1,hall⟩ ht0
   rw [zip_str] at hi
   obtain ⟨z,hz,rfl⟩:=mapped_at hi
   refine g2_new ?_
   have s2:=s1.trans (Zbj (o:=.tup [(str2 z).1,(str2 z).2]) ht0)
   have zm:=List.mem_of_getElem? hz
   have hzx:=hx _ (List.of_mem_zip zm).1
   have hzy:=hy _ (List.of_mem_zip zm).2
   refine ⟨_,rfl,p,dx,_,rfl,s2 _ _ h1,no_under _ _,_,rfl,_,rfl,p,rows,z.1,z.2,rfl,kd.mono s2,g,hzx,hzy,_,rfl,?_⟩
   refine Zed (fun h=>?_) (fun h=>?_)
   ·have e:Zbq rows xs ys=false:=by
     unfold Zbq
     rw [List.all_eq_false]
     exact ⟨z,zm,by simpa using h⟩
    have q':=q _ s2
    rw [e] at q'
    exact q'
   ·refine ⟨_,_,rfl,s2,fun y hy'=>?_⟩
    rw [List.take_add_one,hz] at hy'
    rcases List.mem_append.mp hy' with m | m
    ·exact hall y m
    ·have:y=z:=by simpa using m
     rw [this]
     simpa using h
  ·rintro σ H' ⟨u,v,rfl,s1,hall⟩
   rw [zip_str,List.length_map,List.take_length] at hall
   have e:Zbq rows xs ys=true:=by
    unfold Zbq
    rw [List.all_eq_true]
    exact hall
   have q':=q _ s1
   rw [e] at q'
   exact q'
theorem scCC:Zai nIC nIC (Zad Zew):=⟨rfl,rfl,rfl,by decide +kernel,rfl,by decide +kernel,by decide +kernel⟩
theorem ok_check_call {f C fI fH:Addr}{fd fdI fdH:FuncData}(F:Def K mg "check_call" Zew nIC f fd) (DI:Def K mg "is_call" Zdw nIC fI fdI) (len:mg "len"=none) (all:mg "all"=none) (TC:TxtC K C) (MH:MHas K C fH fdH):Zar P w K mg base CX0 3 f fd nIC (spCheckCall C):=by
 have GI:Zar P w K mg base CX0 2 fI fdI nIC (spIsCall C):=ok_is_call DI len all TC MH
 refine F.fn.ok scCC (fun vs H Q E h=>?_) (fun cdv A outer s H vs Q E hr h=>?_)
 ·obtain ⟨p,t,n,rows,xs,rfl,_⟩:=h
  rfl
 ·obtain ⟨p,t,n,rows,xs,rfl,kd,g,ht,gc,hn,q⟩:=h
  refine ⟨_,Zac (Za4 (Zc8 (Zcz (Zae DI GI hr (pC (pv 0) (pC (pv 1) (pC (pv 2) Zaa)))))) Za5 Zak),?_⟩
  refine ⟨_,rfl,_,rfl,_,rfl,p,t,n,rows,xs,rfl,kd,g,ht,by have:=gc.len;omega,fun H' s'=>⟨_,rfl,?_⟩⟩
  rw [gc.is]
  exact Zdv (q H' s')
abbrev nFi:List Str:=["board","call","kinds"]
theorem scFi:Zai nFi ["board","call"] (Zad s_fitting):=⟨rfl,rfl,rfl,by decide +kernel,rfl,by decide +kernel,by decide +kernel⟩
theorem nd_ndkc:(["number","deed","kinds","call"]:List Str).Nodup:=by decide +kernel
def numV (p:V×V):V:=p.1
theorem fits_map {rows:List (Str×List Str)}{ds:List (List Str)}{xs:List Str}{us:List V}{p:V×V→Bool}(hl:ds.length=us.length) (h:∀ i (d:List Str) v,ds[i]?=some d→us[i]?=some v→p (.int (i:Nat),v)=Zbq rows xs d):
  ((enumV us).filter p).map numV=(fits rows ds xs).map fun i=>V.int (i:Nat):=by
 have e1:enumV us=(List.range us.length).map fun (i:Nat)=>(V.int (i:Nat),us.getD i .non):=by
  refine List.ext_getElem? fun i=>?_
  by_cases hi:i<us.length
  ·have h1:(enumV us)[i]?=some ((enumV us)[i]'(by rw [Zer];exact hi)):=List.getElem?_eq_getElem (by rw [Zer];exact hi)
   obtain ⟨a,b⟩:=enumV_get h1
   rw [h1,List.getElem?_map,List.getElem?_range hi]
   refine congrArg some (Prod.ext a ?_)
   show _=us.getD i .non
   rw [List.getD_eq_getElem?_getD,b]
   rfl
  ·rw [List.getElem?_eq_none (by rw [Zer];omega),List.getElem?_eq_none (by simp;omega)]
 rw [e1,List.filter_map,List.map_map]
 unfold fits
 rw [hl]
 have e2:(List.range us.length).filter (p ∘ fun (i:Nat)=>(V.int (i:Nat),us.getD i .non))=(List.range us.length).filter fun i=>Zbq rows xs (ds.getD i []):=by
  refine List.filter_congr fun i hi=>?_
  have hi:i<us.length:=List.mem_range.mp hi
  have d1:ds[i]?=some (ds.getD i []):=by rw [List.getD_eq_getElem?_getD,List.getElem?_eq_getElem (by omega)];rfl
  have u1:us[i]?=some (us.getD i .non):=by rw [List.getD_eq_getElem?_getD,List.getElem?_eq_getElem hi];rfl
  exact h i _ _ d1 u1
 rw [e2]
 rfl
noncomputable def fitB (rows:List (Str×List Str)) (ds:List (List Str)) (xs:List Str):V×V→Bool
 | (.int i,_)=>Zbq rows xs (ds.getD i.toNat [])
 | _=>false
theorem ok_fitting {f C B fK fPl fDe fCk fW fI fU fC fH:Addr}{fd fdK fdPl fdDe fdCk fdW fdI fdU fdC fdH:FuncData}(F:Def K mg "fitting" s_fitting ["board","call"] f fd) (T:TxtBm mg) (zip:mg "zip"=none) (TC:TxtC K C) (TB:TxtBd K B) (MK:MBKinds K B fK fdK) (MP:MBPlaces K B fPl fdPl) (MD:MBDeeds K B fDe fdDe)
  (DCk:Def K mg "check_call" Zew nIC fCk fdCk) (DW:Def K mg "within" s_within ["kinds","one","other"] fW fdW) (DI:Def K mg "is_call" Zdw nIC fI fdI) (MU:MUnder K C fU fdU) (MC:MCheck K C fC fdC) (MH:MHas K C fH fdH):
  Zar P w K mg base CX0 5 f fd ["board","call"] (spFitting C B):=by
 have GK:Zar P w K mg base CX0 1 fK fdK ["self"] (spBKinds C B):=ok_bkinds MK.fn TB
 have GP:Zar P w K mg base CX0 1 fPl fdPl ["self"] (spBPlaces C B):=ok_bplaces MP.fn TB
 have GD:Zar P w K mg base CX0 1 fDe fdDe ["self"] (spBDeeds C B):=ok_bdeeds MD.fn TB T.list
 have GC:Zar P w K mg base CX0 3 fCk fdCk nIC (spCheckCall C):=ok_check_call DCk DI T.len T.all TC MH
 have GW:Zar P w K mg base CX0 4 fW fdW ["kinds","one","other"] (spWithin C):=ok_within DW zip TC MU MC MH
 refine F.fn.ok scFi (fun vs H Q E h=>?_) (fun cdv A outer s H vs Q E hr h=>?_)
 ·obtain ⟨p,k,t,rows,n,ds,xs,rfl,_⟩:=h
  rfl
 ·obtain ⟨p,k,t,rows,n,ds,xs,rfl,bd,g,gd,hn,ht,gc,q⟩:=h
  obtain ⟨dx,ts,us,h1,h2,h3,h4⟩:=bd.ex
  have nd:=scFi.nd
  have hr1:Zcm 1 _:=hr.mono (by decide)
  have hr3:Zcm 3 _:=hr.mono (by decide)
  refine' ⟨_,pS (Zag (i:=2) nd rfl (Or.inr rfl) (Zdt (pv 0) TB.cl MK.me GK hr1 MK.b .nil Zde))
   (pS (Za3 (Zae DCk GC hr3 (pC (pv 2) (pC (Zdt (pv 0) TB.cl MP.me GP hr1 MP.b .nil Zde) (pC (pv 1) Zaa)))))
   (Zac (Zal ?ea))),?_⟩
  case ea=>exact (Zbl ["number","deed"] ["kinds","call"] [2,1] (fun _=>Zax (osc:=Zad s_fitting) (on:=nFi) (by decide +kernel) rfl rfl rfl) (pi_enum (by rfl) T.enum (pC (Zdt (pv 0) TB.cl MD.me GD hr1 MD.b .nil Zde) Zaa))
    (fun C s H fp=>pg_two (K:=K) (i:=0) (j:=1) rfl rfl nd_ndkc rfl rfl (Or.inl rfl) (Or.inl rfl) (Or.inr rfl) (Or.inr rfl))
    (fun C s H fp=>Zem (Zcz (Zae DW GW hr (pC (pv 2) (pC (pv 3) (pC (pv 1) Zaa)))))) (fun C s H fp=>pv 0))
  refine ⟨_,rfl,p,dx,_,rfl,h1,no_bkinds _ _ _,p,k,rows,n,ds,rfl,bd,?_⟩
  refine ⟨_,rfl,_,rfl,p,dx,_,rfl,h1,no_bplaces _ _ _,p,k,rows,n,ds,rfl,bd,_,rfl,k,t,n,rows,xs,rfl,h2,g,ht,gc,hn,fun H1 s1=>?_⟩
  refine ⟨_,rfl,p,dx,_,rfl,s1 _ _ h1,no_bdeeds _ _ _,p,k,rows,n,ds,rfl,bd.mono s1,fun l us' hl hD=>?_⟩
  have s2:Zaj H1 (upd H1 l (.lst us')):=Zbj hl
  have hul:=hD.length
  have few:=gd.few
  refine ⟨true,l,us',rfl,SqL.of uS,comp_val2 (sL (by rw [Zer];omega)) (fitB rows ds xs) numV (fun H' s'=>SqL.of (s' _ _ uS)) ?_ ?_ ?_⟩
  ·intro x H' R s' hx hR
   obtain ⟨i,hi⟩:=List.getElem?_of_mem hx
   obtain ⟨e1,hu⟩:=enumV_get hi
   obtain ⟨dd,hdd,t2,e2,ht2⟩:=Zas hD hu
   have s02:=s1.trans (s2.trans s')
   have gcd:=gd.call dd (List.mem_of_getElem? hdd)
   rw [e2]
   refine ⟨_,rfl,_,rfl,_,rfl,k,t,t2,rows,xs,dd,rfl,h2.mono s02,g,s02 _ _ ht,s' _ _ (s2 _ _ ht2),gc.known,gcd.known,fun H3 s3=>⟨_,rfl,?_⟩⟩
   have e:fitB rows ds xs x=Zbq rows xs dd:=by
    obtain ⟨x1,x2⟩:=x
    have e1:x1=.int (i:Nat):=e1
    rw [e1]
    show Zbq rows xs (ds.getD ((i:Nat):Int).toNat [])=_
    rw [Int.toNat_natCast,List.getD_eq_getElem?_getD,hdd]
    rfl
   rw [← e]
   exact hR H3 s3
  ·intro x H' R s' hx _ hR
   exact ⟨_,rfl,hR H' (Zaj.refl _)⟩
  ·intro D H' hD0 s' hl'
   have s02:=s1.trans (s2.trans s')
   refine q D H' ?_ s02 ?_
   ·cases e:H D with
    | none=>rfl
    | some u=>have:=s2 _ _ (s1 _ _ e);rw [this] at hD0;cases hD0
   ·rw [hl',fits_map hul fun i d v hd hv=>?_]
    show Zbq rows xs (ds.getD ((i:Nat):Int).toNat [])=_
    rw [Int.toNat_natCast,List.getD_eq_getElem?_getD,hd]
    rfl
end
end K68
namespace K68
open PySem L2 Md
theorem pot_ne {H:Hp}{p a:Addr}{o:HO}{ws:List Str}(h:H p=some o) (ho:PotO o) (ha:H a=some (.lst (ws.map V.str))):p≠a:=ne_of h ha (by
 obtain ⟨r,b,e,_⟩:=ho
 rw [e]
 intro z
 injection z with z
 have z2:=congrArg (fun l=>l[0]?) z
 cases ws with
 | nil=>simp at z2
 | cons x r=>simp at z2)
theorem Drawn.tup {p:Addr}{H H':Hp}(d:Drawn p H H') {o:HO}(h:H p=some o) (ho:PotO o) {t:Addr}{xs:List V}(e:H t=some (.tup xs)):H' t=some (.tup xs):=
 d.keep _ _ (fun z=>by rw [z,h] at e;obtain ⟨_,_,q,_⟩:=ho;rw [q] at e;cases e) e
theorem Zbk {H H':Hp}{l:Addr}{rows:List (Str×List Str)}(h:Zdf H l rows) (s:Zaj H H'):Zdf H' l rows:=by
 obtain ⟨vs,a,p⟩:=h
 exact ⟨vs,s _ _ a,Paired.mapP p fun r v ⟨t,u,e,h1,h2⟩=>⟨t,u,e,s _ _ h1,s _ _ h2⟩⟩
theorem words_comp {K:W.Frag}{l:Addr}{H2:Hp}{rows:List (Str×List Str)}{σ:St}{te:TE}{Q:VK}(hR:Zdf H2 l rows) (few:rows.length≤100)
  (he:∀ (t u:Addr) (x:Str) H' (R:VK),H' t=some (.tup [.str x,.ref u])→R (.str x) H'→te [some (.ref t)] H' R)
  (hd:∀ D H3,H2 D=none→Zaj H2 H3→H3 D=some (.lst ((rows.map (·.1)).map V.str))→Q (.ref D) H3):compBody 1 [] (gName 0) tTrue te σ Q (Itl K l) H2:=by
 obtain ⟨vs,hvs,hpr⟩:=hR
 refine Ze8 (Zat (xs:=vs)) (sL (by rw [← hpr.length];omega)) (fun _=>true) (fun _ x v _=>∀ r,RowV H2 r x→v=.str r.1) (fun _ _ _ _ _ _ h=>h) (fun H' s=>s.seq (SqL.of hvs)) ?_ ?_ ?_
 ·intro x H3 R _ _ hR'
  exact hR' H3 (Zaj.refl _)
 ·intro D x H3 R s3 _ _ hx _ hR'
  obtain ⟨i,hi⟩:=List.mem_iff_getElem?.mp hx
  obtain ⟨r,hr',t,u,rfl,ht,hu'⟩:=Zas hpr hi
  refine he t u r.1 H3 R (s3 _ _ ht) (hR' _ _ (Zaj.refl _) fun r' h'=>?_)
  obtain ⟨t',u',e1,e2,_⟩:=h'
  cases e1
  rw [ht] at e2
  have e2:=Option.some.inj e2
  injection e2 with e2
  injection e2 with e2 _
 ·intro D H3 ys hD s23 hlD hpD
  rw [all_true] at hpD
  have eys:ys=(rows.map (·.1)).map V.str:=by
   have:∀ {rows:List (Str×List Str)} {vs ys:List V},Paired (RowV H2) rows vs→Paired (fun x v=>∀ r,RowV H2 r x→v=.str r.1) vs ys→ys=(rows.map (·.1)).map V.str:=by
    intro rows vs ys a
    induction a generalizing ys with
    | nil=>intro b;cases b;rfl
    | cons h t ih =>
     intro b
     cases b with
     | cons h' t'=>rw [List.map_cons,List.map_cons,h' _ h,ih t']
   exact this hpr hpD
  subst eys
  exact hd D H3 hD s23 hlD
theorem Zdo {ws:List Str}{v:Int} (h0:0≤v) (h1:v<(ws.map V.str).length):∃ x∈ws,atI (ws.map V.str) v=some (.str x):=by
 have hl:v.toNat<ws.length:=by rw [List.length_map] at h1;omega
 refine ⟨ws[v.toNat],List.getElem_mem hl,?_⟩
 have e:((v.toNat:Nat):Int)=v:=by omega
 have q:atI (ws.map V.str) ((v.toNat:Nat):Int)=some (.str ws[v.toNat]):=by
  refine Za6 ?_
  rw [List.getElem?_map,List.getElem?_eq_getElem (by omega)]
  rfl
 rw [e] at q
 exact q
end K68
namespace K68
open PySem L2 Md
abbrev Dt:=W.Dat
def datC (d:List Str):Dt:=.tuple (d.map W.Dat.str)
theorem datC_inj {d e:List Str}(h:datC d=datC e):d=e:=by
 unfold datC at h
 injection h with h
 exact List.map_inj_right (fun a b z=>by injection z) |>.mp h
theorem rep_call {K:W.Frag}{H:Hp}{t:Addr}{d:List Str}(h:H t=some (.tup (d.map V.str))):Rep K H (.ref t) (datC d):=.tuple (SqT.of h) (Zdy d)
theorem reps_deeds {K:W.Frag}{H:Hp}:∀ {ds:List (List Str)}{vs:List V},Za2 H ds vs→Reps K H vs (ds.map datC)
 | _,_,.nil=>.nil
 | _,_,.cons ⟨t,e,h⟩ r=>by rw [e];exact .cons (rep_call h) (reps_deeds r)
theorem Zby {rows:List (Str×List Str)}(g:Zcr rows):∀ x∈rows.map (·.1),Zbh x=true:=fun x hx=>by
 obtain ⟨r,hr,e⟩:=List.mem_map.mp hx
 rw [← e]
 exact g.word r hr
theorem reach_in {rows:List (Str×List Str)}(g:Zcr rows) {x y:Str}(hx:x∈rows.map (·.1)) (h:Graph.Reach (Zb2 rows) x y):y∈rows.map (·.1):=
 Graph.closed_reach (S:=fun y=>y∈rows.map (·.1)) (fun z hz u hu=>reach_known g hz hu) h hx
theorem ok_str (n:Nat) {x:Str}(h:Zbh x=true):W.kqdOk n (.str x)=true:=by
 have q:=ok_dat (ws:=[x]) (fun y hy=>by rw [List.mem_singleton.mp hy];exact h)
 rw [W.kqdOk] at q
 have q2:W.kqdOk 8 (.str x)=true:=by simpa using q
 rw [W.kqdOk] at q2
 rw [W.kqdOk]
 exact q2
theorem ok_call (n:Nat) {d:List Str}(h:∀ x∈d,Zbh x=true):W.kqdOk (n + 1) (datC d)=true:=by
 unfold datC
 rw [W.kqdOk,List.all_eq_true]
 intro z hz
 obtain ⟨x,hx,rfl⟩:=List.mem_map.mp hz
 exact ok_str n (h x hx)
theorem ok_deeds (n:Nat) {ds:List (List Str)}(h:∀ d∈ds,∀ x∈d,Zbh x=true):(ds.map datC).all (W.kqdOk (n + 1))=true:=by
 rw [List.all_eq_true]
 intro z hz
 obtain ⟨d,hd,rfl⟩:=List.mem_map.mp hz
 exact ok_call n (h d hd)
theorem any_deed (ds:List (List Str)) (d:List Str):((ds.map datC).any fun e=>dEq e (datC d))=decide (d∈ds):=by
 by_cases h:d∈ds
 ·rw [decide_eq_true h,List.any_eq_true]
  exact ⟨datC d,List.mem_map.mpr ⟨d,h,rfl⟩,dEq_self _⟩
 ·rw [decide_eq_false h,List.any_eq_false]
  intro z hz
  obtain ⟨e,he,rfl⟩:=List.mem_map.mp hz
  rw [dEq_neg fun q=>h (by rw [← datC_inj q];exact he)]
  exact Bool.false_ne_true
def spDeeds:Sp:=fun vs H Q _=>∃ (p l aa:Addr) (n m:Nat) (rows:List (Str×List Str)) (avs:List (Key×V)),vs=[.ref p,.ref l,.ref aa,.int n,.int m]∧(∃ o,H p=some o∧PotO o)∧Zdf H l rows∧Zcr rows∧H aa=some (.dK avs)∧Zbt H rows rows avs∧1≤n∧n≤4∧m≤63 ∧
 ∀ (ld:Addr) (ds:List (List Str)) (us:List V) (H':Hp),Drawn p H H'→H ld=none→H' ld=some (.lst us)→Za2 H' ds us→Zbi rows n ds→ds.length≤m→Q (.ref ld) H'
abbrev rLenK (K:W.Frag):List V→Hp→VK→Prop:=fun xs H Q=>∃ p ys,xs=[.ref p]∧(SqL K H p ys∨SqT K H p ys)∧Q (.int ys.length) H
structure TxtD (mg:Str→Option Value):Prop where
 len:mg "len"=none
 range:mg "range"=none
 tuple:mg "tuple"=none
section
variable {P:Program} {w:World} {K:W.Frag} {mg:Str→Option Value} {base:Heap}
abbrev nDe:List Str:=["pot","rows","above","places","most","words","base","deeds","k","deed","near","place","some"]
theorem scDe:Zai nDe ["pot","rows","above","places","most"] (Zad Zcw):=⟨rfl,rfl,rfl,by decide +kernel,rfl,by decide +kernel,by decide +kernel⟩
theorem nd_row1:(["row"]:List Str).Nodup:=by decide +kernel
theorem nd_kwp:(["k","words","pot"]:List Str).Nodup:=by decide +kernel
theorem Za2.drawn {p:Addr}{H H':Hp}{o:HO}{ds:List (List Str)}{us:List V}(h:Za2 H ds us) (k:∀ b xs,H b=some (.tup xs)→H' b=some (.tup xs)):Za2 H' ds us:=Paired.mapP h fun _ _ ⟨t,e,x⟩=>⟨t,e,k _ _ x⟩
set_option maxHeartbeats 8000000 in
theorem ok_deedsD {f fT:Addr}{fd fdT:FuncData}(F:Def K mg "_law_deeds" Zcw ["pot","rows","above","places","most"] f fd) (DT:Def K mg "_law_take" Za9 ["pot","many"] fT fdT) (T:TxtD mg):
  Zar P w K mg base CX0 2 f fd ["pot","rows","above","places","most"] spDeeds:=by
 have GT:Zar P w K mg base CX0 1 fT fdT ["pot","many"] spTake:=ok_take DT
 refine F.fn.ok scDe (fun vs H Q E h=>?_) (fun cdv A outer s H vs Q E hr h=>?_)
 ·obtain ⟨p,l,aa,n,m,rows,avs,rfl,_⟩:=h
  rfl
 ·obtain ⟨p,l,aa,n,m,rows,avs,rfl,⟨o0,hp0,ho0⟩,hR,g,haa,hA,n1,n4,hm,q⟩:=h
  have nd:=scDe.nd
  have hu:=Zfp hr
  have hr1:Zcm 1 _:=hr.mono (by decide)
  have gle:=g.le
  refine' ⟨_,pS (Zag (i:=5) nd rfl (Or.inr rfl) ?e1)
   (pS ?e2
   (pS (Zag (i:=7) nd rfl (Or.inl rfl) (Zbn Zaa))
   (pS (Za8 PassesOwn.never rfl (Zbu (by rfl) T.range (pC (Zae DT GT hr1 (pC (pv 0) (pC (Za0 Zck (pv 4) Zaf) Zaa))) Zaa)) (Zah (i:=8) nd rfl (Or.inl rfl))
    (pS (Zag (i:=9) nd rfl (Or.inl rfl) (Zbn Zaa))
    (pS (Zag (i:=10) nd rfl (Or.inl rfl) (Zae DT GT hr1 (pC (pv 0) (pC Zaf Zaa))))
    (pS (Za8 PassesOwn.never rfl (Zbu (by rfl) T.range (pC (pv 3) Zaa)) (Zah (i:=11) nd rfl (Or.inl rfl))
     (pS (Zag (i:=12) nd rfl (Or.inl rfl) (pv 5))
     (Zfd (Za4 (Zan op_gt (pv 10) Zaf (Zau _)) (Zac (Zag (i:=12) nd rfl (Or.inl rfl) (Zdk hu (pv 2) (Zaw Zav (pv 6) (pv 11) (fun _ _=>rfl)) (fun _ _=>rfl)))) Zak)
     (Zac (Za3 (Zfo PySem.F.plainAttrs_list PySem.F.slot_list_append PySem.F.type_list_append Zbv (pv 9) (pC (Zaw Zav (pv 12) (Zae DT GT hr1 (pC (pv 0) (pC (Zam Zao (by rfl) T.len PySem.boot_len (pC (pv 12) Zaa)) Zaa))) (fun _ _=>rfl)) Zaa)))))))
    (Zac (Za4 (Zan (op_notInD (hu65 hr)) (Zbd Zbe (by rfl) T.tuple PyProof.Rows.boot_tuple (pC (pv 9) Zaa)) (pv 7) (by with_unfolding_all rfl))
     (Zac (Za3 (Zfo PySem.F.plainAttrs_list PySem.F.slot_list_append PySem.F.type_list_append Zbv (pv 7) (pC (Zbd Zbe (by rfl) T.tuple PyProof.Rows.boot_tuple (pC (pv 9) Zaa)) Zaa)))) Zak))))))
   (Zac (Zal (pv 7)))))),?_⟩
  case e1=>exact (Zbl ["row"] [] [] (fun _=>Zax (osc:=Zad Zcw) (on:=nDe) (by decide +kernel) rfl rfl rfl) (Za7 (pv 1)) (fun C s H fp=>Zah (i:=0) nd_row1 rfl (Or.inl rfl) (Or.inr rfl)) (fun C s H fp=>Zbw) (fun C s H fp=>Zaw (r:=Zfm K) Zbb (pv 0) Zaf (fun _ _=>rfl)))
  case e2=>exact (Zee (k:=6) ["k"] ["words","pot"] [5,0] nd rfl rfl (fun _=>Zax (osc:=Zad Zcw) (on:=nDe) (by decide +kernel) rfl rfl rfl) (Zbu (by rfl) T.range (pC (pv 3) Zaa)) (fun C s H fp=>Zah (i:=0) nd_kwp rfl (Or.inl rfl) (Or.inr rfl)) (fun C s H fp=>Zbw)
    (fun C s H fp=>Zaw (r:=rIxL K) Zav (pv 1) (Zae DT GT hr1 (pC (pv 2) (pC (Zam (r:=rLenK K) Zao (by rfl) T.len PySem.boot_len (pC (pv 1) Zaa)) Zaa))) (fun _ _=>rfl)))
  obtain ⟨vs0,hvs0,hpr0⟩:=id hR
  refine ⟨_,rfl,l,rfl,⟨_,SqL.of hvs0⟩,words_comp hR (by omega) (fun t u x H' R ht hRx=>⟨_,rfl,t,_,_,_,rfl,rfl,SqT.of ht,rfl,hRx⟩) fun lw H1 hlw s1 hw=>?_⟩
  have hp1:=s1 _ _ hp0
  have lwp:lw≠p:=Ne.symm (pot_ne hp1 ho0 hw)
  have lwH:H lw=none:=hlw
  have wne:rows.map (·.1)≠[]:=by
   have:=g.ne
   intro z
   have z2:=congrArg List.length z
   rw [List.length_map] at z2
   simp at z2
   rw [z2] at this
   simp at this
  have wpos:0<(rows.map (·.1)).length:=List.length_pos_iff.mpr wne
  have wl:(rows.map (·.1)).length≤24:=by rw [List.length_map];exact gle
  refine ⟨_,rfl,n,rfl,by omega,by omega,Zdb Zbg (by rw [Zay];exact sL (by omega)) (fun D i ys σ' H'=>Drawn p H1 H'∧H' D=some (.lst ys)∧∃ (bs:List Str) (o:Option V),ys=bs.map V.str∧bs.length=i∧(∀ x∈bs,x∈rows.map (·.1))∧σ'=[o,some (.ref lw),some (.ref p)])
   (fun D hD=>⟨(Drawn.refl ⟨o0,hp1,ho0⟩).new hD,uS,[],none,rfl,rfl,(fun x h=>nomatch h),rfl⟩) (fun D i ys σ' H' _ ⟨_,_,bs,_,e,el,_⟩=>⟨trivial,by rw [e,List.length_map];omega⟩) ?_ ?_⟩
  ·rintro D i v ys σ' H' hD hi ⟨d,hl,bs,o,rfl,rfl,hb,rfl⟩
   obtain ⟨hi,rfl⟩:=Zaz hi
   obtain ⟨o1,hpp,hoo⟩:=d.pot
   have hw1:=d.keep _ _ lwp hw
   have pD:p≠D:=nNo hp1 hD
   refine ⟨_,rfl,_,rfl,_,rfl,lw,_,rfl,.inl (SqL.of hw1),p,_,o1,rfl,hpp,hoo,by rw [List.length_map];omega,by rw [List.length_map];omega,fun v o2 hv0 hv1 ho2=>?_⟩
   obtain ⟨x,hxm,hat⟩:=Zdo hv0 hv1
   have d2:Drawn p H' (upd H' p o2):=Drawn.upd ho2
   refine ⟨lw,_,_,_,rfl,rfl,SqL.of (d2.keep _ _ lwp hw1),hat,d2.keep _ _ (Ne.symm pD) hl,(d.trans d2).sub (o':=.lst []) (q:=D) (fun b o hb e=>by rw [Zab hb];exact e) hD pD,uS,bs++[x],_,by rw [List.map_append];rfl,by simp,fun y hy=>?_,rfl⟩
   rcases List.mem_append.mp hy with z | z
   ·exact hb y z
   ·rw [List.mem_singleton.mp z];exact hxm
  rintro lb ys σ' H2 hlb ⟨d2,hlb2,bs,o,rfl,hbl,hb,rfl⟩
  rw [Zay] at hbl
  have hbl:bs.length=n:=by simpa using hbl
  have dH2:Drawn p H H2:=⟨fun b o hb e=>d2.keep b o hb (s1 _ _ e),d2.pot⟩
  have hw2:=d2.keep _ _ lwp hw
  have lbH:H lb=none:=s1.free hlb
  have pb:p≠lb:=nNo hp0 lbH
  have wb:lw≠lb:=nNo hw hlb
  refine ⟨Nat.zero_le _,fun ld hld=>?_⟩
  have d3:=dH2.new (o:=.lst []) hld
  have keep3:∀ b o,H2 b=some o→(upd H2 ld (.lst [])) b=some o:=Zbj hld
  have ldH:H ld=none:=by
   cases e:H ld with
   | none=>rfl
   | some u =>
    by_cases z:ld=p
    ·obtain ⟨o1,h1,_⟩:=d2.pot
     rw [z,h1] at hld
     cases hld
    ·rw [dH2.keep _ _ z e] at hld
     cases hld
  have pd:p≠ld:=nNo hp0 ldH
  have wd:lw≠ld:=nNo hw2 hld
  have bd:lb≠ld:=nNo hlb2 hld
  obtain ⟨o3,hp3,ho3⟩:=d3.pot
  refine ⟨_,rfl,_,rfl,_,_,rfl,rfl,p,_,o3,rfl,hp3,ho3,by omega,by omega,fun v o4 hv0 hv1 ho4=>⟨v,rfl,by omega,by omega,?_⟩⟩
  have d4:Drawn p H (upd (upd H2 ld (.lst [])) p o4):=d3.trans (Drawn.upd ho4)
  refine Zaq Zbg (fun i σ H'=>∃ (ds:List (List Str)) (us:List V) (a b c d e:Option V),σ=[some (.ref p),some (.ref l),some (.ref aa),some (.int n),some (.int m),some (.ref lw),some (.ref lb),some (.ref ld),a,b,c,d,e]∧Drawn p H H'∧H' lw=some (.lst ((rows.map (·.1)).map V.str))∧H' lb=some (.lst (bs.map V.str))∧H' ld=some (.lst us)∧Za2 H' ds us ∧
   (∀ d∈ds,Zbz rows n d)∧ds.Nodup∧ds.length≤i)
   ⟨[],[],none,none,none,none,none,rfl,d4,by rw [Zab lwp];exact keep3 _ _ hw2,by rw [Zab (Ne.symm pb)];exact keep3 _ _ hlb2,by rw [Zab (Ne.symm pd)];exact uS,.nil,(fun d h=>nomatch h),List.nodup_nil,Nat.le_refl _⟩ (fun _ _ _ _ _=>trivial) ?_ ?_
  ·rintro i v' σ H5 hi ⟨ds,us,a5,b5,c5,e5,f5,rfl,d5,hw5,hb5,hd5,hD5,gc5,nd5,len5⟩
   obtain ⟨hi,rfl⟩:=Zaz hi
   obtain ⟨o5,hp5,ho5⟩:=d5.pot
   refine ⟨Nat.zero_le _,fun lq hlq=>?_⟩
   have d6:=(Drawn.refl (p:=p) ⟨o5,hp5,ho5⟩).new (o:=.lst []) hlq
   obtain ⟨o6,hp6,ho6⟩:=d6.pot
   refine ⟨_,rfl,p,3,o6,rfl,hp6,ho6,by decide,by decide,fun nr o7 hn0 hn1 ho7=>?_⟩
   have pq:p≠lq:=nNo hp5 hlq
   have d7:Drawn p H5 (upd (upd H5 lq (.lst [])) p o7):=d6.trans (Drawn.upd ho7)
   refine ⟨_,rfl,n,rfl,by omega,by omega,Zaq Zbg (fun j σ H'=>∃ (xs:List Str) (d e:Option V),σ=[some (.ref p),some (.ref l),some (.ref aa),some (.int n),some (.int m),some (.ref lw),some (.ref lb),some (.ref ld),some (.int (0 + (i:Nat))),some (.ref lq),some (.int nr),d,e]∧Drawn p H5 H'∧H' lq=some (.lst (xs.map V.str))∧xs.length=j∧∀ x∈xs,x∈rows.map (·.1))
    ⟨[],_,_,rfl,d7,by rw [Zab (Ne.symm pq)];exact uS,rfl,(fun x h=>nomatch h)⟩ (fun _ _ _ _ _=>trivial) ?_ ?_⟩
   ·rintro j v2 σ H8 hj ⟨xs,d8,e8,rfl,dr8,hq8,rfl,hx8⟩
    obtain ⟨hj,rfl⟩:=Zaz hj
    have hj:xs.length<n:=by omega
    obtain ⟨o8,hp8,ho8⟩:=dr8.pot
    have dr08:=d5.trans dr8
    have hw8:=dr8.keep _ _ lwp hw5
    have hb8:=dr8.keep _ _ (Ne.symm pb) hb5
    refine ⟨_,rfl,?_⟩
    refine ⟨fun σ' H'=>∃ (as:Addr) (fs:List Str),σ'=[some (.ref p),some (.ref l),some (.ref aa),some (.int n),some (.int m),some (.ref lw),some (.ref lb),some (.ref ld),some (.int (0 + (i:Nat))),some (.ref lq),some (.int nr),some (.int (0 + (xs.length:Nat))),some (.ref as)]∧H'=H8∧H8 as=some (.lst (fs.map V.str))∧fs≠[]∧fs.length≤24∧∀ x∈fs,x∈rows.map (·.1),?_,?_⟩
    ·refine ⟨_,rfl,_,_,rfl,rfl,_,rfl,Zed (fun h=>?_) (fun h=>?_)⟩
     ·have hbx:bs[xs.length]?=some (bs[xs.length]'(by omega)):=List.getElem?_eq_getElem (by omega)
      generalize bs[xs.length]'(by omega)=x at hbx
      have hxm:=hb x (List.mem_of_getElem? hbx)
      obtain ⟨r,hr',er⟩:=Zdp hxm
      obtain ⟨t,fs,hv,ht,hfs,fl⟩:=hA.val' g.nd hr'
      have xfs:x∈fs:=(hfs x).mpr (by rw [er];exact .refl x)
      have tp:t≠p:=Ne.symm (pot_ne hp0 ho0 ht)
      have aap:aa≠p:=fun z=>by rw [z,hp0] at haa;obtain ⟨_,_,q',_⟩:=ho0;rw [q'] at haa;cases haa
      have hat:atI (bs.map V.str) (0 + (xs.length:Nat):Int)=some (.str x):=by
       rw [Int.zero_add]
       refine Za6 ?_
       rw [List.getElem?_map,hbx]
       rfl
      have kn:∀ y∈fs,y∈rows.map (·.1):=fun y hy=>reach_in g hxm (by rw [← er];exact (hfs y).mp hy)
      exact ⟨_,rfl,_,rfl,_,rfl,lb,_,_,_,rfl,rfl,SqL.of hb8,hat,aa,_,rfl,(by rw [← hv,er];exact DGet.k (k:=Sum.inr x) (dr08.keep _ _ aap haa)),t,fs,rfl,rfl,dr08.keep _ _ tp ht,(fun z=>by rw [z] at xfs;cases xfs),by omega,kn⟩
     ·exact ⟨lw,_,rfl,rfl,hw8,wne,wl,fun x h=>h⟩
    ·rintro σ' H' ⟨as,fs,rfl,e8',has,fne,fl,fk⟩
     have e9:=e8'.symm
     subst e9
     have fpos:0<fs.length:=List.length_pos_iff.mpr fne
     have ap:as≠p:=Ne.symm (pot_ne hp8 ho8 has)
     refine ⟨_,rfl,.inl ⟨rfl,_,SqL.of hq8⟩,_,rfl,_,rfl,_,rfl,as,_,rfl,.inl (SqL.of has),p,_,o8,rfl,hp8,ho8,by rw [List.length_map];omega,by rw [List.length_map];omega,fun v o9 hv0 hv1 ho9=>?_⟩
     obtain ⟨x,hxm,hat⟩:=Zdo hv0 hv1
     have d9:Drawn p H8 (upd H8 p o9):=Drawn.upd ho9
     have hq9:=d9.keep _ _ (Ne.symm pq) hq8
     refine ⟨as,_,_,_,rfl,rfl,SqL.of (d9.keep _ _ ap has),hat,lq,_,_,rfl,rfl,hq9,Za1 (by rw [List.length_map];omega),xs++[x],_,_,rfl,(dr8.trans d9).sub (o':=.lst []) (q:=lq) (fun b o hb e=>by rw [Zab hb];exact e) hlq pq,by rw [uS,List.map_append];rfl,by simp,fun y hy=>?_⟩
     rcases List.mem_append.mp hy with z | z
     ·exact hx8 y z
     ·rw [List.mem_singleton.mp z];exact fk x hxm
   ·rintro σ H8 ⟨xs,d8,e8,rfl,dr8,hq8,hxl,hx8⟩
    rw [Zay] at hxl
    have hxl:xs.length=n:=by simpa using hxl
    have ldp:ld≠p:=Ne.symm pd
    have hd8:=dr8.keep _ _ ldp hd5
    have hD8:Za2 H8 ds us:=hD5.drawn (p:=p) (o:=.lst []) fun b zs e=>Drawn.tup dr8 hp5 ho5 e
    have okx:∀ y∈xs,Zbh y=true:=fun y hy=>Zby g y (hx8 y hy)
    have okd:∀ d∈ds,∀ y∈d,Zbh y=true:=fun d hd y hy=>Zby g y ((gc5 d hd).known y hy)
    have dr08:=d5.trans dr8
    have ldq:ld≠lq:=nNo hd5 hlq
    have lwq:lw≠lq:=nNo hw5 hlq
    have lbq:lb≠lq:=nNo hb5 hlq
    have hi':i<m + 1:=by omega
    refine ⟨_,rfl,lq,_,rfl,.inl ⟨SqL.of hq8,fun t ht=>?_⟩⟩
    have s9:Zaj H8 (upd H8 t (.tup (xs.map V.str))):=Zbj ht
    refine ⟨_,rfl,datC xs,ds.map datC,rep_call uS,.list (SqL.of (s9 _ _ hd8)) (reps_deeds (hD8.mono s9)),ok_call 8 okx,ok_deeds 7 okd,_,rfl,?_⟩
    rw [any_deed]
    refine Zed (fun h=>?_) (fun h=>?_)
    ·have hn:xs∉ds:=by simpa using h
     refine ⟨_,rfl,.inl ⟨rfl,_,SqL.of (s9 _ _ hd8)⟩,_,rfl,lq,_,rfl,.inl ⟨SqL.of (s9 _ _ hq8),fun t2 ht2=>?_⟩⟩
     have s10:=s9.trans (Zbj (o:=.tup (xs.map V.str)) ht2)
     have hd10:=s10 _ _ hd8
     have hul:=hD8.length
     refine ⟨ld,_,_,rfl,rfl,hd10,Za1 (by omega),ds++[xs],us++[.ref t2],_,_,_,_,_,rfl,?_,?_,?_,uS,?_,?_,?_,?_⟩
     ·exact (dr08.same s10).sub (o':=.lst []) (q:=ld) (fun b o hb e=>by rw [Zab hb];exact e) ldH pd
     ·rw [Zab wd];exact s10 _ _ (dr8.keep _ _ lwp hw5)
     ·rw [Zab bd];exact s10 _ _ (dr8.keep _ _ (Ne.symm pb) hb5)
     ·have tk:∀ b zs,(upd (upd H8 t (.tup (xs.map V.str))) t2 (.tup (xs.map V.str))) b=some (.tup zs)→(upd (upd (upd H8 t (.tup (xs.map V.str))) t2 (.tup (xs.map V.str))) ld (.lst (us++[V.ref t2]))) b=some (.tup zs):=fun b zs e=>by
       rw [Zab (fun z=>by rw [z,hd10] at e;cases e)];exact e
      exact Paired.snoc ((hD8.mono s10).drawn (p:=p) (o:=.lst []) tk) ⟨t2,rfl,tk _ _ uS⟩
     ·intro d hd
      rcases List.mem_append.mp hd with z | z
      ·exact gc5 d z
      ·rw [List.mem_singleton.mp z];exact ⟨hxl,hx8⟩
     ·rw [List.nodup_append]
      exact ⟨nd5,by simp,fun a ha b hb e=>hn (by rw [← List.mem_singleton.mp hb,← e];exact ha)⟩
     ·rw [List.length_append]
      show ds.length + 1≤i + 1
      omega
    ·exact ⟨ds,us,_,_,_,_,_,rfl,dr08.same s9,s9 _ _ (dr8.keep _ _ lwp hw5),s9 _ _ (dr8.keep _ _ (Ne.symm pb) hb5),s9 _ _ hd8,hD8.mono s9,gc5,nd5,by omega⟩
  ·rintro σ H6 ⟨ds,us,a5,b5,c5,e5,f5,rfl,d6,hw6,hb6,hd6,hD6,gc6,nd6,len6⟩
   rw [Zay] at len6
   exact ⟨_,rfl,q ld ds us H6 d6 ldH hd6 hD6 ⟨gc6,nd6,by omega⟩ (by omega)⟩
end
end K68
namespace K68
open PySem L2 Md
theorem upw_at {H H':Hp}{rows:List (Str×List Str)}{avs:List (Key×V)}(g:Zcr rows) (hA:Zbt H rows rows avs) (s:Zaj H H') {x:Str}(hx:x∈rows.map (·.1)):∃ (t:Addr) (fs:List Str),Zet avs (Sum.inr x)=some (.ref t)∧H' t=some (.lst (fs.map V.str))∧∀ y,inV (V.str y) (fs.map V.str)=Zcy rows x y:=by
 obtain ⟨r,hr',er⟩:=Zdp hx
 obtain ⟨t,fs,hv,ht,hfs⟩:=hA.val g.nd hr'
 refine ⟨t,fs,by rw [← er];exact hv,s _ _ ht,fun y=>?_⟩
 rw [in_strs]
 exact mem_reach (by rw [er] at hfs;exact hfs) y
def spLWithin:Sp:=fun vs H Q _=>∃ (aa a b:Addr) (rows:List (Str×List Str)) (avs:List (Key×V)) (xs ys:List Str),vs=[.ref aa,.ref a,.ref b]∧Zcr rows∧H aa=some (.dK avs)∧Zbt H rows rows avs∧H a=some (.tup (xs.map V.str))∧H b=some (.tup (ys.map V.str))∧(∀ x∈xs,x∈rows.map (·.1))∧xs.length≤1000 ∧
 ∀ H',Zaj H H'→Q (.bl (Zbq rows xs ys)) H'
noncomputable def reachV (rows:List (Str×List Str)):V×V→V
 | (.str x,.str y)=>.bl (Zcy rows x y)
 | _=>.non
theorem reachV_map (rows:List (Str×List Str)) (xs ys:List Str):(((xs.map V.str).zip (ys.map V.str)).filter fun _=>true).map (reachV rows)=((xs.zip ys).map fun p=>Zcy rows p.1 p.2).map V.bl:=by
 rw [all_true,zip_str,List.map_map,List.map_map]
 rfl
theorem nd_uwa:(["under","word","above"]:List Str).Nodup:=by decide +kernel
structure TxtW (mg:Str→Option Value):Prop where
 all:mg "all"=none
 zip:mg "zip"=none
section
variable {P:Program} {w:World} {K:W.Frag} {mg:Str→Option Value} {base:Heap}
abbrev nLW:List Str:=["above","one","other"]
theorem scLW:Zai nLW nLW (Zad Zc4):=⟨rfl,rfl,rfl,by decide +kernel,rfl,by decide +kernel,by decide +kernel⟩
theorem ok_lwithin {f:Addr}{fd:FuncData}(F:Def K mg "_law_within" Zc4 nLW f fd) (T:TxtW mg):Zar P w K mg base CX0 1 f fd nLW spLWithin:=by
 refine F.fn.ok scLW (fun vs H Q E h=>?_) (fun cdv A outer s H vs Q E hr h=>?_)
 ·obtain ⟨aa,a,b,rows,avs,xs,ys,rfl,_⟩:=h
  rfl
 ·obtain ⟨aa,a,b,rows,avs,xs,ys,rfl,g,haa,hA,ha,hb,hx,hl,q⟩:=h
  have hu:=Zfp hr
  refine' ⟨_,Zac (Zal (Zam (call_all rfl) (by rfl) T.all PyProof.Rows.boot_all (pC ?ea Zaa))),?_⟩
  case ea=>exact (Zbl ["under","word"] ["above"] [0] (fun _=>Zax (osc:=Zad Zc4) (on:=nLW) (by decide +kernel) rfl rfl rfl) (pi_zip (by rfl) T.zip (pC (pv 1) (pC (pv 2) Zaa)))
    (fun C s H fp=>pg_two (K:=K) (i:=0) (j:=1) rfl rfl nd_uwa rfl rfl (Or.inl rfl) (Or.inl rfl) (Or.inr rfl) (Or.inr rfl)) (fun C s H fp=>Zbw)
    (fun C s H fp=>pe_cmpR (r:=rIn K false) op_in_seq (pv 1) (Zdk hu (pv 2) (pv 0) (fun _ _=>rfl)) (by with_unfolding_all rfl)))
  refine ⟨_,rfl,_,rfl,a,b,_,_,rfl,SqT.of ha,SqT.of hb,comp_val2 (sL (by rw [List.length_zip,List.length_map];omega)) (fun _=>true) (reachV rows) (fun H' s'=>⟨SqT.of (s' _ _ ha),SqT.of (s' _ _ hb)⟩) ?_ ?_ ?_⟩
  ·intro x H' R s' _ hR
   exact hR H' (Zaj.refl _)
  ·intro x H' R s' hxm _ hR
   rw [zip_str] at hxm
   obtain ⟨z,hz,rfl⟩:=List.mem_map.mp hxm
   obtain ⟨t,fs,hv,ht,hin⟩:=upw_at g hA s' (hx _ (List.of_mem_zip hz).1)
   refine ⟨_,rfl,_,rfl,_,rfl,aa,_,rfl,(by rw [← hv];exact DGet.k (k:=Sum.inr z.1) (s' _ _ haa)),t,_,rfl,.inl (SqL.of ht),rfl,Zdz fs,?_⟩
   have e1:(if false=true then !inV (str2 z).2 (fs.map V.str) else inV (str2 z).2 (fs.map V.str))=Zcy rows z.1 z.2:=by rw [if_neg (by decide)];exact hin z.2
   rw [e1]
   exact hR H' (Zaj.refl _)
  ·intro D H' hD s' hl'
   refine ⟨D,_,rfl,SqL.of (by rw [hl',reachV_map]),?_⟩
   have q':=q H' s'
   unfold Zbq at q'
   show Q (.bl (((xs.zip ys).map fun p=>Zcy rows p.1 p.2).all id)) _
   rw [List.all_map]
   exact q'
end
end K68
namespace K68
open PySem L2 Md
noncomputable def wB (rows:List (Str×List Str)) (ds:List (List Str)) (j k:Nat):Bool:=Zbq rows (ds.getD j []) (ds.getD k [])
def stepN (W:Nat→Nat→Bool) (near:List Nat) (x:Nat):List Nat:=if near.any (fun k=>W k x)=true then near else near.filter (fun k=>!W x k)++[x]
def mins (W:Nat→Nat→Bool) (l:List Nat):List Nat:=l.filter fun k=>!(l.any fun j=>!decide (j=k)&&W j k)
structure NearOk (W:Nat→Nat→Bool) (l near:List Nat):Prop where
 sub:near.Sublist l
 min:∀ k∈near,∀ j∈l,W j k=true→j=k
 dom:∀ j∈l,∃ k∈near,k=j∨W k j=true
theorem NearOk.nil (W:Nat→Nat→Bool):NearOk W [] []:=⟨.slnil,(fun k h=>nomatch h),(fun k h=>nomatch h)⟩
theorem NearOk.step {W:Nat→Nat→Bool}{l near:List Nat}{x:Nat}{S:Nat→Prop}(tr:∀ a b c,S a→S b→S c→W a b=true→W b c=true→W a c=true) (an:∀ a b,S a→S b→W a b=true→W b a=true→a=b) (hl:∀ k∈l,S k) (hx:S x) (h:NearOk W l near):NearOk W (l++[x]) (stepN W near x):=by
 have ns:∀ k∈near,S k:=fun k hk=>hl k (h.sub.subset hk)
 unfold stepN
 by_cases c:near.any (fun k=>W k x)=true
 ·rw [if_pos c]
  obtain ⟨k0,hk0,w0⟩:=List.any_eq_true.mp c
  refine ⟨h.sub.trans (List.sublist_append_left _ _),fun k hk j hj w=>?_,fun j hj=>?_⟩
  ·rcases List.mem_append.mp hj with z | z
   ·exact h.min k hk j z w
   ·have e:j=x:=List.mem_singleton.mp z
    subst e
    have e1:=h.min k hk k0 (h.sub.subset hk0) (tr k0 j k (ns _ hk0) hx (ns _ hk) w0 w)
    rw [e1] at w0
    exact an j k hx (ns _ hk) w w0
  ·rcases List.mem_append.mp hj with z | z
   ·exact h.dom j z
   ·rw [List.mem_singleton.mp z]
    exact ⟨k0,hk0,.inr w0⟩
 ·rw [if_neg c]
  have nc:∀ k∈near,¬ W k x=true:=fun k hk w=>c (List.any_eq_true.mpr ⟨k,hk,w⟩)
  refine ⟨List.Sublist.append (List.filter_sublist.trans h.sub) (List.Sublist.refl _),fun k hk j hj w=>?_,fun j hj=>?_⟩
  ·rcases List.mem_append.mp hk with y | y
   ·obtain ⟨y1,y2⟩:=List.mem_filter.mp y
    rcases List.mem_append.mp hj with z | z
    ·exact h.min k y1 j z w
    ·rw [List.mem_singleton.mp z] at w
     rw [w] at y2
     cases y2
   ·have e:k=x:=List.mem_singleton.mp y
    subst e
    rcases List.mem_append.mp hj with z | z
    ·obtain ⟨k0,hk0,d⟩:=h.dom j z
     rcases d with d | d
     ·rw [d] at hk0
      exact absurd w (nc j hk0)
     ·exact absurd (tr k0 j k (ns _ hk0) (hl _ z) hx d w) (nc k0 hk0)
    ·exact List.mem_singleton.mp z
  ·rcases List.mem_append.mp hj with z | z
   ·obtain ⟨k0,hk0,d⟩:=h.dom j z
    by_cases wx:W x k0=true
    ·refine ⟨x,by simp,.inr ?_⟩
     rcases d with d | d
     ·rw [← d];exact wx
     ·exact tr x k0 j hx (ns _ hk0) (hl _ z) wx d
    ·exact ⟨k0,List.mem_append_left _ (List.mem_filter.mpr ⟨hk0,by simpa using wx⟩),d⟩
   ·rw [List.mem_singleton.mp z]
    exact ⟨x,by simp,.inl rfl⟩
theorem sub_filter {α:Type} [DecidableEq α]:∀ {near l:List α},near.Sublist l→l.Nodup→near=l.filter fun k=>decide (k∈near)
 | _,_,.slnil,_=>rfl
 | _,_,.cons a h,nd=>by
  obtain ⟨n1,n2⟩:=List.nodup_cons.mp nd
  rw [List.filter_cons,if_neg (by simpa using fun m=>n1 (h.subset m))]
  exact sub_filter h n2
 | _,_,.cons₂ (l₁:=n) (l₂:=l) a h,nd=>by
  obtain ⟨n1,n2⟩:=List.nodup_cons.mp nd
  rw [List.filter_cons,if_pos (by simp)]
  congr 1
  have e:(l.filter fun k=>decide (k∈a :: n))=l.filter fun k=>decide (k∈n):=List.filter_congr fun k hk=>by
   have:k≠a:=fun z=>n1 (by rw [← z];exact hk)
   simp [this]
  rw [e]
  exact sub_filter h n2
theorem NearOk.is {W:Nat→Nat→Bool}{l near:List Nat}(nd:l.Nodup) (h:NearOk W l near):near=mins W l:=by
 refine (sub_filter h.sub nd).trans ?_
 unfold mins
 refine List.filter_congr fun k hk=>?_
 rw [Bool.eq_iff_iff,decide_eq_true_iff,Bool.not_eq_true',List.any_eq_false]
 constructor
 ·intro hm j hj z
  rw [Bool.and_eq_true] at z
  have:=h.min k hm j hj z.2
  simp [this] at z
 ·intro hm
  obtain ⟨k0,hk0,d⟩:=h.dom k hk
  rcases d with d | d
  ·rw [← d];exact hk0
  ·by_cases e:k0=k
   ·rw [← e];exact hk0
   ·exact absurd (by rw [Bool.and_eq_true];exact ⟨by simp [e],d⟩) (hm k0 (h.sub.subset hk0))
theorem reachB_true {rows:List (Str×List Str)}{x y:Str}:Zcy rows x y=true↔Graph.Reach (Zb2 rows) x y:=by
 unfold Zcy
 exact @decide_eq_true_iff _ (Classical.propDecidable _)
theorem rank_of {rows:List (Str×List Str)}(g:Zcr rows):∃ rk:Str→Nat,∀ a b,b∈Zb2 rows a→rk b<rk a:=by
 obtain ⟨rk,hrk⟩:=g.rank
 refine ⟨rk,fun a b hb=>?_⟩
 unfold Zb2 at hb
 cases e:rows.lookup a with
 | none=>rw [e] at hb;simp at hb
 | some us =>
  rw [e] at hb
  have hm:(a,us)∈rows:=PySem.mem_of_lookup e
  exact hrk (a,us) hm b hb
theorem reach_anti {rows:List (Str×List Str)}(g:Zcr rows) {x y:Str} (h1:Graph.Reach (Zb2 rows) x y) (h2:Graph.Reach (Zb2 rows) y x):x=y:=by
 obtain ⟨rk,hrk⟩:=rank_of g
 refine Classical.byContradiction fun ne=>?_
 have a:=Graph.Reach.rank_lt hrk h1 ne
 have b:=Graph.Reach.rank hrk h2
 omega
theorem reach_trans {ups:Str→List Str}{x y z:Str} (h1:Graph.Reach ups x y) (h2:Graph.Reach ups y z):Graph.Reach ups x z:=h1.trans h2
theorem within_iff {rows:List (Str×List Str)}{xs ys:List Str}:Zbq rows xs ys=true↔∀ (i:Nat) (x y:Str),xs[i]?=some x→ys[i]?=some y→Graph.Reach (Zb2 rows) x y:=by
 unfold Zbq
 rw [List.all_eq_true]
 constructor
 ·intro h i x y hx hy
  have hz:(xs.zip ys)[i]?=some (x,y):=by rw [List.getElem?_zip_eq_some];exact ⟨hx,hy⟩
  exact reachB_true.mp (h _ (List.mem_of_getElem? hz))
 ·intro h p hp
  obtain ⟨i,hi⟩:=List.getElem?_of_mem hp
  rw [List.getElem?_zip_eq_some] at hi
  exact reachB_true.mpr (h i _ _ hi.1 hi.2)
theorem within_trans {rows:List (Str×List Str)}{n:Nat}{xs ys zs:List Str} (h1:xs.length=n) (h2:ys.length=n) (h3:zs.length=n) (a:Zbq rows xs ys=true) (b:Zbq rows ys zs=true):Zbq rows xs zs=true:=by
 rw [within_iff] at a b ⊢
 intro i x z hx hz
 have hi:i<ys.length:=by have:=(List.getElem?_eq_some_iff.mp hx).1;omega
 exact reach_trans (a i x _ hx (List.getElem?_eq_getElem hi)) (b i _ z (List.getElem?_eq_getElem hi) hz)
theorem within_anti {rows:List (Str×List Str)}(g:Zcr rows) {n:Nat}{xs ys:List Str} (h1:xs.length=n) (h2:ys.length=n) (a:Zbq rows xs ys=true) (b:Zbq rows ys xs=true):xs=ys:=by
 rw [within_iff] at a b
 refine List.ext_getElem (h1.trans h2.symm) fun i i1 i2=>?_
 exact reach_anti g (a i _ _ (List.getElem?_eq_getElem i1) (List.getElem?_eq_getElem i2)) (b i _ _ (List.getElem?_eq_getElem i2) (List.getElem?_eq_getElem i1))
theorem Zfg {ds:List (List Str)}{j:Nat}(h:j<ds.length):ds[j]?=some (ds.getD j []):=by
 rw [List.getD_eq_getElem?_getD,List.getElem?_eq_getElem h]
 rfl
section
variable {rows:List (Str×List Str)} {n:Nat} {ds:List (List Str)} (g:Zcr rows) (gd:Zbi rows n ds)
include gd in
theorem wB_trans (a b c:Nat) (ha:a<ds.length) (hb:b<ds.length) (hc:c<ds.length) (h1:wB rows ds a b=true) (h2:wB rows ds b c=true):wB rows ds a c=true :=
 within_trans (gd.call _ (List.mem_of_getElem? (Zfg ha))).len (gd.call _ (List.mem_of_getElem? (Zfg hb))).len (gd.call _ (List.mem_of_getElem? (Zfg hc))).len h1 h2
include g gd in
theorem wB_anti (a b:Nat) (ha:a<ds.length) (hb:b<ds.length) (h1:wB rows ds a b=true) (h2:wB rows ds b a=true):a=b:=by
 have e:=within_anti g (gd.call _ (List.mem_of_getElem? (Zfg ha))).len (gd.call _ (List.mem_of_getElem? (Zfg hb))).len h1 h2
 have h3:=Zfg ha
 have h4:=Zfg hb
 rw [e] at h3
 exact (List.getElem?_inj ha gd.nd).mp (h3.trans h4.symm)
include g gd in
theorem near_step {l near:List Nat}{x:Nat}(hl:∀ k∈l,k<ds.length) (hx:x<ds.length) (h:NearOk (wB rows ds) l near):NearOk (wB rows ds) (l++[x]) (stepN (wB rows ds) near x):=
 h.step (S:=fun k=>k<ds.length) (wB_trans gd) (wB_anti g gd) hl hx
end
def spNearWith (C:Addr):Sp:=fun vs H Q _=>∃ (p ld ln:Addr) (x n:Nat) (rows:List (Str×List Str)) (ds:List (List Str)) (us:List V) (near:List Nat),vs=[.ref p,.ref ld,.ref ln,.int x]∧Zbo C H p rows∧Zcr rows∧H ld=some (.lst us)∧Za2 H ds us∧Zbi rows n ds∧H ln=some (.lst (near.map Ze6))∧(∀ k∈near,k<ds.length)∧x<ds.length∧near.length≤64 ∧
 ∀ l H',Zaj H H'→(l=ln∨H l=none)→H' l=some (.lst ((stepN (wB rows ds) near x).map Ze6))→Q (.ref l) H'
noncomputable def wV (rows:List (Str×List Str)) (ds:List (List Str)) (x:Nat):V→V
 | .int j=>.bl (wB rows ds j.toNat x)
 | _=>.non
noncomputable def nwV (rows:List (Str×List Str)) (ds:List (List Str)) (x:Nat):V→Bool
 | .int j=>!wB rows ds x j.toNat
 | _=>false
theorem wV_map (rows:List (Str×List Str)) (ds:List (List Str)) (x:Nat) (near:List Nat):((near.map Ze6).filter fun _=>true).map (wV rows ds x)=(near.map fun k=>wB rows ds k x).map V.bl:=by
 rw [List.filter_eq_self.mpr (fun _ _=>rfl),List.map_map,List.map_map]
 rfl
theorem nwV_map (rows:List (Str×List Str)) (ds:List (List Str)) (x:Nat) (near:List Nat):((near.map Ze6).filter (nwV rows ds x)).map (fun v=>v)=(near.filter fun k=>!wB rows ds x k).map Ze6:=by
 rw [List.map_id',List.filter_map]
 rfl
theorem nd_kkdn:(["kept","kinds","deeds","number"]:List Str).Nodup:=by decide +kernel
section
variable {P:Program} {w:World} {K:W.Frag} {mg:Str→Option Value} {base:Heap}
abbrev nNW:List Str:=["kinds","deeds","near","number"]
theorem scNW:Zai nNW nNW (Zad Zb9):=⟨rfl,rfl,rfl,by decide +kernel,rfl,by decide +kernel,by decide +kernel⟩
theorem ok_near_with {f C fW:Addr}{fd fdW:FuncData}(F:Def K mg "nearest_with" Zb9 nNW f fd) (any:mg "any"=none) (DW:Def K mg "within" s_within ["kinds","one","other"] fW fdW) (GW:Zar P w K mg base CX0 4 fW fdW ["kinds","one","other"] (spWithin C)):
  Zar P w K mg base CX0 5 f fd nNW (spNearWith C):=by
 refine F.fn.ok scNW (fun vs H Q E h=>?_) (fun cdv A outer s H vs Q E hr h=>?_)
 ·obtain ⟨p,ld,ln,x,n,rows,ds,us,near,rfl,_⟩:=h
  rfl
 ·obtain ⟨p,ld,ln,x,n,rows,ds,us,near,rfl,kd,g,hld,hD,gd,hln,hk,hx,hn,q⟩:=h
  refine' ⟨_,pS (Za4 (Zcz (Zam (call_any rfl) (by rfl) any PyProof.Rows.boot_any (pC ?ea Zaa))) (Zac (Zal (pv 2))) Zak) (Zac (Zal (Za0 op_cat ?eb (Zbn (pC (pv 3) Zaa))))),?_⟩
  case ea=>exact (Zbl ["kept"] ["kinds","deeds","number"] [0,1,3] (fun _=>Zax (osc:=Zad Zb9) (on:=nNW) (by decide +kernel) rfl rfl rfl) (Za7 (pv 2)) (fun C s H fp=>Zah (i:=0) nd_kkdn rfl (Or.inl rfl) (Or.inr rfl)) (fun C s H fp=>Zbw)
    (fun C s H fp=>Zae DW GW hr (pC (pv 1) (pC (Zaw (r:=rIxL K) Zav (pv 2) (pv 0) (fun _ _=>rfl)) (pC (Zaw (r:=rIxL K) Zav (pv 2) (pv 3) (fun _ _=>rfl)) Zaa)))))
  case eb=>exact (Zbl ["kept"] ["kinds","deeds","number"] [0,1,3] (fun _=>Zax (osc:=Zad Zb9) (on:=nNW) (by decide +kernel) rfl rfl rfl) (Za7 (pv 2)) (fun C s H fp=>Zah (i:=0) nd_kkdn rfl (Or.inl rfl) (Or.inr rfl))
    (fun C s H fp=>Zem (Zc8 (Zcz (Zae DW GW hr (pC (pv 1) (pC (Zaw (r:=rIxL K) Zav (pv 2) (pv 3) (fun _ _=>rfl)) (pC (Zaw (r:=rIxL K) Zav (pv 2) (pv 0) (fun _ _=>rfl)) Zaa))))))) (fun C s H fp=>pv 0))
  have hul:=hD.length
  have at_:∀ (H':Hp) (k:Nat),Zaj H H'→k<ds.length→∃ t,atI us ((k:Nat):Int)=some (.ref t)∧H' t=some (.tup ((ds.getD k []).map V.str)):=fun H' k s' hk=>by
   have hk':k<us.length:=by omega
   obtain ⟨dd,hdd,t,e,ht⟩:=Zas hD (List.getElem?_eq_getElem hk')
   refine ⟨t,Za6 ((List.getElem?_eq_getElem hk').trans (congrArg some e)),?_⟩
   have e2:ds.getD k []=dd:=by rw [List.getD_eq_getElem?_getD,hdd];rfl
   rw [e2]
   exact s' _ _ ht
  have kn:∀ k,k<ds.length→∀ y∈ds.getD k [],y∈rows.map (·.1):=fun k hk=>(gd.call _ (List.mem_of_getElem? (Zfg hk))).known
  refine ⟨_,rfl,ln,rfl,⟨_,SqL.of hln⟩,comp_val (Zat (xs:=near.map Ze6)) (sL (by rw [List.length_map];omega)) (fun _=>true) (wV rows ds x) (fun H' s'=>s'.seq (SqL.of hln)) ?_ ?_ ?_⟩
  ·intro v H' R s' _ hR
   exact hR H' (Zaj.refl _)
  ·intro v H' R s' hv _ hR
   obtain ⟨k,hk',rfl⟩:=List.mem_map.mp hv
   obtain ⟨t1,a1,h1⟩:=at_ H' k s' (hk k hk')
   obtain ⟨t2,a2,h2⟩:=at_ H' x s' hx
   exact ⟨_,rfl,_,rfl,_,rfl,ld,_,_,_,rfl,rfl,SqL.of (s' _ _ hld),a1,_,rfl,_,rfl,ld,_,_,_,rfl,rfl,SqL.of (s' _ _ hld),a2,p,t1,t2,rows,_,_,rfl,kd.mono s',g,h1,h2,kn k (hk k hk'),kn x hx,fun H'' s''=>hR H'' s''⟩
  ·intro D H1 hD0 s1 hl1
   rw [wV_map] at hl1
   have eA:(near.map fun k=>wB rows ds k x).any id=near.any fun k=>wB rows ds k x:=by rw [List.any_map];rfl
   refine ⟨D,_,rfl,SqL.of hl1,_,congrArg V.bl eA,?_⟩
   refine Zed (fun h=>?_) (fun h=>?_)
   ·refine ⟨_,rfl,q ln H1 s1 (.inl rfl) ?_⟩
    unfold stepN
    rw [if_pos h]
    exact s1 _ _ hln
   ·refine ⟨_,rfl,ln,rfl,⟨_,SqL.of (s1 _ _ hln)⟩,comp_val (Zat (xs:=near.map Ze6)) (sL (by rw [List.length_map];omega)) (nwV rows ds x) (fun v=>v) (fun H' s'=>s'.seq (SqL.of (s1 _ _ hln))) ?_ ?_ ?_⟩
    ·intro v H' R s' hv hR
     obtain ⟨k,hk',rfl⟩:=List.mem_map.mp hv
     have s2:=s1.trans s'
     obtain ⟨t1,a1,h1⟩:=at_ H' k s2 (hk k hk')
     obtain ⟨t2,a2,h2⟩:=at_ H' x s2 hx
     exact ⟨_,rfl,_,rfl,_,rfl,ld,_,_,_,rfl,rfl,SqL.of (s2 _ _ hld),a2,_,rfl,_,rfl,ld,_,_,_,rfl,rfl,SqL.of (s2 _ _ hld),a1,p,t2,t1,rows,_,_,rfl,kd.mono s2,g,h2,h1,kn x hx,kn k (hk k hk'),fun H'' s''=>⟨_,rfl,hR H'' s''⟩⟩
    ·intro v H' R s' hv _ hR
     exact ⟨_,rfl,hR H' (Zaj.refl _)⟩
    ·intro D2 H2 hD2 s2 hl2
     rw [nwV_map] at hl2
     have fl:(near.filter fun k=>!wB rows ds x k).length≤64:=Nat.le_trans (List.length_filter_le _ _) hn
     refine ⟨_,rfl,sL (by show 1≤100000;decide),fun l3 hl3=>⟨D2,l3,_,_,rfl,rfl,(Zbj hl3) _ _ hl2,uS,sL (by rw [List.length_map];show _ + 1≤100000;omega),fun l4 hl4=>?_⟩⟩
     have s12:=s1.trans s2
     have s3:=s12.trans (Zbj (o:=.lst [.int x]) hl3)
     refine q l4 _ (s3.trans (Zbj hl4)) (.inr (s3.free hl4)) ?_
     rw [uS]
     unfold stepN
     rw [if_neg h,List.map_append]
     rfl
def spNearAmong (C B:Addr):Sp:=fun vs H Q _=>∃ (p k l:Addr) (rows:List (Str×List Str)) (n:Nat) (ds:List (List Str)) (ms:List Nat),vs=[.ref p,.ref l]∧Zco C B H p k rows n ds∧Zcr rows∧Zbi rows n ds∧H l=some (.lst (ms.map Ze6))∧(∀ j∈ms,j<ds.length)∧ms.Nodup∧ms.length≤64 ∧
 ∀ l' H',Zaj H H'→H l'=none→H' l'=some (.lst ((mins (wB rows ds) ms).map Ze6))→Q (.ref l') H'
abbrev nNA:List Str:=["board","numbers","kinds","deeds","near","number"]
theorem scNA:Zai nNA ["board","numbers"] (Zad Zc2):=⟨rfl,rfl,rfl,by decide +kernel,rfl,by decide +kernel,by decide +kernel⟩
theorem nats_at {ms:List Nat}{i:Nat}{v:V}(h:(ms.map Ze6)[i]?=some v):∃ x,ms[i]?=some x∧v=.int (x:Nat):=by
 obtain ⟨x,h1,h2⟩:=mapped_at h
 exact ⟨x,h1,h2.symm⟩
theorem ok_near_among {f C B fK fDe fN fW:Addr}{fd fdK fdDe fdN fdW:FuncData}(F:Def K mg "nearest_among" Zc2 ["board","numbers"] f fd) (list:mg "list"=none) (any:mg "any"=none) (TB:TxtBd K B) (MK:MBKinds K B fK fdK) (MD:MBDeeds K B fDe fdDe) (DN:Def K mg "nearest_with" Zb9 nNW fN fdN)
  (DW:Def K mg "within" s_within ["kinds","one","other"] fW fdW) (GW:Zar P w K mg base CX0 4 fW fdW ["kinds","one","other"] (spWithin C)):Zar P w K mg base CX0 6 f fd ["board","numbers"] (spNearAmong C B):=by
 have GK:Zar P w K mg base CX0 1 fK fdK ["self"] (spBKinds C B):=ok_bkinds MK.fn TB
 have GD:Zar P w K mg base CX0 1 fDe fdDe ["self"] (spBDeeds C B):=ok_bdeeds MD.fn TB list
 have GN:Zar P w K mg base CX0 5 fN fdN nNW (spNearWith C):=ok_near_with DN any DW GW
 refine F.fn.ok scNA (fun vs H Q E h=>?_) (fun cdv A outer s H vs Q E hr h=>?_)
 ·obtain ⟨p,k,l,rows,n,ds,ms,rfl,_⟩:=h
  rfl
 ·obtain ⟨p,k,l,rows,n,ds,ms,rfl,bd,g,gd,hl,hms,nd',hml,q⟩:=h
  obtain ⟨dx,ts,us0,h1,h2,h3,h4⟩:=bd.ex
  have nd:=scNA.nd
  have hr1:Zcm 1 _:=hr.mono (by decide)
  refine ⟨_,(pS (Zag (i:=2) nd rfl (Or.inl rfl) (Zdt (pv 0) TB.cl MK.me GK hr1 MK.b .nil Zde))
   (pS (Zag (i:=3) nd rfl (Or.inl rfl) (Zdt (pv 0) TB.cl MD.me GD hr1 MD.b .nil Zde))
   (pS (Zag (i:=4) nd rfl (Or.inl rfl) (Zbn Zaa))
   (pS (Za8 PassesOwn.never rfl (Za7 (pv 1)) (Zah (i:=5) nd rfl (Or.inl rfl)) (Zac (Zag (i:=4) nd rfl (Or.inl rfl) (Zae DN GN hr (pC (pv 2) (pC (pv 3) (pC (pv 4) (pC (pv 5) Zaa))))))))
   (Zac (Zal (pv 4))))))),?_⟩
  refine ⟨_,rfl,p,dx,_,rfl,h1,no_bkinds _ _ _,p,k,rows,n,ds,rfl,bd,?_⟩
  refine ⟨_,rfl,p,dx,_,rfl,h1,no_bdeeds _ _ _,p,k,rows,n,ds,rfl,bd,fun ld us hld hD=>?_⟩
  have s1:Zaj H (upd H ld (.lst us)):=Zbj hld
  refine ⟨Nat.zero_le _,fun l0 hl0=>?_⟩
  have s2:Zaj H (upd (upd H ld (.lst us)) l0 (.lst [])):=s1.trans (Zbj hl0)
  have hld2:(upd (upd H ld (.lst us)) l0 (.lst [])) ld=some (.lst us):=(Zbj hl0) _ _ uS
  have hl0H:H l0=none:=s1.free hl0
  refine ⟨_,rfl,l,rfl,⟨_,SqL.of (s2 _ _ hl)⟩,Zaq (Zat (xs:=ms.map Ze6)) (fun i σ H'=>∃ (ln:Addr) (near:List Nat) (x:Option V),σ=[some (.ref p),some (.ref l),some (.ref k),some (.ref ld),some (.ref ln),x]∧Zaj H H'∧H' ld=some (.lst us)∧H ln=none∧H' ln=some (.lst (near.map Ze6))∧NearOk (wB rows ds) (ms.take i) near)
   ⟨l0,[],none,rfl,s2,hld2,hl0H,uS,NearOk.nil _⟩ (fun i σ H' _ ⟨_,_,_,_,s',_⟩=>SqL.of (s' _ _ hl)) ?_ ?_⟩
  ·rintro i v σ H' hi ⟨ln,near,x0,rfl,s',hld',hlnH,hln,ok⟩
   obtain ⟨x,hx,rfl⟩:=nats_at hi
   have nl:near.length≤ms.length:=Nat.le_trans ok.sub.length_le (by rw [List.length_take];omega)
   refine ⟨_,rfl,_,rfl,_,rfl,_,rfl,k,ld,ln,x,n,rows,ds,us,near,rfl,h2.mono s',g,hld',hD.mono s',gd,hln,fun j hj=>hms j (List.mem_of_mem_take (ok.sub.subset hj)),hms x (List.mem_of_getElem? hx),by omega,fun l' H2 s'' hor hl'=>?_⟩
   refine ⟨l',_,_,rfl,s'.trans s'',s'' _ _ hld',?_,hl',?_⟩
   ·rcases hor with z | z
    ·rw [z];exact hlnH
    ·exact s'.free z
   ·rw [List.take_add_one,hx]
    exact near_step g gd (fun j hj=>hms j (List.mem_of_mem_take hj)) (hms x (List.mem_of_getElem? hx)) ok
  ·rintro σ H' ⟨ln,near,x0,rfl,s',hld',hlnH,hln,ok⟩
   rw [List.length_map,List.take_length] at ok
   refine ⟨_,rfl,q ln H' s' hlnH ?_⟩
   rw [hln,ok.is nd']
noncomputable def nearL (rows:List (Str×List Str)) (ds:List (List Str)) (xs:List Str):List Nat:=mins (wB rows ds) (fits rows ds xs)
def spNearest (C B:Addr):Sp:=fun vs H Q _=>∃ (p k t:Addr) (rows:List (Str×List Str)) (n:Nat) (ds:List (List Str)) (xs:List Str),vs=[.ref p,.ref t]∧Zco C B H p k rows n ds∧Zcr rows∧Zbi rows n ds∧n≤4∧H t=some (.tup (xs.map V.str))∧Zbz rows n xs ∧
 ∀ l H',H l=none→Zaj H H'→H' l=some (.lst ((nearL rows ds xs).map Ze6))→Q (.ref l) H'
theorem fits_lt {rows:List (Str×List Str)}{ds:List (List Str)}{xs:List Str}:∀ k∈fits rows ds xs,k<ds.length:=fun k hk=>List.mem_range.mp (List.mem_filter.mp hk).1
theorem fits_nd (rows:List (Str×List Str)) (ds:List (List Str)) (xs:List Str):(fits rows ds xs).Nodup:=List.nodup_range.filter _
theorem fits_len (rows:List (Str×List Str)) (ds:List (List Str)) (xs:List Str):(fits rows ds xs).length≤ds.length:=by
 unfold fits
 refine Nat.le_trans (List.length_filter_le _ _) ?_
 rw [List.length_range]
 exact Nat.le_refl _
theorem scNe:Zai ["board","call"] ["board","call"] (Zad s_nearest):=⟨rfl,rfl,rfl,by decide +kernel,rfl,by decide +kernel,by decide +kernel⟩
theorem ok_nearest {f C B fA fF:Addr}{fd fdA fdF:FuncData}(F:Def K mg "nearest" s_nearest ["board","call"] f fd) (DA:Def K mg "nearest_among" Zc2 ["board","numbers"] fA fdA) (GA:Zar P w K mg base CX0 6 fA fdA ["board","numbers"] (spNearAmong C B)) (DF:Def K mg "fitting" s_fitting ["board","call"] fF fdF) (GF:Zar P w K mg base CX0 5 fF fdF ["board","call"] (spFitting C B)):
  Zar P w K mg base CX0 7 f fd ["board","call"] (spNearest C B):=by
 refine F.fn.ok scNe (fun vs H Q E h=>?_) (fun cdv A outer s H vs Q E hr h=>?_)
 ·obtain ⟨p,k,t,rows,n,ds,xs,rfl,_⟩:=h
  rfl
 ·obtain ⟨p,k,t,rows,n,ds,xs,rfl,bd,g,gd,hn,ht,gc,q⟩:=h
  have hr5:Zcm 5 _:=hr.mono (by decide)
  have few:=gd.few
  have fl:=fits_len rows ds xs
  refine ⟨_,Zac (Zal (Zae DA GA hr (pC (pv 0) (pC (Zae DF GF hr5 (pC (pv 0) (pC (pv 1) Zaa))) Zaa)))),?_⟩
  refine ⟨_,rfl,_,rfl,_,rfl,p,k,t,rows,n,ds,xs,rfl,bd,g,gd,hn,ht,gc,fun l H1 hl s1 hl1=>?_⟩
  exact ⟨p,k,l,rows,n,ds,fits rows ds xs,rfl,bd.mono s1,g,gd,hl1,fits_lt,fits_nd _ _ _,by omega,fun l' H2 s2 hl' h2=>q l' H2 (s1.free hl') (s1.trans s2) h2⟩
def toldV:List Nat→List V
 | []=>[.str "none"]
 | [k]=>[.str "deed",Ze6 k]
 | k :: j :: _=>[.str "clash",Ze6 k,Ze6 j]
def spToldOf:Sp:=fun vs H Q _=>∃ (l:Addr) (near:List Nat),vs=[.ref l]∧H l=some (.lst (near.map Ze6))∧∀ t H',H t=none→Zaj H H'→H' t=some (.tup (toldV near))→Q (.ref t) H'
theorem scTo2:Zai ["near"] ["near"] (Zad s_told_of):=⟨rfl,rfl,rfl,by decide +kernel,rfl,by decide +kernel,by decide +kernel⟩
theorem ok_told_of {f:Addr}{fd:FuncData}(F:Def K mg "told_of" s_told_of ["near"] f fd) (len:mg "len"=none):Zar P w K mg base CX0 1 f fd ["near"] spToldOf:=by
 refine F.fn.ok scTo2 (fun vs H Q E h=>?_) (fun cdv A outer s H vs Q E hr h=>?_)
 ·obtain ⟨l,near,rfl,_⟩:=h
  rfl
 ·obtain ⟨l,near,rfl,hl,q⟩:=h
  refine ⟨_,pS (Za4 (Zc8 (pt_truth (pv 0) (fun _=>rfl))) (Zac (Zal (Zbm (pC Zb3 Zaa)))) Zak)
   (pS (Za4 (Zan Zec (Zam Zao (by rfl) len PySem.boot_len (pC (pv 0) Zaa)) Zaf (Zau _)) (Zac (Zal (Zbm (pC Zb3 (pC (Zaw Zav (pv 0) Zaf (fun _ _=>rfl)) Zaa))))) Zak)
   (Zac (Zal (Zbm (pC Zb3 (pC (Zaw Zav (pv 0) Zaf (fun _ _=>rfl)) (pC (Zaw Zav (pv 0) Zaf (fun _ _=>rfl)) Zaa))))))),?_⟩
  cases near with
  | nil=>exact ⟨_,rfl,false,.inl ⟨[],SqL.of hl,rfl⟩,iteT ⟨sL (by show 1≤100000;decide),fun t ht=>q t _ ht (Zbj ht) uS⟩⟩
  | cons k r =>
   refine ⟨_,rfl,true,.inl ⟨_,SqL.of hl,rfl⟩,Zdv ?_⟩
   refine ⟨_,rfl,l,_,rfl,.inl (SqL.of hl),rfl,_,rfl,?_⟩
   cases r with
   | nil =>
    refine Zed (fun _=>?_) (fun h=>absurd (by rfl) h)
    exact ⟨_,rfl,l,_,_,_,rfl,rfl,SqL.of hl,rfl,sL (by show 2≤100000;decide),fun t ht=>q t _ ht (Zbj ht) uS⟩
   | cons j r =>
    refine Zed (fun h=>?_) (fun _=>?_)
    ·have h:=of_decide_eq_true h
     injection h with h
     simp at h
     omega
    ·exact ⟨_,rfl,l,_,_,_,rfl,rfl,SqL.of hl,Za6 (j:=0) rfl,_,rfl,l,_,_,_,rfl,rfl,SqL.of hl,Za6 (j:=1) rfl,sL (by show 3≤100000;decide),fun t ht=>q t _ ht (Zbj ht) uS⟩
def spTold (C B:Addr):Sp:=fun vs H Q _=>∃ (p k t:Addr) (rows:List (Str×List Str)) (n:Nat) (ds:List (List Str)) (xs:List Str),vs=[.ref p,.ref t]∧Zco C B H p k rows n ds∧Zcr rows∧Zbi rows n ds∧n≤4∧H t=some (.tup (xs.map V.str))∧Zbz rows n xs ∧
 ∀ l H',H l=none→Zaj H H'→H' l=some (.tup (toldV (nearL rows ds xs)))→Q (.ref l) H'
theorem scTd:Zai ["board","call"] ["board","call"] (Zad s_told):=⟨rfl,rfl,rfl,by decide +kernel,rfl,by decide +kernel,by decide +kernel⟩
theorem ok_told {f C B fN fO:Addr}{fd fdN fdO:FuncData}(F:Def K mg "told" s_told ["board","call"] f fd) (DN:Def K mg "nearest" s_nearest ["board","call"] fN fdN) (GN:Zar P w K mg base CX0 7 fN fdN ["board","call"] (spNearest C B)) (DO:Def K mg "told_of" s_told_of ["near"] fO fdO) (len:mg "len"=none):
  Zar P w K mg base CX0 8 f fd ["board","call"] (spTold C B):=by
 have GO:Zar P w K mg base CX0 1 fO fdO ["near"] spToldOf:=ok_told_of DO len
 refine F.fn.ok scTd (fun vs H Q E h=>?_) (fun cdv A outer s H vs Q E hr h=>?_)
 ·obtain ⟨p,k,t,rows,n,ds,xs,rfl,_⟩:=h
  rfl
 ·obtain ⟨p,k,t,rows,n,ds,xs,rfl,bd,g,gd,hn,ht,gc,q⟩:=h
  have hr1:Zcm 1 _:=hr.mono (by decide)
  refine ⟨_,Zac (Zal (Zae DO GO hr1 (pC (Zae DN GN hr (pC (pv 0) (pC (pv 1) Zaa))) Zaa))),?_⟩
  refine ⟨_,rfl,_,rfl,p,k,t,rows,n,ds,xs,rfl,bd,g,gd,hn,ht,gc,fun l H1 hl s1 hl1=>?_⟩
  exact ⟨l,_,rfl,hl1,fun t' H2 ht' s2 h2=>q t' H2 (s1.free ht') (s1.trans s2) h2⟩
end
end K68
namespace K68
open PySem L2 Md
def spLaw (K:W.Frag):Sp:=fun vs H Q _=>∃ (a:Addr) (ns:List Int),vs=[.ref a]∧SqL K H a (ns.map V.int)∧ns.length≤63∧∀ H',Q (.bl true) H'
noncomputable def dueB (rows:List (Str×List Str)) (ds:List (List Str)) (xs:List Str):V→Bool
 | .int i=>Zbq rows xs (ds.getD i.toNat [])
 | _=>false
theorem due_map (rows:List (Str×List Str)) (ds:List (List Str)) (xs:List Str):((Zcq 0 ds.length).filter (dueB rows ds xs)).map (fun v=>v)=(fits rows ds xs).map Ze6:=by
 rw [List.map_id',rangeV_nat,List.filter_map]
 rfl
theorem deeds_at {H H':Hp}{ds:List (List Str)}{us:List V}(hD:Za2 H ds us) (s:Zaj H H') {k:Nat}(hk:k<ds.length):∃ t,atI us ((k:Nat):Int)=some (.ref t)∧H' t=some (.tup ((ds.getD k []).map V.str)):=by
 have hul:=hD.length
 have hk':k<us.length:=by omega
 obtain ⟨dd,hdd,t,e,ht⟩:=Zas hD (List.getElem?_eq_getElem hk')
 refine ⟨t,Za6 ((List.getElem?_eq_getElem hk').trans (congrArg some e)),?_⟩
 have e2:ds.getD k []=dd:=by rw [List.getD_eq_getElem?_getD,hdd];rfl
 rw [e2]
 exact s _ _ ht
theorem deed_known {rows:List (Str×List Str)}{n:Nat}{ds:List (List Str)}(gd:Zbi rows n ds) {k:Nat}(hk:k<ds.length):∀ y∈ds.getD k [],y∈rows.map (·.1):=(gd.call _ (List.mem_of_getElem? (Zfg hk))).known
theorem deed_len {rows:List (Str×List Str)}{n:Nat}{ds:List (List Str)}(gd:Zbi rows n ds) {k:Nat}(hk:k<ds.length):(ds.getD k []).length=n:=(gd.call _ (List.mem_of_getElem? (Zfg hk))).len
theorem ok_sN (n:Nat):W.kqdOk n (.str "none")=true:=by rw [W.kqdOk];decide +kernel
theorem ok_sC (n:Nat):W.kqdOk n (.str "clash")=true:=by rw [W.kqdOk];decide +kernel
theorem ok_nat (n k:Nat):W.kqdOk n (natD k)=true:=by unfold natD;rw [W.kqdOk]
end K68
namespace K68
open PySem L2 Md
def Zeq (cs:List (List Str)) (ws:List Str):List (List Str):=cs.flatMap fun c=>ws.map fun x=>c++[x]
def Zba (wss:List (List Str)):List (List Str):=wss.foldl Zeq [[]]
theorem Zef (wss:List (List Str)) (ws:List Str):Zba (wss++[ws])=Zeq (Zba wss) ws:=by
 unfold Zba
 rw [List.foldl_append]
 rfl
theorem longer_len (cs:List (List Str)) (ws:List Str):(Zeq cs ws).length=cs.length * ws.length:=by
 unfold Zeq
 induction cs with
 | nil=>simp
 | cons c r ih =>
  rw [List.flatMap_cons,List.length_append,ih,List.length_map,List.length_cons,Nat.add_mul,Nat.one_mul,Nat.add_comm]
theorem longer_take (cs:List (List Str)) (ws:List Str) {i:Nat}{c:List Str}(h:cs[i]?=some c):Zeq (cs.take (i + 1)) ws=Zeq (cs.take i) ws++ws.map fun x=>c++[x]:=by
 unfold Zeq
 rw [List.take_add_one,h,List.flatMap_append]
 simp
theorem fold_len:∀ (wss cs:List (List Str)) (acc:List (List Str)) (m:Nat),(∀ c∈acc,c.length=m)→∀ c∈wss.foldl Zeq acc,c.length=m + wss.length
 | [],_,acc,m,h,c,hc=>h c hc
 | ws :: r,cs,acc,m,h,c,hc=>by
  have:=fold_len r cs (Zeq acc ws) (m + 1) (fun d hd=>by
   obtain ⟨e,he,hd⟩:=List.mem_flatMap.mp hd
   obtain ⟨x,_,rfl⟩:=List.mem_map.mp hd
   rw [List.length_append,h e he]
   rfl) c hc
  rw [this,List.length_cons]
  omega
theorem prod_len {wss:List (List Str)}{c:List Str}(h:c∈Zba wss):c.length=wss.length:=by
 have:=fold_len wss [] [[]] 0 (fun d hd=>by rw [List.mem_singleton.mp hd];rfl) c h
 omega
theorem fold_mem:∀ (wss:List (List Str)) (acc:List (List Str)) (S:Str→Prop),(∀ ws∈wss,∀ x∈ws,S x)→(∀ c∈acc,∀ x∈c,S x)→∀ c∈wss.foldl Zeq acc,∀ x∈c,S x
 | [],acc,S,_,h,c,hc=>h c hc
 | ws :: r,acc,S,hw,h,c,hc=>fold_mem r (Zeq acc ws) S (fun ws' hws'=>hw ws' (by simp [hws'])) (fun d hd=>by
   obtain ⟨e,he,hd⟩:=List.mem_flatMap.mp hd
   obtain ⟨y,hy,rfl⟩:=List.mem_map.mp hd
   intro x hx
   rcases List.mem_append.mp hx with z | z
   ·exact h e he x z
   ·rw [List.mem_singleton.mp z];exact hw ws (by simp) y hy) c hc
theorem Za2.append {H:Hp}{ds es:List (List Str)}{us vs:List V}(h:Za2 H ds us) (k:Za2 H es vs):Za2 H (ds++es) (us++vs):=by
 unfold Za2 at *
 induction h with
 | nil=>exact k
 | cons r t ih=>exact .cons r ih
theorem Za2.len {H:Hp}{ds:List (List Str)}{us:List V}(h:Za2 H ds us):ds.length=us.length:=Paired.length h
def CallV (c:List Str) (x v:V) (H:Hp):Prop:=∃ (t:Addr) (z:Str),x=.str z∧v=.ref t∧H t=some (.tup ((c++[z]).map V.str))
theorem calls_of {H:Hp}{c:List Str}:∀ {ws:List Str}{ys:List V},Paired (fun x v=>CallV c x v H) (ws.map V.str) ys→Za2 H (ws.map fun x=>c++[x]) ys
 | [],_,h=>by cases h;exact .nil
 | x :: r,_,h=>by
  cases h with
  | cons a b =>
   obtain ⟨t,z,e1,e2,e3⟩:=a
   injection e1 with e1
   subst e1
   exact .cons ⟨t,e2,e3⟩ (calls_of b)
theorem nd_ts:(["thing","start"]:List Str).Nodup:=by decide +kernel
def RowsW (H:Hp) (wss:List (List Str)) (vs:List V):Prop:=Paired (fun (ws:List Str) v=>∃ r,v=V.ref r∧H r=some (.lst (ws.map V.str))) wss vs
theorem RowsW.mono {H H':Hp}{wss:List (List Str)}{vs:List V}(h:RowsW H wss vs) (s:Zaj H H'):RowsW H' wss vs:=Paired.mapP h fun _ _ ⟨t,e,x⟩=>⟨t,e,s _ _ x⟩
def spOneEach:Sp:=fun vs H Q _=>∃ (l:Addr) (wss:List (List Str)) (us:List V),vs=[.ref l]∧H l=some (.lst us)∧RowsW H wss us∧(∀ i,(Zba (wss.take i)).length≤10000)∧(∀ ws∈wss,ws.length≤1000)∧wss.length≤100 ∧
 ∀ (lf:Addr) (ys:List V) (H':Hp),H lf=none→Zaj H H'→H' lf=some (.lst ys)→Za2 H' (Zba wss) ys→Q (.ref lf) H'
section
variable {P:Program} {w:World} {K:W.Frag} {mg:Str→Option Value} {base:Heap}
abbrev nOE:List Str:=["rows","found","row","longer","start"]
theorem scOE:Zai nOE ["rows"] (Zad Zc1):=⟨rfl,rfl,rfl,by decide +kernel,rfl,by decide +kernel,by decide +kernel⟩
theorem ok_one_each {f:Addr}{fd:FuncData}(F:Def K mg "one_of_each" Zc1 ["rows"] f fd):Zar P w K mg base CX0 1 f fd ["rows"] spOneEach:=by
 refine F.fn.ok scOE (fun vs H Q E h=>?_) (fun cdv A outer s H vs Q E hr h=>?_)
 ·obtain ⟨l,wss,us,rfl,_⟩:=h
  rfl
 ·obtain ⟨l,wss,us,rfl,hl,hR,hb,hw,hn,q⟩:=h
  have nd:=scOE.nd
  have hul:wss.length=us.length:=Paired.length hR
  refine' ⟨_,(pS (Zag (i:=1) nd rfl (Or.inl rfl) (Zbn (pC (Zbm Zaa) Zaa)))
   (pS (Za8 PassesOwn.never rfl (Za7 (pv 0)) (Zah (i:=2) nd rfl (Or.inl rfl))
    (pS (Zag (i:=3) nd rfl (Or.inl rfl) (Zbn Zaa))
   (pS (Za8 PassesOwn.never rfl (Za7 (pv 1)) (Zah (i:=4) nd rfl (Or.inr rfl)) (Zac (Za3 (Zfo PySem.F.plainAttrs_list PySem.F.slot_list_extend PySem.F.type_list_extend mt_extend (pv 3) (pC ?ea Zaa)))))
   (Zac (Zag (i:=1) nd rfl (Or.inl rfl) (pv 3))))))
   (Zac (Zal (pv 1))))),?_⟩
  case ea=>exact (Zbl ["thing"] ["start"] [4] (fun _=>Zax (osc:=Zad Zc1) (on:=nOE) (by decide +kernel) rfl rfl rfl) (Za7 (pv 2)) (fun C s H fp=>Zah (i:=0) nd_ts rfl (Or.inl rfl) (Or.inr rfl)) (fun C s H fp=>Zbw)
    (fun C s H fp=>Za0 (r:=rCatA K) op_catA (pv 1) (Zbm (pC (pv 0) Zaa))))
  refine ⟨Nat.zero_le _,fun t0 ht0=>⟨sL (by show 1≤100000;decide),fun l0 hl0=>?_⟩⟩
  have s0:Zaj H (upd (upd H t0 (.tup [])) l0 (.lst [.ref t0])):=(Zbj ht0).trans (Zbj hl0)
  have l0H:H l0=none:=(Zbj (o:=.tup []) ht0).free hl0
  refine ⟨_,rfl,l,rfl,⟨_,SqL.of (s0 _ _ hl)⟩,Zaq (Zat (xs:=us)) (fun i σ H'=>∃ (lf:Addr) (ys:List V) (x1 x2 x3:Option V),σ=[some (.ref l),some (.ref lf),x1,x2,x3]∧Zaj H H'∧H lf=none∧H' lf=some (.lst ys)∧Za2 H' (Zba (wss.take i)) ys)
   ⟨l0,[.ref t0],none,none,none,rfl,s0,l0H,uS,.cons ⟨t0,rfl,(Zbj hl0) _ _ uS⟩ .nil⟩ (fun i σ H' _ ⟨_,_,_,_,_,_,s',_⟩=>SqL.of (s' _ _ hl)) ?_ ?_⟩
  ·rintro i v σ H' hi ⟨lf,ys,x1,x2,x3,rfl,s',hlfH,hlf,hD⟩
   obtain ⟨ws,hws,rw',rfl,hrw⟩:=Zas hR hi
   have hb1:=hb (i + 1)
   rw [List.take_add_one,hws] at hb1
   have hb1:(Zba (wss.take i++[ws])).length≤10000:=hb1
   rw [Zef] at hb1
   have hwl:=hw ws (List.mem_of_getElem? hws)
   have hyl:=hD.len
   refine ⟨Nat.zero_le _,fun ln hln=>?_⟩
   have s1:Zaj H' (upd H' ln (.lst [])):=Zbj hln
   have lnH:H ln=none:=s'.free hln
   have lfn:lf≠ln:=nNo hlf hln
   have rwn:rw'≠ln:=nNo (s' _ _ hrw) hln
   refine ⟨_,rfl,lf,rfl,⟨_,SqL.of (s1 _ _ hlf)⟩,Zaq (Zat (xs:=ys)) (fun j σ H2=>∃ (zs:List V) (x3:Option V),σ=[some (.ref l),some (.ref lf),some (.ref rw'),some (.ref ln),x3]∧Zaj H' H2∧H2 ln=some (.lst zs)∧Za2 H2 (Zeq ((Zba (wss.take i)).take j) ws) zs)
    ⟨[],x3,rfl,s1,uS,by rw [List.take_zero];exact .nil⟩ (fun j σ H2 _ ⟨_,_,_,s2,_⟩=>SqL.of (s2 _ _ hlf)) ?_ ?_⟩
   ·rintro j v σ H2 hj ⟨zs,x3',rfl,s2,hlnz,hZ⟩
    obtain ⟨c,hc,tc,rfl,htc⟩:=Zas hD hj
    have s02:=s'.trans s2
    have hrw2:=s02 _ _ hrw
    refine ⟨_,rfl,.inl ⟨rfl,_,SqL.of hlnz⟩,_,rfl,rw',rfl,⟨_,SqL.of hrw2⟩,Ze8 (Zat (xs:=ws.map V.str)) (sL (by rw [List.length_map];omega)) (fun _=>true) (fun D x v H=>CallV c x v H∧∀ t,v=.ref t→t≠D) (fun D x v Ha Hb k h=>?_) (fun H' s'=>s'.seq (SqL.of hrw2)) ?_ ?_ ?_⟩
    ·obtain ⟨⟨t,z,e1,e2,e3⟩,ne⟩:=h
     exact ⟨⟨t,z,e1,e2,k _ _ (ne t e2) e3⟩,ne⟩
    ·intro x H3 R _ _ hR'
     exact hR' H3 (Zaj.refl _)
    ·intro D x H3 R s3 hDx hDn hx _ hR'
     obtain ⟨z,hz,rfl⟩:=List.mem_map.mp hx
     obtain ⟨ys',hys'⟩:=hDx
     have htc3:=s3 _ _ (s2 _ _ htc)
     refine ⟨_,rfl,_,rfl,sL (by show 1≤100000;decide),fun t1 ht1=>?_⟩
     have s4:Zaj H3 (upd H3 t1 (.tup [.str z])):=Zbj ht1
     have t1D:t1≠D:=Ne.symm (nNo hys' ht1)
     have cl:c.length≤1000:=by
      have:=prod_len (List.mem_of_getElem? hc)
      rw [List.length_take] at this
      omega
     refine ⟨tc,t1,_,_,rfl,rfl,SqT.of (s4 _ _ htc3),SqT.of uS,sL (by rw [List.length_map];show c.length + 1≤100000;omega),fun e=>?_,(fun _ e=>nomatch e),fun _ _ t2 ht2=>?_⟩
     ·have e0:c=[]:=by cases c with | nil=>rfl | cons a r=>cases e
      subst e0
      exact hR' _ _ s4 ⟨⟨t1,z,rfl,rfl,uS⟩,fun t e=>by injection e with e;rw [← e];exact t1D⟩
     ·have t2D:t2≠D:=Ne.symm (nNo (s4 _ _ hys') ht2)
      exact hR' _ _ (s4.trans (Zbj ht2)) ⟨⟨t2,z,rfl,rfl,by rw [uS,List.map_append];rfl⟩,fun t e=>by injection e with e;rw [← e];exact t2D⟩
    ·intro D H3 vs3 hD3 s3 hl3 hp3
     rw [List.filter_eq_self.mpr (fun _ _=>rfl)] at hp3
     have hC:=calls_of (Paired.mapP hp3 fun _ _ z=>z.1)
     have hlnz3:=s3 _ _ hlnz
     have zl:=hZ.len
     have vl:=hC.len
     rw [List.length_map] at vl
     have hj':j<(Zba (wss.take i)).length:=(List.getElem?_eq_some_iff.mp hc).1
     have lz:(Zeq ((Zba (wss.take i)).take j) ws).length + ws.length≤10000:=by
      rw [longer_len] at hb1 ⊢
      rw [List.length_take,Nat.min_eq_left (by omega)]
      refine Nat.le_trans ?_ hb1
      rw [← Nat.succ_mul]
      exact Nat.mul_le_mul_right _ hj'
     refine ⟨ln,D,_,_,rfl,rfl,hlnz3,hl3,sL (by omega),zs++vs3,_,rfl,fun b o e=>by rw [Zab (nNo e hln)];exact s3 _ _ (s2 _ _ e),uS,?_⟩
     rw [longer_take _ _ hc]
     have kp:∀ b o,b≠ln→H3 b=some o→(upd H3 ln (.lst (zs++vs3))) b=some o:=fun b o hb e=>by rw [Zab hb];exact e
     have dk:∀ {ds:List (List Str)} {us:List V},Za2 H3 ds us→Za2 (upd H3 ln (.lst (zs++vs3))) ds us:=fun h=>Paired.mapP h fun _ _ ⟨t,e,x⟩=>⟨t,e,kp _ _ (fun z=>by rw [z,hlnz3] at x;cases x) x⟩
     exact (dk (hZ.mono s3)).append (dk hC)
   ·rintro σ H2 ⟨zs,x3',rfl,s2,hlnz,hZ⟩
    have el:(Zba (wss.take i)).take ys.length=Zba (wss.take i):=by rw [← hyl,List.take_length]
    rw [el] at hZ
    refine ⟨_,rfl,ln,zs,_,_,_,rfl,s'.trans s2,lnH,hlnz,?_⟩
    rw [List.take_add_one,hws]
    show Za2 H2 (Zba (wss.take i++[ws])) zs
    rw [Zef]
    exact hZ
  ·rintro σ H' ⟨lf,ys,x1,x2,x3,rfl,s',hlfH,hlf,hD⟩
   rw [← hul,List.take_length] at hD
   exact ⟨_,rfl,q lf ys H' hlfH s' hlf hD⟩
end
end K68
namespace K68
open PySem L2 Md
def spLNearest:Sp:=fun vs H Q _=>∃ (aa ld t:Addr) (n:Nat) (rows:List (Str×List Str)) (avs:List (Key×V)) (ds:List (List Str)) (us:List V) (xs:List Str),vs=[.ref aa,.ref ld,.ref t]∧Zcr rows∧H aa=some (.dK avs)∧Zbt H rows rows avs∧H ld=some (.lst us)∧Za2 H ds us∧Zbi rows n ds∧H t=some (.tup (xs.map V.str))∧Zbz rows n xs∧n≤4 ∧
 ∀ l H',H l=none→Zaj H H'→H' l=some (.lst ((nearL rows ds xs).map Ze6))→Q (.ref l) H'
noncomputable def otherV (rows:List (Str×List Str)) (ds:List (List Str)) (k:Nat):V→V
 | .int j=>.bl (!decide (j.toNat=k)&&wB rows ds j.toNat k)
 | _=>.non
theorem otherV_map (rows:List (Str×List Str)) (ds:List (List Str)) (k:Nat) (fs:List Nat):((fs.map Ze6).filter fun _=>true).map (otherV rows ds k)=(fs.map fun j=>!decide (j=k)&&wB rows ds j k).map V.bl:=by
 rw [List.filter_eq_self.mpr (fun _ _=>rfl),List.map_map,List.map_map]
 rfl
theorem nd_kacd:(["k","above","call","deeds"]:List Str).Nodup:=by decide +kernel
theorem nd_jkad:(["j","k","above","deeds"]:List Str).Nodup:=by decide +kernel
structure TxtN (mg:Str→Option Value):Prop where
 len:mg "len"=none
 range:mg "range"=none
 any:mg "any"=none
section
variable {P:Program} {w:World} {K:W.Frag} {mg:Str→Option Value} {base:Heap}
abbrev nLN:List Str:=["above","deeds","call","fits","found","k"]
theorem scLN:Zai nLN ["above","deeds","call"] (Zad Zca):=⟨rfl,rfl,rfl,by decide +kernel,rfl,by decide +kernel,by decide +kernel⟩
theorem ok_lnearest {f fLW:Addr}{fd fdLW:FuncData}(F:Def K mg "_law_nearest" Zca ["above","deeds","call"] f fd) (T:TxtN mg) (DLW:Def K mg "_law_within" Zc4 nLW fLW fdLW) (GLW:Zar P w K mg base CX0 1 fLW fdLW nLW spLWithin):
  Zar P w K mg base CX0 2 f fd ["above","deeds","call"] spLNearest:=by
 refine F.fn.ok scLN (fun vs H Q E h=>?_) (fun cdv A outer s H vs Q E hr h=>?_)
 ·obtain ⟨aa,ld,t,n,rows,avs,ds,us,xs,rfl,_⟩:=h
  rfl
 ·obtain ⟨aa,ld,t,n,rows,avs,ds,us,xs,rfl,g,haa,hA,hld,hD,gd,ht,gc,hn,q⟩:=h
  have nd:=scLN.nd
  have hul:=hD.length
  have few:=gd.few
  refine' ⟨_,(pS (?e1)
   (pS (Zag (i:=4) nd rfl (Or.inl rfl) (Zbn Zaa))
   (pS (Za8 PassesOwn.never rfl (Za7 (pv 3)) (Zah (i:=5) nd rfl (Or.inr rfl)) (Zac (Za4 (Zc8 (Zcz (Zam (call_any rfl) (by rfl) T.any PyProof.Rows.boot_any (pC ?e2 Zaa)))) (Zac (Za3 (Zfo PySem.F.plainAttrs_list PySem.F.slot_list_append PySem.F.type_list_append Zbv (pv 4) (pC (pv 5) Zaa)))) Zak)))
   (Zac (Zal (pv 4)))))),?_⟩
  case e1=>exact (Zee (k:=3) ["k"] ["above","call","deeds"] [0,2,1] nd rfl rfl (fun _=>Zax (osc:=Zad Zca) (on:=nLN) (by decide +kernel) rfl rfl rfl) (Zbu (by rfl) T.range (pC (Zam Zao (by rfl) T.len PySem.boot_len (pC (pv 1) Zaa)) Zaa)) (fun C s H fp=>Zah (i:=0) nd_kacd rfl (Or.inl rfl) (Or.inr rfl))
    (fun C s H fp=>Zem (Zcz (Zae DLW GLW hr (pC (pv 1) (pC (pv 2) (pC (Zaw (r:=rIxL K) Zav (pv 3) (pv 0) (fun _ _=>rfl)) Zaa)))))) (fun C s H fp=>pv 0))
  case e2=>exact (Zbl ["j"] ["k","above","deeds"] [5,0,1] (fun _=>Zax (osc:=Zad Zca) (on:=nLN) (by decide +kernel) rfl rfl rfl) (Za7 (pv 3)) (fun C s H fp=>Zah (i:=0) nd_jkad rfl (Or.inl rfl) (Or.inr rfl)) (fun C s H fp=>Zbw)
    (fun C s H fp=>pe_and (pe_cmpR op_ne (pv 0) (pv 1) (Zau _)) (pe_one (Zae DLW GLW hr (pC (pv 2) (pC (Zaw (r:=rIxL K) Zav (pv 3) (pv 0) (fun _ _=>rfl)) (pC (Zaw (r:=rIxL K) Zav (pv 3) (pv 1) (fun _ _=>rfl)) Zaa)))))))
  refine ⟨_,rfl,ld,_,rfl,.inl (SqL.of hld),_,rfl,by omega,by omega,comp_val Zbg (by rw [Zay];exact sL (by omega)) (dueB rows ds xs) (fun v=>v) (fun _ _=>trivial) ?_ ?_ ?_⟩
  ·intro x H' R s' hx hR
   obtain ⟨j,hj⟩:=List.getElem?_of_mem hx
   obtain ⟨hj,rfl⟩:=Zaz hj
   have hj:j<ds.length:=by omega
   obtain ⟨tq,a1,htq⟩:=deeds_at hD s' hj
   refine ⟨_,rfl,_,rfl,_,rfl,_,rfl,ld,_,_,_,rfl,rfl,SqL.of (s' _ _ hld),(by rw [Int.zero_add];exact a1),aa,t,tq,rows,avs,xs,_,rfl,g,s' _ _ haa,hA.mono fun b xs e=>s' _ _ e,s' _ _ ht,htq,gc.known,by have:=gc.len;omega,fun H'' s''=>⟨_,rfl,?_⟩⟩
   have e:dueB rows ds xs (V.int (0 + (j:Nat)))=Zbq rows xs (ds.getD j []):=by
    show Zbq rows xs (ds.getD ((0:Int) + (j:Nat)).toNat [])=_
    rw [Int.zero_add,Int.toNat_natCast]
   rw [← e]
   exact hR H'' s''
  ·intro x H' R s' hx _ hR
   exact ⟨_,rfl,hR H' (Zaj.refl _)⟩
  ·intro lf H1 hlf s1 hf1
   rw [show ((us.length:Nat):Int).toNat=ds.length by omega,due_map] at hf1
   have fl:=fits_len rows ds xs
   refine ⟨Nat.zero_le _,fun lo hlo=>?_⟩
   have s2:Zaj H (upd H1 lo (.lst [])):=s1.trans (Zbj hlo)
   have loH:H lo=none:=s1.free hlo
   have lflo:lf≠lo:=nNo hf1 hlo
   refine ⟨_,rfl,lf,rfl,⟨_,SqL.of ((Zbj hlo) _ _ hf1)⟩,Zaq (Zat (xs:=(fits rows ds xs).map Ze6)) (fun i σ H'=>∃ x:Option V,σ=[some (.ref aa),some (.ref ld),some (.ref t),some (.ref lf),some (.ref lo),x]∧Zaj H H'∧H' lf=some (.lst ((fits rows ds xs).map Ze6))∧H' lo=some (.lst ((((fits rows ds xs).take i).filter fun k=>!((fits rows ds xs).any fun j=>!decide (j=k)&&wB rows ds j k)).map Ze6)))
    ⟨none,rfl,s2,(Zbj hlo) _ _ hf1,by rw [uS];simp⟩ (fun i σ H' _ ⟨_,_,_,h',_⟩=>SqL.of h') ?_ ?_⟩
   ·rintro i v σ H' hi ⟨x0,rfl,s',hf',ho'⟩
    obtain ⟨k,hk,rfl⟩:=nats_at hi
    have hkl:=fits_lt k (List.mem_of_getElem? hk)
    refine ⟨_,rfl,lf,rfl,⟨_,SqL.of hf'⟩,comp_val (Zat (xs:=(fits rows ds xs).map Ze6)) (sL (by rw [List.length_map];omega)) (fun _=>true) (otherV rows ds k) (fun H' s'=>s'.seq (SqL.of hf')) ?_ ?_ ?_⟩
    ·intro v H2 R s2' _ hR
     exact hR H2 (Zaj.refl _)
    ·intro v H2 R s2' hv _ hR
     obtain ⟨j,hj,rfl⟩:=List.mem_map.mp hv
     have hjl:=fits_lt j hj
     have e:decide (Ze6 j=V.int (k:Nat))=decide (j=k):=decide_eq_decide.mpr ⟨fun z=>by unfold Ze6 at z;injection z with z;omega,fun z=>by rw [z];rfl⟩
     have eo:otherV rows ds k (Ze6 j)=.bl (!decide (j=k)&&wB rows ds j k):=rfl
     rw [eo] at hR
     refine ⟨_,rfl,_,rfl,rfl,_,rfl,?_⟩
     rw [e]
     refine Zed (fun h=>?_) (fun h=>?_)
     ·have s3:=s'.trans s2'
      obtain ⟨t1,a1,h1⟩:=deeds_at hD s3 hjl
      obtain ⟨t2,a2,h2⟩:=deeds_at hD s3 hkl
      rw [h,Bool.true_and] at hR
      exact ⟨_,rfl,_,rfl,_,rfl,ld,_,_,_,rfl,rfl,SqL.of (s3 _ _ hld),a1,_,rfl,_,rfl,ld,_,_,_,rfl,rfl,SqL.of (s3 _ _ hld),a2,aa,t1,t2,rows,avs,_,_,rfl,g,s3 _ _ haa,hA.mono fun b xs e=>s3 _ _ e,h1,h2,deed_known gd hjl,by have:=deed_len gd hjl;omega,fun H'' s''=>hR H'' s''⟩
     ·rw [show (!decide (j=k))=false by simpa using h,Bool.false_and] at hR
      exact hR H2 (Zaj.refl _)
    ·intro D H2 hD0 s2' hl2
     rw [otherV_map] at hl2
     have eA:((fits rows ds xs).map fun j=>!decide (j=k)&&wB rows ds j k).any id=(fits rows ds xs).any fun j=>!decide (j=k)&&wB rows ds j k:=by rw [List.any_map];rfl
     refine ⟨D,_,rfl,SqL.of hl2,_,congrArg V.bl eA,?_⟩
     have s3:=s'.trans s2'
     have hlo2:=s2' _ _ ho'
     have tk:=Zeg (fun k=>!((fits rows ds xs).any fun j=>!decide (j=k)&&wB rows ds j k)) (fits rows ds xs) i k hk
     refine Zed (fun h=>?_) (fun h=>?_)
     ·refine ⟨_,rfl,.inl ⟨rfl,_,SqL.of hlo2⟩,_,rfl,lo,_,_,rfl,rfl,hlo2,Za1 (by rw [List.length_map];exact Nat.le_trans (List.length_filter_le _ _) (by rw [List.length_take];omega)),_,rfl,fun b o e=>by rw [Zab (nNo e loH)];exact s3 _ _ e,by rw [Zab lflo];exact s2' _ _ hf',?_⟩
      rw [uS,tk,h,if_pos rfl,List.map_append]
      rfl
     ·refine ⟨_,rfl,s3,s2' _ _ hf',?_⟩
      rw [hlo2,tk,if_neg h,List.append_nil]
   ·rintro σ H' ⟨x0,rfl,s',hf',ho'⟩
    rw [List.length_map,List.take_length] at ho'
    exact ⟨_,rfl,q lo H' loH s' ho'⟩
end
end K68
namespace K68
open PySem L2 Md
def spLTold:Sp:=fun vs H Q _=>∃ (aa ld t:Addr) (n:Nat) (rows:List (Str×List Str)) (avs:List (Key×V)) (ds:List (List Str)) (us:List V) (xs:List Str),vs=[.ref aa,.ref ld,.ref t]∧Zcr rows∧H aa=some (.dK avs)∧Zbt H rows rows avs∧H ld=some (.lst us)∧Za2 H ds us∧Zbi rows n ds∧H t=some (.tup (xs.map V.str))∧Zbz rows n xs∧n≤4 ∧
 ∀ l H',H l=none→Zaj H H'→H' l=some (.tup (toldV (nearL rows ds xs)))→Q (.ref l) H'
section
variable {H H':Hp} {p:Addr} {o:HO} (hp:H p=some o) (ho:PotO o) (k:∀ b o,b≠p→H b=some o→H' b=some o)
include hp ho k
end
section
variable {P:Program} {w:World} {K:W.Frag} {mg:Str→Option Value} {base:Heap}
abbrev nLTo:List Str:=["above","deeds","call","near"]
theorem scLTo:Zai nLTo ["above","deeds","call"] (Zad Zfu):=⟨rfl,rfl,rfl,by decide +kernel,rfl,by decide +kernel,by decide +kernel⟩
theorem ok_ltold {f fLN:Addr}{fd fdLN:FuncData}(F:Def K mg "_law_told" Zfu ["above","deeds","call"] f fd) (len:mg "len"=none)
  (DLN:Def K mg "_law_nearest" Zca ["above","deeds","call"] fLN fdLN) (GLN:Zar P w K mg base CX0 2 fLN fdLN ["above","deeds","call"] spLNearest):Zar P w K mg base CX0 3 f fd ["above","deeds","call"] spLTold:=by
 refine F.fn.ok scLTo (fun vs H Q E h=>?_) (fun cdv A outer s H vs Q E hr h=>?_)
 ·obtain ⟨aa,ld,t,n,rows,avs,ds,us,xs,rfl,_⟩:=h
  rfl
 ·obtain ⟨aa,ld,t,n,rows,avs,ds,us,xs,rfl,g,haa,hA,hld,hD,gd,ht,gc,n4,q⟩:=h
  have nd:=scLTo.nd
  have hu:=hr.units
  refine' ⟨_,(pS (Zag (i:=3) nd rfl (Or.inl rfl) (Zae DLN GLN hr (pC (pv 0) (pC (pv 1) (pC (pv 2) Zaa)))))
   (pS (Za4 (Zan (op_eqD hu) (pv 3) (Zbn Zaa) (Zau _)) (Zac (Zal (Zbm (pC Zb3 Zaa)))) Zak)
   (pS (Za4 (Zan Zec (Zam Zao (by rfl) len PySem.boot_len (pC (pv 3) Zaa)) Zaf (Zau _)) (Zac (Zal (Zbm (pC Zb3 (pC (Zaw Zav (pv 3) Zaf (fun _ _=>rfl)) Zaa))))) Zak)
   (Zac (Zal (Zbm (pC Zb3 (pC (Zaw Zav (pv 3) Zaf (fun _ _=>rfl)) (pC (Zaw Zav (pv 3) Zaf (fun _ _=>rfl)) Zaa))))))))),?_⟩
  refine ⟨_,rfl,_,rfl,_,rfl,aa,ld,t,n,rows,avs,ds,us,xs,rfl,g,haa,hA,hld,hD,gd,ht,gc,n4,fun l H1 hl0 s1 hl=>?_⟩
  generalize nearL rows ds xs=near at hl q
  refine ⟨_,rfl,Nat.zero_le _,fun l0 hl0'=>?_⟩
  have s2:Zaj H1 (upd H1 l0 (.lst [])):=Zbj hl0'
  have h00:(upd H1 l0 (.lst [])) l0=some (.lst []):=uS
  generalize upd H1 l0 (.lst [])=H2 at s2 h00
  have s3:=s1.trans s2
  have hl:=s2 _ _ hl
  have fin:∀ t' xs',H2 t'=none→toldV near=xs'→Q (.ref t') (upd H2 t' (.tup xs')):=fun t' xs' h e=>q t' _ (s3.free h) (s3.trans (Zbj h)) (by rw [uS,e])
  refine ⟨.list (near.map natD),.list [],rep_nats hl,.list (SqL.of h00) .nil,ok_nats 8 _,ok_nats 8 [],_,rfl,?_⟩
  cases near with
  | nil =>
   rw [show dEq (.list (([]:List Nat).map natD)) (.list [])=true from dEq_self _]
   exact iteT ⟨sL (by show 1≤100000;decide),fun t ht=>fin t _ ht rfl⟩
  | cons k r =>
   rw [show dEq (.list ((k :: r).map natD)) (.list [])=false from dEq_neg (fun z=>by injection z with z;cases z)]
   refine Zdv ?_
   refine ⟨_,rfl,l,_,rfl,.inl (SqL.of hl),rfl,_,rfl,?_⟩
   cases r with
   | nil =>
    refine Zed (fun _=>?_) (fun h=>absurd (by rfl) h)
    exact ⟨_,rfl,l,_,_,_,rfl,rfl,SqL.of hl,rfl,sL (by show 2≤100000;decide),fun t ht=>fin t _ ht rfl⟩
   | cons j r =>
    refine Zed (fun h=>?_) (fun _=>?_)
    ·have h:=of_decide_eq_true h
     injection h with h
     simp at h
     omega
    ·exact ⟨_,rfl,l,_,_,_,rfl,rfl,SqL.of hl,Za6 (j:=0) rfl,_,rfl,l,_,_,_,rfl,rfl,SqL.of hl,Za6 (j:=1) rfl,sL (by show 3≤100000;decide),fun t ht=>fin t _ ht rfl⟩
end
end K68
namespace K68
open PySem L2 Md
theorem mk_kinds {K:W.Frag}{C:Addr}{Hx:Hp}{xb dx l:Addr}{rows:List (Str×List Str)}{R:Hp→Prop}{E:XK}(nx:Hx xb=none) (ndx:Hx dx=none) (hR:Zdf Hx l rows) (g:Zcr rows) (h:∀ H',Zaj Hx H'→Zbo C H' xb rows→R H'):
  spInit K C [.ref xb,.ref l] (upd (upd Hx dx (.own xb)) xb (.ins C dx [])) (fun v H3=>v=.non∧R H3) E:=by
 have s34:Zaj Hx (upd (upd Hx dx (.own xb)) xb (.ins C dx [])):=fun b o e=>by
  have e1:(upd Hx dx (.own xb)) b=some o:=by rw [Zab (nNo e ndx)];exact e
  rw [Zab (nNo e nx)];exact e1
 exact ⟨xb,dx,l,rows,rfl,uS,(Zdf.g (Zbk hR s34)),g,fun H4 kd keep=>⟨rfl,h H4 (fun b o e=>keep b o (nNo e nx) (s34 _ _ e)) kd⟩⟩
theorem mk_board {K:W.Frag}{C B:Addr}{Hx:Hp}{xb yb dy lz:Addr}{n:Nat}{rows:List (Str×List Str)}{ds:List (List Str)}{us:List V}{R:Hp→Prop}{E:XK}(ny:Hx yb=none) (ndy:Hx dy=none) (kd:Zbo C Hx xb rows) (g:Zcr rows) (hz:Hx lz=some (.lst us)∨Hx lz=some (.tup us)) (hD:Za2 Hx ds us) (gd:Zbi rows n ds) (n1:1≤n) (n4:n≤4) (h:∀ H',Zaj Hx H'→Zco C B H' yb xb rows n ds→R H'):
  spBInit K C B [.ref yb,.ref xb,.int n,.ref lz] (upd (upd Hx dy (.own yb)) yb (.ins B dy [])) (fun v H3=>v=.non∧R H3) E:=by
 have s34:Zaj Hx (upd (upd Hx dy (.own yb)) yb (.ins B dy [])):=fun b o e=>by
  have e1:(upd Hx dy (.own yb)) b=some o:=by rw [Zab (nNo e ndy)];exact e
  rw [Zab (nNo e ny)];exact e1
 exact ⟨yb,dy,xb,lz,n,rows,ds,us,rfl,uS,kd.mono s34,g,hz.elim (fun e=>.inl (SqL.of (s34 _ _ e))) (fun e=>.inr (s34 _ _ e)),hD.mono s34,gd,n1,n4,fun H5 bd keep5=>⟨rfl,h H5 (fun b o e=>keep5 b o (nNo e ny) (s34 _ _ e)) bd⟩⟩
end K68
namespace K68
open PySem L2 Md
abbrev Nam:=Str×Nat×List (List Str×Str)
def PrV (H:Hp) (p:List Str×Str) (v:V):Prop:=∃ t tc:Addr,v=V.ref t∧H t=some (.tup [.ref tc,.str p.2])∧H tc=some (.tup (p.1.map V.str))
def PrsV (H:Hp) (ps:List (List Str×Str)) (vs:List V):Prop:=Paired (PrV H) ps vs
theorem PrsV.mono {H H':Hp}{ps:List (List Str×Str)}{vs:List V}(h:PrsV H ps vs) (k:∀ b xs,H b=some (.tup xs)→H' b=some (.tup xs)):PrsV H' ps vs:=Paired.mapP h fun _ _ ⟨t,tc,e,h1,h2⟩=>⟨t,tc,e,k _ _ h1,k _ _ h2⟩
theorem Zct {H H':Hp}(s:Zaj H H'):∀ b xs,H b=some (.tup xs)→H' b=some (.tup xs):=fun _ _ e=>s _ _ e
def NameV (K:W.Frag) (H:Hp) (n:Nam) (v:V):Prop:=∃ (t tp:Addr) (b:Bool) (vs:List V),v=V.ref t∧H t=some (.tup [.str n.1,.int n.2.1,.ref tp])∧SqB K b H tp vs∧PrsV H n.2.2 vs
theorem NameV.mono {K:W.Frag}{H H':Hp}{n:Nam}{v:V}(h:NameV K H n v) (s:Zaj H H'):NameV K H' n v:=by
 obtain ⟨t,tp,b,vs,e,h1,h2,h3⟩:=h
 exact ⟨t,tp,b,vs,e,s _ _ h1,h2.mono s,h3.mono (Zct s)⟩
structure GoodName (rows:List (Str×List Str)) (n:Nam):Prop where
 word:Zbh n.1=true
 one:1≤n.2.1
 four:n.2.1≤4
 deeds:Zbi rows n.2.1 (n.2.2.map (·.1))
 made:∀ p∈n.2.2,p.2∈rows.map (·.1)
structure Zbf (rows:List (Str×List Str)) (ns:List Nam):Prop where
 few:ns.length≤8
 each:∀ n∈ns,GoodName rows n
 nd:(ns.map (·.1)).Nodup
theorem kne1:¬ (("book":Str)="made_of"):=by decide +kernel
theorem kne2:¬ (("book":Str)="board_of"):=by decide +kernel
theorem kne3:¬ (("board_of":Str)="made_of"):=by decide +kernel
def fldsK (k bo mo:Addr):List (Str×V):=putF "made_of" (.ref mo) (putF "board_of" (.ref bo) (putF "book" (.ref k) []))
theorem fldsK_b (k bo mo:Addr):(fldsK k bo mo).lookup ("book":Str)=some (.ref k):=by
 unfold fldsK
 rw [Zap,if_neg kne1,Zap,if_neg kne2,Zap,if_pos rfl]
theorem fldsK_o (k bo mo:Addr):(fldsK k bo mo).lookup ("board_of":Str)=some (.ref bo):=by
 unfold fldsK
 rw [Zap,if_neg kne3,Zap,if_pos rfl]
theorem fldsK_m (k bo mo:Addr):(fldsK k bo mo).lookup ("made_of":Str)=some (.ref mo):=by
 unfold fldsK
 rw [Zap,if_pos rfl]
theorem fldsK_no (k bo mo:Addr) {m:Str} (h1:¬ m="made_of") (h2:¬ m="board_of") (h3:¬ m="book"):(fldsK k bo mo).lookup m=none:=by
 unfold fldsK
 rw [Zap,if_neg h1,Zap,if_neg h2,Zap,if_neg h3]
 rfl
def Zcd (R:Nam→V→Prop) (ns:List Nam) (kvs:List (Key×V)):Prop:=Paired (fun (n:Nam) (p:Key×V)=>p.1=Sum.inr n.1∧R n p.2) ns kvs
theorem Zcd.imp {R S:Nam→V→Prop}{ns:List Nam}{kvs:List (Key×V)}(h:Zcd R ns kvs) (f:∀ n v,R n v→S n v):Zcd S ns kvs:=Paired.mapP h fun _ _ z=>⟨z.1,f _ _ z.2⟩
theorem Zcd.keys {R:Nam→V→Prop}:∀ {ns:List Nam}{kvs:List (Key×V)},Zcd R ns kvs→kvs.map (·.1)=ns.map fun n=>(Sum.inr n.1:Key)
 | _,_,.nil=>rfl
 | _,_,.cons r t=>by rw [List.map_cons,List.map_cons,r.1,Zcd.keys t]
theorem Zcd.val {R:Nam→V→Prop}:∀ {ns:List Nam}{kvs:List (Key×V)},Zcd R ns kvs→(ns.map (·.1)).Nodup→∀ {n:Nam},n∈ns→∃ v,Zet kvs (Sum.inr n.1)=some v∧R n v
 | _,_,.nil,_,n,h=>nomatch h
 | q :: rs,p :: ps,.cons z t,nd,n,h=>by
  have nd':(q.1 :: rs.map (·.1)).Nodup:=nd
  obtain ⟨n1,n2⟩:=List.nodup_cons.mp nd'
  obtain ⟨z1,z2⟩:=z
  rcases List.mem_cons.mp h with e | h
  ·subst e
   exact ⟨p.2,by rw [Zb4 z1],z2⟩
  ·have ne:¬ p.1=(Sum.inr n.1:Key):=fun e=>n1 (by
    rw [z1] at e
    have e':q.1=n.1:=by injection e
    rw [e']
    exact List.mem_map.mpr ⟨n,h,rfl⟩)
   obtain ⟨v,h1,h2⟩:=Zcd.val t n2 h
   exact ⟨v,by rw [Zb5 ne];exact h1,h2⟩
theorem Zcd.not {R:Nam→V→Prop}{ns:List Nam}{kvs:List (Key×V)}(h:Zcd R ns kvs) {x:Str}(hx:x∉ns.map (·.1)):Zet kvs (Sum.inr x)=none:=Zb8 fun z=>hx (by
 rw [h.keys] at z
 obtain ⟨n,hn,e⟩:=List.mem_map.mp z
 have e':n.1=x:=by injection e
 exact List.mem_map.mpr ⟨n,hn,e'⟩)
theorem Zcd.some {R:Nam→V→Prop}{ns:List Nam}{kvs:List (Key×V)}(h:Zcd R ns kvs) {x:Str}(hx:x∈ns.map (·.1)):(Zet kvs (Sum.inr x)).isSome=true:=Zeh (by
 rw [h.keys]
 obtain ⟨n,hn,e⟩:=List.mem_map.mp hx
 exact List.mem_map.mpr ⟨n,hn,by rw [e]⟩)
def BoR (C B:Addr) (H:Hp) (k:Addr) (rows:List (Str×List Str)):Nam→V→Prop:=fun n v=>∃ y,v=.ref y∧Zco C B H y k rows n.2.1 (n.2.2.map (·.1))
def MaR (Z:Addr→Prop) (H:Hp):Nam→V→Prop:=fun n v=>∃ l,v=.ref l∧H l=some (.lst ((n.2.2.map (·.2)).map V.str))∧¬ Z l
structure BookZ (Z:Addr→Prop) (C B D:Addr) (H:Hp) (p k:Addr) (rows:List (Str×List Str)) (ns:List Nam):Prop where
 ex:∃ (dx bo mo:Addr) (o:Obj) (bvs mvs:List (Key×V)),H p=some (.ins D dx (fldsK k bo mo))∧Zbo C H k rows∧H bo=some (.frz o (.dK bvs))∧Zcd (BoR C B H k rows) ns bvs∧H mo=some (.dK mvs)∧Zcd (MaR Z H) ns mvs
abbrev Zfc:=BookZ fun _=>False
theorem BookZ.at_ {Z:Addr→Prop}{C B D:Addr}{H:Hp}{p k:Addr}{rows:List (Str×List Str)}{ns:List Nam}(h:BookZ Z C B D H p k rows ns):Zfc C B D H p k rows ns:=by
 obtain ⟨dx,bo,mo,o,bvs,mvs,h1,h2,h3,h4,h5,h6⟩:=h.ex
 exact ⟨dx,bo,mo,o,bvs,mvs,h1,h2,h3,h4,h5,h6.imp fun n v ⟨l,e,b,_⟩=>⟨l,e,b,id⟩⟩
theorem BookZ.mono {Z:Addr→Prop}{C B D:Addr}{H H':Hp}{p k:Addr}{rows:List (Str×List Str)}{ns:List Nam}(h:BookZ Z C B D H p k rows ns) (s:Zaj H H'):BookZ Z C B D H' p k rows ns:=by
 obtain ⟨dx,bo,mo,o,bvs,mvs,h1,h2,h3,h4,h5,h6⟩:=h.ex
 exact ⟨dx,bo,mo,o,bvs,mvs,s _ _ h1,h2.mono s,s _ _ h3,h4.imp fun n v ⟨y,e,b⟩=>⟨y,e,b.mono s⟩,s _ _ h5,h6.imp fun n v ⟨l,e,b,z⟩=>⟨l,e,s _ _ b,z⟩⟩
theorem board_keep {C B:Addr}{H H':Hp}{p k q:Addr}{o:HO}{rows:List (Str×List Str)}{n:Nat}{ds:List (List Str)}(h:Zco C B H p k rows n ds) (hq:H q=some o) (no:∀ o' u,o≠.frz o' u) (nt:∀ xs,o≠.tup xs) (ni:∀ c d f,o≠.ins c d f) (s:∀ b o,b≠q→H b=some o→H' b=some o):Zco C B H' p k rows n ds:=by
 obtain ⟨dx,t,us,h1,h2,h3,h4⟩:=h.ex
 have ne:∀ {b u},H b=some u→o≠u→b≠q:=fun {b u} e n z=>by rw [z,hq] at e;exact n (Option.some.inj e)
 have nk:k≠q:=by
  obtain ⟨_,_,_,_,_,_,_,e,_⟩:=h2.ex
  exact ne e (ni _ _ _)
 exact ⟨dx,t,us,s _ _ (ne h1 (ni _ _ _)) h1,kinds_keep h2 hq s nk no nt,s _ _ (ne h3 (nt _)) h3,Paired.mapP h4 fun _ _ ⟨t',e,x⟩=>⟨t',e,s _ _ (ne x (nt _)) x⟩⟩
def fsP (H:Hp):V→V
 | .ref t=>match H t with
  | some (.tup [x,_])=>x
  | _=>.non
 | _=>.non
def snP (H:Hp):V→V
 | .ref t=>match H t with
  | some (.tup [_,x])=>x
  | _=>.non
 | _=>.non
theorem fsP_at {H:Hp}{t:Addr}{x y:V}(h:H t=some (.tup [x,y])):fsP H (.ref t)=x:=by show (match H t with | some (.tup [x,_])=>x | _=>.non)=x;rw [h]
theorem snP_at {H:Hp}{t:Addr}{x y:V}(h:H t=some (.tup [x,y])):snP H (.ref t)=y:=by show (match H t with | some (.tup [_,x])=>x | _=>.non)=y;rw [h]
theorem pairV_fst {H:Hp}{p:List Str×Str}{v:V}(h:PrV H p v):∃ tc,fsP H v=.ref tc∧H tc=some (.tup (p.1.map V.str)):=by
 obtain ⟨t,tc,rfl,h1,h2⟩:=h
 exact ⟨tc,fsP_at h1,h2⟩
theorem pairV_snd {H:Hp}{p:List Str×Str}{v:V}(h:PrV H p v):snP H v=.str p.2:=by
 obtain ⟨t,tc,rfl,h1,h2⟩:=h
 exact snP_at h1
theorem pairs_fst {H:Hp}:∀ {ps:List (List Str×Str)}{vs:List V},PrsV H ps vs→Za2 H (ps.map (·.1)) (vs.map (fsP H))
 | _,_,.nil=>.nil
 | _,_,.cons h t=>by
  obtain ⟨tc,e,h2⟩:=pairV_fst h
  exact .cons ⟨tc,e,h2⟩ (pairs_fst t)
theorem pairs_snd {H:Hp}:∀ {ps:List (List Str×Str)}{vs:List V},PrsV H ps vs→vs.map (snP H)=(ps.map (·.2)).map V.str
 | _,_,.nil=>rfl
 | _,_,.cons h t=>by rw [List.map_cons,List.map_cons,List.map_cons,pairV_snd h,pairs_snd t]
theorem comp_side {K:W.Frag}{J:It}{vs:List V}{Ok:Hp→Prop}(R:Runs J vs Ok) (i:Nat) (f:V→V) {σ:St}{Q:VK}{H1:Hp}{ps:List (List Str×Str)}(hz:vs.length≤1000) (hp:PrsV H1 ps vs) (hf:∀ v,[some (fsP H1 v),some (snP H1 v)][i]?=some (some (f v))) (hok:∀ H,Zaj H1 H→Ok H)
  (hd:∀ D H',H1 D=none→Zaj H1 H'→H' D=some (.lst (vs.map f))→Q (.ref D) H'):compBody 2 [] (g2 K 0 1) tTrue (tVar i) σ Q J H1:=by
 refine comp_relT R (sL (by omega)) (fun _=>true) (fun _ x v _=>v=f x) (fsP H1) (snP H1) (fun _ _ _ _ _ _ z=>z) hok (fun x hx=>?_) ?_ ?_ ?_
 ·obtain ⟨j,hj⟩:=List.getElem?_of_mem hx
  obtain ⟨p,_,t,tc,rfl,h1,_⟩:=Zas hp hj
  exact ⟨t,rfl,by rw [fsP_at h1,snP_at h1];exact h1⟩
 ·intro x H' R' _ _ hR'
  exact hR' H' (Zaj.refl _)
 ·intro D x H' R' _ _ _ _ _ hR'
  exact ⟨f x,hf x,hR' _ H' (Zaj.refl _) rfl⟩
 ·intro D H' ys hD s hl hq
  rw [List.filter_eq_self.mpr (fun _ _=>rfl)] at hq
  rw [paired_eq hq] at hl
  exact hd D H' hD s hl
def spCheckMakes (C:Addr):Sp:=fun vs H Q _=>∃ (p l:Addr) (rows:List (Str×List Str)) (xs:List Str),vs=[.ref p,.ref l]∧Zbo C H p rows∧Zcr rows∧H l=some (.lst (xs.map V.str))∧(∀ x∈xs,x∈rows.map (·.1))∧Q .non H
def NamesAt (K:W.Frag) (H:Hp) (l:Addr) (ns:List Nam):Prop:=∃ (b:Bool) (vs:List V),SqB K b H l vs∧Paired (NameV K H) ns vs
def spKInit (K:W.Frag) (C B D:Addr):Sp:=fun vs H Q _=>∃ (p dx k l:Addr) (rows:List (Str×List Str)) (ns:List Nam),vs=[.ref p,.ref k,.ref l]∧H p=some (.ins D dx [])∧Zbo C H k rows∧Zcr rows∧NamesAt K H l ns∧Zbf rows ns ∧
 ∀ H',BookZ (fun b=>∃ o,H b=some o) C B D H' p k rows ns→(∀ b o,b≠p→H b=some o→H' b=some o)→Q .non H'
structure TxtKn (K:W.Frag) (D:Addr):Prop where
 cl:Cls K D
 nB:Zfa K D "book"
 nO:Zfa K D "board_of"
 nM:Zfa K D "made_of"
theorem nd_cm:(["call","made"]:List Str).Nodup:=by decide +kernel
section
variable {P:Program} {w:World} {K:W.Frag} {mg:Str→Option Value} {base:Heap}
abbrev nCM:List Str:=["kinds","makes","made"]
theorem scCM:Zai nCM ["kinds","makes"] (Zad Zd4):=⟨rfl,rfl,rfl,by decide +kernel,rfl,by decide +kernel,by decide +kernel⟩
theorem ok_cmakes {f C fH:Addr}{fd fdH:FuncData}(F:Def K mg "check_makes" Zd4 ["kinds","makes"] f fd) (TC:TxtC K C) (MH:MHas K C fH fdH):Zar P w K mg base CX0 2 f fd ["kinds","makes"] (spCheckMakes C):=by
 have GH:Zar P w K mg base CX0 1 fH fdH ["self","word"] (spHas C):=ok_has MH.fn TC
 refine F.fn.ok scCM (fun vs H Q E h=>?_) (fun cdv A outer s H vs Q E hr h=>?_)
 ·obtain ⟨p,l,rows,xs,rfl,_⟩:=h
  rfl
 ·obtain ⟨p,l,rows,xs,rfl,kd,g,hl,kn,q⟩:=h
  have nd:=scCM.nd
  have hr1:Zcm 1 _:=hr.mono (by decide)
  obtain ⟨dx,d,a,o,oa,kvs,avs,h1,_⟩:=kd.ex
  refine ⟨_,(Zac (Za8 PassesOwn.never rfl (Za7 (pv 1)) (Zah (i:=2) nd rfl (Or.inl rfl)) (Zac (Za4 (Zc8 (Zcz (Zc9 (pv 0) TC.cl MH.me GH hr1 MH.b .nil Zde (pC (pv 2) Zaa)))) Za5 Zak)))),?_⟩
  refine ⟨_,rfl,l,rfl,⟨_,SqL.of hl⟩,Zaq (Zat (xs:=xs.map V.str)) (fun i σ H'=>∃ x,σ=[some (.ref p),some (.ref l),x]∧H'=H) ⟨none,rfl,rfl⟩ (fun i σ H' _ ⟨_,_,e⟩=>by rw [e];exact SqL.of hl) ?_ ?_⟩
  ·rintro i v σ H' hi ⟨x,rfl,e⟩
   have e2:=e.symm
   subst e2
   rw [List.getElem?_map] at hi
   cases hx:xs[i]? with
   | none=>rw [hx] at hi;cases hi
   | some y =>
    rw [hx] at hi
    cases hi
    refine ⟨_,rfl,p,dx,_,rfl,h1,no_has _ _,_,rfl,p,rows,y,rfl,kd,g,?_⟩
    rw [decide_eq_true (kn y (List.mem_of_getElem? hx))]
    exact ⟨_,rfl,Zdv ⟨_,rfl,rfl⟩⟩
  ·rintro σ H' ⟨x,rfl,e⟩
   rw [e]
   exact q
end
end K68
namespace K68
open PySem L2 Md
theorem word_le {x:Str}(h:Zbh x=true):x.length≤1000:=by have:=word_len h;omega
theorem not_frzK {kvs:List (Key×V)}:∀ (o':Obj) (u:HO),HO.dK kvs≠.frz o' u:=fun _ _ z=>by cases z
theorem not_tupK {kvs:List (Key×V)}:∀ xs:List V,HO.dK kvs≠.tup xs:=fun _ z=>by cases z
theorem not_insK {kvs:List (Key×V)}:∀ (c d:Addr) (f:List (Str×V)),HO.dK kvs≠.ins c d f:=fun _ _ _ z=>by cases z
theorem bo_write {C B:Addr}{H:Hp}{q k:Addr}{kvs:List (Key×V)}{o:HO}{rows:List (Str×List Str)}{n:Nam}{v:V}(h:BoR C B H k rows n v) (hq:H q=some (.dK kvs)):BoR C B (upd H q o) k rows n v:=by
 obtain ⟨y,e,b⟩:=h
 exact ⟨y,e,board_keep b hq not_frzK not_tupK not_insK fun b o hb e=>by rw [Zab hb];exact e⟩
theorem ma_write {Z:Addr→Prop}{H:Hp}{q:Addr}{kvs:List (Key×V)}{o:HO}{n:Nam}{v:V}(h:MaR Z H n v) (hq:H q=some (.dK kvs)):MaR Z (upd H q o) n v:=by
 obtain ⟨l,e,b,z⟩:=h
 exact ⟨l,e,by rw [Zab (fun z=>by rw [z,hq] at b;cases b)];exact b,z⟩
theorem bo_same {C B:Addr}{H H':Hp}{k:Addr}{rows:List (Str×List Str)}{n:Nam}{v:V}(h:BoR C B H k rows n v) (s:Zaj H H'):BoR C B H' k rows n v:=let ⟨y,e,b⟩:=h;⟨y,e,b.mono s⟩
theorem ma_same {Z:Addr→Prop}{H H':Hp}{n:Nam}{v:V}(h:MaR Z H n v) (s:Zaj H H'):MaR Z H' n v:=let ⟨l,e,b,z⟩:=h;⟨l,e,s _ _ b,z⟩
theorem byName_snoc {R:Nam→V→Prop}{ns:List Nam}{kvs:List (Key×V)}{n:Nam}{v:V}(h:Zcd R ns kvs) (hn:n.1∉ns.map (·.1)) (hv:R n v):Zcd R (ns++[n]) (Zdj kvs (Sum.inr n.1) v):=by
 rw [Zfx _ (h.not hn)]
 exact Paired.snoc h ⟨rfl,hv⟩
section
variable {P:Program} {w:World} {K:W.Frag} {mg:Str→Option Value} {base:Heap}
abbrev nKI:List Str:=["self","kinds","names","board_of","made_of","word","places","deeds"]
abbrev pKI:List Str:=["self","kinds","names"]
theorem scKI:Zai nKI pKI (Zad Zce):=⟨rfl,rfl,rfl,by decide +kernel,rfl,by decide +kernel,by decide +kernel⟩
theorem ok_kinit {f B C D fBI fW fM:Addr}{fd fdBI fdW fdM:FuncData}(F:Fun K "__init__" "Book.__init__" Zce f fd) (T:TxtK mg) (most:∃ t,mg "MOST_NAMES"=some (.int 8 t)) (TD:TxtKn K D) (hDC:D≠C) (hDB:D≠B)
  (DW:Def K mg "is_word" Zej ["text"] fW fdW) (MB:Mk K B fBI) (mgB:mg "Board"=some (.ref B)) (bB:Zes K fdBI nBI []) (GB:Zar P w K mg base CX0 4 fBI fdBI nBI (spBInit K C B))
  (DM:Def K mg "check_makes" Zd4 ["kinds","makes"] fM fdM) (GM:Zar P w K mg base CX0 2 fM fdM ["kinds","makes"] (spCheckMakes C)):
  Zar P w K mg base CX0 6 f fd pKI (spKInit K C B D):=by
 have GW:Zar P w K mg base CX0 1 fW fdW ["text"] spIsWord:=ok_isword DW T
 refine F.ok scKI (fun vs H Q E h=>?_) (fun cdv A outer s H vs Q E hr h=>?_)
 ·obtain ⟨p,dx,k,l,rows,ns,rfl,_⟩:=h
  rfl
 ·obtain ⟨p,dx,k,l,rows,ns,rfl,hp,kd,g,⟨b,vs,hl,hN⟩,gn,q⟩:=h
  have nd:=scKI.nd
  have hu:=Zfp hr
  have hr1:Zcm 1 _:=hr.mono (by decide)
  have hr2:Zcm 2 _:=hr.mono (by decide)
  obtain ⟨t1,hM8⟩:=most
  have hvl:=hN.length
  have few:=gn.few
  refine' ⟨_,(pS (Za4 (Zan op_gt (Zam Zcs (by rfl) T.len PySem.boot_len (pC (pv 2) Zaa)) (Zeo (v:=.int 8) (by rfl) hM8 ⟨_,rfl⟩) (Zau _)) Za5 Zak)
   (pS (Zag (i:=3) nd rfl (Or.inl rfl) Zeb)
   (pS (Zag (i:=4) nd rfl (Or.inl rfl) Zeb)
   (pS (Za8 PassesOwn.never rfl (pi_seq (pv 2)) (pg_tup rfl (gC (Zah (i:=5) nd rfl (Or.inl rfl)) (gC (Zah (i:=6) nd rfl (Or.inl rfl)) (gC (Zah (i:=7) nd rfl (Or.inl rfl)) Zd3))))
    (pS (Za4 (Zc8 (Zcz (Zae DW GW hr1 (pC (pv 5) Zaa)))) Za5 Zak)
   (pS (Za4 (pt_cmp (pc_din hu (pv 5) (pv 3))) Za5 Zak)
   (pS (Zen hu (pv 3) (pv 5) (pe_make MB GB hr rfl mgB bB .nil Zde (pC (pv 1) (pC (pv 6) (pC ?eC Zaa)))) rfl)
   (pS (Zen hu (pv 4) (pv 5) ?eM rfl)
   (Zac (Za3 (Zae DM GM hr2 (pC (pv 1) (pC (Zdk hu (pv 4) (pv 5) (fun _ _=>rfl)) Zaa))))))))))
   (pss_frz (pS (ps_fld (pv 0) (pv 1) rfl)
   (pS (ps_fld (pv 0) (pv 3) rfl)
   (Zac (ps_fld (pv 0) (pv 4) rfl))))))))),?_⟩
  case eC=>exact Zbl ["call","made"] [] [] (fun _=>Zax (osc:=Zad Zce) (on:=nKI) (by decide +kernel) rfl rfl rfl) (pi_seq (pv 7)) (fun C s H fp=>pg_two (K:=K) (i:=0) (j:=1) rfl rfl nd_cm rfl rfl (Or.inl rfl) (Or.inl rfl) (Or.inr rfl) (Or.inr rfl)) (fun C s H fp=>Zbw) (fun C s H fp=>pv 0)
  case eM=>exact Zbl ["call","made"] [] [] (fun _=>Zax (osc:=Zad Zce) (on:=nKI) (by decide +kernel) rfl rfl rfl) (pi_seq (pv 7)) (fun C s H fp=>pg_two (K:=K) (i:=0) (j:=1) rfl rfl nd_cm rfl rfl (Or.inl rfl) (Or.inl rfl) (Or.inr rfl) (Or.inr rfl)) (fun C s H fp=>Zbw) (fun C s H fp=>pv 1)
  refine ⟨_,rfl,_,_,rfl,len_seq hl,_,_,rfl,rfl,_,rfl,?_⟩
  rw [show decide ((8:Int)<(vs.length:Int))=false from decide_eq_false (by omega)]
  refine Zdv ?_
  intro bo hbo
  have s1:Zaj H (upd H bo (.dK [])):=Zbj hbo
  intro mo hmo
  have s2:Zaj (upd H bo (.dK [])) (upd (upd H bo (.dK [])) mo (.dK [])):=Zbj hmo
  have hmoH:H mo=none:=s1.free hmo
  have bm:bo≠mo:=fun z=>by rw [← z,uS] at hmo;cases hmo
  refine ⟨_,rfl,b,l,vs,rfl,(hl.mono s1).mono s2,Zaq Zfw (fun i σ H'=>∃ (bvs mvs:List (Key×V)) (x y z:Option V),σ=[some (.ref p),some (.ref k),some (.ref l),some (.ref bo),some (.ref mo),x,y,z]∧Zaj H H'∧H' bo=some (.dK bvs)∧H' mo=some (.dK mvs)∧Zcd (BoR C B H' k rows) (ns.take i) bvs∧Zcd (MaR (fun b=>∃ o,H b=some o) H') (ns.take i) mvs)
   ⟨[],[],none,none,none,rfl,s1.trans s2,s2 _ _ uS,uS,by rw [List.take_zero];exact .nil,by rw [List.take_zero];exact .nil⟩ (fun i σ H' _ ⟨_,_,_,_,_,_,s,_⟩=>hl.mono s) ?_ ?_⟩
  ·rintro i v σ H' hi ⟨bvs,mvs,x,y,z,rfl,s3,hb3,hm3,hB,hM⟩
   obtain ⟨nm,hnm,t,tp,bb,ws,rfl,ht,htp,hps⟩:=Zas hN hi
   have hmem:nm∈ns:=List.mem_of_getElem? hnm
   have gnm:=gn.each nm hmem
   have hnew:nm.1∉(ns.take i).map (·.1):=by
    rw [List.map_take]
    exact not_taken gn.nd (by rw [List.getElem?_map,hnm];rfl)
   have ht3:=s3 _ _ ht
   refine ⟨t,_,rfl,SqT.of ht3,rfl,_,_,rfl,_,_,rfl,_,_,rfl,rfl,?_⟩
   refine ⟨_,rfl,nm.1,rfl,word_le gnm.word,fun H4 s4=>⟨_,rfl,?_⟩⟩
   rw [gnm.word]
   refine Zdv ?_
   have hb4:=s4 _ _ hb3
   have hm4:=s4 _ _ hm3
   have hB4:=hB.imp fun n v h=>bo_same h s4
   have hM4:=hM.imp fun n v h=>ma_same h s4
   have s04:=s3.trans s4
   refine ⟨_,rfl,_,rfl,bo,_,rfl,DGet.k (k:=Sum.inr nm.1) hb4,_,rfl,?_⟩
   rw [hB4.not hnew]
   refine Zdv ?_
   have htp4:=htp.mono s04
   have hps4:PrsV H4 nm.2.2 ws:=hps.mono (Zct s04)
   have wl:ws.length≤64:=by
    have h1:=Paired.length hps
    have h2:=gnm.deeds.few
    rw [List.length_map] at h2
    omega
   refine ⟨_,rfl,_,rfl,_,rfl,bb,tp,ws,rfl,htp4,comp_side Zfw 0 (fsP H4) (by omega) hps4 (fun _=>rfl) (fun H' s'=>htp4.mono s') fun lc H5 hlc s45 hl5=>?_⟩
   intro yb dyb ny ndy ney
   refine mk_board ny ndy ((kd.mono s04).mono s45) g (.inl hl5) ((pairs_fst hps4).mono s45) gnm.deeds gnm.one gnm.four fun H6 s56 bd6=>?_
   have s46:=s45.trans s56
   have s06:=s04.trans s46
   have hb6:=s46 _ _ hb4
   have hm6:=s46 _ _ hm4
   have bl:bvs.length=i:=by
    have h1:=Paired.length hB
    rw [List.length_take] at h1
    have h2:=(List.getElem?_eq_some_iff.mp hnm).1
    omega
   have ml:mvs.length=i:=by
    have h1:=Paired.length hM
    rw [List.length_take] at h1
    have h2:=(List.getElem?_eq_some_iff.mp hnm).1
    omega
   have il:i<8:=by
    have h2:=(List.getElem?_eq_some_iff.mp hnm).1
    omega
   refine ⟨_,rfl,_,rfl,bo,_,rfl,DPut.k (k:=Sum.inr nm.1) hb6 (Za1 (by omega)),?_⟩
   have hB7:Zcd (BoR C B (upd H6 bo (.dK (Zdj bvs (Sum.inr nm.1) (.ref yb)))) k rows) (ns.take i++[nm]) (Zdj bvs (Sum.inr nm.1) (.ref yb)):=
    byName_snoc (hB4.imp fun n v h=>bo_write (bo_same h s46) hb6) hnew (bo_write ⟨yb,rfl,bd6⟩ hb6)
   have hM7:Zcd (MaR (fun b=>∃ o,H b=some o) (upd H6 bo (.dK (Zdj bvs (Sum.inr nm.1) (.ref yb))))) (ns.take i) mvs:=hM4.imp fun n v h=>ma_write (ma_same h s46) hb6
   have s07:Zaj H (upd H6 bo (.dK (Zdj bvs (Sum.inr nm.1) (.ref yb)))):=fun b o e=>by rw [Zab (nNo e hbo)];exact s06 _ _ e
   have hb7:(upd H6 bo (.dK (Zdj bvs (Sum.inr nm.1) (.ref yb)))) bo=some (.dK (Zdj bvs (Sum.inr nm.1) (.ref yb))):=uS
   have hm7:(upd H6 bo (.dK (Zdj bvs (Sum.inr nm.1) (.ref yb)))) mo=some (.dK mvs):=by rw [Zab (Ne.symm bm)];exact hm6
   generalize upd H6 bo (.dK (Zdj bvs (Sum.inr nm.1) (.ref yb)))=H7 at hB7 hM7 s07 hb7 hm7
   generalize Zdj bvs (Sum.inr nm.1) (.ref yb)=bvs' at hB7 hb7
   have htp7:=htp.mono s07
   have hps7:PrsV H7 nm.2.2 ws:=hps.mono (Zct s07)
   refine ⟨_,rfl,bb,tp,ws,rfl,htp7,comp_side Zfw 1 (snP H7) (by omega) hps7 (fun _=>rfl) (fun H' s'=>htp7.mono s') fun lm H8 hlm s78 hl8=>?_⟩
   rw [pairs_snd hps7] at hl8
   have hm8:=s78 _ _ hm7
   refine ⟨_,rfl,_,rfl,mo,_,rfl,DPut.k (k:=Sum.inr nm.1) hm8 (Za1 (by omega)),?_⟩
   have lmo:lm≠mo:=fun z=>by rw [z,hm7] at hlm;cases hlm
   have hM9:Zcd (MaR (fun b=>∃ o,H b=some o) (upd H8 mo (.dK (Zdj mvs (Sum.inr nm.1) (.ref lm))))) (ns.take i++[nm]) (Zdj mvs (Sum.inr nm.1) (.ref lm)):=
    byName_snoc (hM7.imp fun n v h=>ma_write (ma_same h s78) hm8) hnew (ma_write ⟨lm,rfl,hl8,fun ⟨_,z⟩=>by rw [s07.free hlm] at z;cases z⟩ hm8)
   have hB9:Zcd (BoR C B (upd H8 mo (.dK (Zdj mvs (Sum.inr nm.1) (.ref lm)))) k rows) (ns.take i++[nm]) bvs':=hB7.imp fun n v h=>bo_write (bo_same h s78) hm8
   have s09:Zaj H (upd H8 mo (.dK (Zdj mvs (Sum.inr nm.1) (.ref lm)))):=fun b o e=>by rw [Zab (nNo e hmoH)];exact s78 _ _ (s07 _ _ e)
   have hm9:(upd H8 mo (.dK (Zdj mvs (Sum.inr nm.1) (.ref lm)))) mo=some (.dK (Zdj mvs (Sum.inr nm.1) (.ref lm))):=uS
   have hb9:(upd H8 mo (.dK (Zdj mvs (Sum.inr nm.1) (.ref lm)))) bo=some (.dK bvs'):=by rw [Zab bm];exact s78 _ _ hb7
   have hl9:(upd H8 mo (.dK (Zdj mvs (Sum.inr nm.1) (.ref lm)))) lm=some (.lst ((nm.2.2.map (·.2)).map V.str)):=by rw [Zab lmo];exact hl8
   have hv9:Zet (Zdj mvs (Sum.inr nm.1) (.ref lm)) (Sum.inr nm.1)=some (.ref lm):=by rw [valV_put,if_pos rfl]
   generalize upd H8 mo (.dK (Zdj mvs (Sum.inr nm.1) (.ref lm)))=H9 at hM9 hB9 s09 hm9 hb9 hl9
   generalize Zdj mvs (Sum.inr nm.1) (.ref lm)=mvs' at hM9 hm9 hv9
   refine ⟨_,rfl,_,rfl,_,rfl,mo,_,rfl,(by rw [← hv9];exact DGet.k (k:=Sum.inr nm.1) hm9),k,lm,rows,nm.2.2.map (·.2),rfl,kd.mono s09,g,hl9,fun x hx=>?_,?_⟩
   ·obtain ⟨pr,hpr,e⟩:=List.mem_map.mp hx
    rw [← e];exact gnm.made pr hpr
   refine ⟨bvs',mvs',_,_,_,rfl,s09,hb9,hm9,?_,?_⟩
   ·rw [List.take_add_one,hnm];exact hB9
   ·rw [List.take_add_one,hnm];exact hM9
  ·rintro σ H3 ⟨bvs,mvs,x,y,z,rfl,s3,hb3,hm3,hB,hM⟩
   rw [← hvl,List.take_length] at hB hM
   refine ⟨bo,bvs,hb3,fun o=>?_⟩
   have s4:Zaj H (upd H3 bo (.frz o (.dK bvs))):=fun b u e=>by rw [Zab (nNo e hbo)];exact s3 _ _ e
   have hB4:=hB.imp fun n v h=>bo_write (o:=.frz o (.dK bvs)) h hb3
   have hM4:=hM.imp fun n v h=>ma_write (o:=.frz o (.dK bvs)) h hb3
   have hb4:(upd H3 bo (.frz o (.dK bvs))) bo=some (.frz o (.dK bvs)):=uS
   have hm4:(upd H3 bo (.frz o (.dK bvs))) mo=some (.dK mvs):=by rw [Zab (Ne.symm bm)];exact hm3
   generalize upd H3 bo (.frz o (.dK bvs))=H4 at s4 hB4 hM4 hb4 hm4
   have hp4:=s4 _ _ hp
   have pbo:bo≠p:=fun z=>by rw [z,hp] at hbo;cases hbo
   have pmo:mo≠p:=fun z=>by rw [z,hp] at hmoH;cases hmoH
   refine ⟨_,rfl,_,rfl,p,D,dx,[],rfl,hp4,TD.cl,TD.nB,(by show 0<1000;decide),?_⟩
   refine ⟨_,rfl,_,rfl,p,D,dx,_,rfl,uS,TD.cl,TD.nO,(by show 1<1000;decide),?_⟩
   rw [upd_upd]
   refine ⟨_,rfl,_,rfl,p,D,dx,_,rfl,uS,TD.cl,TD.nM,(by show 2<1000;decide),?_⟩
   rw [upd_upd]
   have keep:∀ b o,b≠p→H b=some o→(upd H4 p (.ins D dx (fldsK k bo mo))) b=some o:=fun b o hb e=>by rw [Zab hb];exact s4 _ _ e
   have kp:∀ b o,b≠p→H4 b=some o→(upd H4 p (.ins D dx (fldsK k bo mo))) b=some o:=fun b o hb e=>by rw [Zab hb];exact e
   have nkp:k≠p:=by
    intro z
    obtain ⟨dx',d,a,o,oa,kvs,avs,h1,_⟩:=kd.ex
    rw [z,hp] at h1
    injection h1 with h1
    injection h1 with h1
    exact hDC h1
   refine q _ ⟨dx,bo,mo,o,bvs,mvs,uS,kinds_keep kd hp keep nkp (fun _ _ z=>by cases z) (fun _ z=>by cases z),kp _ _ pbo hb4,hB4.imp fun n v h=>?_,kp _ _ pmo hm4,hM4.imp fun n v h=>?_⟩ keep
   ·obtain ⟨y,e,bd⟩:=h
    obtain ⟨dxb,t,us,h1,h2,h3,h4⟩:=bd.ex
    have yp:y≠p:=by
     intro z
     rw [z,hp4] at h1
     injection h1 with h1
     injection h1 with h1
     exact hDB h1
    exact ⟨y,e,dxb,t,us,kp _ _ yp h1,kinds_keep h2 hp4 kp nkp (fun _ _ z=>by cases z) (fun _ z=>by cases z),kp _ _ (fun z=>by rw [z,hp4] at h3;cases h3) h3,Paired.mapP h4 fun d v ⟨t',e,x⟩=>⟨t',e,kp _ _ (fun z=>by rw [z,hp4] at x;cases x) x⟩⟩
   ·obtain ⟨l',e,x,z⟩:=h
    exact ⟨l',e,kp _ _ (fun z=>by rw [z,hp4] at x;cases x) x,z⟩
end
end K68
namespace K68
open PySem L2 Md
theorem no_kkinds (k bo mo:Addr):(fldsK k bo mo).lookup ("kinds":Str)=none:=fldsK_no k bo mo (by decide +kernel) (by decide +kernel) (by decide +kernel)
theorem no_kwords (k bo mo:Addr):(fldsK k bo mo).lookup ("words":Str)=none:=fldsK_no k bo mo (by decide +kernel) (by decide +kernel) (by decide +kernel)
theorem no_kboard (k bo mo:Addr):(fldsK k bo mo).lookup ("board":Str)=none:=fldsK_no k bo mo (by decide +kernel) (by decide +kernel) (by decide +kernel)
theorem no_kmakes (k bo mo:Addr):(fldsK k bo mo).lookup ("makes":Str)=none:=fldsK_no k bo mo (by decide +kernel) (by decide +kernel) (by decide +kernel)
theorem no_kcheck (k bo mo:Addr):(fldsK k bo mo).lookup ("check_name":Str)=none:=fldsK_no k bo mo (by decide +kernel) (by decide +kernel) (by decide +kernel)
abbrev MKCheck (K:W.Frag) (D f:Addr) (fd:FuncData):Prop:=MDef K D "check_name" "Book.check_name" Zcj ["self","word"] f fd
abbrev MKBoard (K:W.Frag) (D f:Addr) (fd:FuncData):Prop:=MDef K D "board" "Book.board" Ze3 ["self","word"] f fd
abbrev MKMakes (K:W.Frag) (D f:Addr) (fd:FuncData):Prop:=MDef K D "makes" "Book.makes" Ze1 ["self","word"] f fd
abbrev MKWords (K:W.Frag) (D f:Addr) (fd:FuncData):Prop:=MDef K D "words" "Book.words" Ze0 ["self"] f fd
abbrev MKKinds (K:W.Frag) (D f:Addr) (fd:FuncData):Prop:=MDef K D "kinds" "Book.kinds" Ze2 ["self"] f fd
structure ErrI (P:Program) (w:World) (K:W.Frag) (mg:Str→Option Value) (base:Heap) (x:Str) (C:Addr) (a:Str) (sp:Sp) (f:Addr) (fd:FuncData):Prop where
 m:mg x=some (.ref C)
 ex:ExC K C
 ini:W.findIn K (.ref C) "__init__"=some (some (.ref f))
 ty:W.typeIn K (.ref f)=some (.type "function")
 b:Zes K fd ["self",a] []
 go:Zar P w K mg base CX0 1 f fd ["self",a] sp
def spKCheck (C B D:Addr):Sp:=fun vs H Q _=>∃ (p k:Addr) (rows:List (Str×List Str)) (ns:List Nam) (x:Str),vs=[.ref p,.str x]∧Zfc C B D H p k rows ns∧x∈ns.map (·.1)∧Q .non H
def spKKinds (C B D:Addr):Sp:=fun vs H Q _=>∃ (p k:Addr) (rows:List (Str×List Str)) (ns:List Nam),vs=[.ref p]∧Zfc C B D H p k rows ns∧Q (.ref k) H
def spKWords (C B D:Addr):Sp:=fun vs H Q _=>∃ (p k:Addr) (rows:List (Str×List Str)) (ns:List Nam),vs=[.ref p]∧Zfc C B D H p k rows ns∧∀ l,H l=none→Q (.ref l) (upd H l (.lst ((ns.map (·.1)).map V.str)))
def spKBoard (C B D:Addr):Sp:=fun vs H Q _=>∃ (p k:Addr) (rows:List (Str×List Str)) (ns:List Nam) (n:Nam),vs=[.ref p,.str n.1]∧Zfc C B D H p k rows ns∧(ns.map (·.1)).Nodup∧n∈ns∧∀ y,Zco C B H y k rows n.2.1 (n.2.2.map (·.1))→Q (.ref y) H
def spKMakes (C B D:Addr):Sp:=fun vs H Q _=>∃ (p k:Addr) (rows:List (Str×List Str)) (ns:List Nam) (n:Nam),vs=[.ref p,.str n.1]∧Zfc C B D H p k rows ns∧(ns.map (·.1)).Nodup∧n∈ns∧∀ l,H l=none→Q (.ref l) (upd H l (.lst ((n.2.2.map (·.2)).map V.str)))
theorem byName_words {R:Nam→V→Prop}:∀ {ns:List Nam}{kvs:List (Key×V)},Zcd R ns kvs→(kvs.map fun p=>kV p.1)=(ns.map (·.1)).map V.str
 | _,_,.nil=>rfl
 | _,_,.cons r t=>by
  rw [List.map_cons,List.map_cons,List.map_cons,r.1,byName_words t]
  rfl
section
variable {P:Program} {w:World} {K:W.Frag} {mg:Str→Option Value} {base:Heap}
theorem scKCk:Zai ["self","word"] ["self","word"] (Zad Zcj):=⟨rfl,rfl,rfl,by decide +kernel,rfl,by decide +kernel,by decide +kernel⟩
theorem ok_kcheck {f B C D:Addr}{fd:FuncData}(F:Fun K "check_name" "Book.check_name" Zcj f fd) (TD:TxtKn K D):Zar P w K mg base CX0 1 f fd ["self","word"] (spKCheck C B D):=by
 refine F.ok scKCk (fun vs H Q E h=>?_) (fun cdv A outer s H vs Q E hr h=>?_)
 ·obtain ⟨p,k,rows,ns,x,rfl,_⟩:=h
  rfl
 ·obtain ⟨p,k,rows,ns,x,rfl,bk,hx,q⟩:=h
  obtain ⟨dx,bo,mo,o,bvs,mvs,h1,h2,h3,h4,h5,h6⟩:=bk.ex
  have hu:=Zfp hr
  refine ⟨_,(Zac (Za4 (pt_cmp (pc_dnotin hu (pv 1) (Zfn (pv 0) rfl))) Za5 Zak)),?_⟩
  refine ⟨_,rfl,_,rfl,p,D,dx,_,_,rfl,h1,TD.cl,TD.nO,fldsK_o _ _ _,bo,_,rfl,DGet.f (k:=Sum.inr x) h3,_,rfl,?_⟩
  rw [h4.some hx]
  exact Zdv q
theorem scKK:Zai ["self"] ["self"] (Zad Ze2):=⟨rfl,rfl,rfl,by decide +kernel,rfl,by decide +kernel,by decide +kernel⟩
theorem ok_kkinds {f B C D:Addr}{fd:FuncData}(F:Fun K "kinds" "Book.kinds" Ze2 f fd) (TD:TxtKn K D):Zar P w K mg base CX0 1 f fd ["self"] (spKKinds C B D):=by
 refine F.ok scKK (fun vs H Q E h=>?_) (fun cdv A outer s H vs Q E hr h=>?_)
 ·obtain ⟨p,k,rows,ns,rfl,_⟩:=h
  rfl
 ·obtain ⟨p,k,rows,ns,rfl,bk,q⟩:=h
  obtain ⟨dx,bo,mo,o,bvs,mvs,h1,h2,h3,h4,h5,h6⟩:=bk.ex
  exact ⟨_,Zac (Zal (Zfn (pv 0) rfl)),_,rfl,p,D,dx,_,_,rfl,h1,TD.cl,TD.nB,fldsK_b _ _ _,q⟩
theorem scKW:Zai ["self"] ["self"] (Zad Ze0):=⟨rfl,rfl,rfl,by decide +kernel,rfl,by decide +kernel,by decide +kernel⟩
theorem ok_kwords {f B C D:Addr}{fd:FuncData}(F:Fun K "words" "Book.words" Ze0 f fd) (TD:TxtKn K D) (list:mg "list"=none):Zar P w K mg base CX0 1 f fd ["self"] (spKWords C B D):=by
 refine F.ok scKW (fun vs H Q E h=>?_) (fun cdv A outer s H vs Q E hr h=>?_)
 ·obtain ⟨p,k,rows,ns,rfl,_⟩:=h
  rfl
 ·obtain ⟨p,k,rows,ns,rfl,bk,q⟩:=h
  obtain ⟨dx,bo,mo,o,bvs,mvs,h1,h2,h3,h4,h5,h6⟩:=bk.ex
  refine ⟨_,Zac (Zal (Zbd (Zfh rfl) (by rfl) list PyProof.Rows.boot_list (pC (Zfn (pv 0) rfl) Zaa))),_,rfl,p,D,dx,_,_,rfl,h1,TD.cl,TD.nO,fldsK_o _ _ _,bo,bvs,rfl,.inr ⟨o,h3⟩,fun l hl=>?_⟩
  rw [byName_words h4]
  exact q l hl
theorem scKB:Zai ["self","word"] ["self","word"] (Zad Ze3):=⟨rfl,rfl,rfl,by decide +kernel,rfl,by decide +kernel,by decide +kernel⟩
theorem ok_kboard {f B C D fC:Addr}{fd fdC:FuncData}(F:Fun K "board" "Book.board" Ze3 f fd) (TD:TxtKn K D) (MC:MKCheck K D fC fdC):Zar P w K mg base CX0 2 f fd ["self","word"] (spKBoard C B D):=by
 have GC:Zar P w K mg base CX0 1 fC fdC ["self","word"] (spKCheck C B D):=ok_kcheck MC.fn TD
 refine F.ok scKB (fun vs H Q E h=>?_) (fun cdv A outer s H vs Q E hr h=>?_)
 ·obtain ⟨p,k,rows,ns,n,rfl,_⟩:=h
  rfl
 ·obtain ⟨p,k,rows,ns,n,rfl,bk,nd,hn,q⟩:=h
  obtain ⟨dx,bo,mo,o,bvs,mvs,h1,h2,h3,h4,h5,h6⟩:=bk.ex
  have hu:=Zfp hr
  obtain ⟨v,hv,y,rfl,by_⟩:=h4.val nd hn
  refine ⟨_,(pS (Za3 (Zc9 (pv 0) TD.cl MC.me GC hr MC.b .nil Zde (pC (pv 1) Zaa)))
   (Zac (Zal (Zdk hu (Zfn (pv 0) rfl) (pv 1) (fun _ _=>rfl))))),?_⟩
  refine ⟨_,rfl,p,dx,_,rfl,h1,no_kcheck _ _ _,_,rfl,p,k,rows,ns,n.1,rfl,bk,List.mem_map.mpr ⟨n,hn,rfl⟩,?_⟩
  exact ⟨_,rfl,p,D,dx,_,_,rfl,h1,TD.cl,TD.nO,fldsK_o _ _ _,_,rfl,bo,_,rfl,(by rw [← hv];exact DGet.f (k:=Sum.inr n.1) h3),q y by_⟩
theorem scKM:Zai ["self","word"] ["self","word"] (Zad Ze1):=⟨rfl,rfl,rfl,by decide +kernel,rfl,by decide +kernel,by decide +kernel⟩
theorem ok_kmakes {f B C D fC:Addr}{fd fdC:FuncData}(F:Fun K "makes" "Book.makes" Ze1 f fd) (TD:TxtKn K D) (MC:MKCheck K D fC fdC) (list:mg "list"=none):Zar P w K mg base CX0 2 f fd ["self","word"] (spKMakes C B D):=by
 have GC:Zar P w K mg base CX0 1 fC fdC ["self","word"] (spKCheck C B D):=ok_kcheck MC.fn TD
 refine F.ok scKM (fun vs H Q E h=>?_) (fun cdv A outer s H vs Q E hr h=>?_)
 ·obtain ⟨p,k,rows,ns,n,rfl,_⟩:=h
  rfl
 ·obtain ⟨p,k,rows,ns,n,rfl,bk,nd,hn,q⟩:=h
  obtain ⟨dx,bo,mo,o,bvs,mvs,h1,h2,h3,h4,h5,h6⟩:=bk.ex
  have hu:=Zfp hr
  obtain ⟨v,hv,l,rfl,hl,_⟩:=h6.val nd hn
  refine ⟨_,(pS (Za3 (Zc9 (pv 0) TD.cl MC.me GC hr MC.b .nil Zde (pC (pv 1) Zaa)))
   (Zac (Zal (Zbd Ze9 (by rfl) list PyProof.Rows.boot_list (pC (Zdk hu (Zfn (pv 0) rfl) (pv 1) (fun _ _=>rfl)) Zaa))))),?_⟩
  refine ⟨_,rfl,p,dx,_,rfl,h1,no_kcheck _ _ _,_,rfl,p,k,rows,ns,n.1,rfl,bk,List.mem_map.mpr ⟨n,hn,rfl⟩,?_⟩
  exact ⟨_,rfl,p,D,dx,_,_,rfl,h1,TD.cl,TD.nM,fldsK_m _ _ _,_,rfl,mo,_,rfl,(by rw [← hv];exact DGet.k (k:=Sum.inr n.1) h5),l,_,rfl,.inl (SqL.of hl),fun l' hl'=>q l' hl'⟩
end
end K68
namespace K68
open PySem L2 Md
abbrev rTupK (K:W.Frag):List V→Hp→VK→Prop:=fun xs H Q=>∃ p ys,xs=[.ref p]∧((SqL K H p ys∧∀ l,H l=none→Q (.ref l) (upd H l (.tup ys)))∨(SqT K H p ys∧Q (.ref p) H))
def spPlaces:Sp:=fun vs H Q _=>∃ (p:Addr) (m mo:Nat),vs=[.ref p,.int m,.int mo]∧(∃ o,H p=some o∧PotO o)∧1≤m∧m≤24∧mo≤1000000∧∀ (n:Nat) H',Drawn p H H'→1≤n→n≤4→(n=1∨m ^ n≤mo)→Q (.int n) H'
def spChain:Sp:=fun vs H Q _=>∃ (p aa t:Addr) (n m:Nat) (rows:List (Str×List Str)) (avs:List (Key×V)) (c:List Str),vs=[.ref p,.ref aa,.ref t,.int m]∧(∃ o,H p=some o∧PotO o)∧Zcr rows∧H aa=some (.dK avs)∧Zbt H rows rows avs∧H t=some (.tup (c.map V.str))∧Zbz rows n c∧n≤4∧m≤63 ∧
 ∀ (ld:Addr) (ds:List (List Str)) (us:List V) (H':Hp),Drawn p H H'→H ld=none→H' ld=some (.lst us)→Za2 H' ds us→Zbi rows n ds→ds.length≤m→Q (.ref ld) H'
theorem pr_take {α β:Type}{F:α→β→Prop}:∀ {l:List α}{m:List β}(k:Nat),Paired F l m→Paired F (l.take k) (m.take k)
 | _,_,0,_=>by rw [List.take_zero,List.take_zero];exact .nil
 | _,_,_ + 1,.nil=>.nil
 | _,_,k + 1,.cons r t=>.cons r (pr_take k t)
theorem pr_drop {α β:Type}{F:α→β→Prop}:∀ {l:List α}{m:List β}(k:Nat),Paired F l m→Paired F (l.drop k) (m.drop k)
 | _,_,0,r=>r
 | _,_,_ + 1,.nil=>.nil
 | _,_,k + 1,.cons _ t=>pr_drop k t
theorem pr_app {α β:Type}{F:α→β→Prop}:∀ {l l':List α}{m m':List β},Paired F l m→Paired F l' m'→Paired F (l++l') (m++m')
 | _,_,_,_,.nil,h=>h
 | _,_,_,_,.cons r t,h=>.cons r (pr_app t h)
theorem nd_wap:(["word","above","pot"]:List Str).Nodup:=by decide +kernel
theorem drawn_free {p:Addr}{H H':Hp}(d:Drawn p H H') {b:Addr}(h:H' b=none):H b=none:=by
 cases z:H b with
 | none=>rfl
 | some u =>
  by_cases e:b=p
  ·obtain ⟨op,hpp,_⟩:=d.pot
   rw [e,hpp] at h;cases h
  ·rw [d.keep _ _ e z] at h;cases h
section
variable {P:Program} {w:World} {K:W.Frag} {mg:Str→Option Value} {base:Heap}
abbrev nPl:List Str:=["pot","many","most","size","greatest"]
theorem scPl:Zai nPl ["pot","many","most"] (Zad Zd6):=⟨rfl,rfl,rfl,by decide +kernel,rfl,by decide +kernel,by decide +kernel⟩
theorem ok_places {f fT:Addr}{fd fdT:FuncData}(F:Def K mg "_law_places" Zd6 ["pot","many","most"] f fd) (DT:Def K mg "_law_take" Za9 ["pot","many"] fT fdT) (GT:Zar P w K mg base CX0 1 fT fdT ["pot","many"] spTake):
  Zar P w K mg base CX0 2 f fd ["pot","many","most"] spPlaces:=by
 refine F.fn.ok scPl (fun vs H Q E h=>?_) (fun cdv A outer s H vs Q E hr h=>?_)
 ·obtain ⟨p,m,mo,rfl,_⟩:=h
  rfl
 ·obtain ⟨p,m,mo,rfl,⟨o,hp,ho⟩,m1,m24,hmo,q⟩:=h
  have nd:=scPl.nd
  refine' ⟨_,(pS (Zag (i:=3) nd rfl (Or.inl rfl) (pv 1))
   (pS (Zag (i:=4) nd rfl (Or.inl rfl) Zaf)
   (pS (ps_while PassesOwn.never (PW.pt (pw_and (Zan op_lt (pv 4) Zaf (Zau _)) (pw_and1 (Zan op_le (Za0 op_mul (pv 3) (pv 1)) (pv 2) (Zau _)))))
    (pS (Zag (i:=3) nd rfl (Or.inl rfl) (Za0 op_mul (pv 3) (pv 1)))
   (Zac (Zag (i:=4) nd rfl (Or.inl rfl) (Za0 Zck (pv 4) Zaf)))))
   (Zac (Zal (Za0 Zck Zaf (Zae DT GT hr (pC (pv 0) (pC (pv 4) Zaa))))))))),?_⟩
  refine ⟨_,rfl,?_⟩
  refine ⟨fun k σ H'=>H'=H∧∃ g:Nat,σ=[some (.ref p),some (.int m),some (.int mo),some (.int ((m ^ g:Nat):Int)),some (.int g)]∧k=4 - g∧1≤g∧g≤4∧(g=1∨m ^ g≤mo),
   ⟨3,rfl,1,by rw [Nat.pow_one];rfl,rfl,by decide,by decide,.inl rfl⟩,?_⟩
  rintro k σ H' ⟨rfl,g,rfl,rfl,g1,g4,hg⟩
  have bound:m ^ g≤1000000:=by
   rcases hg with e | e
   ·rw [e,Nat.pow_one];omega
   ·omega
  have fin:∀ (v:Int) (o':HO),0≤v→v<(g:Int)→PotO o'→Q (.int (1 + v)) (upd H' p o'):=fun v o' hv0 hv1 ho'=>by
   obtain ⟨k,rfl⟩:∃ k:Nat,v=(k:Int):=⟨v.toNat,by omega⟩
   have e:(1 + (k:Int))=((k + 1:Nat):Int):=by omega
   rw [e]
   refine q (k + 1) _ (Drawn.upd ho') (by omega) (by omega) ?_
   by_cases k0:k=0
   ·exact .inl (by omega)
   ·rcases hg with z | z
    ·omega
    ·exact .inr (Nat.le_trans (Nat.pow_le_pow_right m1 (by omega)) z)
  refine ⟨_,rfl,_,_,rfl,rfl,_,rfl,?_⟩
  refine Zed (fun h1=>?_) (fun h1=>?_)
  rotate_left
  ·refine Zdv ?_
   exact ⟨_,rfl,_,rfl,p,(g:Int),o,rfl,hp,ho,by omega,by omega,fun v o' hv0 hv1 ho'=>⟨_,_,rfl,rfl,fin v o' hv0 hv1 ho'⟩⟩
  ·refine ⟨_,rfl,_,rfl,_,_,rfl,rfl,.inl ⟨by omega,by omega⟩,_,rfl,_,_,rfl,rfl,_,rfl,?_⟩
   have em:((m ^ g:Nat):Int) * ((m:Nat):Int)=((m ^ (g + 1):Nat):Int):=by rw [Nat.pow_succ,Int.natCast_mul]
   rw [em]
   refine Zed (fun h2=>?_) (fun h2=>?_)
   ·have hn:(g:Int)<4:=of_decide_eq_true h1
    have h2:((m ^ (g + 1):Nat):Int)≤(mo:Int):=of_decide_eq_true h2
    refine ⟨fun σ' H4=>σ'=[some (.ref p),some (.int m),some (.int mo),some (.int ((m ^ (g + 1):Nat):Int)),some (.int ((g + 1:Nat):Int))]∧H4=H',?_,?_⟩
    ·rintro σ' H4 ⟨rfl,rfl⟩
     exact ⟨4 - (g + 1),by omega,rfl,g + 1,rfl,rfl,by omega,by omega,.inr (by omega)⟩
    ·refine ⟨_,rfl,_,rfl,_,_,rfl,rfl,.inl ⟨by omega,by omega⟩,?_⟩
     refine ⟨_,rfl,_,_,rfl,rfl,?_,rfl⟩
     show ([some (.ref p),some (.int m),some (.int mo),some (.int (((m ^ g:Nat):Int) * ((m:Nat):Int))),some (.int ((g:Int) + 1))]:St)=_
     rw [em]
     rfl
   ·exact ⟨_,rfl,_,rfl,p,(g:Int),o,rfl,hp,ho,by omega,by omega,fun v o' hv0 hv1 ho'=>⟨_,_,rfl,rfl,fin v o' hv0 hv1 ho'⟩⟩
abbrev nCh:List Str:=["pot","above","call","most","found","k"]
theorem scCh:Zai nCh ["pot","above","call","most"] (Zad Zdx):=⟨rfl,rfl,rfl,by decide +kernel,rfl,by decide +kernel,by decide +kernel⟩
set_option maxHeartbeats 8000000 in
theorem ok_chain {f fT:Addr}{fd fdT:FuncData}(F:Def K mg "_law_chain" Zdx ["pot","above","call","most"] f fd) (T:TxtD mg) (DT:Def K mg "_law_take" Za9 ["pot","many"] fT fdT) (GT:Zar P w K mg base CX0 1 fT fdT ["pot","many"] spTake):
  Zar P w K mg base CX0 2 f fd ["pot","above","call","most"] spChain:=by
 refine F.fn.ok scCh (fun vs H Q E h=>?_) (fun cdv A outer s H vs Q E hr h=>?_)
 ·obtain ⟨p,aa,t,n,m,rows,avs,c,rfl,_⟩:=h
  rfl
 ·obtain ⟨p,aa,t,n,m,rows,avs,c,rfl,⟨o,hp,ho⟩,g,haa,hA,ht,gc,n4,hm,q⟩:=h
  have nd:=scCh.nd
  have hu:=Zfp hr
  refine' ⟨_,(pS (Zag (i:=4) nd rfl (Or.inl rfl) (Zbn Zaa))
   (pS (Za8 PassesOwn.never rfl (Zbu (by rfl) T.range (pC (Zae DT GT hr (pC (pv 0) (pC (Za0 Zck (pv 3) Zaf) Zaa))) Zaa)) (Zah (i:=5) nd rfl (Or.inl rfl))
    (Zfd (Za4 (Zan (op_notInD (hu65 hr)) (pv 2) (pv 4) (by with_unfolding_all rfl))
     (Zac (Za3 (Zfo PySem.F.plainAttrs_list PySem.F.slot_list_insert PySem.F.type_list_insert mt_insert (pv 4) (pC (Zae DT GT hr (pC (pv 0) (pC (Za0 Zck (Zam Zao (by rfl) T.len PySem.boot_len (pC (pv 4) Zaa)) Zaf) Zaa))) (pC (pv 2) Zaa))))) Zak)
   (Zac (Zag (i:=2) nd rfl (Or.inl rfl) (Zbd (r:=rTupK K) Zbe (by rfl) T.tuple PyProof.Rows.boot_tuple (pC ?eC Zaa))))))
   (Zac (Zal (pv 4))))),?_⟩
  case eC=>exact (Zbl ["word"] ["above","pot"] [1,0] (fun _=>Zax (osc:=Zad Zdx) (on:=nCh) (by decide +kernel) rfl rfl rfl) (pi_tup (pv 2)) (fun C s H fp=>Zah (i:=0) nd_wap rfl (Or.inl rfl) (Or.inr rfl)) (fun C s H fp=>Zbw) (fun C s H fp=>Zaw (r:=rIxL K) Zav (Zdk hu (pv 1) (pv 0) (fun _ _=>rfl)) (Zae DT GT hr (pC (pv 2) (pC (Zam (r:=rLenK K) Zao (by rfl) T.len PySem.boot_len (pC (Zdk hu (pv 1) (pv 0) (fun _ _=>rfl)) Zaa)) Zaa))) (fun _ _=>rfl)))
  refine ⟨Nat.zero_le _,fun ld hld=>?_⟩
  have pd:p≠ld:=nNo hp hld
  have d1:=(Drawn.refl (p:=p) ⟨o,hp,ho⟩).new (o:=.lst []) hld
  obtain ⟨o1,hp1,ho1⟩:=d1.pot
  have aap:aa≠p:=fun z=>by rw [z,hp] at haa;obtain ⟨_,_,q',_⟩:=ho;rw [q'] at haa;cases haa
  refine ⟨_,rfl,_,rfl,_,_,rfl,rfl,p,_,o1,rfl,hp1,ho1,by omega,by omega,fun v o2 hv0 hv1 ho2=>⟨v,rfl,by omega,by omega,?_⟩⟩
  have d2:Drawn p H (upd (upd H ld (.lst [])) p o2):=d1.trans (Drawn.upd ho2)
  refine Zaq Zbg (fun i σ H'=>∃ (ds:List (List Str)) (us:List V) (c':List Str) (t':Addr) (x:Option V),σ=[some (.ref p),some (.ref aa),some (.ref t'),some (.int m),some (.ref ld),x]∧Drawn p H H'∧H' ld=some (.lst us)∧Za2 H' ds us ∧
   (∀ d∈ds,Zbz rows n d)∧ds.Nodup∧ds.length≤i∧H' t'=some (.tup (c'.map V.str))∧Zbz rows n c')
   ⟨[],[],c,t,none,rfl,d2,by rw [Zab (Ne.symm pd)];exact uS,.nil,(fun d h=>nomatch h),List.nodup_nil,Nat.le_refl _,Drawn.tup d2 hp ho ht,gc⟩ (fun _ _ _ _ _=>trivial) ?_ ?_
  ·rintro i v' σ H5 hi ⟨ds,us,c5,t5,x5,rfl,d5,hd5,hD5,gc5,nd5,len5,ht5,gt5⟩
   obtain ⟨hi,rfl⟩:=Zaz hi
   obtain ⟨o5,hp5,ho5⟩:=d5.pot
   have okc:∀ y∈c5,Zbh y=true:=fun y hy=>Zby g y (gt5.known y hy)
   have okd:∀ d∈ds,∀ y∈d,Zbh y=true:=fun d hd y hy=>Zby g y ((gc5 d hd).known y hy)
   have hul:=hD5.length
   refine ⟨fun σ' H'=>∃ (ds':List (List Str)) (us':List V),σ'=[some (.ref p),some (.ref aa),some (.ref t5),some (.int m),some (.ref ld),some (.int (0 + (i:Nat)))]∧Drawn p H H'∧H' ld=some (.lst us')∧Za2 H' ds' us'∧(∀ d∈ds',Zbz rows n d)∧ds'.Nodup∧ds'.length≤i + 1∧H' t5=some (.tup (c5.map V.str)),?_,?_⟩
   ·refine ⟨_,rfl,_,rfl,datC c5,ds.map datC,rep_call ht5,.list (SqL.of hd5) (reps_deeds hD5),ok_call 8 okc,ok_deeds 7 okd,_,rfl,?_⟩
    rw [any_deed]
    refine Zed (fun h=>?_) (fun h=>?_)
    ·have hn:c5∉ds:=by simpa using h
     refine ⟨_,rfl,.inl ⟨rfl,_,SqL.of hd5⟩,_,rfl,_,rfl,ld,us,rfl,.inl (SqL.of hd5),_,_,rfl,rfl,p,_,o5,rfl,hp5,ho5,by omega,by omega,fun a o6 ha0 ha1 ho6=>?_⟩
     obtain ⟨j,rfl⟩:∃ j:Nat,a=(j:Int):=⟨a.toNat,by omega⟩
     have d6:Drawn p H5 (upd H5 p o6):=Drawn.upd ho6
     have hd6:=d6.keep _ _ (Ne.symm pd) hd5
     refine ⟨_,rfl,ld,us,_,_,rfl,rfl,hd6,by omega,by omega,Za1 (by omega),ds.take j++c5 :: ds.drop j,us.take j++V.ref t5 :: us.drop j,rfl,?_,?_,?_,?_,?_,?_,?_⟩
     ·exact (d5.trans d6).sub (o':=.lst []) (q:=ld) (fun b o hb e=>by rw [Zab hb];exact e) hld pd
     ·exact uS
     ·have tk:∀ b zs,H5 b=some (.tup zs)→(upd (upd H5 p o6) ld (.lst (us.take j++V.ref t5 :: us.drop j))) b=some (.tup zs):=fun b zs e=>by
       rw [Zab (fun z=>by rw [z,hd5] at e;cases e)];exact Drawn.tup d6 hp5 ho5 e
      exact pr_app (pr_take j (hD5.drawn (p:=p) (o:=.lst []) tk)) (.cons ⟨t5,rfl,tk _ _ ht5⟩ (pr_drop j (hD5.drawn (p:=p) (o:=.lst []) tk)))
     ·intro d hd
      rcases List.mem_append.mp hd with z | z
      ·exact gc5 d (List.mem_of_mem_take z)
      ·rcases List.mem_cons.mp z with z | z
       ·rw [z];exact gt5
       ·exact gc5 d (List.mem_of_mem_drop z)
     ·have pm:(ds.take j++c5 :: ds.drop j).Perm (c5 :: ds):=by
       have:=List.perm_middle (a:=c5) (l₁:=ds.take j) (l₂:=ds.drop j)
       rwa [List.take_append_drop] at this
      exact pm.nodup_iff.mpr (List.nodup_cons.mpr ⟨hn,nd5⟩)
     ·rw [List.length_append,List.length_cons,List.length_take,List.length_drop]
      omega
     ·rw [Zab (fun z=>by rw [z,hd5] at ht5;cases ht5)];exact Drawn.tup d6 hp5 ho5 ht5
    ·exact ⟨ds,us,rfl,d5,hd5,hD5,gc5,nd5,by omega,ht5⟩
   ·rintro σ' H6 ⟨ds',us',rfl,d6,hd6,hD6,gc6,nd6,len6,ht6⟩
    obtain ⟨o6,hp6,ho6⟩:=d6.pot
    refine ⟨_,rfl,t5,rfl,⟨_,SqT.of ht6⟩,Zdb (Zc7 (xs:=c5.map V.str)) (sL (by rw [List.length_map];have:=gt5.len;omega)) (fun D j ys σ' H'=>Drawn p H6 H'∧H' D=some (.lst ys)∧∃ (bs:List Str) (x:Option V),ys=bs.map V.str∧bs.length=j∧(∀ x∈bs,x∈rows.map (·.1))∧σ'=[x,some (.ref aa),some (.ref p)])
     (fun D hD=>⟨(Drawn.refl ⟨o6,hp6,ho6⟩).new hD,uS,[],none,rfl,rfl,(fun x h=>nomatch h),rfl⟩) (fun D j ys σ' H' _ ⟨d,_,bs,_,e,el,_⟩=>⟨SqT.of (Drawn.tup d hp6 ho6 ht6),by rw [e,List.length_map];have:=gt5.len;omega⟩) ?_ ?_⟩
    ·rintro D j v ys σ' H7 hD hj ⟨d7,hl7,bs,x7,rfl,rfl,hb,rfl⟩
     rw [List.getElem?_map] at hj
     cases hx:c5[bs.length]? with
     | none=>rw [hx] at hj;cases hj
     | some x =>
      rw [hx] at hj
      cases hj
      obtain ⟨o7,hp7,ho7⟩:=d7.pot
      have pD:p≠D:=nNo hp6 hD
      have hxm:=gt5.known x (List.mem_of_getElem? hx)
      obtain ⟨r,hr',er⟩:=Zdp hxm
      obtain ⟨tf,fs,hv,htf,hfs,fl⟩:=hA.val' g.nd hr'
      have xfs:x∈fs:=(hfs x).mpr (by rw [er];exact .refl x)
      have fpos:0<fs.length:=List.length_pos_iff.mpr fun z=>by rw [z] at xfs;cases xfs
      have tp:tf≠p:=Ne.symm (pot_ne hp ho htf)
      have d07:=d6.trans d7
      have haa7:=d07.keep _ _ aap haa
      have htf7:=d07.keep _ _ tp htf
      have gle:=g.le
      have get:∀ {H':Hp},H' aa=some (.dK avs)→DGet H' aa (.str x) (some (.ref tf)):=fun {H'} e=>by rw [← hv,er];exact DGet.k (k:=Sum.inr x) e
      refine ⟨_,rfl,_,rfl,aa,_,rfl,get haa7,_,rfl,_,rfl,_,rfl,aa,_,rfl,get haa7,tf,_,rfl,.inl (SqL.of htf7),p,_,o7,rfl,hp7,ho7,by rw [List.length_map];omega,by rw [List.length_map];omega,fun v o8 hv0 hv1 ho8=>?_⟩
      obtain ⟨y,hym,hat⟩:=Zdo hv0 hv1
      have d8:Drawn p H7 (upd H7 p o8):=Drawn.upd ho8
      refine ⟨tf,_,_,_,rfl,rfl,SqL.of (d8.keep _ _ tp htf7),hat,d8.keep _ _ (Ne.symm pD) hl7,(d7.trans d8).sub (o':=.lst []) (q:=D) (fun b o hb e=>by rw [Zab hb];exact e) hD pD,uS,bs++[y],_,by rw [List.map_append];rfl,by simp,fun z hz=>?_,rfl⟩
      rcases List.mem_append.mp hz with z | z
      ·exact hb _ z
      ·rw [List.mem_singleton.mp z]
       exact reach_in g hxm (by rw [← er];exact (hfs y).mp hym)
    ·rintro D ys σ' H7 hD ⟨d7,hl7,bs,x7,rfl,hbl,hb,rfl⟩
     rw [List.length_map,gt5.len] at hbl
     refine ⟨D,_,rfl,.inl ⟨SqL.of hl7,fun t8 ht8=>?_⟩⟩
     have s8:Zaj H7 (upd H7 t8 (.tup (bs.map V.str))):=Zbj ht8
     have d08:=(d6.trans d7).same s8
     refine ⟨ds',us',bs,t8,_,rfl,d08,s8 _ _ (d7.keep _ _ (Ne.symm pd) hd6),(hD6.drawn (p:=p) (o:=.lst []) fun b zs e=>s8 _ _ (Drawn.tup d7 hp6 ho6 e)),gc6,nd6,len6,uS,hbl,hb⟩
  ·rintro σ H6 ⟨ds,us,c5,t5,x5,rfl,d6,hd6,hD6,gc6,nd6,len6,_⟩
   rw [Zay] at len6
   exact ⟨_,rfl,q ld ds us H6 d6 hld hd6 hD6 ⟨gc6,nd6,by omega⟩ (by omega)⟩
end
end K68
namespace K68
open PySem L2 Md
theorem aboveL_drawn {p:Addr}{H H':Hp}{o:HO}{all rows:List (Str×List Str)}{avs:List (Key×V)}(h:Zbt H all rows avs) (hp:H p=some o) (ho:PotO o) (d:Drawn p H H'):Zbt H' all rows avs :=
 Paired.mapP h fun _ _ z=>⟨z.1,let ⟨t,fs,e,x,y⟩:=z.2;⟨t,fs,e,d.keep _ _ (Ne.symm (pot_ne hp ho x)) x,y⟩⟩
def spPrs:Sp:=fun vs H Q _=>∃ (p l aa:Addr) (n m:Nat) (rows:List (Str×List Str)) (avs:List (Key×V)),vs=[.ref p,.ref l,.ref aa,.int n,.int m]∧(∃ o,H p=some o∧PotO o)∧Zdf H l rows∧Zcr rows∧H aa=some (.dK avs)∧Zbt H rows rows avs∧1≤n∧n≤4∧m≤63 ∧
 ∀ (t:Addr) (ps:List (List Str×Str)) (us:List V) (H':Hp),Drawn p H H'→H' t=some (.tup us)→PrsV H' ps us→Zbi rows n (ps.map (·.1))→(∀ q∈ps,q.2∈rows.map (·.1))→ps.length≤m→Q (.ref t) H'
theorem at4 {a b c d:V}{v:Int} (h0:0≤v) (h1:v<4):∃ x,atI [a,b,c,d] v=some x∧(x=a∨x=b∨x=c∨x=d):=by
 obtain ⟨k,rfl⟩:∃ k:Nat,v=(k:Int):=⟨v.toNat,by omega⟩
 have hk:k<4:=by omega
 match k,hk with
 | 0,_=>exact ⟨a,rfl,.inl rfl⟩
 | 1,_=>exact ⟨b,rfl,.inr (.inl rfl)⟩
 | 2,_=>exact ⟨c,rfl,.inr (.inr (.inl rfl))⟩
 | 3,_=>exact ⟨d,rfl,.inr (.inr (.inr rfl))⟩
section
variable {P:Program} {w:World} {K:W.Frag} {mg:Str→Option Value} {base:Heap}
abbrev nPa:List Str:=["pot","rows","above","places","most","words","deeds","start","way","place","word","pairs","deed","made"]
abbrev pPa:List Str:=["pot","rows","above","places","most"]
theorem scPa:Zai nPa pPa (Zad Zcv):=⟨rfl,rfl,rfl,by decide +kernel,rfl,by decide +kernel,by decide +kernel⟩
set_option maxHeartbeats 8000000 in
theorem ok_pairs {f fT fD fC:Addr}{fd fdT fdD fdC:FuncData}(F:Def K mg "_law_pairs" Zcv pPa f fd) (T:TxtD mg) (DT:Def K mg "_law_take" Za9 ["pot","many"] fT fdT) (GT:Zar P w K mg base CX0 1 fT fdT ["pot","many"] spTake)
  (DD:Def K mg "_law_deeds" Zcw ["pot","rows","above","places","most"] fD fdD) (GD:Zar P w K mg base CX0 2 fD fdD ["pot","rows","above","places","most"] spDeeds) (DC:Def K mg "_law_chain" Zdx ["pot","above","call","most"] fC fdC) (GC:Zar P w K mg base CX0 2 fC fdC ["pot","above","call","most"] spChain):
  Zar P w K mg base CX0 3 f fd pPa spPrs:=by
 refine F.fn.ok scPa (fun vs H Q E h=>?_) (fun cdv A outer s H vs Q E hr h=>?_)
 ·obtain ⟨p,l,aa,n,m,rows,avs,rfl,_⟩:=h
  rfl
 ·obtain ⟨p,l,aa,n,m,rows,avs,rfl,⟨o0,hp0,ho0⟩,hR,g,haa,hA,n1,n4,hm,q⟩:=h
  have nd:=scPa.nd
  have hu:=Zfp hr
  have hr1:Zcm 1 _:=hr.mono (by decide)
  have gle:=g.le
  refine' ⟨_,(pS (Zag (i:=5) nd rfl (Or.inr rfl) ?e1)
   (pS (Zag (i:=6) nd rfl (Or.inl rfl) (Zae DD GD hr (pC (pv 0) (pC (pv 1) (pC (pv 2) (pC (pv 3) (pC (pv 4) Zaa)))))))
   (Zfd (Za4 (Zan Zec (Zae DT GT hr1 (pC (pv 0) (pC Zaf Zaa))) Zaf (Zau _))
    (pS (Zag (i:=7) nd rfl (Or.inl rfl) (Zbd (r:=rTupK K) Zbe (by rfl) T.tuple PyProof.Rows.boot_tuple (pC ?e2 Zaa)))
   (Zac (Zag (i:=6) nd rfl (Or.inl rfl) (Zae DC GC hr (pC (pv 0) (pC (pv 2) (pC (pv 7) (pC (pv 4) Zaa)))))))) Zak)
   (pS (Zag (i:=8) nd rfl (Or.inl rfl) (Zae DT GT hr1 (pC (pv 0) (pC Zaf Zaa))))
   (pS (Zag (i:=9) nd rfl (Or.inl rfl) (Zae DT GT hr1 (pC (pv 0) (pC (pv 3) Zaa))))
   (pS (Zag (i:=10) nd rfl (Or.inl rfl) (Zaw (r:=rIxL K) Zav (pv 5) (Zae DT GT hr1 (pC (pv 0) (pC (Zam Zao (by rfl) T.len PySem.boot_len (pC (pv 5) Zaa)) Zaa))) (fun _ _=>rfl)))
   (pS (Zag (i:=11) nd rfl (Or.inl rfl) (Zbn Zaa))
   (pS (Za8 PassesOwn.never rfl (Za7 (pv 6)) (Zah (i:=12) nd rfl (Or.inl rfl))
    (pS (Zag (i:=13) nd rfl (Or.inl rfl) (Zaw (r:=Zfm K) Zbb (Zbm (pC (Zaw (r:=rIxL K) Zav (pv 5) (Zae DT GT hr1 (pC (pv 0) (pC (Zam Zao (by rfl) T.len PySem.boot_len (pC (pv 5) Zaa)) Zaa))) (fun _ _=>rfl)) (pC (pv 10) (pC (Zaw (r:=Zfm K) Zbb (pv 12) (pv 9) (fun _ _=>rfl)) (pC (Zaw (r:=Zfm K) Zbb (pv 12) (pv 9) (fun _ _=>rfl)) Zaa))))) (pv 8) (fun _ _=>rfl)))
   (Zac (Za3 (Zfo PySem.F.plainAttrs_list PySem.F.slot_list_append PySem.F.type_list_append Zbv (pv 11) (pC (Zbm (pC (pv 12) (pC (pv 13) Zaa))) Zaa))))))
   (Zac (Zal (Zbd (r:=rTupK K) Zbe (by rfl) T.tuple PyProof.Rows.boot_tuple (pC (pv 11) Zaa)))))))))))),?_⟩
  case e1=>exact (Zbl ["row"] [] [] (fun _=>Zax (osc:=Zad Zcv) (on:=nPa) (by decide +kernel) rfl rfl rfl) (Za7 (pv 1)) (fun C s H fp=>Zah (i:=0) nd_row1 rfl (Or.inl rfl) (Or.inr rfl)) (fun C s H fp=>Zbw) (fun C s H fp=>Zaw (r:=Zfm K) Zbb (pv 0) Zaf (fun _ _=>rfl)))
  case e2=>exact (Zbl ["k"] ["words","pot"] [5,0] (fun _=>Zax (osc:=Zad Zcv) (on:=nPa) (by decide +kernel) rfl rfl rfl) (Zbu (by rfl) T.range (pC (pv 3) Zaa)) (fun C s H fp=>Zah (i:=0) nd_kwp rfl (Or.inl rfl) (Or.inr rfl)) (fun C s H fp=>Zbw) (fun C s H fp=>Zaw (r:=rIxL K) Zav (pv 1) (Zae DT GT hr1 (pC (pv 2) (pC (Zam (r:=rLenK K) Zao (by rfl) T.len PySem.boot_len (pC (pv 1) Zaa)) Zaa))) (fun _ _=>rfl)))
  obtain ⟨vs0,hvs0,hpr0⟩:=id hR
  refine ⟨_,rfl,l,rfl,⟨_,SqL.of hvs0⟩,words_comp hR (by omega) (fun t u x H' R ht hRx=>⟨_,rfl,t,_,_,_,rfl,rfl,SqT.of ht,rfl,hRx⟩) fun lw H1 hlw s1 hw=>?_⟩
  have hp1:=s1 _ _ hp0
  have lwp:lw≠p:=Ne.symm (pot_ne hp1 ho0 hw)
  have wne:rows.map (·.1)≠[]:=by
   have:=g.ne
   intro z
   have z2:=congrArg List.length z
   rw [List.length_map] at z2
   simp at z2
   rw [z2] at this
   simp at this
  have wpos:0<(rows.map (·.1)).length:=List.length_pos_iff.mpr wne
  have wl:(rows.map (·.1)).length≤24:=by rw [List.length_map];exact gle
  have haa1:=s1 _ _ haa
  have aap:aa≠p:=fun z=>by rw [z,hp0] at haa;obtain ⟨_,_,q',_⟩:=ho0;rw [q'] at haa;cases haa
  have hA1:Zbt H1 rows rows avs:=hA.mono fun b xs e=>s1 _ _ e
  refine ⟨_,rfl,_,rfl,_,rfl,_,rfl,_,rfl,p,l,aa,n,m,rows,avs,rfl,⟨o0,hp1,ho0⟩,Zbk hR s1,g,haa1,hA1,n1,n4,hm,fun ld ds us H2 d12 hld hus hD gd dl=>?_⟩
  obtain ⟨o2,hp2,ho2⟩:=id d12.pot
  have hw2:=d12.keep _ _ lwp hw
  refine ⟨fun σ' H'=>∃ (ld:Addr) (ds:List (List Str)) (us:List V) (x:Option V),σ'=[some (.ref p),some (.ref l),some (.ref aa),some (.int n),some (.int m),some (.ref lw),some (.ref ld),x,none,none,none,none,none,none]∧Drawn p H1 H'∧ld≠p∧H' ld=some (.lst us)∧Za2 H' ds us∧Zbi rows n ds∧ds.length≤m,?_,?_⟩
  ·refine ⟨_,rfl,p,3,o2,rfl,hp2,ho2,by decide,by decide,fun v o3 hv0 hv1 ho3=>⟨rfl,_,rfl,?_⟩⟩
   have d23:Drawn p H2 (upd H2 p o3):=Drawn.upd ho3
   have d13:=d12.trans d23
   have ldp:ld≠p:=fun z=>by rw [z,hp1] at hld;cases hld
   have hus3:=d23.keep _ _ ldp hus
   have hD3:Za2 (upd H2 p o3) ds us:=hD.drawn (p:=p) (o:=.lst []) fun b zs e=>Drawn.tup d23 hp2 ho2 e
   generalize upd H2 p o3=H3 at d23 d13 hus3 hD3
   refine Zed (fun _=>?_) (fun _=>⟨ld,ds,us,none,rfl,d13,ldp,hus3,hD3,gd,dl⟩)
   obtain ⟨o3',hp3,ho3'⟩:=id d13.pot
   have hw3:=d13.keep _ _ lwp hw
   refine ⟨_,rfl,n,rfl,by omega,by omega,Zdb Zbg (by rw [Zay];exact sL (by omega)) (fun D i ys σ' H'=>Drawn p H3 H'∧H' D=some (.lst ys)∧∃ (bs:List Str) (o:Option V),ys=bs.map V.str∧bs.length=i∧(∀ x∈bs,x∈rows.map (·.1))∧σ'=[o,some (.ref lw),some (.ref p)])
    (fun D hD=>⟨(Drawn.refl ⟨o3',hp3,ho3'⟩).new hD,uS,[],none,rfl,rfl,(fun x h=>nomatch h),rfl⟩) (fun D i ys σ' H' _ ⟨_,_,bs,_,e,el,_⟩=>⟨trivial,by rw [e,List.length_map];omega⟩) ?_ ?_⟩
   ·rintro D i v ys σ' H' hD' hi ⟨d,hl,bs,o,rfl,rfl,hb,rfl⟩
    obtain ⟨hi,rfl⟩:=Zaz hi
    obtain ⟨o1,hpp,hoo⟩:=d.pot
    have hw1:=d.keep _ _ lwp hw3
    have pD:p≠D:=nNo hp3 hD'
    refine ⟨_,rfl,_,rfl,_,rfl,lw,_,rfl,.inl (SqL.of hw1),p,_,o1,rfl,hpp,hoo,by rw [List.length_map];omega,by rw [List.length_map];omega,fun v o2 hv0 hv1 ho2=>?_⟩
    obtain ⟨x,hxm,hat⟩:=Zdo hv0 hv1
    have d2:Drawn p H' (upd H' p o2):=Drawn.upd ho2
    refine ⟨lw,_,_,_,rfl,rfl,SqL.of (d2.keep _ _ lwp hw1),hat,d2.keep _ _ (Ne.symm pD) hl,(d.trans d2).sub (o':=.lst []) (q:=D) (fun b o hb e=>by rw [Zab hb];exact e) hD' pD,uS,bs++[x],_,by rw [List.map_append];rfl,by simp,fun y hy=>?_,rfl⟩
    rcases List.mem_append.mp hy with z | z
    ·exact hb y z
    ·rw [List.mem_singleton.mp z];exact hxm
   rintro lb ys σ' H4 hlb ⟨d34,hlb4,bs,o,rfl,hbl,hb,rfl⟩
   rw [Zay] at hbl
   have hbl:bs.length=n:=by simpa using hbl
   refine ⟨lb,_,rfl,.inl ⟨SqL.of hlb4,fun ts hts=>?_⟩⟩
   have s45:Zaj H4 (upd H4 ts (.tup (bs.map V.str))):=Zbj hts
   have d15:=(d13.trans d34).same s45
   obtain ⟨o5,hp5,ho5⟩:=id d15.pot
   refine ⟨_,rfl,_,rfl,_,rfl,_,rfl,p,aa,ts,n,m,rows,avs,bs,rfl,⟨o5,hp5,ho5⟩,g,d15.keep _ _ aap haa1,aboveL_drawn hA1 hp1 ho0 d15,uS,⟨hbl,hb⟩,n4,hm,fun ld' ds' us' H6 d56 hld' hus' hD' gd' dl'=>?_⟩
   exact ⟨ld',ds',us',_,rfl,d15.trans d56,(fun z=>by rw [z,hp5] at hld';cases hld'),hus',hD',gd',dl'⟩
  ·rintro σ' H3 ⟨ld,ds,us,x,rfl,d13,ldp,hus,hD,gd,dl⟩
   obtain ⟨o3,hp3,ho3⟩:=id d13.pot
   have hul:=hD.length
   refine ⟨_,rfl,p,4,o3,rfl,hp3,ho3,by decide,by decide,fun wy o4 hw0 hw1 ho4=>?_⟩
   refine ⟨_,rfl,_,rfl,p,(n:Int),o4,rfl,uS,ho4,by omega,by omega,fun pl o5 hl0 hl1 ho5=>?_⟩
   have d35:Drawn p H3 (upd (upd H3 p o4) p o5):=(Drawn.upd ho4).trans (Drawn.upd ho5)
   generalize upd (upd H3 p o4) p o5=H5 at d35
   have d15:=d13.trans d35
   obtain ⟨o5',hp5,ho5'⟩:=id d15.pot
   have hw5:=d15.keep _ _ lwp hw
   refine ⟨_,rfl,_,rfl,_,rfl,lw,_,rfl,.inl (SqL.of hw5),p,_,o5',rfl,hp5,ho5',by rw [List.length_map];omega,by rw [List.length_map];omega,fun v o6 hv0 hv1 ho6=>?_⟩
   obtain ⟨y,hym,hat⟩:=Zdo hv0 hv1
   have d56:Drawn p H5 (upd H5 p o6):=Drawn.upd ho6
   refine ⟨lw,_,_,_,rfl,rfl,SqL.of (d56.keep _ _ lwp hw5),hat,?_⟩
   have d36:=d35.trans d56
   have d16:=d15.trans d56
   generalize upd H5 p o6=H6 at d56 d36 d16
   have hus6:=d36.keep _ _ ldp hus
   have hD6:Za2 H6 ds us:=hD.drawn (p:=p) (o:=.lst []) fun b zs e=>Drawn.tup d36 hp3 ho3 e
   obtain ⟨o6',hp6,ho6'⟩:=id d16.pot
   refine ⟨Nat.zero_le _,fun lp hlp=>?_⟩
   have plp:p≠lp:=nNo hp6 hlp
   have ldlp:ld≠lp:=nNo hus6 hlp
   have lwlp:lw≠lp:=nNo (d16.keep _ _ lwp hw) hlp
   have lpH1:H1 lp=none:=drawn_free d16 hlp
   have lpH:H lp=none:=s1.free lpH1
   have s67:Zaj H6 (upd H6 lp (.lst [])):=Zbj hlp
   refine ⟨_,rfl,ld,rfl,⟨_,SqL.of (s67 _ _ hus6)⟩,Zaq (Zat (xs:=us)) (fun i σ H'=>∃ (ps:List (List Str×Str)) (ws:List V) (x12 x13:Option V),σ=[some (.ref p),some (.ref l),some (.ref aa),some (.int n),some (.int m),some (.ref lw),some (.ref ld),x,some (.int wy),some (.int pl),some (.str y),some (.ref lp),x12,x13]∧Drawn p H1 H'∧H' ld=some (.lst us)∧Za2 H' ds us∧H' lp=some (.lst ws)∧PrsV H' ps ws∧ps.map (·.1)=ds.take i∧∀ q∈ps,q.2∈rows.map (·.1))
    ⟨[],[],none,none,rfl,d16.same s67,s67 _ _ hus6,hD6.mono s67,uS,.nil,by rw [List.take_zero];rfl,fun q h=>nomatch h⟩ (fun i σ H' _ ⟨_,_,_,_,_,_,e,_⟩=>SqL.of e) ?_ ?_⟩
   ·rintro i v σ H7 hi ⟨ps,ws,x12,x13,rfl,d17,hus7,hD7,hlp7,hP7,ep,kn⟩
    obtain ⟨d,hd,td,rfl,htd⟩:=Zas hD7 hi
    have gcd:=gd.call d (List.mem_of_getElem? hd)
    obtain ⟨o7,hp7,ho7⟩:=id d17.pot
    have hw7:=d17.keep _ _ lwp hw
    refine ⟨_,rfl,_,rfl,_,rfl,lw,_,rfl,.inl (SqL.of hw7),p,_,o7,rfl,hp7,ho7,by rw [List.length_map];omega,by rw [List.length_map];omega,fun v o8 hv0 hv1 ho8=>?_⟩
    obtain ⟨y',hym',hat'⟩:=Zdo hv0 hv1
    have d78:Drawn p H7 (upd H7 p o8):=Drawn.upd ho8
    refine ⟨lw,_,_,_,rfl,rfl,SqL.of (d78.keep _ _ lwp hw7),hat',?_⟩
    have htd8:=Drawn.tup d78 hp7 ho7 htd
    have hlp8:=d78.keep _ _ (Ne.symm plp) hlp7
    have hP8:PrsV (upd H7 p o8) ps ws:=hP7.mono fun b xs e=>Drawn.tup d78 hp7 ho7 e
    have hD8:Za2 (upd H7 p o8) ds us:=hD7.drawn (p:=p) (o:=.lst []) fun b zs e=>Drawn.tup d78 hp7 ho7 e
    have hus8:=d78.keep _ _ ldp hus7
    have d18:=d17.trans d78
    generalize upd H7 p o8=H8 at d78 htd8 hlp8 hP8 hD8 hus8 d18
    have dlen:d.length=n:=gcd.len
    have hl1':pl<((d.map V.str).length:Int):=by rw [List.length_map];omega
    obtain ⟨z,hzm,hatz⟩:=Zdo hl0 hl1'
    have hzk:=gcd.known z hzm
    refine ⟨_,rfl,_,rfl,_,rfl,td,_,_,_,rfl,rfl,SqT.of htd8,hatz,_,rfl,_,rfl,td,_,_,_,rfl,rfl,SqT.of htd8,hatz,?_⟩
    refine ⟨sL (by show 4≤100000;decide),fun tt htt=>?_⟩
    have s89:Zaj H8 (upd H8 tt (.tup [.str y',.str y,.str z,.str z])):=Zbj htt
    obtain ⟨mv,hmv,hmc⟩:=at4 (a:=.str y') (b:=.str y) (c:=.str z) (d:=.str z) hw0 hw1
    obtain ⟨mx,rfl,hmx⟩:∃ mx:Str,mv=.str mx∧mx∈rows.map (·.1):=by
     rcases hmc with e | e | e | e
     ·exact ⟨y',e,hym'⟩
     ·exact ⟨y,e,hym⟩
     ·exact ⟨z,e,hzk⟩
     ·exact ⟨z,e,hzk⟩
    refine ⟨_,rfl,tt,_,_,_,rfl,rfl,SqT.of uS,hmv,?_⟩
    refine ⟨_,rfl,.inl ⟨rfl,_,SqL.of (s89 _ _ hlp8)⟩,_,rfl,_,rfl,sL (by show 2≤100000;decide),fun tp htp=>?_⟩
    have s9:Zaj H8 (upd (upd H8 tt (.tup [.str y',.str y,.str z,.str z])) tp (.tup [.ref td,.str mx])):=s89.trans (Zbj htp)
    have htp9:(upd (upd H8 tt (.tup [.str y',.str y,.str z,.str z])) tp (.tup [.ref td,.str mx])) tp=some (.tup [.ref td,.str mx]):=uS
    generalize upd (upd H8 tt (.tup [.str y',.str y,.str z,.str z])) tp (.tup [.ref td,.str mx])=H9 at s9 htp9
    have hlp9:=s9 _ _ hlp8
    have wsl:ws.length≤64:=by
     have h1:=Paired.length hP7
     have h2:=congrArg List.length ep
     rw [List.length_map,List.length_take] at h2
     have h3:=gd.few
     omega
    refine ⟨lp,_,_,rfl,rfl,hlp9,Za1 (by omega),ps++[(d,mx)],ws++[.ref tp],_,_,rfl,?_,?_,?_,uS,?_,?_,?_⟩
    ·exact ((d18.same s9)).sub (o':=.lst []) (q:=lp) (fun b o hb e=>by rw [Zab hb];exact e) lpH1 plp
    ·rw [Zab ldlp];exact s9 _ _ hus8
    ·have tk:∀ b zs,H9 b=some (.tup zs)→(upd H9 lp (.lst (ws++[V.ref tp]))) b=some (.tup zs):=fun b zs e=>by
      rw [Zab (fun z=>by rw [z,hlp9] at e;cases e)];exact e
     exact (hD8.mono s9).drawn (p:=p) (o:=.lst []) tk
    ·have tk:∀ b zs,H9 b=some (.tup zs)→(upd H9 lp (.lst (ws++[V.ref tp]))) b=some (.tup zs):=fun b zs e=>by
      rw [Zab (fun z=>by rw [z,hlp9] at e;cases e)];exact e
     exact Paired.snoc ((hP8.mono (Zct s9)).mono tk) ⟨tp,td,rfl,tk _ _ htp9,tk _ _ (s9 _ _ htd8)⟩
    ·rw [List.map_append,ep,List.take_add_one,hd];rfl
    ·intro q' hq'
     rcases List.mem_append.mp hq' with z | z
     ·exact kn q' z
     ·rw [List.mem_singleton.mp z];exact hmx
   ·rintro σ H7 ⟨ps,ws,x12,x13,rfl,d17,hus7,hD7,hlp7,hP7,ep,kn⟩
    rw [← hul,List.take_length] at ep
    refine ⟨_,rfl,lp,_,rfl,.inl ⟨SqL.of hlp7,fun t ht=>?_⟩⟩
    have s78:Zaj H7 (upd H7 t (.tup ws)):=Zbj ht
    have dH:Drawn p H (upd H7 t (.tup ws)):=⟨fun b o hb e=>s78 _ _ (d17.keep b o hb (s1 _ _ e)),(d17.same s78).pot⟩
    refine q t ps ws _ dH uS (hP7.mono (Zct s78)) (by rw [ep];exact gd) kn ?_
    have:=congrArg List.length ep
    rw [List.length_map] at this
    omega
end
end K68
namespace K68
open PySem L2 Md
def NameT (H:Hp) (n:Nam) (v:V):Prop:=∃ (t tp:Addr) (vs:List V),v=V.ref t∧H t=some (.tup [.str n.1,.int n.2.1,.ref tp])∧H tp=some (.tup vs)∧PrsV H n.2.2 vs
theorem NameT.mono {H H':Hp}{n:Nam}{v:V}(h:NameT H n v) (k:∀ b xs,H b=some (.tup xs)→H' b=some (.tup xs)):NameT H' n v:=by
 obtain ⟨t,tp,vs,e,h1,h2,h3⟩:=h
 exact ⟨t,tp,vs,e,k _ _ h1,k _ _ h2,h3.mono k⟩
theorem NameT.v {K:W.Frag}{H:Hp}{n:Nam}{v:V}(h:NameT H n v):NameV K H n v:=by
 obtain ⟨t,tp,vs,e,h1,h2,h3⟩:=h
 exact ⟨t,tp,false,vs,e,h1,SqT.of h2,h3⟩
def Zfb (H:Hp) (ns:List Nam) (vs:List V):Prop:=Paired (NameT H) ns vs
theorem Zfb.mono {H H':Hp}{ns:List Nam}{vs:List V}(h:Zfb H ns vs) (k:∀ b xs,H b=some (.tup xs)→H' b=some (.tup xs)):Zfb H' ns vs:=Paired.mapP h fun _ _ z=>z.mono k
structure Names (rows:List (Str×List Str)) (few calls:Nat) (ns:List Nam):Prop where
 each:∀ n∈ns,GoodName rows n
 nd:(ns.map (·.1)).Nodup
 few:∀ n∈ns,n.2.2.length≤few
 calls:∀ n∈ns,n.2.1=1∨rows.length ^ n.2.1≤calls
def spNames (K:W.Frag):Sp:=fun vs H Q _=>∃ (a l aa:Addr) (at' mo few calls:Nat) (ns:List Int) (rows:List (Str×List Str)) (avs:List (Key×V)),vs=[.ref a,.int at',.ref l,.ref aa,.int mo,.int few,.int calls]∧SqL K H a (ns.map V.int)∧ns.length≤100∧at'≤100∧Zdf H l rows∧Zcr rows∧H aa=some (.dK avs)∧Zbt H rows rows avs∧mo≤8∧few≤63∧calls≤1000000 ∧
 ∀ (ln:Addr) (nms:List Nam) (us:List V) (H':Hp),Zaj H H'→H ln=none→H' ln=some (.lst us)→Zfb H' nms us→Names rows few calls nms→nms.length≤mo→Q (.ref ln) H'
section
variable {P:Program} {w:World} {K:W.Frag} {mg:Str→Option Value} {base:Heap}
abbrev nNs:List Str:=["script","at","rows","above","most","few","calls","names","words","k","pot","places"]
abbrev pNs:List Str:=["script","at","rows","above","most","few","calls"]
theorem scNs:Zai nNs pNs (Zad Zey):=⟨rfl,rfl,rfl,by decide +kernel,rfl,by decide +kernel,by decide +kernel⟩
set_option maxHeartbeats 8000000 in
theorem ok_names {f fT fP fW fL fA:Addr}{fd fdT fdP fdW fdL fdA:FuncData}(F:Def K mg "_law_names" Zey pNs f fd) (T:TxtD mg) (DP:Def K mg "_law_pot" Zfk ["script","k"] fP fdP) (GP:Zar P w K mg base CX0 1 fP fdP ["script","k"] (spPot K)) (DT:Def K mg "_law_take" Za9 ["pot","many"] fT fdT) (GT:Zar P w K mg base CX0 1 fT fdT ["pot","many"] spTake)
  (DW:Def K mg "_law_word" Zbc ["pot","words"] fW fdW) (GW:Zar P w K mg base CX0 2 fW fdW ["pot","words"] spWord) (DL:Def K mg "_law_places" Zd6 ["pot","many","most"] fL fdL) (GL:Zar P w K mg base CX0 2 fL fdL ["pot","many","most"] spPlaces) (DA:Def K mg "_law_pairs" Zcv pPa fA fdA) (GA:Zar P w K mg base CX0 3 fA fdA pPa spPrs):
  Zar P w K mg base CX0 4 f fd pNs (spNames K):=by
 refine F.fn.ok scNs (fun vs H Q E h=>?_) (fun cdv A outer s H vs Q E hr h=>?_)
 ·obtain ⟨a,l,aa,at',mo,few,calls,ns,rows,avs,rfl,_⟩:=h
  rfl
 ·obtain ⟨a,l,aa,at',mo,few,calls,ns,rows,avs,rfl,hS,hlen,hat,hR,g,haa,hA,hmo,hfew,hcalls,q⟩:=h
  have nd:=scNs.nd
  have hr1:Zcm 1 _:=hr.mono (by decide)
  have hr2:Zcm 2 _:=hr.mono (by decide)
  have gle:=g.le
  have gne:1≤rows.length:=by have:=g.ne;omega
  refine' ⟨_,(pS (Zag (i:=7) nd rfl (Or.inl rfl) (Zbn Zaa))
   (pS (Zag (i:=8) nd rfl (Or.inl rfl) (Zbn Zaa))
   (pS (Za8 PassesOwn.never rfl (Zbu (by rfl) T.range (pC (Zae DT GT hr1 (pC (Zae DP GP hr1 (pC (pv 0) (pC (pv 1) Zaa))) (pC (Za0 Zck (pv 4) Zaf) Zaa))) Zaa)) (Zah (i:=9) nd rfl (Or.inl rfl))
    (pS (Zag (i:=10) nd rfl (Or.inl rfl) (Zae DP GP hr1 (pC (pv 0) (pC (Za0 Zck (Za0 Zck (pv 1) Zaf) (pv 9)) Zaa))))
   (pS (Za3 (Zfo PySem.F.plainAttrs_list PySem.F.slot_list_append PySem.F.type_list_append Zbv (pv 8) (pC (Zae DW GW hr2 (pC (pv 10) (pC (pv 8) Zaa))) Zaa)))
   (pS (Zag (i:=11) nd rfl (Or.inl rfl) (Zae DL GL hr2 (pC (pv 10) (pC (Zam Zao (by rfl) T.len PySem.boot_len (pC (pv 2) Zaa)) (pC (pv 6) Zaa)))))
   (Zac (Za3 (Zfo PySem.F.plainAttrs_list PySem.F.slot_list_append PySem.F.type_list_append Zbv (pv 7) (pC (Zbm (pC (Zaw (r:=rIxL K) Zav (pv 8) (pv 9) (fun _ _=>rfl)) (pC (pv 11) (pC (Zae DA GA hr (pC (pv 10) (pC (pv 2) (pC (pv 3) (pC (pv 11) (pC (pv 5) Zaa)))))) Zaa)))) Zaa))))))))
   (Zac (Zal (pv 7)))))),?_⟩
  refine ⟨Nat.zero_le _,fun ln hln=>⟨Nat.zero_le _,fun lw hlw=>?_⟩⟩
  have s1:Zaj H (upd H ln (.lst [])):=Zbj hln
  have s2:Zaj (upd H ln (.lst [])) (upd (upd H ln (.lst [])) lw (.lst [])):=Zbj hlw
  have lwH:H lw=none:=s1.free hlw
  have nw:ln≠lw:=fun z=>by rw [← z,uS] at hlw;cases hlw
  have hln2:=s2 ln _ uS
  have hlw2:(upd (upd H ln (.lst [])) lw (.lst [])) lw=some (.lst []):=uS
  have s02:=s1.trans s2
  generalize upd (upd H ln (.lst [])) lw (.lst [])=H2 at s02 hln2 hlw2
  refine ⟨_,rfl,_,rfl,a,(at':Int),ns,rfl,s02.seq hS,hlen,by omega,by omega,fun p0 o0 hp0 ho0=>⟨_,rfl,_,_,rfl,rfl,p0,_,o0,rfl,uS,ho0,by omega,by omega,fun v o1 hv0 hv1 ho1=>⟨v,rfl,by omega,by omega,?_⟩⟩⟩
  have s23:Zaj H2 (upd (upd H2 p0 o0) p0 o1):=fun b o e=>by rw [Zab (nNo e hp0),Zab (nNo e hp0)];exact e
  generalize upd (upd H2 p0 o0) p0 o1=H3 at s23
  refine Zaq Zbg (fun i σ H'=>∃ (nms:List Nam) (us:List V) (x9 x10 x11:Option V),σ=[some (.ref a),some (.int at'),some (.ref l),some (.ref aa),some (.int mo),some (.int few),some (.int calls),some (.ref ln),some (.ref lw),x9,x10,x11]∧Zaj H H'∧H' ln=some (.lst us)∧Zfb H' nms us∧H' lw=some (.lst ((nms.map (·.1)).map V.str))∧Names rows few calls nms∧nms.length=i)
   ⟨[],[],none,none,none,rfl,s02.trans s23,s23 _ _ hln2,.nil,s23 _ _ hlw2,⟨(fun n h=>nomatch h),List.nodup_nil,(fun n h=>nomatch h),(fun n h=>nomatch h)⟩,rfl⟩ (fun _ _ _ _ _=>trivial) ?_ ?_
  ·rintro i v' σ H4 hi ⟨nms,us,x9,x10,x11,rfl,s4,hln4,hN4,hlw4,gn4,nl⟩
   obtain ⟨hi,rfl⟩:=Zaz hi
   have hi8:i<9:=by omega
   refine ⟨_,rfl,_,rfl,_,_,rfl,rfl,_,rfl,_,_,rfl,rfl,a,(at' + 1 + (0 + (i:Int)):Int),ns,rfl,s4.seq hS,hlen,by omega,by omega,fun p o hp ho=>?_⟩
   have s45:Zaj H4 (upd H4 p o):=Zbj hp
   have hp5:(upd H4 p o) p=some o:=uS
   have pH:H p=none:=s4.free hp
   have hln5:=s45 _ _ hln4
   have hlw5:=s45 _ _ hlw4
   have hN5:=hN4.mono (Zct s45)
   have s5:=s4.trans s45
   generalize upd H4 p o=H5 at s45 hp5 hln5 hlw5 hN5 s5
   have plw:p≠lw:=nNo hlw4 hp |> Ne.symm
   have pln:p≠ln:=nNo hln4 hp |> Ne.symm
   have wok:WordsOk (nms.map (·.1)):=⟨fun x hx=>by
    obtain ⟨n,hn,e⟩:=List.mem_map.mp hx
    rw [← e];exact (gn4.each n hn).word,gn4.nd⟩
   have wl:(nms.map (·.1)).length≤8:=by rw [List.length_map];omega
   refine ⟨_,rfl,.inl ⟨rfl,_,SqL.of hlw5⟩,_,rfl,_,rfl,p,lw,nms.map (·.1),rfl,plw,⟨o,hp5,ho⟩,hlw5,wok,by omega,fun x H6 d56 wx nx=>?_⟩
   have hlw6:=d56.keep _ _ (Ne.symm plw) hlw5
   refine ⟨lw,_,_,rfl,rfl,hlw6,Za1 (by rw [List.length_map];omega),?_⟩
   have e7:(nms.map (·.1)).map V.str++[V.str x]=((nms.map (·.1))++[x]).map V.str:=by rw [List.map_append];rfl
   have d57:∀ b u,b≠p→b≠lw→H5 b=some u→(upd H6 lw (.lst (((nms.map (·.1)).map V.str)++[V.str x]))) b=some u:=fun b u h1 h2 e=>by rw [Zab h2];exact d56.keep _ _ h1 e
   obtain ⟨o6,hp6,ho6⟩:=id d56.pot
   have hp7:(upd H6 lw (.lst (((nms.map (·.1)).map V.str)++[V.str x]))) p=some o6:=by rw [Zab plw];exact hp6
   have hlw7:(upd H6 lw (.lst (((nms.map (·.1)).map V.str)++[V.str x]))) lw=some (.lst (((nms.map (·.1))++[x]).map V.str)):=by rw [uS,e7]
   have s7:Zaj H (upd H6 lw (.lst (((nms.map (·.1)).map V.str)++[V.str x]))):=fun b u e=>d57 b u (nNo e pH) (nNo e lwH) (s5 _ _ e)
   have hln7:=d57 _ _ (Ne.symm pln) nw hln5
   have tk7:∀ b zs,H5 b=some (.tup zs)→(upd H6 lw (.lst (((nms.map (·.1)).map V.str)++[V.str x]))) b=some (.tup zs):=fun b zs e=>d57 _ _ (fun z=>by rw [z,hp5] at e;obtain ⟨_,_,q',_⟩:=ho;rw [q'] at e;cases e) (fun z=>by rw [z,hlw5] at e;cases e) e
   have hN7:=hN5.mono tk7
   generalize upd H6 lw (.lst (((nms.map (·.1)).map V.str)++[V.str x]))=H7 at hp7 hlw7 s7 hln7 hN7
   obtain ⟨vs0,hvs0,hpr0⟩:=id hR
   have hvl:vs0.length=rows.length:=hpr0.length.symm
   refine ⟨_,rfl,_,rfl,l,vs0,rfl,.inl (SqL.of (s7 _ _ hvs0)),_,rfl,p,rows.length,calls,by rw [hvl];rfl,⟨o6,hp7,ho6⟩,gne,gle,hcalls,fun n H8 d78 n1 n4 hc=>?_⟩
   obtain ⟨o8,hp8,ho8⟩:=id d78.pot
   have hlw8:=d78.keep _ _ (Ne.symm plw) hlw7
   have hln8:=d78.keep _ _ (Ne.symm pln) hln7
   have s8:Zaj H H8:=fun b u e=>d78.keep _ _ (nNo e pH) (s7 _ _ e)
   have hN8:Zfb H8 nms us:=hN7.mono fun b xs e=>Drawn.tup d78 hp7 ho6 e
   have hxi:atI (((nms.map (·.1))++[x]).map V.str) (0 + (i:Nat):Int)=some (.str x):=by
    rw [Int.zero_add]
    refine Za6 ?_
    rw [List.getElem?_map,List.getElem?_append_right (by rw [List.length_map];omega),List.length_map,nl,Nat.sub_self]
    rfl
   refine ⟨_,rfl,.inl ⟨rfl,_,SqL.of hln8⟩,_,rfl,_,rfl,lw,_,_,_,rfl,rfl,SqL.of hlw8,hxi,_,rfl,_,rfl,_,rfl,_,rfl,_,rfl,_,rfl,p,l,aa,n,few,rows,avs,rfl,⟨o8,hp8,ho8⟩,Zbk hR s8,g,s8 _ _ haa,hA.mono (fun b xs e=>s8 _ _ e),n1,n4,hfew,fun tp ps ws H9 d89 htp hPs gdp kn pl=>⟨sL (by show 3≤100000;decide),fun t ht=>?_⟩⟩
   have s910:Zaj H9 (upd H9 t (.tup [.str x,.int n,.ref tp])):=Zbj ht
   have ht10:(upd H9 t (.tup [.str x,.int n,.ref tp])) t=some (.tup [.str x,.int n,.ref tp]):=uS
   generalize upd H9 t (.tup [.str x,.int n,.ref tp])=H10 at s910 ht10
   have hln10:=s910 _ _ (d89.keep _ _ (Ne.symm pln) hln8)
   have usl:us.length≤8:=by have:=Paired.length hN4;omega
   refine ⟨ln,_,_,rfl,rfl,hln10,Za1 (by omega),nms++[(x,n,ps)],us++[.ref t],_,_,_,rfl,?_,uS,?_,?_,?_,?_⟩
   ·exact fun b u e=>by rw [Zab (nNo e hln)];exact s910 _ _ (d89.keep _ _ (nNo e pH) (s8 _ _ e))
   ·have tk:∀ b zs,H10 b=some (.tup zs)→(upd H10 ln (.lst (us++[V.ref t]))) b=some (.tup zs):=fun b zs e=>by
     rw [Zab (fun z=>by rw [z,hln10] at e;cases e)];exact e
    exact Paired.snoc (((hN8.mono fun b xs e=>Drawn.tup d89 hp8 ho8 e).mono (Zct s910)).mono tk) ⟨t,tp,ws,rfl,tk _ _ ht10,tk _ _ (s910 _ _ htp),(hPs.mono (Zct s910)).mono tk⟩
   ·rw [Zab (Ne.symm nw),List.map_append]
    exact s910 _ _ (d89.keep _ _ (Ne.symm plw) hlw8)
   ·refine ⟨fun n' hn'=>?_,?_,fun n' hn'=>?_,fun n' hn'=>?_⟩
    ·rcases List.mem_append.mp hn' with z | z
     ·exact gn4.each _ z
     ·rw [List.mem_singleton.mp z];exact ⟨wx,n1,n4,gdp,kn⟩
    ·rw [List.map_append,List.nodup_append]
     exact ⟨gn4.nd,by simp,fun a ha b hb e=>nx (by have z:b=x:=List.mem_singleton.mp hb;rw [← z,← e];exact ha)⟩
    ·rcases List.mem_append.mp hn' with z | z
     ·exact gn4.few _ z
     ·rw [List.mem_singleton.mp z];exact pl
    ·rcases List.mem_append.mp hn' with z | z
     ·exact gn4.calls _ z
     ·rw [List.mem_singleton.mp z];exact hc
   ·rw [List.length_append,nl];rfl
  ·rintro σ H4 ⟨nms,us,x9,x10,x11,rfl,s4,hln4,hN4,hlw4,gn4,nl⟩
   rw [Zay] at nl
   exact ⟨_,rfl,q ln nms us H4 s4 hln hln4 hN4 gn4 (by omega)⟩
end
end K68
namespace K68
open PySem L2 Md
mutual
inductive TmV (H:Hp):Dt→V→Prop
 | int (i:Int):TmV H (.int i) (.int i)
 | str (x:Str) (hx:PyData.strOk x=true):TmV H (.str x) (.str x)
 | tup {a:Addr} {vs:List V} {ds:List Dt}:H a=some (.tup vs)→TmsV H ds vs→TmV H (.tuple ds) (.ref a)
inductive TmsV (H:Hp):List Dt→List V→Prop
 | nil:TmsV H [] []
 | cons {d:Dt} {ds:List Dt} {v:V} {vs:List V}:TmV H d v→TmsV H ds vs→TmsV H (d :: ds) (v :: vs)
end
mutual
theorem TmV.keep {H H':Hp}(k:∀ b xs,H b=some (.tup xs)→H' b=some (.tup xs)):∀ {d:Dt}{v:V},TmV H d v→TmV H' d v
 | _,_,.int i=>.int i
 | _,_,.str x hx=>.str x hx
 | _,_,.tup h t=>.tup (k _ _ h) (t.keep k)
theorem TmsV.keep {H H':Hp}(k:∀ b xs,H b=some (.tup xs)→H' b=some (.tup xs)):∀ {ds:List Dt}{vs:List V},TmsV H ds vs→TmsV H' ds vs
 | _,_,.nil=>.nil
 | _,_,.cons h t=>.cons (h.keep k) (t.keep k)
end
mutual
theorem TmV.rep {K:W.Frag}{H:Hp}:∀ {d:Dt}{v:V},TmV H d v→Rep K H v d
 | _,_,.int i=>.int i
 | _,_,.str x _=>.str x
 | _,_,.tup h t=>.tuple (SqT.of h) t.reps
theorem TmsV.reps {K:W.Frag}{H:Hp}:∀ {ds:List Dt}{vs:List V},TmsV H ds vs→Reps K H vs ds
 | _,_,.nil=>.nil
 | _,_,.cons h t=>.cons h.rep t.reps
end
mutual
theorem TmV.lay {H:Hp}:∀ {d:Dt}{v:V},TmV H d v→(W.kqdP d).canLay0=true
 | _,_,.int i=>by rw [W.kqdP];rfl
 | _,_,.str x hx=>by rw [W.kqdP];exact hx
 | _,_,.tup h t=>by rw [W.kqdP];exact t.lays
theorem TmsV.lays {H:Hp}:∀ {ds:List Dt}{vs:List V},TmsV H ds vs→PyData.canLayAll0 (W.kqdPs ds)=true
 | _,_,.nil=>by rw [W.kqdPs];rfl
 | _,_,.cons h t=>by
  rw [W.kqdPs]
  show (_&&_)=true
  rw [h.lay,t.lays]
  rfl
end
theorem TmsV.length {H:Hp}:∀ {ds:List Dt}{vs:List V},TmsV H ds vs→ds.length=vs.length
 | _,_,.nil=>rfl
 | _,_,.cons _ t=>by rw [List.length_cons,List.length_cons,t.length]
theorem TmsV.append {H:Hp}:∀ {ds es:List Dt}{vs us:List V},TmsV H ds vs→TmsV H es us→TmsV H (ds++es) (vs++us)
 | _,_,_,_,.nil,h=>h
 | _,_,_,_,.cons a t,h=>.cons a (t.append h)
theorem TmsV.at_ {H:Hp}:∀ {ds:List Dt}{vs:List V},TmsV H ds vs→∀ {i:Nat}{v:V},vs[i]?=some v→∃ d,ds[i]?=some d∧TmV H d v
 | _,_,.cons h t,0,v,e=>by
  rw [List.getElem?_cons_zero] at e
  cases e
  exact ⟨_,rfl,h⟩
 | _,_,.cons h t,i + 1,v,e=>by
  rw [List.getElem?_cons_succ] at e
  exact t.at_ e
 | _,_,.nil,i,v,e=>by simp at e
theorem TmsV.drop {H:Hp}:∀ {ds:List Dt}{vs:List V},TmsV H ds vs→∀ n,TmsV H (ds.drop n) (vs.drop n)
 | _,_,h,0=>h
 | _,_,.nil,n + 1=>.nil
 | _,_,.cons _ t,n + 1=>t.drop n
def kids:Dt→List Dt
 | .tuple ds=>ds.drop 1
 | _=>[]
theorem lvl_ex:∃ f:Nat→List Dt→List Dt,(∀ l,f 0 l=l)∧∀ k l,f (k + 1) l=(f k l).flatMap kids:=⟨fun k l=>Nat.rec l (fun _ r=>r.flatMap kids) k,fun _=>rfl,fun _ _=>rfl⟩
noncomputable def lvl:Nat→List Dt→List Dt:=Classical.choose lvl_ex
theorem Zcc (l:List Dt):lvl 0 l=l:=(Classical.choose_spec lvl_ex).1 l
theorem Zdu (k:Nat) (l:List Dt):lvl (k + 1) l=(lvl k l).flatMap kids:=(Classical.choose_spec lvl_ex).2 k l
theorem cnt_ex:∃ f:Nat→List Dt→Nat,(∀ l,f 0 l=0)∧∀ k l,f (k + 1) l=f k l + (lvl k l).length:=⟨fun k l=>Nat.rec 0 (fun k r=>r + (lvl k l).length) k,fun _=>rfl,fun _ _=>rfl⟩
noncomputable def cntL:Nat→List Dt→Nat:=Classical.choose cnt_ex
theorem Zdd (l:List Dt):cntL 0 l=0:=(Classical.choose_spec cnt_ex).1 l
theorem Zd0 (k:Nat) (l:List Dt):cntL (k + 1) l=cntL k l + (lvl k l).length:=(Classical.choose_spec cnt_ex).2 k l
noncomputable def smallB (d:Dt):Bool:=(lvl 12 [d]).isEmpty&&decide (cntL 12 [d]≤40)
theorem cut1 (xs:List V):cutV xs (some 1) none=xs.drop 1:=by
 unfold cutV
 have e:HT.sIx xs.length 0 (some (1:Int))=min 1 xs.length:=HT.sIx_nat xs.length 0 1
 rw [e,HT.sIx_none]
 cases xs with
 | nil=>rfl
 | cons x r =>
  have e2:min 1 (x :: r).length=1:=by rw [List.length_cons];omega
  rw [e2]
  exact List.take_of_length_le (by rw [List.length_drop];omega)
def spIsNum:Sp:=fun vs H Q _=>∃ (d:Dt) (v:V),vs=[v]∧TmV H d v∧Q (.bl (match d with | .int _=>true | _=>false)) H
def spParts:Sp:=fun vs H Q _=>∃ (l:Addr) (ds:List Dt) (us:List V),vs=[.ref l]∧H l=some (.lst us)∧TmsV H ds us∧(ds.flatMap kids).length≤1000∧∀ l' us' H',H l'=none→Zaj H H'→H' l'=some (.lst us')→TmsV H' (ds.flatMap kids) us'→Q (.ref l') H'
def spSmall:Sp:=fun vs H Q _=>∃ (d:Dt) (v:V),vs=[v]∧TmV H d v∧(∀ k,(lvl k [d]).length≤1000)∧∀ H',Zaj H H'→Q (.bl (smallB d)) H'
structure TxtT (mg:Str→Option Value):Prop where
 isi:mg "isinstance"=none
 int:mg "int"=none
 bool:mg "bool"=none
 tuple:mg "tuple"=none
 len:mg "len"=none
 range:mg "range"=none
theorem flat_take {α β:Type}(f:α→List β):∀ (l:List α) (i:Nat),((l.take i).flatMap f).length≤(l.flatMap f).length
 | [],i=>by rw [List.take_nil];exact Nat.le_refl _
 | a :: l,0=>Nat.zero_le _
 | a :: l,i + 1=>by
  have:=flat_take f l i
  rw [List.take_succ_cons,List.flatMap_cons,List.flatMap_cons,List.length_append,List.length_append]
  omega
section
variable {P:Program} {w:World} {K:W.Frag} {mg:Str→Option Value} {base:Heap}
theorem scIN:Zai ["thing"] ["thing"] (Zad Zek):=⟨rfl,rfl,rfl,by decide +kernel,rfl,by decide +kernel,by decide +kernel⟩
theorem ok_isnum {f:Addr}{fd:FuncData}(F:Def K mg "is_number" Zek ["thing"] f fd) (T:TxtT mg):Zar P w K mg base CX0 1 f fd ["thing"] spIsNum:=by
 refine F.fn.ok scIN (fun vs H Q E h=>?_) (fun cdv A outer s H vs Q E hr h=>?_)
 ·obtain ⟨d,v,rfl,_⟩:=h
  rfl
 ·obtain ⟨d,v,rfl,hv,q⟩:=h
  refine' ⟨_,Zac (Zal (pe_and (Zam call_isi (by rfl) T.isi PyProof.Rows.boot_isinstance (pC (pv 0) (pC (pe_bltn (v:=.ty "int") (by rfl) T.int PyProof.Rows.boot_int rfl) Zaa))) (pe_one (pe_not (Zam call_isi (by rfl) T.isi PyProof.Rows.boot_isinstance (pC (pv 0) (pC (pe_bltn (v:=.ty "bool") (by rfl) T.bool PyProof.Rows.boot_bool rfl) Zaa))))))),?_⟩
  cases hv with
  | int i=>exact ⟨_,rfl,_,_,_,_,rfl,.int i,rfl,_,rfl,iteT ⟨_,rfl,_,_,_,_,rfl,.int i,rfl,_,rfl,q⟩⟩
  | str x hx=>exact ⟨_,rfl,_,_,_,_,rfl,.str x,rfl,_,rfl,Zdv q⟩
  | tup h t=>exact ⟨_,rfl,_,_,_,_,rfl,.tup h,rfl,_,rfl,Zdv q⟩
abbrev nPO:List Str:=["level","parts","part"]
theorem scPO:Zai nPO ["level"] (Zad s_parts_of):=⟨rfl,rfl,rfl,by decide +kernel,rfl,by decide +kernel,by decide +kernel⟩
theorem ok_parts {f:Addr}{fd:FuncData}(F:Def K mg "parts_of" s_parts_of ["level"] f fd) (T:TxtT mg):Zar P w K mg base CX0 1 f fd ["level"] spParts:=by
 refine F.fn.ok scPO (fun vs H Q E h=>?_) (fun cdv A outer s H vs Q E hr h=>?_)
 ·obtain ⟨l,ds,us,rfl,_⟩:=h
  rfl
 ·obtain ⟨l,ds,us,rfl,hl,hT,hz,q⟩:=h
  have nd:=scPO.nd
  refine' ⟨_,(pS (Zag (i:=1) nd rfl (Or.inl rfl) (Zbn Zaa))
   (pS (Za8 PassesOwn.never rfl (Za7 (pv 0)) (Zah (i:=2) nd rfl (Or.inl rfl))
    (Zac (Za4 (Zcz (Zam call_isi (by rfl) T.isi PyProof.Rows.boot_isinstance (pC (pv 2) (pC (pe_bltn (v:=.ty "tuple") (by rfl) T.tuple PyProof.Rows.boot_tuple rfl) Zaa))))
     (Zac (Za3 (Zfo PySem.F.plainAttrs_list PySem.F.slot_list_extend PySem.F.type_list_extend mt_extT (pv 1) (pC (Zds (r:=rSlA K) sl_tupA (pv 2) (Zfe Zaf) Zff) Zaa)))) Zak)))
   (Zac (Zal (pv 1))))),?_⟩
  refine ⟨Nat.zero_le _,fun p hp=>?_⟩
  have s1:Zaj H (upd H p (.lst [])):=Zbj hp
  have lp:l≠p:=nNo hl hp
  have dl:=hT.length
  refine ⟨_,rfl,l,rfl,⟨_,SqL.of (s1 _ _ hl)⟩,Zaq (Zat (xs:=us)) (fun i σ H'=>∃ (x:Option V) (ws:List V),σ=[some (.ref l),some (.ref p),x]∧Zaj H H'∧H' p=some (.lst ws)∧TmsV H' ((ds.take i).flatMap kids) ws)
   ⟨none,[],rfl,s1,uS,by rw [List.take_zero];exact .nil⟩ (fun i σ H' _ ⟨_,_,_,s,_⟩=>SqL.of (s _ _ hl)) ?_ ?_⟩
  ·rintro i v σ H2 hi ⟨x,ws,rfl,s2,hp2,hW⟩
   obtain ⟨d,hd,hv⟩:=hT.at_ hi
   have e:(ds.take (i + 1)).flatMap kids=(ds.take i).flatMap kids++kids d:=by
    rw [List.take_add_one,hd]
    simp [List.flatMap_append]
   have lz:=flat_take kids ds (i + 1)
   rw [e,List.length_append] at lz
   have wl:=hW.length
   cases hv with
   | int j=>exact ⟨_,rfl,_,_,_,_,rfl,.int j,rfl,_,rfl,Zdv ⟨_,ws,rfl,s2,hp2,by rw [e];show TmsV H2 (_++[]) ws;rw [List.append_nil];exact hW⟩⟩
   | str j hj=>exact ⟨_,rfl,_,_,_,_,rfl,.str j,rfl,_,rfl,Zdv ⟨_,ws,rfl,s2,hp2,by rw [e];show TmsV H2 (_++[]) ws;rw [List.append_nil];exact hW⟩⟩
   | @tup a vs es ha ht =>
    refine ⟨_,rfl,_,_,_,_,rfl,.tup (s2 _ _ ha),rfl,_,rfl,iteT ⟨_,rfl,.inl ⟨rfl,_,SqL.of hp2⟩,_,rfl,_,rfl,?_⟩⟩
    unfold tNoPart
    refine rSlA_of (K:=K) (lo:=some 1) (hi:=none) (s2 _ _ ha) fun b H3 s3 hb=>?_
    rw [cut1] at hb
    have hp3:=s3 _ _ hp2
    have bp:b≠p:=fun z=>by rw [z,hp3] at hb;cases hb
    have kd:TmsV H3 (kids (.tuple es)) (vs.drop 1):=(ht.keep fun b xs e=>s3 _ _ (s2 _ _ e)).drop 1
    have kl:=kd.length
    refine ⟨p,b,_,_,rfl,rfl,hp3,SqT.of hb,sL (by omega),_,_,rfl,fun b' o e'=>by rw [Zab (nNo e' hp)];exact s3 _ _ (s2 _ _ e'),uS,?_⟩
    rw [e]
    have tk:∀ b xs,H3 b=some (.tup xs)→(upd H3 p (.lst (ws++vs.drop 1))) b=some (.tup xs):=fun b xs e=>by rw [Zab (fun z=>by rw [z,hp3] at e;cases e)];exact e
    exact ((hW.keep (Zct s3)).keep tk).append (kd.keep tk)
  ·rintro σ H2 ⟨x,ws,rfl,s2,hp2,hW⟩
   rw [← dl,List.take_length] at hW
   exact ⟨_,rfl,q p ws H2 hp s2 hp2 hW⟩
abbrev nSm:List Str:=["term","level","number","deep"]
theorem scSm:Zai nSm ["term"] (Zad s_is_small):=⟨rfl,rfl,rfl,by decide +kernel,rfl,by decide +kernel,by decide +kernel⟩
theorem ok_small {f fP:Addr}{fd fdP:FuncData}{T1 T2:Tok}(F:Def K mg "is_small" s_is_small ["term"] f fd) (T:TxtT mg) (c1:mg "MOST_DEEP"=some (.int 12 T1)) (c2:mg "MOST_PARTS"=some (.int 40 T2)) (DP:Def K mg "parts_of" s_parts_of ["level"] fP fdP):Zar P w K mg base CX0 2 f fd ["term"] spSmall:=by
 have GP:Zar P w K mg base CX0 1 fP fdP ["level"] spParts:=ok_parts DP T
 refine F.fn.ok scSm (fun vs H Q E h=>?_) (fun cdv A outer s H vs Q E hr h=>?_)
 ·obtain ⟨d,v,rfl,_⟩:=h
  rfl
 ·obtain ⟨d,v,rfl,hv,hz,q⟩:=h
  have nd:=scSm.nd
  refine' ⟨_,(pS (Zag (i:=1) nd rfl (Or.inl rfl) (Zbn (pC (pv 0) Zaa)))
   (pS (Zag (i:=2) nd rfl (Or.inl rfl) Zaf)
   (pS (Za8 PassesOwn.never rfl (Zbu (by rfl) T.range (pC (Zeo (v:=.int 12) (by rfl) c1 ⟨_,rfl⟩) Zaa)) (Zah (i:=3) nd rfl (Or.inl rfl))
    (pS (Zag (i:=2) nd rfl (Or.inl rfl) (Za0 Zck (pv 2) (Zam Zao (by rfl) T.len PySem.boot_len (pC (pv 1) Zaa))))
   (Zac (Zag (i:=1) nd rfl (Or.inl rfl) (Zae DP GP hr (pC (pv 1) Zaa))))))
   (Zac (Zal (pe_and (pe_notL (pv 1)) (pe_one (pe_cmpR op_le (pv 2) (Zeo (v:=.int 40) (by rfl) c2 ⟨_,rfl⟩) (Zau _))))))))),?_⟩
  refine ⟨_,rfl,sL (by show 1≤100000;decide),fun p hp=>?_⟩
  have s1:Zaj H (upd H p (.lst [v])):=Zbj hp
  refine ⟨12,rfl,by decide,by decide,Zaq Zbg (fun i σ H'=>∃ (x:Option V) (l:Addr) (us:List V),σ=[some v,some (.ref l),some (.int (cntL i [d]:Nat)),x]∧Zaj H H'∧H' l=some (.lst us)∧TmsV H' (lvl i [d]) us)
   ⟨none,p,[v],by rw [Zdd];rfl,s1,uS,by rw [Zcc];exact .cons (hv.keep (Zct s1)) .nil⟩ (fun _ _ _ _ _=>trivial) ?_ ?_⟩
  ·rintro i v' σ H2 hi ⟨x,l,us,rfl,s2,hl2,hT2⟩
   obtain ⟨hi,rfl⟩:=Zaz hi
   have ll:=hT2.length
   have hz1:=hz (i + 1)
   rw [Zdu] at hz1
   refine ⟨_,rfl,_,rfl,l,us,rfl,.inl (SqL.of hl2),_,_,rfl,rfl,?_⟩
   refine ⟨_,rfl,l,_,us,rfl,hl2,hT2,hz1,fun l' us' H3 hl' s3 hl3 hT3=>⟨some (.int (0 + (i:Int))),l',us',?_,s2.trans s3,hl3,by rw [Zdu];exact hT3⟩⟩
   have e:((cntL i [d]:Nat):Int) + (us.length:Int)=((cntL (i + 1) [d]:Nat):Int):=by
    rw [Zd0,ll]
    omega
   rw [← e]
   rfl
  ·rintro σ H2 ⟨x,l,us,rfl,s2,hl2,hT2⟩
   have ll:=hT2.length
   have len12:(Zcq 0 (12:Int).toNat).length=12:=by decide
   rw [len12] at hT2 ll
   rw [len12]
   have q2:=q H2 s2
   unfold smallB at q2
   have e:(lvl 12 [d]).isEmpty=us.isEmpty:=by
    cases us with
    | nil=>exact List.isEmpty_iff.mpr (List.length_eq_zero_iff.mp ll)
    | cons u r =>
     cases hh:lvl 12 [d] with
     | nil=>rw [hh] at ll;cases ll
     | cons=>rfl
   rw [e] at q2
   refine ⟨_,rfl,_,.inl ⟨us,SqL.of hl2,rfl⟩,_,rfl,?_⟩
   cases us with
   | nil =>
    refine iteT ⟨_,rfl,_,_,rfl,rfl,?_⟩
    have z:decide (((cntL 12 [d]:Nat):Int)≤40)=decide (cntL 12 [d]≤40):=by
     congr 1
     exact propext ⟨fun h=>by omega,fun h=>by omega⟩
    show Q (.bl (decide (((cntL 12 [d]:Nat):Int)≤40))) H2
    rw [z]
    exact q2
   | cons u r=>exact Zdv q2
end
end K68
namespace K68
open PySem L2 Md
def arOf (ns:List Nam) (x:Str):Option Nat:=(ns.find? fun n=>decide (n.1=x)).map (·.2.1)
def namedB (ns:List Nam):Dt→Bool
 | .tuple (.str x :: r)=>match arOf ns x with
  | some k=>decide (r.length=k)
  | none=>false
 | _=>false
theorem named_some {ns:List Nam}{x:Str}{k:Nat}(r:List Dt) (h:arOf ns x=some k):namedB ns (.tuple (.str x :: r))=decide (r.length=k):=by
 show (match arOf ns x with | some k=>decide (r.length=k) | none=>false)=_
 rw [h]
theorem named_none {ns:List Nam}{x:Str}(r:List Dt) (h:arOf ns x=none):namedB ns (.tuple (.str x :: r))=false:=by
 show (match arOf ns x with | some k=>decide (r.length=k) | none=>false)=_
 rw [h]
def sndN (ns:List Nam) (m:Nat):Nat→Dt→Bool
 | 0,_=>false
 | k + 1,d=>match d with
  | .int i=>decide (0≤i)&&decide (i<m)
  | d=>namedB ns d&&(kids d).all (sndN ns m k)
def headF:Dt→Bool
 | .tuple (.int _ :: _)=>true
 | .tuple (.str _ :: _)=>true
 | .tuple (_ :: _)=>false
 | _=>true
theorem Zc0:∀ (k:Nat) (a b:List Dt),lvl k (a++b)=lvl k a++lvl k b
 | 0,a,b=>by rw [Zcc,Zcc,Zcc]
 | k + 1,a,b=>by rw [Zdu,Zdu,Zdu,Zc0 k,List.flatMap_append]
theorem lvl_in:∀ (k:Nat) (l:List Dt),lvl (k + 1) l=lvl k (l.flatMap kids)
 | 0,l=>by rw [Zdu,Zcc,Zcc]
 | k + 1,l=>by rw [Zdu,lvl_in k,Zdu]
theorem lvl_kid {k:Nat}{d c:Dt}(h:c∈kids d):∀ e∈lvl k [c],e∈lvl (k + 1) [d]:=fun e he=>by
 rw [lvl_in]
 have e1:[d].flatMap kids=kids d:=by simp
 rw [e1]
 obtain ⟨a,b,z⟩:=List.append_of_mem h
 rw [z,show a++c :: b=a++([c]++b) from rfl,Zc0,Zc0]
 exact List.mem_append_right _ (List.mem_append_left _ he)
theorem lvl_nil {k:Nat}{d c:Dt}(h:c∈kids d) (z:lvl (k + 1) [d]=[]):lvl k [c]=[]:=by
 cases hh:lvl k [c] with
 | nil=>rfl
 | cons e r =>
  have:=lvl_kid (k:=k) h e (by rw [hh];exact .head _)
  rw [z] at this
  cases this
def Wf (d:Dt):Prop:=∀ k,∀ e∈lvl k [d],headF e=true
theorem Wf.kid {d c:Dt}(w:Wf d) (h:c∈kids d):Wf c:=fun k e he=>w (k + 1) e (lvl_kid h e he)
theorem Wf.head {d:Dt}(w:Wf d):headF d=true:=w 0 d (by rw [Zcc];exact .head _)
theorem arOf_some {ns:List Nam}{n:Nam}(nd:(ns.map (·.1)).Nodup) (h:n∈ns):arOf ns n.1=some n.2.1:=by
 unfold arOf
 induction ns with
 | nil=>cases h
 | cons m ms ih =>
  rw [List.map_cons,List.nodup_cons] at nd
  rw [List.find?_cons]
  rcases List.mem_cons.mp h with e | h
  ·rw [e,decide_eq_true rfl];rfl
  ·have ne:¬ m.1=n.1:=fun z=>nd.1 (by rw [z];exact List.mem_map.mpr ⟨n,h,rfl⟩)
   rw [decide_eq_false ne]
   exact ih nd.2 h
theorem arOf_none {ns:List Nam}{x:Str}(h:x∉ns.map (·.1)):arOf ns x=none:=by
 unfold arOf
 rw [List.find?_eq_none.mpr fun n hn z=>h (List.mem_map.mpr ⟨n,hn,of_decide_eq_true z⟩)]
 rfl
theorem at0 (v:V) (vs:List V):atI (v :: vs) 0=some v:=Za6 (j:=0) rfl
theorem in_int (i:Int):∀ ws:List Str,inV (.int i) (ws.map V.str)=false
 | []=>rfl
 | x :: r=>by
  show (eqV (.str x) (.int i) || inV (.int i) (r.map V.str))=false
  rw [in_int i r]
  rfl
def spHasName (C B D:Addr):Sp:=fun vs H Q _=>∃ (p k:Addr) (rows:List (Str×List Str)) (ns:List Nam) (d:Dt) (v:V),vs=[.ref p,v]∧Zfc C B D H p k rows ns∧Zbf rows ns∧TmV H d v∧headF d=true∧∀ H',Zaj H H'→Q (.bl (namedB ns d)) H'
section
variable {P:Program} {w:World} {K:W.Frag} {mg:Str→Option Value} {base:Heap}
theorem scHN:Zai ["book","term"] ["book","term"] (Zad s_has_name):=⟨rfl,rfl,rfl,by decide +kernel,rfl,by decide +kernel,by decide +kernel⟩
theorem ok_hasname {f C B D fW fB fP:Addr}{fd fdW fdB fdP:FuncData}(F:Def K mg "has_name" s_has_name ["book","term"] f fd) (T:TxtT mg) (TD:TxtKn K D) (TB:TxtBd K B)
  (MW:MKWords K D fW fdW) (GW:Zar P w K mg base CX0 1 fW fdW ["self"] (spKWords C B D)) (MB:MKBoard K D fB fdB) (GB:Zar P w K mg base CX0 2 fB fdB ["self","word"] (spKBoard C B D)) (MP:MBPlaces K B fP fdP):Zar P w K mg base CX0 3 f fd ["book","term"] (spHasName C B D):=by
 have GP:Zar P w K mg base CX0 1 fP fdP ["self"] (spBPlaces C B):=ok_bplaces MP.fn TB
 refine F.fn.ok scHN (fun vs H Q E h=>?_) (fun cdv A outer s H vs Q E hr h=>?_)
 ·obtain ⟨p,k,rows,ns,d,v,rfl,_⟩:=h
  rfl
 ·obtain ⟨p,k,rows,ns,d,v,rfl,bk,gn,hv,hd,q⟩:=h
  have hr1:Zcm 1 _:=hr.mono (by decide)
  refine' ⟨_,(pS (Za4 (PW.pt (pw_or (Zc8 (Zcz (Zam call_isi (by rfl) T.isi PyProof.Rows.boot_isinstance (pC (pv 1) (pC (pe_bltn (v:=.ty "tuple") (by rfl) T.tuple PyProof.Rows.boot_tuple rfl) Zaa))))) (pw_or (Zc8 (pt_truth (pv 1) (fun _=>rfl))) (pw_or1 (Zan (r:=rIn K true) op_notIn_seq (Zaw (r:=Zfm K) Zbb (pv 1) Zaf (fun _ _=>rfl)) (Zdt (pv 0) TD.cl MW.me GW hr1 MW.b .nil Zde) (by with_unfolding_all rfl)))))) (Zac (Zal pe_bl)) Zak)
   (Zac (Zal (pe_cmpR Zec (Zam Zao (by rfl) T.len PySem.boot_len (pC (pv 1) Zaa)) (Za0 Zck (Zdt (Zc9 (pv 0) TD.cl MB.me GB hr MB.b .nil Zde (pC (Zaw (r:=Zfm K) Zbb (pv 1) Zaf (fun _ _=>rfl)) Zaa)) TB.cl MP.me GP hr1 MP.b .nil Zde) Zaf) (Zau _))))),?_⟩
  obtain ⟨dx,bo,mo,o,bvs,mvs,h1,h2,h3,h4,h5,h6⟩:=bk.ex
  cases hv with
  | int i=>exact ⟨_,rfl,_,_,_,_,rfl,.int i,rfl,_,rfl,iteT (q _ (Zaj.refl _))⟩
  | str x hx=>exact ⟨_,rfl,_,_,_,_,rfl,.str x,rfl,_,rfl,iteT (q _ (Zaj.refl _))⟩
  | @tup a vs ds ha ht =>
   refine ⟨_,rfl,_,_,_,_,rfl,.tup ha,rfl,_,rfl,Zdv ⟨_,rfl,_,.inr (.inl ⟨_,SqT.of ha,rfl⟩),?_⟩⟩
   cases ht with
   | nil=>exact iteT (q _ (Zaj.refl _))
   | @cons d0 ds v0 vs h0 ht =>
    refine Zdv ⟨_,rfl,a,_,_,_,rfl,rfl,SqT.of ha,at0 _ _,_,rfl,p,dx,_,rfl,h1,no_kwords _ _ _,p,k,rows,ns,rfl,bk,fun lw hlw=>?_⟩
    have s1:Zaj H (upd H lw (.lst ((ns.map (·.1)).map V.str))):=Zbj hlw
    have hlw1:(upd H lw (.lst ((ns.map (·.1)).map V.str))) lw=some (.lst ((ns.map (·.1)).map V.str)):=uS
    generalize upd H lw (.lst ((ns.map (·.1)).map V.str))=H1 at s1 hlw1
    cases h0 with
    | int i =>
     refine ⟨lw,_,rfl,.inl (SqL.of hlw1),rfl,Zdz _,_,rfl,?_⟩
     rw [in_int]
     exact iteT (q _ s1)
    | tup=>cases hd
    | str x hxo =>
     refine ⟨lw,_,rfl,.inl (SqL.of hlw1),rfl,Zdz _,_,rfl,?_⟩
     rw [in_strs]
     by_cases hx:x∈ns.map (·.1)
     ·rw [decide_eq_true hx]
      obtain ⟨n,hn,rfl⟩:=List.mem_map.mp hx
      refine Zdv ⟨_,rfl,a,_,rfl,.inr (SqT.of (s1 _ _ ha)),_,rfl,p,dx,_,rfl,s1 _ _ h1,no_kboard _ _ _,_,rfl,a,_,_,_,rfl,rfl,SqT.of (s1 _ _ ha),at0 _ _,p,k,rows,ns,n,rfl,bk.mono s1,gn.nd,hn,fun y bd=>?_⟩
      obtain ⟨dxb,tb,usb,hb1,_⟩:=bd.ex
      refine ⟨y,dxb,_,rfl,hb1,no_bplaces _ _ _,y,k,rows,n.2.1,_,rfl,bd,_,_,rfl,rfl,rfl,?_⟩
      have q1:=q H1 s1
      rw [named_some _ (arOf_some gn.nd hn)] at q1
      have e:decide (V.int (((V.str n.1 :: vs).length:Nat):Int)=V.int ((n.2.1:Int) + 1))=decide (ds.length=n.2.1):=by
       rw [ht.length,List.length_cons]
       exact decide_eq_decide.mpr ⟨fun z=>by injection z with z;omega,fun z=>by rw [z];rfl⟩
      show Q (.bl (decide (V.int (((V.str n.1 :: vs).length:Nat):Int)=V.int ((n.2.1:Int) + 1)))) H1
      rw [e]
      exact q1
     ·rw [decide_eq_false hx]
      have q1:=q H1 s1
      rw [named_none _ (arOf_none hx)] at q1
      exact iteT q1
end
end K68
namespace K68
open PySem L2 Md
def spSound (C B D:Addr) (j:Nat):Sp:=fun vs H Q _=>∃ (p k:Addr) (rows:List (Str×List Str)) (ns:List Nam) (d:Dt) (v:V) (m:Nat),vs=[.ref p,.int m,v]∧Zfc C B D H p k rows ns∧Zbf rows ns∧TmV H d v∧Wf d∧lvl j [d]=[]∧(∀ i,(lvl i [d]).length≤1000)∧∀ H',Zaj H H'→Q (.bl (sndN ns m j d)) H'
theorem lvl_le {k:Nat}{d c:Dt}(h:c∈kids d) (z:(lvl (k + 1) [d]).length≤1000):(lvl k [c]).length≤1000:=by
 rw [lvl_in] at z
 have e1:[d].flatMap kids=kids d:=by simp
 obtain ⟨a,b,e⟩:=List.append_of_mem h
 rw [e1,e,show a++c :: b=a++([c]++b) from rfl,Zc0,Zc0,List.length_append,List.length_append] at z
 omega
theorem comp_bools {J:It}{vs:List V}{Ok:Hp→Prop}(R:Runs J vs Ok) {js:List Nat}{te:TE}{σ:St}{Q:VK}{H1:Hp}(hz:vs.length≤1000) {ds:List Dt}(F:Dt→Bool)
  (hp:TmsV H1 ds vs) (hok:∀ H,Zaj H1 H→Ok H)
  (he:∀ d v H' (R:VK),Zaj H1 H'→d∈ds→TmV H1 d v→(∀ H'',Zaj H' H''→R (.bl (F d)) H'')→te (some v :: js.map fun j=>(σ[j]?).join) H' R)
  (hd:∀ D H',H1 D=none→Zaj H1 H'→H' D=some (.lst ((ds.map F).map V.bl))→Q (.ref D) H'):compBody 1 js (gName 0) tTrue te σ Q J H1:=by
 have vl:=hp.length
 refine Zdb R (sL (by omega)) (fun D i ys σ' H=>H1 D=none∧Zaj H1 H∧H D=some (.lst ys)∧ys=((ds.take i).map F).map V.bl∧∃ o,σ'=o :: js.map fun j=>(σ[j]?).join) ?_ ?_ ?_ ?_
 ·intro D hD
  exact ⟨hD,Zbj hD,uS,by rw [List.take_zero];rfl,none,rfl⟩
 ·rintro D i ys σ' H hi ⟨hD,hs,hl,q,_⟩
  refine ⟨hok H hs,?_⟩
  rw [q,List.length_map,List.length_map,List.length_take]
  omega
 ·rintro D i v ys σ' H hD hx ⟨_,hs,hl,q,o,rfl⟩
  obtain ⟨d,hdi,hv⟩:=hp.at_ hx
  refine he d v H _ hs (List.mem_of_getElem? hdi) hv fun H4 s4=>?_
  have hD4:=s4 _ _ hl
  refine ⟨hD4,hD,fun b o e=>by rw [Zab (nNo e hD)];exact s4 _ _ (hs _ _ e),uS,?_,_,rfl⟩
  rw [List.take_add_one,hdi,q,List.map_append,List.map_append]
  rfl
 ·rintro D ys σ' H hD ⟨_,hs,hl,q,_⟩
  rw [← vl,List.take_length] at q
  exact hd D H hD hs (by rw [hl,q])
theorem nd_pbl:(["part","book","length"]:List Str).Nodup:=by decide +kernel
section
variable {P:Program} {w:World} {K:W.Frag} {mg:Str→Option Value} {base:Heap}
abbrev nIS:List Str:=["book","length","term"]
theorem scIS:Zai nIS nIS (Zad Zfi):=⟨rfl,rfl,rfl,by decide +kernel,rfl,by decide +kernel,by decide +kernel⟩
theorem ok_sound {f C B D fN fH:Addr}{fd fdN fdH:FuncData}(F:Def K mg "is_sound" Zfi nIS f fd) (T:TxtT mg) (all:mg "all"=none)
  (DN:Def K mg "is_number" Zek ["thing"] fN fdN) (DH:Def K mg "has_name" s_has_name ["book","term"] fH fdH) (GH:Zar P w K mg base CX0 3 fH fdH ["book","term"] (spHasName C B D)):
  ∀ j,Zar P w K mg base CX0 (4 + j) f fd nIS (spSound C B D j)
 | 0=>by
  refine F.fn.ok scIS (fun vs H Q E h=>?_) (fun cdv A outer s H vs Q E hr h=>?_)
  ·obtain ⟨p,k,rows,ns,d,v,m,rfl,_⟩:=h
   rfl
  ·obtain ⟨p,k,rows,ns,d,v,m,rfl,_,_,_,_,z,_⟩:=h
   rw [Zcc] at z
   cases z
 | j + 1=>by
  have GS:=ok_sound F T all DN DH GH j
  have GN:Zar P w K mg base CX0 1 fN fdN ["thing"] spIsNum:=ok_isnum DN T
  refine F.fn.ok scIS (fun vs H Q E h=>?_) (fun cdv A outer s H vs Q E hr h=>?_)
  ·obtain ⟨p,k,rows,ns,d,v,m,rfl,_⟩:=h
   rfl
  ·obtain ⟨p,k,rows,ns,d,v,m,rfl,bk,gn,hv,wf,z,lz,q⟩:=h
   have hr1:Zcm 1 _:=hr.mono (show 1≤4 + j by omega)
   have hr3:Zcm 3 _:=hr.mono (show 3≤4 + j by omega)
   refine' ⟨_,(pS (Za4 (Zcz (Zae DN GN hr1 (pC (pv 2) Zaa))) (Zac (Zal (pe_chain op_le op_lt Zaf (pv 2) (pv 1)))) Zak)
   (Zac (Zal (pe_and (Zae DH GH hr3 (pC (pv 0) (pC (pv 2) Zaa))) (pe_one (Zam (r:=rAll K fun bs=>bs.all id) (call_all rfl) (by rfl) all PyProof.Rows.boot_all (pC ?eC Zaa))))))),?_⟩
   case eC=>exact (Zbl ["part"] ["book","length"] [0,1] (fun _=>Zax (osc:=Zad Zfi) (on:=nIS) (by decide +kernel) rfl rfl rfl) (pi_tup (Zds (r:=rSlA K) sl_tupA (pv 2) (Zfe Zaf) Zff)) (fun C s H fp=>Zah (i:=0) nd_pbl rfl (Or.inl rfl) (Or.inr rfl)) (fun C s H fp=>Zbw) (fun C s H fp=>Zae F GS hr (pC (pv 1) (pC (pv 2) (pC (pv 0) Zaa)))))
   have hz:∀ c∈kids d,lvl j [c]=[]:=fun c hc=>lvl_nil hc z
   cases hv with
   | int i =>
    refine ⟨_,rfl,.int i,_,rfl,.int i,_,rfl,iteT ?_⟩
    refine ⟨_,rfl,_,_,rfl,rfl,_,rfl,?_⟩
    have q1:Q (.bl (decide (0≤i)&&decide (i<(m:Int)))) H:=q H (Zaj.refl _)
    by_cases h0:(0:Int)≤i
    ·rw [decide_eq_true h0] at q1 ⊢
     exact iteT ⟨_,rfl,_,_,rfl,rfl,q1⟩
    ·rw [decide_eq_false h0] at q1 ⊢
     exact Zdv q1
   | str x hx =>
    refine ⟨_,rfl,.str x,_,rfl,.str x hx,_,rfl,Zdv ?_⟩
    refine ⟨_,rfl,_,rfl,p,k,rows,ns,.str x,_,rfl,bk,gn,.str x hx,rfl,fun H1 s1=>⟨_,rfl,Zdv (q H1 s1)⟩⟩
   | @tup a vs ds ha ht =>
    refine ⟨_,rfl,.tuple ds,_,rfl,.tup ha ht,_,rfl,Zdv ?_⟩
    refine ⟨_,rfl,_,rfl,p,k,rows,ns,.tuple ds,_,rfl,bk,gn,.tup ha ht,wf.head,fun H1 s1=>⟨_,rfl,?_⟩⟩
    have eq:sndN ns m (j + 1) (.tuple ds)=(namedB ns (.tuple ds)&&(ds.drop 1).all (sndN ns m j)):=rfl
    rw [eq] at q
    cases hn:namedB ns (.tuple ds) with
    | false =>
     rw [hn] at q
     exact Zdv (q H1 s1)
    | true =>
     rw [hn,Bool.true_and] at q
     refine iteT ⟨_,rfl,_,rfl,?_⟩
     unfold tNoPart
     refine rSlA_of (K:=K) (lo:=some 1) (hi:=none) (s1 _ _ ha) fun b H2 s12 hb=>?_
     rw [cut1] at hb
     have s2:=s1.trans s12
     have kd:TmsV H2 (ds.drop 1) (vs.drop 1):=(ht.keep (Zct s2)).drop 1
     have kl:=kd.length
     have l1:=lz 1
     have e1:lvl 1 [(.tuple ds:Dt)]=ds.drop 1:=by rw [lvl_in,Zcc];simp [kids]
     rw [e1] at l1
     refine ⟨b,rfl,⟨_,SqT.of hb⟩,comp_bools (Zc7 (xs:=vs.drop 1)) (by omega) (sndN ns m j) kd (fun H' s=>SqT.of (s _ _ hb)) ?_ fun lb H3 hlb s23 hlb3=>?_⟩
     ·intro c v H' R s' hc hv hR
      have hc:c∈kids (.tuple ds):=hc
      have s02:=s2.trans s'
      exact ⟨_,rfl,_,rfl,_,rfl,p,k,rows,ns,c,v,m,rfl,bk.mono s02,gn,hv.keep (Zct s'),wf.kid hc,hz c hc,fun i=>lvl_le hc (lz (i + 1)),hR⟩
     ·refine ⟨lb,_,rfl,SqL.of hlb3,?_⟩
      have q3:=q H3 (s2.trans s23)
      show Q (.bl (((ds.drop 1).map (sndN ns m j)).all id)) H3
      rw [List.all_map]
      exact q3
end
end K68
namespace K68
open PySem L2 Md
noncomputable def termB (ns:List Nam) (m:Nat) (d:Dt):Bool:=smallB d&&sndN ns m 12 d
def spCkFill (K:W.Frag) (C:Addr):Sp:=fun vs H Q _=>∃ (p l:Addr) (rows:List (Str×List Str)) (b:Bool) (xs:List Str),vs=[.ref p,.ref l]∧Zbo C H p rows∧Zcr rows∧SqB K b H l (xs.map V.str)∧xs.length≤12∧(∀ x∈xs,x∈rows.map (·.1))∧Q .non H
def spIsTerm (K:W.Frag) (C B D:Addr):Sp:=fun vs H Q _=>∃ (p k l:Addr) (rows:List (Str×List Str)) (ns:List Nam) (b:Bool) (xs:List Str) (d:Dt) (v:V),vs=[.ref p,.ref l,v]∧Zfc C B D H p k rows ns∧Zcr rows∧Zbf rows ns∧SqB K b H l (xs.map V.str)∧xs.length≤12∧(∀ x∈xs,x∈rows.map (·.1)) ∧
 TmV H d v∧Wf d∧(∀ i,(lvl i [d]).length≤1000)∧∀ H',Zaj H H'→Q (.bl (termB ns xs.length d)) H'
theorem small_lvl {d:Dt}(h:smallB d=true):lvl 12 [d]=[]:=by
 unfold smallB at h
 rw [Bool.and_eq_true] at h
 exact List.isEmpty_iff.mp h.1
section
variable {P:Program} {w:World} {K:W.Frag} {mg:Str→Option Value} {base:Heap}
abbrev nCF:List Str:=["kinds","filling","word"]
theorem scCF:Zai nCF ["kinds","filling"] (Zad Zc3):=⟨rfl,rfl,rfl,by decide +kernel,rfl,by decide +kernel,by decide +kernel⟩
theorem ok_ckfill {f C fC:Addr}{fd fdC:FuncData}{T1:Tok}(F:Def K mg "check_filling" Zc3 ["kinds","filling"] f fd) (T:TxtT mg) (TC:TxtC K C) (c1:mg "MOST_THINGS"=some (.int 12 T1))
  (MC:MDef K C "check" "Kinds.check" Zci ["self","word"] fC fdC) (GC:Zar P w K mg base CX0 2 fC fdC ["self","word"] (spCheck C)):Zar P w K mg base CX0 3 f fd ["kinds","filling"] (spCkFill K C):=by
 refine F.fn.ok scCF (fun vs H Q E h=>?_) (fun cdv A outer s H vs Q E hr h=>?_)
 ·obtain ⟨p,l,rows,b,xs,rfl,_⟩:=h
  rfl
 ·obtain ⟨p,l,rows,b,xs,rfl,kd,g,hS,hl,hx,q⟩:=h
  have nd:=scCF.nd
  refine' ⟨_,(pS (Za4 (Zan op_gt (Zam Zao (by rfl) T.len PySem.boot_len (pC (pv 1) Zaa)) (Zeo (v:=.int 12) (by rfl) c1 ⟨_,rfl⟩) (Zau _)) Za5 Zak)
   (Zac (Za8 PassesOwn.never rfl (pi_seq (pv 1)) (Zah (i:=2) nd rfl (Or.inl rfl)) (Zac (Za3 (Zc9 (pv 0) TC.cl MC.me GC hr MC.b .nil Zde (pC (pv 2) Zaa))))))),?_⟩
  obtain ⟨dx,d,a,o,oa,kvs,avs,h1,_⟩:=kd.ex
  have hq:SqL K H l (xs.map V.str)∨SqT K H l (xs.map V.str):=by
   cases b with
   | true=>exact .inl hS
   | false=>exact .inr hS
  refine ⟨_,rfl,l,_,rfl,hq,_,_,rfl,rfl,_,rfl,?_⟩
  rw [List.length_map,decide_eq_false (by omega)]
  refine Zdv ⟨_,rfl,b,l,_,rfl,hS,Zaq Zfw (fun i σ H'=>∃ x,σ=[some (.ref p),some (.ref l),x]∧H'=H) ⟨none,rfl,rfl⟩ (fun i σ H' _ ⟨_,_,e⟩=>by rw [e];exact hS) ?_ ?_⟩
  ·rintro i v σ H' hi ⟨x,rfl,e⟩
   have e2:=e.symm
   subst e2
   rw [List.getElem?_map] at hi
   obtain ⟨y,hy,rfl⟩:=Option.map_eq_some_iff.mp hi
   exact ⟨_,rfl,p,dx,_,rfl,h1,no_check _ _,_,rfl,p,rows,y,rfl,kd,g,hx y (List.mem_of_getElem? hy),_,rfl,rfl⟩
  ·rintro σ H' ⟨x,rfl,e⟩
   rw [e]
   exact q
theorem scIT:Zai ["book","filling","term"] ["book","filling","term"] (Zad s_is_term):=⟨rfl,rfl,rfl,by decide +kernel,rfl,by decide +kernel,by decide +kernel⟩
theorem ok_isterm {f C B D fF fS fO fK:Addr}{fd fdF fdS fdO fdK:FuncData}(F:Def K mg "is_term" s_is_term ["book","filling","term"] f fd) (T:TxtT mg) (TD:TxtKn K D)
  (MK:MKKinds K D fK fdK) (DF:Def K mg "check_filling" Zc3 ["kinds","filling"] fF fdF) (GF:Zar P w K mg base CX0 3 fF fdF ["kinds","filling"] (spCkFill K C))
  (DS:Def K mg "is_small" s_is_small ["term"] fS fdS) (GS:Zar P w K mg base CX0 2 fS fdS ["term"] spSmall) (DO:Def K mg "is_sound" Zfi nIS fO fdO) (GO:Zar P w K mg base CX0 16 fO fdO nIS (spSound C B D 12)):Zar P w K mg base CX0 17 f fd ["book","filling","term"] (spIsTerm K C B D):=by
 have GK:Zar P w K mg base CX0 1 fK fdK ["self"] (spKKinds C B D):=ok_kkinds MK.fn TD
 refine F.fn.ok scIT (fun vs H Q E h=>?_) (fun cdv A outer s H vs Q E hr h=>?_)
 ·obtain ⟨p,k,l,rows,ns,b,xs,d,v,rfl,_⟩:=h
  rfl
 ·obtain ⟨p,k,l,rows,ns,b,xs,d,v,rfl,bk,g,gn,hS,hl,hx,hv,wf,lz,q⟩:=h
  have hr1:Zcm 1 _:=hr.mono (by decide)
  have hr2:Zcm 2 _:=hr.mono (by decide)
  have hr3:Zcm 3 _:=hr.mono (by decide)
  refine' ⟨_,(pS (Za3 (Zae DF GF hr3 (pC (Zdt (pv 0) TD.cl MK.me GK hr1 MK.b .nil Zde) (pC (pv 1) Zaa))))
   (Zac (Zal (pe_and (Zae DS GS hr2 (pC (pv 2) Zaa)) (pe_one (Zae DO GO hr (pC (pv 0) (pC (Zam Zao (by rfl) T.len PySem.boot_len (pC (pv 1) Zaa)) (pC (pv 2) Zaa))))))))),?_⟩
  obtain ⟨dx,bo,mo,o,bvs,mvs,h1,h2,h3,h4,h5,h6⟩:=bk.ex
  refine ⟨_,rfl,p,dx,_,rfl,h1,no_kkinds _ _ _,p,k,rows,ns,rfl,bk,_,rfl,k,l,rows,b,xs,rfl,h2,g,hS,hl,hx,?_⟩
  refine ⟨_,rfl,d,v,rfl,hv,lz,fun H1 s1=>⟨_,rfl,?_⟩⟩
  have hS1:=hS.mono s1
  have hq:SqL K H1 l (xs.map V.str)∨SqT K H1 l (xs.map V.str):=by
   cases b with
   | true=>exact .inl hS1
   | false=>exact .inr hS1
  unfold termB at q
  cases hs:smallB d with
  | false =>
   rw [hs] at q
   exact Zdv (q H1 s1)
  | true =>
   rw [hs,Bool.true_and] at q
   refine iteT ⟨_,rfl,_,rfl,l,_,rfl,hq,_,rfl,p,k,rows,ns,d,v,xs.length,by rw [List.length_map];rfl,bk.mono s1,gn,hv.keep (Zct s1),wf,small_lvl hs,lz,fun H2 s2=>q H2 (s1.trans s2)⟩
end
end K68
namespace K68
open PySem L2 Md
def spNearW (rows:List (Str×List Str)):Sp:=fun vs H Q _=>∃ (ln:Addr) (ns:List Nam) (us:List V),vs=[.ref ln]∧H ln=some (.lst us)∧Zfb H ns us∧Zbf rows ns∧∀ (l:Addr) (ws:List Str) (H':Hp),H l=none→Zaj H H'→H' l=some (.lst (ws.map V.str))→(∀ x∈ws,x∈rows.map (·.1))→ws.length≤2048→Q (.ref l) H'
section
variable {P:Program} {w:World} {K:W.Frag} {mg:Str→Option Value} {base:Heap}
abbrev nNrW:List Str:=["names","found","word","places","pairs","deed","made"]
theorem scNrW:Zai nNrW ["names"] (Zad Zch):=⟨rfl,rfl,rfl,by decide +kernel,rfl,by decide +kernel,by decide +kernel⟩
theorem ok_nearw {f:Addr}{fd:FuncData}(rows:List (Str×List Str)) (F:Def K mg "_law_near_words" Zch ["names"] f fd) (list:mg "list"=none):Zar P w K mg base CX0 1 f fd ["names"] (spNearW rows):=by
 refine F.fn.ok scNrW (fun vs H Q E h=>?_) (fun cdv A outer s H vs Q E hr h=>?_)
 ·obtain ⟨ln,ns,us,rfl,_⟩:=h
  rfl
 ·obtain ⟨ln,ns,us,rfl,hln,hN,gn,q⟩:=h
  have nd:=scNrW.nd
  refine' ⟨_,(pS (Zag (i:=1) nd rfl (Or.inl rfl) (Zbn Zaa))
   (pS (Za8 PassesOwn.never rfl (Za7 (pv 0)) (pg_tup rfl (gC (Zah (i:=2) nd rfl (Or.inl rfl)) (gC (Zah (i:=3) nd rfl (Or.inl rfl)) (gC (Zah (i:=4) nd rfl (Or.inl rfl)) Zd3))))
    (Zac (Za8 PassesOwn.never rfl (pi_tup (pv 4)) (pg_tup rfl (gC (Zah (i:=5) nd rfl (Or.inl rfl)) (gC (Zah (i:=6) nd rfl (Or.inl rfl)) Zd3)))
     (Zac (Za3 (Zfo PySem.F.plainAttrs_list PySem.F.slot_list_extend PySem.F.type_list_extend mt_extend (pv 1) (pC (Zbd Ze9 (by rfl) list PyProof.Rows.boot_list (pC (pv 5) Zaa)) Zaa)))))))
   (Zac (Zal (pv 1))))),?_⟩
  refine ⟨Nat.zero_le _,fun l hl=>?_⟩
  have s1:Zaj H (upd H l (.lst [])):=Zbj hl
  have few:=gn.few
  have nl:=Paired.length hN
  have lnl:ln≠l:=nNo hln hl
  refine ⟨_,rfl,ln,rfl,⟨_,SqL.of (s1 _ _ hln)⟩,Zaq (Zat (xs:=us)) (fun i σ H'=>∃ (x2 x3 x4 x5 x6:Option V) (ws:List Str),σ=[some (.ref ln),some (.ref l),x2,x3,x4,x5,x6]∧Zaj H H'∧H' l=some (.lst (ws.map V.str))∧(∀ x∈ws,x∈rows.map (·.1))∧ws.length≤256 * i)
   ⟨none,none,none,none,none,[],rfl,s1,uS,(fun _ h=>nomatch h),Nat.zero_le _⟩ (fun i σ H' _ ⟨_,_,_,_,_,_,_,s,_⟩=>SqL.of (s _ _ hln)) ?_ ?_⟩
  ·rintro i v σ H2 hi ⟨x2,x3,x4,x5,x6,ws,rfl,s2,hl2,hw2,wl2⟩
   obtain ⟨n,hn,t,tp,ps,rfl,ht,htp,hD⟩:=Zas hN hi
   have gnn:=gn.each n (List.mem_of_getElem? hn)
   have i8:i<8:=by have:=(List.getElem?_eq_some_iff.mp hi).1;omega
   have n4:=gnn.four
   have pl:=Paired.length hD
   have dl:=gnn.deeds.few
   rw [List.length_map] at dl
   refine ⟨t,_,rfl,SqT.of (s2 _ _ ht),rfl,_,_,rfl,_,_,rfl,_,_,rfl,rfl,?_⟩
   refine ⟨_,rfl,tp,rfl,⟨_,SqT.of (s2 _ _ htp)⟩,Zaq (Zc7 (xs:=ps)) (fun j σ H'=>∃ (y5 y6:Option V) (ws:List Str),σ=[some (.ref ln),some (.ref l),some (.str n.1),some (.int n.2.1),some (.ref tp),y5,y6]∧Zaj H H'∧H' l=some (.lst (ws.map V.str))∧(∀ x∈ws,x∈rows.map (·.1))∧ws.length≤256 * i + 4 * j)
    ⟨x5,x6,ws,rfl,s2,hl2,hw2,by omega⟩ (fun j σ H' _ ⟨_,_,_,_,s,_⟩=>SqT.of (s _ _ htp)) ?_ ?_⟩
   ·rintro j v σ H3 hj ⟨y5,y6,ws,rfl,s3,hl3,hw3,wl3⟩
    obtain ⟨x,hx,t',tc,rfl,ht',htc⟩:=Zas hD hj
    have j64:j<64:=by have:=(List.getElem?_eq_some_iff.mp hj).1;omega
    have gc:=gnn.deeds.call x.1 (List.mem_map.mpr ⟨x,List.mem_of_getElem? hx,rfl⟩)
    have cl:=gc.len
    refine ⟨t',_,rfl,SqT.of (s3 _ _ ht'),rfl,_,_,rfl,_,_,rfl,rfl,?_⟩
    refine ⟨_,rfl,.inl ⟨rfl,_,SqL.of hl3⟩,_,rfl,tc,_,rfl,.inr (SqT.of (s3 _ _ htc)),fun lc hlc=>?_⟩
    have s34:Zaj H3 (upd H3 lc (.lst (x.1.map V.str))):=Zbj hlc
    have hlc4:(upd H3 lc (.lst (x.1.map V.str))) lc=some (.lst (x.1.map V.str)):=uS
    generalize upd H3 lc (.lst (x.1.map V.str))=H4 at s34 hlc4
    refine ⟨l,lc,_,_,rfl,rfl,s34 _ _ hl3,hlc4,sL (by rw [List.length_map,List.length_map];omega),_,_,ws++x.1,rfl,fun b o e=>by rw [Zab (nNo e hl)];exact s34 _ _ (s3 _ _ e),by rw [uS,List.map_append],fun y hy=>(List.mem_append.mp hy).elim (hw3 y) (gc.known y),by rw [List.length_append];omega⟩
   ·rintro σ H3 ⟨y5,y6,ws,rfl,s3,hl3,hw3,wl3⟩
    exact ⟨_,_,_,_,_,ws,rfl,s3,hl3,hw3,by omega⟩
  ·rintro σ H2 ⟨x2,x3,x4,x5,x6,ws,rfl,s2,hl2,hw2,wl2⟩
   exact ⟨_,rfl,q l ws H2 hl s2 hl2 hw2 (by omega)⟩
end
end K68
namespace K68
open PySem L2 Md
theorem at_str {zs:List Str}{v:Int} (h0:0≤v) (h1:v<(zs.length:Nat)):∃ x∈zs,atI (zs.map V.str) v=some (V.str x):=by
 obtain ⟨j,rfl⟩:=Int.eq_ofNat_of_zero_le h0
 have hj:j<zs.length:=by omega
 refine ⟨zs[j],List.getElem_mem hj,Za6 ?_⟩
 rw [List.getElem?_map,List.getElem?_eq_getElem hj]
 rfl
def spFill:Sp:=fun vs H Q _=>∃ (p l ln:Addr) (mo:Nat) (rows:List (Str×List Str)) (ns:List Nam) (us:List V),vs=[.ref p,.ref l,.ref ln,.int mo]∧(∃ o,H p=some o∧PotO o)∧Zdf H l rows∧Zcr rows∧H ln=some (.lst us)∧Zfb H ns us∧Zbf rows ns∧1≤mo∧mo≤12 ∧
 ∀ (lf:Addr) (xs:List Str) (H':Hp),H lf=none→Drawn p H H'→H' lf=some (.lst (xs.map V.str))→(∀ x∈xs,x∈rows.map (·.1))→1≤xs.length→xs.length≤mo→Q (.ref lf) H'
section
variable {P:Program} {w:World} {K:W.Frag} {mg:Str→Option Value} {base:Heap}
abbrev nFlg:List Str:=["pot","rows","names","most","words","near","filling","k"]
abbrev pFi:List Str:=["pot","rows","names","most"]
theorem scFlg:Zai nFlg pFi (Zad Zcp):=⟨rfl,rfl,rfl,by decide +kernel,rfl,by decide +kernel,by decide +kernel⟩
set_option maxHeartbeats 8000000 in
theorem ok_fill {f fT fN:Addr}{fd fdT fdN:FuncData}(F:Def K mg "_law_filling" Zcp pFi f fd) (T:TxtD mg) (list:mg "list"=none) (DT:Def K mg "_law_take" Za9 ["pot","many"] fT fdT) (GT:Zar P w K mg base CX0 1 fT fdT ["pot","many"] spTake)
  (DN:Def K mg "_law_near_words" Zch ["names"] fN fdN):Zar P w K mg base CX0 2 f fd pFi spFill:=by
 refine F.fn.ok scFlg (fun vs H Q E h=>?_) (fun cdv A outer s H vs Q E hr h=>?_)
 ·obtain ⟨p,l,ln,mo,rows,ns,us,rfl,_⟩:=h
  rfl
 ·obtain ⟨p,l,ln,mo,rows,ns,us,rfl,⟨o,hp,ho⟩,hR,g,hln,hN,gn,m1,m12,q⟩:=h
  have nd:=scFlg.nd
  have hu:=hr.units
  have GN:Zar P w K mg base CX0 1 fN fdN ["names"] (spNearW rows):=ok_nearw rows DN list
  refine' ⟨_,(pS ?eW
   (pS (Zag (i:=5) nd rfl (Or.inl rfl) (Zae DN GN hr (pC (pv 2) Zaa)))
   (pS (Zag (i:=6) nd rfl (Or.inl rfl) (Zbn Zaa))
   (pS (Za8 PassesOwn.never rfl (Zbu (by rfl) T.range (pC (Za0 Zck Zaf (Zae DT GT hr (pC (pv 0) (pC (pv 3) Zaa)))) Zaa)) (Zah (i:=7) nd rfl (Or.inl rfl))
    (Zac (Za4 (PW.pt (pw_and (Zan (op_neD hu) (pv 5) (Zbn Zaa) (Zau _)) (pw_and1 (Zan op_gt (Zae DT GT hr (pC (pv 0) (pC Zaf Zaa))) Zaf (Zau _)))))
     (Zac (Za3 (Zfo PySem.F.plainAttrs_list PySem.F.slot_list_append PySem.F.type_list_append Zbv (pv 6) (pC (Zaw (r:=rIxL K) Zav (pv 5) (Zae DT GT hr (pC (pv 0) (pC (Zam Zao (by rfl) T.len PySem.boot_len (pC (pv 5) Zaa)) Zaa))) (fun _ _=>rfl)) Zaa))))
     (Zac (Za3 (Zfo PySem.F.plainAttrs_list PySem.F.slot_list_append PySem.F.type_list_append Zbv (pv 6) (pC (Zaw (r:=rIxL K) Zav (pv 4) (Zae DT GT hr (pC (pv 0) (pC (Zam Zao (by rfl) T.len PySem.boot_len (pC (pv 4) Zaa)) Zaa))) (fun _ _=>rfl)) Zaa)))))))
   (Zac (Zal (pv 6))))))),?_⟩
  case eW=>exact (Zee (k:=4) ["row"] [] [] nd rfl rfl (fun _=>Zax (osc:=Zad Zcp) (on:=nFlg) (by decide +kernel) rfl rfl rfl) (Za7 (pv 1)) (fun C s H fp=>Zah (i:=0) nd_row1 rfl (Or.inl rfl) (Or.inr rfl)) (fun C s H fp=>Zbw) (fun C s H fp=>Zaw (r:=Zfm K) Zbb (pv 0) Zaf (fun _ _=>rfl)))
  obtain ⟨vs0,hvs0,hpr0⟩:=id hR
  have gle:=g.le
  have gne:=g.ne
  have vl0:=Paired.length hpr0
  refine ⟨_,rfl,l,rfl,⟨_,SqL.of hvs0⟩,words_comp hR (by omega) (fun t u x H' R ht hRx=>⟨_,rfl,t,_,_,_,rfl,rfl,SqT.of ht,rfl,hRx⟩) fun lw H1 hlw s1 hw=>?_⟩
  refine ⟨_,rfl,ln,ns,us,rfl,s1 _ _ hln,hN.mono (Zct s1),gn,fun lN ws H2 hlN s12 hN2 kw wl=>?_⟩
  refine ⟨Nat.zero_le _,fun lf hlf=>?_⟩
  have s2:=s1.trans s12
  have s23:Zaj H2 (upd H2 lf (.lst [])):=Zbj hlf
  have hf3:(upd H2 lf (.lst [])) lf=some (.lst (([]:List Str).map V.str)):=uS
  generalize upd H2 lf (.lst [])=H3 at s23 hf3
  have s3:=s2.trans s23
  have hp3:=s3 _ _ hp
  have hw3:=s23 _ _ (s12 _ _ hw)
  have hN3:=s23 _ _ hN2
  have lfH:H lf=none:=s2.free hlf
  have lwp:lw≠p:=Ne.symm (pot_ne hp3 ho hw3)
  have lNp:lN≠p:=Ne.symm (pot_ne hp3 ho hN3)
  have lfp:lf≠p:=Ne.symm (pot_ne hp3 ho hf3)
  have lfw:lw≠lf:=nNo (s12 _ _ hw) hlf
  have lfN:lN≠lf:=nNo hN2 hlf
  have wne:rows.map (·.1)≠[]:=fun z=>by
   have z2:=congrArg List.length z
   rw [List.length_map,List.length_nil] at z2
   omega
  have wlen:(rows.map (·.1)).length≤24:=by rw [List.length_map];exact gle
  refine ⟨_,rfl,_,rfl,p,(mo:Int),o,rfl,hp3,ho,by omega,by omega,fun v0 o4 hv0 hv1 ho4=>⟨_,_,rfl,rfl,1 + v0,rfl,by omega,by omega,?_⟩⟩
  have d4:Drawn p H (upd H3 p o4):=((Drawn.refl ⟨o,hp,ho⟩).same s3).trans (Drawn.upd ho4)
  have u4:∀ b u,b≠p→H3 b=some u→(upd H3 p o4) b=some u:=fun b u hb e=>by rw [Zab hb];exact e
  generalize upd H3 p o4=H4 at d4 u4
  refine Zaq Zbg (fun i σ H'=>∃ (x:Option V) (xs:List Str),σ=[some (.ref p),some (.ref l),some (.ref ln),some (.int mo),some (.ref lw),some (.ref lN),some (.ref lf),x]∧Drawn p H H'∧H' lw=some (.lst ((rows.map (·.1)).map V.str))∧H' lN=some (.lst (ws.map V.str))∧H' lf=some (.lst (xs.map V.str))∧(∀ x∈xs,x∈rows.map (·.1))∧xs.length=i)
   ⟨none,[],rfl,d4,u4 _ _ lwp hw3,u4 _ _ lNp hN3,u4 _ _ lfp hf3,(fun _ h=>nomatch h),rfl⟩ (fun _ _ _ _ _=>trivial) ?_ ?_
  ·rintro i v' σ H5 hi ⟨x7,xs,rfl,d5,hw5,hN5,hf5,kx,xl⟩
   obtain ⟨hi,rfl⟩:=Zaz hi
   have i12:i<13:=by omega
   refine ⟨_,rfl,Nat.zero_le _,fun t2 ht2=>⟨.list (ws.map W.Dat.str),.list [],.list (SqL.of (by rw [Zab (nNo hN5 ht2)];exact hN5)) (Zdy ws),.list (SqL.of uS) .nil,ok_dat (fun x hx=>Zby g x (kw x hx)),rfl,_,rfl,?_⟩⟩
   have s56:Zaj H5 (upd H5 t2 (.lst [])):=Zbj ht2
   generalize upd H5 t2 (.lst [])=H6 at s56
   have d6:=d5.same s56
   have hw6:=s56 _ _ hw5
   have hN6:=s56 _ _ hN5
   have hf6:=s56 _ _ hf5
   obtain ⟨o6,hp6,ho6⟩:=id d6.pot
   refine Zed (fun z=>?_) (fun z=>?_)
   ·have hz:ws≠[]:=(ne_nil_dat ws).mp z
    refine ⟨_,rfl,p,4,o6,rfl,hp6,ho6,by decide,by decide,fun v7 o7 _ _ ho7=>⟨_,_,rfl,rfl,_,rfl,?_⟩⟩
    have d7:Drawn p H (upd H6 p o7):=d6.trans (Drawn.upd ho7)
    have u7:∀ b u,b≠p→H6 b=some u→(upd H6 p o7) b=some u:=fun b u hb e=>by rw [Zab hb];exact e
    have hp7:(upd H6 p o7) p=some o7:=uS
    generalize upd H6 p o7=H7 at d7 u7 hp7
    have hw7:=u7 _ _ lwp hw6
    have hN7:=u7 _ _ lNp hN6
    have hf7:=u7 _ _ lfp hf6
    refine Zed (fun _=>?_) (fun _=>?_)
    ·refine ⟨_,rfl,.inl ⟨rfl,_,SqL.of hf7⟩,_,rfl,_,rfl,_,rfl,lN,_,rfl,.inl (SqL.of hN7),p,_,_,rfl,hp7,ho7,by rw [List.length_map];have:=List.length_pos_iff.mpr hz;omega,by rw [List.length_map];have:=wl;omega,fun v o9 hv0 hv1 ho9=>?_⟩
     obtain ⟨x,hx,at9⟩:=at_str (zs:=ws) hv0 (by rw [List.length_map] at hv1;exact hv1)
     have d9:Drawn p H (upd H7 p o9):=d7.trans (Drawn.upd ho9)
     have u9:∀ b u,b≠p→H7 b=some u→(upd H7 p o9) b=some u:=fun b u hb e=>by rw [Zab hb];exact e
     generalize upd H7 p o9=H9 at d9 u9
     refine ⟨lN,_,_,_,rfl,rfl,SqL.of (u9 _ _ lNp hN7),at9,lf,_,_,rfl,rfl,u9 _ _ lfp hf7,Za1 (by rw [List.length_map];omega),_,xs++[x],rfl,d9.sub (o':=.lst []) (q:=lf) (fun b u hb e=>by rw [Zab hb];exact e) lfH (Ne.symm lfp),by rw [Zab lfw];exact u9 _ _ lwp hw7,by rw [Zab lfN];exact u9 _ _ lNp hN7,by rw [uS,List.map_append];rfl,fun y hy=>(List.mem_append.mp hy).elim (kx y) fun z=>by rw [List.mem_singleton.mp z];exact (kw x hx),by rw [List.length_append,List.length_singleton];omega⟩
    ·refine ⟨_,rfl,.inl ⟨rfl,_,SqL.of hf7⟩,_,rfl,_,rfl,_,rfl,lw,_,rfl,.inl (SqL.of hw7),p,_,_,rfl,hp7,ho7,by rw [List.length_map];have:=List.length_pos_iff.mpr wne;omega,by rw [List.length_map];have:=wlen;omega,fun v o9 hv0 hv1 ho9=>?_⟩
     obtain ⟨x,hx,at9⟩:=at_str (zs:=(rows.map (·.1))) hv0 (by rw [List.length_map] at hv1;exact hv1)
     have d9:Drawn p H (upd H7 p o9):=d7.trans (Drawn.upd ho9)
     have u9:∀ b u,b≠p→H7 b=some u→(upd H7 p o9) b=some u:=fun b u hb e=>by rw [Zab hb];exact e
     generalize upd H7 p o9=H9 at d9 u9
     refine ⟨lw,_,_,_,rfl,rfl,SqL.of (u9 _ _ lwp hw7),at9,lf,_,_,rfl,rfl,u9 _ _ lfp hf7,Za1 (by rw [List.length_map];omega),_,xs++[x],rfl,d9.sub (o':=.lst []) (q:=lf) (fun b u hb e=>by rw [Zab hb];exact e) lfH (Ne.symm lfp),by rw [Zab lfw];exact u9 _ _ lwp hw7,by rw [Zab lfN];exact u9 _ _ lNp hN7,by rw [uS,List.map_append];rfl,fun y hy=>(List.mem_append.mp hy).elim (kx y) fun z=>by rw [List.mem_singleton.mp z];exact hx,by rw [List.length_append,List.length_singleton];omega⟩
   ·refine ⟨_,rfl,.inl ⟨rfl,_,SqL.of hf6⟩,_,rfl,_,rfl,_,rfl,lw,_,rfl,.inl (SqL.of hw6),p,_,_,rfl,hp6,ho6,by rw [List.length_map];have:=List.length_pos_iff.mpr wne;omega,by rw [List.length_map];have:=wlen;omega,fun v o9 hv0 hv1 ho9=>?_⟩
    obtain ⟨x,hx,at9⟩:=at_str (zs:=(rows.map (·.1))) hv0 (by rw [List.length_map] at hv1;exact hv1)
    have d9:Drawn p H (upd H6 p o9):=d6.trans (Drawn.upd ho9)
    have u9:∀ b u,b≠p→H6 b=some u→(upd H6 p o9) b=some u:=fun b u hb e=>by rw [Zab hb];exact e
    generalize upd H6 p o9=H9 at d9 u9
    refine ⟨lw,_,_,_,rfl,rfl,SqL.of (u9 _ _ lwp hw6),at9,lf,_,_,rfl,rfl,u9 _ _ lfp hf6,Za1 (by rw [List.length_map];omega),_,xs++[x],rfl,d9.sub (o':=.lst []) (q:=lf) (fun b u hb e=>by rw [Zab hb];exact e) lfH (Ne.symm lfp),by rw [Zab lfw];exact u9 _ _ lwp hw6,by rw [Zab lfN];exact u9 _ _ lNp hN6,by rw [uS,List.map_append];rfl,fun y hy=>(List.mem_append.mp hy).elim (kx y) fun z=>by rw [List.mem_singleton.mp z];exact hx,by rw [List.length_append,List.length_singleton];omega⟩
  ·rintro σ H5 ⟨x7,xs,rfl,d5,hw5,hN5,hf5,kx,xl⟩
   have e:(Zcq 0 (1 + v0).toNat).length=(1 + v0).toNat:=Zay ..
   rw [e] at xl
   exact ⟨_,rfl,q lf xs H5 lfH d5 hf5 kx (by omega) (by omega)⟩
end
end K68
namespace K68
open PySem L2 Md
def pairD (p:List Str×Str):Dt:=.tuple [datC p.1,.str p.2]
def nameD (n:Nam):Dt:=.tuple [.str n.1,.int n.2.1,.tuple (n.2.2.map pairD)]
theorem reps_pairs {K:W.Frag}{H:Hp}:∀ {ps:List (List Str×Str)}{vs:List V},PrsV H ps vs→Reps K H vs (ps.map pairD)
 | _,_,.nil=>.nil
 | _,_,.cons ⟨t,tc,e,h1,h2⟩ r=>by
  subst e
  exact .cons (.tuple (SqT.of h1) (.cons (rep_call h2) (.cons (.str _) .nil))) (reps_pairs r)
theorem reps_names {K:W.Frag}{H:Hp}:∀ {ns:List Nam}{vs:List V},Zfb H ns vs→Reps K H vs (ns.map nameD)
 | _,_,.nil=>.nil
 | _,_,.cons ⟨t,tp,vs,e,h1,h2,h3⟩ r=>by
  subst e
  exact .cons (.tuple (SqT.of h1) (.cons (.str _) (.cons (.int _) (.cons (.tuple (SqT.of h2) (reps_pairs h3)) .nil)))) (reps_names r)
theorem ok_pairD (n:Nat) {p:List Str×Str}(h:∀ x∈p.1,Zbh x=true) (h2:Zbh p.2=true):W.kqdOk (n + 2) (pairD p)=true:=by
 unfold pairD
 rw [W.kqdOk]
 simp [ok_call n h,ok_str (n + 1) h2]
theorem ok_nameD (n:Nat) {rows:List (Str×List Str)}(g:Zcr rows) {m:Nam}(h:GoodName rows m):W.kqdOk (n + 4) (nameD m)=true:=by
 unfold nameD
 rw [W.kqdOk]
 have hp:W.kqdOk (n + 3) (.tuple (m.2.2.map pairD))=true:=by
  rw [W.kqdOk,List.all_eq_true]
  intro z hz
  obtain ⟨p,hp,rfl⟩:=List.mem_map.mp hz
  exact ok_pairD n (fun x hx=>Zby g x ((h.deeds.call p.1 (List.mem_map.mpr ⟨p,hp,rfl⟩)).known x hx)) (Zby g _ (h.made p hp))
 have hi:W.kqdOk (n + 3) (.int m.2.1)=true:=by rw [W.kqdOk]
 simp [ok_str (n + 3) h.word,hp,hi]
theorem ok_namesD {rows:List (Str×List Str)}(g:Zcr rows) {ns:List Nam}(h:∀ n∈ns,GoodName rows n):W.kqdOk 9 (.list (ns.map nameD))=true:=by
 show (ns.map nameD).all (W.kqdOk 8)=true
 rw [List.all_eq_true]
 intro z hz
 obtain ⟨m,hm,rfl⟩:=List.mem_map.mp hz
 exact ok_nameD 4 g (h m hm)
theorem eq_nil_names (ns:List Nam):dEq (.list (ns.map nameD)) (.list [])=true↔ns=[]:=by
 cases ns with
 | nil=>simp [dEq_self]
 | cons n r =>
  rw [dEq_neg (by simp)]
  simp
theorem cntL_append:∀ (k:Nat) (a b:List Dt),cntL k (a++b)=cntL k a + cntL k b
 | 0,a,b=>by rw [Zdd,Zdd,Zdd]
 | k + 1,a,b=>by rw [Zd0,Zd0,Zd0,cntL_append k,Zc0,List.length_append];omega
theorem cntL_in:∀ (k:Nat) (l:List Dt),cntL (k + 1) l=l.length + cntL k (l.flatMap kids)
 | 0,l=>by rw [Zd0,Zdd,Zdd,Zcc];omega
 | k + 1,l=>by rw [Zd0,cntL_in k,Zd0,lvl_in];omega
theorem lvl_cnt (k:Nat) (l:List Dt):(lvl k l).length≤cntL (k + 1) l:=by rw [Zd0];omega
def drN:Dt→Bool
 | .int _=>true
 | .tuple (.str _ :: _ :: _)=>true
 | _=>false
def Dr (l:List Dt):Prop:=∀ k,∀ e∈lvl k l,drN e=true
theorem Dr.append {a b:List Dt}(h:Dr a) (g:Dr b):Dr (a++b):=fun k e he=>by
 rw [Zc0] at he
 exact (List.mem_append.mp he).elim (h k e) (g k e)
theorem Dr.nil:Dr []:=fun k e he=>by
 have:∀ k,lvl k []=[]:=fun k=>by
  induction k with
  | zero=>rw [Zcc]
  | succ k ih=>rw [Zdu,ih];rfl
 rw [this] at he
 cases he
theorem kids_one (d:Dt):[d].flatMap kids=kids d:=by simp
theorem Dr.int (i:Int):Dr [.int i]
 | 0,e,he=>by rw [Zcc] at he;rw [List.mem_singleton.mp he];rfl
 | k + 1,e,he=>by rw [lvl_in,kids_one] at he;exact Dr.nil k e he
theorem Dr.tup {x:Str}{d:Dt}{ds:List Dt}(h:Dr (d :: ds)):Dr [.tuple (.str x :: d :: ds)]
 | 0,e,he=>by rw [Zcc] at he;rw [List.mem_singleton.mp he];rfl
 | k + 1,e,he=>by rw [lvl_in,kids_one] at he;exact h k e he
theorem cnt_nil:∀ k,cntL k []=0
 | 0=>Zdd _
 | k + 1=>by rw [cntL_in];show 0 + cntL k []=0;rw [cnt_nil k]
theorem cnt_int (i:Int):∀ k,cntL k [.int i]≤1
 | 0=>by rw [Zdd];omega
 | k + 1=>by rw [cntL_in,kids_one];show 1 + cntL k []≤1;rw [cnt_nil];exact Nat.le_refl _
theorem cnt_tup (h:Dt) (ds:List Dt):∀ k,cntL (k + 1) [.tuple (h :: ds)]=1 + cntL k ds:=fun k=>by rw [cntL_in,kids_one];rfl
structure TmSt (p r:Addr) (H H':Hp) (ρ:Nat):Prop where
 keep:∀ b o,b≠p→b≠r→H b=some o→H' b=some o
 pot:∃ o,H' p=some o∧PotO o
 room:H' r=some (.lst [.int ρ])
def spTerm (rows:List (Str×List Str)) (j:Nat):Sp:=fun vs H Q _=>∃ (p ln r:Addr) (m ρ dp:Nat) (ns:List Nam) (us:List V),vs=[.ref p,.ref ln,.int m,.ref r,.int dp]∧1≤dp∧dp≤j∧(∃ o,H p=some o∧PotO o)∧H r=some (.lst [.int ρ])∧p≠r∧H ln=some (.lst us)∧Zfb H ns us∧Zbf rows ns∧1≤m∧m≤12∧ρ≤100 ∧
 ∀ (v:V) (d:Dt) (ρ':Nat) (H':Hp),TmSt p r H H' ρ'→TmV H' d v→Dr [d]→(∀ k,cntL k [d] + ρ'≤1 + ρ)→sndN ns m dp d=true→Q v H'
theorem snd_int {ns:List Nam}{m dp:Nat}{v:Int}(h:1≤dp) (h0:0≤v) (h1:v<(m:Int)):sndN ns m dp (.int v)=true:=by
 obtain ⟨k,rfl⟩:∃ k,dp=k + 1:=⟨dp - 1,by omega⟩
 show (decide (0≤v)&&decide (v<(m:Int)))=true
 rw [decide_eq_true h0,decide_eq_true h1]
 rfl
theorem snd_tup {ns:List Nam}{m dp:Nat}{n:Nam}{ds:List Dt}(h:2≤dp) (nd:(ns.map (·.1)).Nodup) (hn:n∈ns) (hl:ds.length=n.2.1) (hk:∀ c∈ds,sndN ns m (dp - 1) c=true):sndN ns m dp (.tuple (.str n.1 :: ds))=true:=by
 obtain ⟨k,rfl⟩:∃ k,dp=k + 1:=⟨dp - 1,by omega⟩
 show (namedB ns (.tuple (.str n.1 :: ds))&&ds.all (sndN ns m k))=true
 rw [named_some ds (arOf_some nd hn),decide_eq_true hl,Bool.true_and,List.all_eq_true]
 exact hk
theorem nd_nrm:(["name","room"]:List Str).Nodup:=by decide +kernel
section
variable {P:Program} {w:World} {K:W.Frag} {mg:Str→Option Value} {base:Heap}
abbrev nTm:List Str:=["pot","names","many","room","deep","some","word","places","pairs"]
abbrev pTm:List Str:=["pot","names","many","room","deep"]
abbrev cTm:List Str:=["k","deep","many","names","pot","room"]
theorem nd_cTm:cTm.Nodup:=by decide +kernel
theorem scTm:Zai nTm pTm (Zad Zdh):=⟨rfl,rfl,rfl,by decide +kernel,rfl,by decide +kernel,by decide +kernel⟩
set_option maxHeartbeats 8000000 in
theorem ok_term {f fT:Addr}{fd fdT:FuncData}{rows:List (Str×List Str)}(g:Zcr rows) (F:Def K mg "_law_term" Zdh pTm f fd) (T:TxtD mg) (DT:Def K mg "_law_take" Za9 ["pot","many"] fT fdT) (GT:Zar P w K mg base CX0 1 fT fdT ["pot","many"] spTake):
  ∀ j,Zar P w K mg base CX0 (2 + j) f fd pTm (spTerm rows j):=by
 intro j
 induction j with
 | zero =>
  refine F.fn.ok scTm (fun vs H Q E h=>?_) (fun cdv A outer s H vs Q E hr h=>?_)
  ·obtain ⟨p,ln,r,m,ρ,dp,ns,us,rfl,_⟩:=h
   rfl
  ·obtain ⟨p,ln,r,m,ρ,dp,ns,us,rfl,h1,h2,_⟩:=h
   omega
 | succ j GS =>
  refine F.fn.ok scTm (fun vs H Q E h=>?_) (fun cdv A outer s H vs Q E hr h=>?_)
  ·obtain ⟨p,ln,r,m,ρ,dp,ns,us,rfl,_⟩:=h
   rfl
  ·obtain ⟨p,ln,r,m,ρ,dp,ns,us,rfl,dp1,hdp,⟨o,hp,ho⟩,hr0,hpr,hln,hN,gn,m1,m12,hρ,q⟩:=h
   have nd:=scTm.nd
   have hu:=hr.units
   have hr1:Zcm 1 _:=hr.mono (show 1≤2 + j by omega)
   refine' ⟨_,(pS ?eS
   (pS (Za4 (PW.pt (pw_or (Zan (op_eqD hu) (pv 5) (Zbn Zaa) (Zau _)) (pw_or (Zan op_lt (pv 4) Zaf (Zau _)) (pw_or1 (Zan Zec (Zae DT GT hr1 (pC (pv 0) (pC Zaf Zaa))) Zaf (Zau _)))))) (Zac (Zal (Zae DT GT hr1 (pC (pv 0) (pC (pv 2) Zaa))))) Zak)
   (pS (ps_asg (Zaw (r:=rIxL K) Zav (pv 5) (Zae DT GT hr1 (pC (pv 0) (pC (Zam Zao (by rfl) T.len PySem.boot_len (pC (pv 5) Zaa)) Zaa))) (fun _ _=>rfl)) (pg_tup rfl (gC (Zah (i:=6) nd rfl (Or.inl rfl)) (gC (Zah (i:=7) nd rfl (Or.inl rfl)) (gC (Zah (i:=8) nd rfl (Or.inl rfl)) Zd3)))))
   (pS (ps_asg (Za0 op_sub (Zaw (r:=rIxL K) Zav (pv 3) Zaf (fun _ _=>rfl)) (pv 7)) (pg_sub (pv 3) Zaf set_list))
   (Zac (Zal (Za0 op_catA (Zbm (pC (pv 6) Zaa)) (Zbd Zbe (by rfl) T.tuple PyProof.Rows.boot_tuple (pC ?eC Zaa))))))))),?_⟩
   case eS=>exact (Zee (k:=5) ["name"] ["room"] [3] nd rfl rfl (fun _=>Zax (osc:=Zad Zdh) (on:=nTm) (by decide +kernel) rfl rfl rfl) (Za7 (pv 1)) (fun C s H fp=>Zah (i:=0) nd_nrm rfl (Or.inl rfl) (Or.inr rfl)) (fun C s H fp=>Zem (Zan op_le (Zaw (r:=Zfm K) Zbb (pv 0) Zaf (fun _ _=>rfl)) (Zaw (r:=rIxL K) Zav (pv 1) Zaf (fun _ _=>rfl)) (Zau _))) (fun C s H fp=>pv 0))
   case eC=>exact (Zbl ["k"] ["deep","many","names","pot","room"] [4,2,1,0,3] (fun _=>Zax (osc:=Zad Zdh) (on:=nTm) (by decide +kernel) rfl rfl rfl) (Zbu (by rfl) T.range (pC (pv 7) Zaa)) (fun C s H fp=>Zah (i:=0) nd_cTm rfl (Or.inl rfl) (Or.inr rfl)) (fun C s H fp=>Zbw) (fun C s H fp=>Zae F GS hr (pC (pv 4) (pC (pv 3) (pC (pv 2) (pC (pv 5) (pC (Za0 op_sub (pv 1) Zaf) Zaa)))))))
   have few:=gn.few
   have nl:=Paired.length hN
   have fin:∀ (HX:Hp) (oX:HO),(∀ b o,b≠p→b≠r→H b=some o→HX b=some o)→HX p=some oX→PotO oX→HX r=some (.lst [.int ρ])→∀ (v:Int) (o':HO),0≤v→v<(m:Int)→PotO o'→Q (.int v) (upd HX p o'):=fun HX oX kX _ _ rX v o' a0 a1 ho' =>
    q (.int v) (.int v) ρ _ ⟨fun b u hb hb2 e=>by rw [Zab hb];exact kX b u hb hb2 e,⟨o',uS,ho'⟩,by rw [Zab (Ne.symm hpr)];exact rX⟩ (.int v) (Dr.int v) (fun k=>by have:=cnt_int v k;omega) (snd_int dp1 a0 a1)
   refine ⟨_,rfl,ln,rfl,⟨_,SqL.of hln⟩,Zdb (Zat (xs:=us)) (sL (by omega)) (fun D i ys σ' H'=>H D=none∧Zaj H H'∧H' D=some (.lst ys)∧(∃ ns':List Nam,Zfb H ns' ys∧(∀ n∈ns',n∈ns∧n.2.1≤ρ)∧ns'.length≤i)∧∃ x,σ'=[x,some (.ref r)])
    (fun D hD=>⟨hD,Zbj hD,uS,⟨[],.nil,(fun _ h=>nomatch h),Nat.le_refl _⟩,_,rfl⟩) (fun D i ys σ' H' hi ⟨_,s,_,⟨ns',hN',_,hl'⟩,_⟩=>⟨SqL.of (s _ _ hln),by have:=Paired.length hN';omega⟩) ?_ ?_⟩
   ·rintro D i v ys σ' H2 hD hi ⟨hDn,s2,hD2,⟨ns',hN',hm',hl'⟩,x,rfl⟩
    obtain ⟨n,hn,t,tp,ps,rfl,ht,htp,hP⟩:=Zas hN hi
    refine ⟨_,rfl,t,_,_,_,rfl,rfl,SqT.of (s2 _ _ ht),rfl,_,rfl,r,_,_,_,rfl,rfl,SqL.of (s2 _ _ hr0),rfl,_,_,rfl,rfl,_,rfl,Zed (fun z=>?_) (fun z=>?_)⟩
    ·have z:=of_decide_eq_true z
     refine ⟨_,rfl,hD2,hDn,fun b u e=>by rw [Zab (nNo e hDn)];exact s2 _ _ e,uS,⟨ns'++[n],Paired.snoc hN' ⟨t,tp,ps,rfl,ht,htp,hP⟩,fun m hm=>?_,by rw [List.length_append,List.length_singleton];omega⟩,_,rfl⟩
     rcases List.mem_append.mp hm with e | e
     ·exact hm' m e
     ·rw [List.mem_singleton.mp e]
      exact ⟨List.mem_of_getElem? hn,by omega⟩
    ·exact ⟨hDn,s2,hD2,⟨ns',hN',hm',by omega⟩,_,rfl⟩
   ·rintro ls ys σ' H2 hD ⟨lsn,s2,hl2,⟨ns',hN',hm',hl'⟩,_⟩
    have yl:=Paired.length hN'
    refine ⟨_,rfl,Nat.zero_le _,fun t2 ht2=>⟨.list (ns'.map nameD),.list [],.list (SqL.of (by rw [Zab (nNo hl2 ht2)];exact hl2)) (reps_names (hN'.mono fun b xs e=>by rw [Zab (nNo (s2 _ _ e) ht2)];exact s2 _ _ e)),.list (SqL.of uS) .nil,ok_namesD g (fun n hn=>gn.each n (hm' n hn).1),rfl,_,rfl,?_⟩⟩
    have s3:Zaj H (upd H2 t2 (.lst [])):=s2.trans (Zbj ht2)
    have hl3:(upd H2 t2 (.lst [])) ls=some (.lst ys):=by rw [Zab (nNo hl2 ht2)];exact hl2
    generalize upd H2 t2 (.lst [])=H3 at s3 hl3
    have hp3:=s3 _ _ hp
    have hr3:=s3 _ _ hr0
    have k3:∀ b u,b≠p→b≠r→H b=some u→H3 b=some u:=fun b u _ _ e=>s3 _ _ e
    refine Zed (fun _=>?_) (fun hz=>?_)
    ·exact ⟨_,rfl,_,rfl,p,(m:Int),o,rfl,hp3,ho,by omega,by omega,fun v o' a0 a1 ho'=>fin H3 o k3 hp3 ho hr3 v o' a0 a1 ho'⟩
    have hne:ns'≠[]:=fun z=>hz ((eq_nil_names ns').mpr z)
    refine ⟨_,rfl,_,_,rfl,rfl,_,rfl,Zed (fun _=>?_) (fun hz2=>?_)⟩
    ·exact ⟨_,rfl,_,rfl,p,(m:Int),o,rfl,hp3,ho,by omega,by omega,fun v o' a0 a1 ho'=>fin H3 o k3 hp3 ho hr3 v o' a0 a1 ho'⟩
    have dp2:2≤dp:=by
     have:¬ ((dp:Int)<2):=fun z=>hz2 (decide_eq_true z)
     omega
    refine ⟨_,rfl,p,4,o,rfl,hp3,ho,by decide,by decide,fun v4 o4 _ _ ho4=>⟨rfl,_,rfl,?_⟩⟩
    have k4:∀ b u,b≠p→b≠r→H b=some u→(upd H3 p o4) b=some u:=fun b u hb _ e=>by rw [Zab hb];exact s3 _ _ e
    have hp4:(upd H3 p o4) p=some o4:=uS
    have hr4:(upd H3 p o4) r=some (.lst [.int ρ]):=by rw [Zab (Ne.symm hpr)];exact hr3
    have lsp:ls≠p:=fun z=>by rw [z,hp] at lsn;cases lsn
    have hl4:(upd H3 p o4) ls=some (.lst ys):=by rw [Zab lsp];exact hl3
    generalize upd H3 p o4=H4 at k4 hp4 hr4 hl4
    refine Zed (fun _=>?_) (fun _=>?_)
    ·exact ⟨_,rfl,_,rfl,p,(m:Int),o4,rfl,hp4,ho4,by omega,by omega,fun v o' a0 a1 ho'=>fin H4 o4 k4 hp4 ho4 hr4 v o' a0 a1 ho'⟩
    have np:∀ {b:Addr} {xs:List V},H b=some (.tup xs)→b≠p:=fun e z=>by rw [z,hp] at e;obtain ⟨_,_,q',_⟩:=ho;rw [q'] at e;cases e
    have nr:∀ {b:Addr} {xs:List V},H b=some (.tup xs)→b≠r:=fun e z=>by rw [z,hr0] at e;cases e
    have lnp:ln≠p:=fun z=>by
     rw [z,hp] at hln
     obtain ⟨_,_,q',_⟩:=ho
     rw [q'] at hln
     cases hln
     cases hN with
     | cons h _=>obtain ⟨_,_,_,e,_⟩:=h;cases e
    have lnr:ln≠r:=fun z=>by
     rw [z,hr0] at hln
     cases hln
     cases hN with
     | cons h _=>obtain ⟨_,_,_,e,_⟩:=h;cases e
    have ypos:0<ys.length:=by rw [← yl];exact List.length_pos_iff.mpr hne
    refine ⟨_,rfl,_,rfl,_,rfl,ls,_,rfl,.inl (SqL.of hl4),p,_,o4,rfl,hp4,ho4,by omega,by omega,fun v5 o5 h50 h51 ho5=>?_⟩
    obtain ⟨j5,rfl⟩:=Int.eq_ofNat_of_zero_le h50
    have hj5:j5<ys.length:=by omega
    have hy5:ys[j5]?=some ys[j5]:=List.getElem?_eq_getElem hj5
    obtain ⟨n,hn,t,tp,ps,et,ht,htp,hP⟩:=Zas hN' hy5
    have hn2:=hm' n (List.mem_of_getElem? hn)
    have gnn:=gn.each n hn2.1
    have n1:=gnn.one
    have n4:=gnn.four
    have nρ:=hn2.2
    rw [et] at hy5
    have k5:∀ b u,b≠p→b≠r→H b=some u→(upd H4 p o5) b=some u:=fun b u hb hb2 e=>by rw [Zab hb];exact k4 _ _ hb hb2 e
    have hp5:(upd H4 p o5) p=some o5:=uS
    have hr5:(upd H4 p o5) r=some (.lst [.int ρ]):=by rw [Zab (Ne.symm hpr)];exact hr4
    have hl5:(upd H4 p o5) ls=some (.lst ys):=by rw [Zab lsp];exact hl4
    generalize upd H4 p o5=H5 at k5 hp5 hr5 hl5
    refine ⟨ls,_,_,_,rfl,rfl,SqL.of hl5,Za6 hy5,t,_,rfl,SqT.of (k5 _ _ (np ht) (nr ht) ht),rfl,_,_,rfl,_,_,rfl,_,_,rfl,rfl,?_⟩
    refine ⟨_,rfl,r,_,_,_,rfl,rfl,SqL.of hr5,rfl,_,rfl,_,_,rfl,rfl,_,rfl,r,_,_,0,rfl,rfl,hr5,rfl,?_⟩
    have er:((ρ:Int) - (n.2.1:Int))=((ρ - n.2.1:Nat):Int):=by omega
    have k6:∀ b u,b≠p→b≠r→H b=some u→(upd H5 r (.lst [.int ((ρ - n.2.1:Nat):Int)])) b=some u:=fun b u hb hb2 e=>by rw [Zab hb2];exact k5 _ _ hb hb2 e
    have hp6:(upd H5 r (.lst [.int ((ρ - n.2.1:Nat):Int)])) p=some o5:=by rw [Zab hpr];exact hp5
    have hr6:(upd H5 r (.lst [.int ((ρ - n.2.1:Nat):Int)])) r=some (.lst [.int ((ρ - n.2.1:Nat):Int)]):=uS
    rw [← er] at k6 hp6 hr6
    dsimp only [List.set_cons_zero]
    generalize upd H5 r (.lst [.int ((ρ:Int) - (n.2.1:Int))])=H6 at k6 hp6 hr6 ⊢
    rw [er] at hr6
    refine ⟨_,rfl,sL (by show 1≤100000;decide),fun t1 ht1=>?_⟩
    have s67:Zaj H6 (upd H6 t1 (.tup [.str n.1])):=Zbj ht1
    have ht17:(upd H6 t1 (.tup [.str n.1])) t1=some (.tup [.str n.1]):=uS
    generalize upd H6 t1 (.tup [.str n.1])=H7 at s67 ht17
    have hp7:=s67 _ _ hp6
    have hr7:=s67 _ _ hr6
    have k7:∀ b u,b≠p→b≠r→H b=some u→H7 b=some u:=fun b u hb hb2 e=>s67 _ _ (k6 _ _ hb hb2 e)
    refine ⟨_,rfl,(n.2.1:Int),rfl,by omega,by omega,Zdb Zbg (sL (by rw [Zay];omega)) (fun D i ys σ' H'=>H7 D=none∧(∀ b o,b≠p→b≠r→b≠D→H7 b=some o→H' b=some o)∧(∃ o,H' p=some o∧PotO o)∧H' D=some (.lst ys)∧∃ (x:Option V) (ds:List Dt) (ρi:Nat),σ'=[x,some (.int dp),some (.int m),some (.ref ln),some (.ref p),some (.ref r)]∧H' r=some (.lst [.int ρi])∧TmsV H' ds ys∧Dr ds∧(∀ k,cntL k ds + ρi≤i + (ρ - n.2.1))∧ds.length=i∧∀ c∈ds,sndN ns m (dp - 1) c=true)
     (fun D hD=>⟨hD,fun b o _ _ _ e=>Zbj hD _ _ e,⟨o5,Zbj hD _ _ hp7,ho5⟩,uS,none,[],ρ - n.2.1,rfl,Zbj hD _ _ hr7,.nil,Dr.nil,(fun k=>by rw [cnt_nil];omega),rfl,(fun _ h=>nomatch h)⟩) (fun D i ys σ' H' hi ⟨_,_,_,_,_,ds,_,_,_,ht,_,_,dl,_⟩=>⟨trivial,by have:=ht.length;omega⟩) ?_ ?_⟩
    ·rintro D i v' ys' σ' H8 hD hi ⟨hDn,k8,⟨o8,hp8,ho8⟩,hD8,x8,ds,ρi,rfl,hr8,hT8,dr8,cn8,dl8,sn8⟩
     obtain ⟨hi,rfl⟩:=Zaz hi
     have Dp:D≠p:=fun z=>by rw [z,hp7] at hDn;cases hDn
     have Dr':D≠r:=fun z=>by rw [z,hr7] at hDn;cases hDn
     have lnD:ln≠D:=nNo (k7 _ _ lnp lnr hln) hDn
     have c0:=cn8 0
     have kN:∀ b xs,H b=some (.tup xs)→H8 b=some (.tup xs):=fun b xs e=>k8 _ _ (np e) (nr e) (nNo (k7 _ _ (np e) (nr e) e) hDn) (k7 _ _ (np e) (nr e) e)
     refine ⟨_,rfl,_,rfl,_,rfl,_,rfl,_,rfl,_,_,rfl,rfl,p,ln,r,m,ρi,dp - 1,ns,us,by rw [show ((dp - 1:Nat):Int)=(dp:Int) - 1 by omega];rfl,by omega,by omega,⟨o8,hp8,ho8⟩,hr8,hpr,k8 _ _ lnp lnr lnD (k7 _ _ lnp lnr hln),hN.mono kN,gn,m1,m12,by omega,fun v d ρ' H9 st hv dr cn sd=>?_⟩
     have hD9:=st.keep _ _ Dp Dr' hD8
     have tk:∀ b xs,H9 b=some (.tup xs)→(upd H9 D (.lst (ys'++[v]))) b=some (.tup xs):=fun b xs e=>by rw [Zab (fun z=>by rw [z,hD9] at e;cases e)];exact e
     have t89:∀ b xs,H8 b=some (.tup xs)→H9 b=some (.tup xs):=fun b xs e=>st.keep _ _ (fun z=>by rw [z,hp8] at e;obtain ⟨_,_,q',_⟩:=ho8;rw [q'] at e;cases e) (fun z=>by rw [z,hr8] at e;cases e) e
     obtain ⟨o9,hp9,ho9⟩:=st.pot
     refine ⟨hD9,hDn,fun b u hb hb2 hb3 e=>by rw [Zab hb3];exact st.keep _ _ hb hb2 (k8 _ _ hb hb2 hb3 e),⟨o9,by rw [Zab (Ne.symm Dp)];exact hp9,ho9⟩,uS,_,ds++[d],ρ',rfl,by rw [Zab (Ne.symm Dr')];exact st.room,((hT8.keep t89).keep tk).append (.cons (hv.keep tk) .nil),dr8.append dr,fun k=>?_,by rw [List.length_append,List.length_singleton];omega,fun c hc=>(List.mem_append.mp hc).elim (sn8 c) fun z=>by rw [List.mem_singleton.mp z];exact sd⟩
     have a1:=cn8 k
     have a2:=cn k
     rw [cntL_append]
     omega
    ·rintro D ys' σ' H8 hD ⟨hDn,k8,⟨o8,hp8,ho8⟩,hD8,x8,ds,ρi,rfl,hr8,hT8,dr8,cn8,dl8,sn8⟩
     rw [Zay] at cn8 dl8
     have t1D:t1≠D:=nNo ht17 hDn
     have t1p:t1≠p:=fun z=>by rw [z,hp6] at ht1;cases ht1
     have t1r:t1≠r:=fun z=>by rw [z,hr6] at ht1;cases ht1
     have yl8:=hT8.length
     refine ⟨D,_,rfl,.inl ⟨SqL.of hD8,fun tt htt=>?_⟩⟩
     have s89:Zaj H8 (upd H8 tt (.tup ys')):=Zbj htt
     have htt9:(upd H8 tt (.tup ys')) tt=some (.tup ys'):=uS
     generalize upd H8 tt (.tup ys')=H9 at s89 htt9
     have c0:=cn8 0
     refine rCatA_of (K:=K) (s89 _ _ (k8 _ _ t1p t1r t1D ht17)) htt9 (sL (by show 1 + _≤_;omega)) fun pR HR sR hR=>?_
     cases ds with
     | nil=>exact absurd dl8 (by show ¬ 0=_;omega)
     | cons d0 dr0 =>
      refine q (.ref pR) (.tuple (.str n.1 :: d0 :: dr0)) ρi HR ⟨fun b u hb hb2 e=>sR _ _ (s89 _ _ (k8 _ _ hb hb2 (nNo (k7 _ _ hb hb2 e) hDn) (k7 _ _ hb hb2 e))),⟨o8,sR _ _ (s89 _ _ hp8),ho8⟩,sR _ _ (s89 _ _ hr8)⟩ (.tup hR (.cons (.str _ (word_ok gnn.word)) ((hT8.keep (Zct s89)).keep (Zct sR)))) (Dr.tup dr8) (fun k=>?_) (snd_tup dp2 gn.nd hn2.1 dl8 sn8)
      cases k with
      | zero=>rw [Zdd] at c0 ⊢;omega
      | succ k =>
       have a1:=cn8 k
       rw [cnt_tup]
       omega
end
end K68
namespace K68
open PySem L2 Md
inductive Rs
 | kind (x:Str)
 | bad (b:Bool) (sp:List Nat) (c:List Str) (ks:List Nat)
def sB:Bool→Str
 | true=>"clash"
 | false=>"none"
theorem sB_ne (b:Bool):¬ (sB b="kind"):=by cases b <;> decide +kernel
def RsV (H:Hp):Rs→Addr→Prop
 | .kind x,a=>H a=some (.tup [.str "kind",.str x])
 | .bad b sp c ks,a=>∃ t u,H a=some (.tup (.str (sB b):: .ref t :: .ref u :: ks.map Ze6))∧H t=some (.tup (sp.map Ze6))∧H u=some (.tup (c.map V.str))
theorem RsV.keep {H H':Hp}(k:∀ b xs,H b=some (.tup xs)→H' b=some (.tup xs)):∀ {r:Rs}{a:Addr},RsV H r a→RsV H' r a
 | .kind _,_,h=>k _ _ h
 | .bad ..,_,⟨t,u,h1,h2,h3⟩=>⟨t,u,k _ _ h1,k _ _ h2,k _ _ h3⟩
def rsD:Rs→Dt
 | .kind x=>.tuple [.str "kind",.str x]
 | .bad b sp c ks=>.tuple (.str (sB b):: .tuple (sp.map natD):: datC c :: ks.map natD)
theorem RsV.rep {K:W.Frag}{H:Hp}:∀ {r:Rs}{a:Addr},RsV H r a→Rep K H (.ref a) (rsD r)
 | .kind _,_,h=>.tuple (SqT.of h) (.cons (.str _) (.cons (.str _) .nil))
 | .bad ..,_,⟨t,u,h1,h2,h3⟩=>.tuple (SqT.of h1) (.cons (.str _) (.cons (.tuple (SqT.of h2) (reps_nats _)) (.cons (rep_call h3) (reps_nats _))))
def rkN:List Nat→List Nat
 | k :: j :: _=>[k,j]
 | _=>[]
def callM (mk:List Str) (near:List Nat) (sp:List Nat) (c:List Str):Rs :=
 match near with
 | [k]=>.kind (mk.getD k "")
 | near=>.bad (!near.isEmpty) sp c (rkN near)
theorem told_cases (near:List Nat):(∃ k,near=[k])∨∃ b ks,toldV near=.str (sB b):: ks.map Ze6∧ks.length≤2∧∀ mk sp c,callM mk near sp c=.bad b sp c ks:=by
 match near with
 | []=>exact .inr ⟨false,[],rfl,by decide,fun _ _ _=>rfl⟩
 | [k]=>exact .inl ⟨k,rfl⟩
 | k :: j :: r=>exact .inr ⟨true,[k,j],rfl,Nat.le_refl 2,fun _ _ _=>rfl⟩
noncomputable def callN (rows:List (Str×List Str)) (n:Nam) (sp:List Nat) (c:List Str):Rs:=callM (n.2.2.map (·.2)) (nearL rows (n.2.2.map (·.1)) c) sp c
noncomputable def callR (rows:List (Str×List Str)) (ns:List Nam) (w:Str) (sp:List Nat) (c:List Str):Rs :=
 match ns.find? (fun n=>decide (n.1=w)) with
 | some n=>callN rows n sp c
 | none=>.kind ""
theorem find_nam {ns:List Nam}{n:Nam}(nd:(ns.map (·.1)).Nodup) (h:n∈ns):ns.find? (fun m=>decide (m.1=n.1))=some n:=by
 induction ns with
 | nil=>cases h
 | cons m ms ih =>
  rw [List.map_cons,List.nodup_cons] at nd
  rw [List.find?_cons]
  rcases List.mem_cons.mp h with e | h
  ·rw [e,decide_eq_true rfl]
  ·have ne:¬ m.1=n.1:=fun z=>nd.1 (by rw [z];exact List.mem_map.mpr ⟨n,h,rfl⟩)
   rw [decide_eq_false ne]
   exact ih nd.2 h
theorem callR_eq {rows:List (Str×List Str)}{ns:List Nam}{n:Nam}(nd:(ns.map (·.1)).Nodup) (h:n∈ns) (sp:List Nat) (c:List Str):callR rows ns n.1 sp c=callN rows n sp c:=by
 unfold callR
 rw [find_nam nd h]
def goR (f:Dt→Nat→Rs):List Dt→Nat→List Str→Sum Rs (List Str)
 | [],_,acc=>.inr acc
 | c :: cs,i,acc=>match f c i with
  | .kind x=>goR f cs (i + 1) (acc++[x])
  | .bad b sp cl ks=>.inl (.bad b sp cl ks)
theorem go_k {f:Dt→Nat→Rs}{c:Dt}{cs:List Dt}{i:Nat}{acc:List Str}{x:Str}(h:f c i=.kind x):goR f (c :: cs) i acc=goR f cs (i + 1) (acc++[x]):=by rw [goR,h]
theorem go_b {f:Dt→Nat→Rs}{c:Dt}{cs:List Dt}{i:Nat}{acc:List Str}{b:Bool}{sp:List Nat}{cl:List Str}{ks:List Nat}(h:f c i=.bad b sp cl ks):goR f (c :: cs) i acc=.inl (.bad b sp cl ks):=by rw [goR,h]
noncomputable def runR (rows:List (Str×List Str)) (ns:List Nam) (xs:List Str):Nat→Dt→List Nat→Rs
 | 0,_,_=>.kind ""
 | k + 1,d,sp=>match d with
  | .int i=>.kind (xs.getD i.toNat "")
  | .tuple (.str w :: ds)=>match goR (fun c i=>runR rows ns xs k c (sp++[i])) ds 0 [] with
   | .inl r=>r
   | .inr call=>callR rows ns w sp call
  | _=>.kind ""
theorem run_tup {rows:List (Str×List Str)}{ns:List Nam}{xs:List Str}(k:Nat) (w:Str) (ds:List Dt) (sp:List Nat):runR rows ns xs (k + 1) (.tuple (.str w :: ds)) sp=(match goR (fun c i=>runR rows ns xs k c (sp++[i])) ds 0 [] with
   | .inl r=>r
   | .inr call=>callR rows ns w sp call):=rfl
theorem run_int {rows:List (Str×List Str)}{ns:List Nam}{xs:List Str}(k:Nat) (i:Int) (sp:List Nat):runR rows ns xs (k + 1) (.int i) sp=.kind (xs.getD i.toNat ""):=rfl
theorem snd_inv {ns:List Nam}{m j:Nat}{d:Dt}(h:sndN ns m (j + 1) d=true):(∃ i:Nat,d=.int i∧i<m)∨∃ n∈ns,∃ ds,d=.tuple (.str n.1 :: ds)∧ds.length=n.2.1∧∀ c∈ds,sndN ns m j c=true:=by
 have no:∀ (e:Dt),namedB ns e=false→sndN ns m (j + 1) e=(namedB ns e&&(kids e).all (sndN ns m j))→sndN ns m (j + 1) e=true→False:=fun e z y w=>by rw [y,z] at w;cases w
 cases d with
 | int i =>
  have h:(decide (0≤i)&&decide (i<(m:Int)))=true:=h
  rw [Bool.and_eq_true] at h
  have h1:=of_decide_eq_true h.1
  have h2:=of_decide_eq_true h.2
  exact .inl ⟨i.toNat,by rw [Int.toNat_of_nonneg h1],by omega⟩
 | tuple ds =>
  cases ds with
  | nil=>exact (no _ rfl rfl h).elim
  | cons x r =>
   cases x with
   | str w =>
    have h:(namedB ns (.tuple (.str w :: r))&&r.all (sndN ns m j))=true:=h
    rw [Bool.and_eq_true,List.all_eq_true] at h
    cases ha:arOf ns w with
    | none=>rw [named_none r ha] at h;cases h.1
    | some k =>
     rw [named_some r ha] at h
     unfold arOf at ha
     obtain ⟨n,hn,ek⟩:=Option.map_eq_some_iff.mp ha
     have hm:=List.mem_of_find?_eq_some hn
     have hw:n.1=w:=of_decide_eq_true (List.find?_some (p:=fun n:Nam=>decide (n.1=w)) hn)
     exact .inr ⟨n,hm,r,by rw [hw],by rw [of_decide_eq_true h.1,ek],h.2⟩
   | _=>exact (no _ rfl rfl h).elim
 | _=>exact (no _ rfl rfl h).elim
theorem near_lt {rows:List (Str×List Str)}{ds:List (List Str)}{xs:List Str}:∀ k∈nearL rows ds xs,k<ds.length:=fun k hk=>fits_lt k (List.mem_filter.mp hk).1
theorem callN_known {rows:List (Str×List Str)}{n:Nam}(gn:GoodName rows n) {sp:List Nat}{c:List Str}{x:Str}(h:callN rows n sp c=.kind x):x∈rows.map (·.1):=by
 unfold callN at h
 have lt:=near_lt (rows:=rows) (ds:=n.2.2.map (·.1)) (xs:=c)
 generalize nearL rows (n.2.2.map (·.1)) c=near at h lt
 match near,h,lt with
 | [k],h,lt =>
  injection h with h
  have:=lt k (.head _)
  rw [List.length_map] at this
  rw [← h,List.getD_eq_getElem?_getD,List.getElem?_map,List.getElem?_eq_getElem this]
  exact gn.made _ (List.getElem_mem this)
 | [],h,_=>cases h
 | _ :: _ :: _,h,_=>cases h
theorem go_known {f:Dt→Nat→Rs}{W:List Str}:∀ {ds:List Dt}{i:Nat}{acc call:List Str},(∀ c∈ds,∀ i x,f c i=.kind x→x∈W)→(∀ x∈acc,x∈W)→goR f ds i acc=.inr call→(∀ x∈call,x∈W)∧call.length=acc.length + ds.length
 | [],i,acc,call,_,ha,h=>by
  injection h with h
  rw [← h]
  exact ⟨ha,rfl⟩
 | c :: cs,i,acc,call,hf,ha,h=>by
  unfold goR at h
  cases hc:f c i with
  | bad b sp cl ks=>rw [hc] at h;cases h
  | kind x =>
   rw [hc] at h
   have:=go_known (fun c hc=>hf c (.tail _ hc)) (fun y hy=>(List.mem_append.mp hy).elim (ha y) fun z=>by rw [List.mem_singleton.mp z];exact hf c (.head _) i x hc) h
   refine ⟨this.1,?_⟩
   rw [this.2,List.length_append,List.length_singleton,List.length_cons]
   omega
theorem go_bad {f:Dt→Nat→Rs}:∀ {ds:List Dt}{i:Nat}{acc:List Str}{r:Rs},goR f ds i acc=.inl r→∃ b sp cl ks,r=.bad b sp cl ks
 | [],i,acc,r,h=>by cases h
 | c :: cs,i,acc,r,h=>by
  unfold goR at h
  cases hc:f c i with
  | bad b sp cl ks=>rw [hc] at h;injection h with h;exact ⟨b,sp,cl,ks,h.symm⟩
  | kind x=>rw [hc] at h;exact go_bad h
theorem run_known {rows:List (Str×List Str)}{ns:List Nam}{xs:List Str}(gn:Zbf rows ns) (hx:∀ x∈xs,x∈rows.map (·.1)):∀ (j:Nat) (d:Dt),sndN ns xs.length j d=true→∀ sp x,runR rows ns xs j d sp=.kind x→x∈rows.map (·.1)
 | 0,d,h,sp,x,e=>by cases h
 | j + 1,d,h,sp,x,e=>by
  rcases snd_inv h with ⟨i,rfl,hi⟩ | ⟨n,hn,ds,rfl,hl,hk⟩
  ·rw [run_int] at e
   injection e with e
   rw [← e,show ((i:Int)).toNat=i from rfl,List.getD_eq_getElem?_getD,List.getElem?_eq_getElem hi]
   exact hx _ (List.getElem_mem hi)
  ·rw [run_tup] at e
   cases hg:goR (fun c i=>runR rows ns xs j c (sp++[i])) ds 0 [] with
   | inl r=>rw [hg] at e;obtain ⟨_,_,_,_,z⟩:=go_bad hg;rw [z] at e;cases e
   | inr call =>
    rw [hg] at e
    have e:callR rows ns n.1 sp call=.kind x:=e
    rw [callR_eq gn.nd hn] at e
    exact callN_known (gn.each n hn) e
theorem go_call {rows:List (Str×List Str)}{ns:List Nam}{xs:List Str}(gn:Zbf rows ns) (hx:∀ x∈xs,x∈rows.map (·.1)) {j:Nat}{n:Nam}{ds:List Dt}{sp:List Nat}{call:List Str}(hl:ds.length=n.2.1) (hk:∀ c∈ds,sndN ns xs.length j c=true) (h:goR (fun c i=>runR rows ns xs j c (sp++[i])) ds 0 []=.inr call):Zbz rows n.2.1 call:=by
 have:=go_known (W:=rows.map (·.1)) (fun c hc i x e=>run_known gn hx j c (hk c hc) _ x e) (acc:=[]) (fun x z=>by cases z) h
 exact ⟨by rw [this.2,hl];exact Nat.zero_add _,this.1⟩
end K68
namespace K68
open PySem L2 Md
def spRunCall (C B D:Addr):Sp:=fun vs H Q _=>∃ (p k ts tc:Addr) (rows:List (Str×List Str)) (ns:List Nam) (n:Nam) (sp:List Nat) (c:List Str),vs=[.ref p,.str n.1,.ref ts,.ref tc]∧Zfc C B D H p k rows ns∧Zcr rows∧Zbf rows ns∧n∈ns∧H ts=some (.tup (sp.map Ze6))∧H tc=some (.tup (c.map V.str))∧Zbz rows n.2.1 c ∧
 ∀ (a:Addr) (H':Hp),Zaj H H'→RsV H' (callN rows n sp c) a→Q (.ref a) H'
def spRunP (K:W.Frag) (C B D:Addr) (j:Nat):Sp:=fun vs H Q _=>∃ (p k l ts:Addr) (rows:List (Str×List Str)) (ns:List Nam) (b:Bool) (xs:List Str) (d:Dt) (v:V) (sp:List Nat),vs=[.ref p,.ref l,v,.ref ts]∧Zfc C B D H p k rows ns∧Zcr rows∧Zbf rows ns∧SqB K b H l (xs.map V.str)∧(∀ x∈xs,x∈rows.map (·.1))∧TmV H d v∧sndN ns xs.length j d=true∧H ts=some (.tup (sp.map Ze6))∧sp.length + j≤50 ∧
 ∀ (a:Addr) (H':Hp),Zaj H H'→RsV H' (runR rows ns xs j d sp) a→Q (.ref a) H'
def spCkTerm (K:W.Frag) (C B D:Addr):Sp:=fun vs H Q _=>∃ (p k l:Addr) (rows:List (Str×List Str)) (ns:List Nam) (b:Bool) (xs:List Str) (d:Dt) (v:V),vs=[.ref p,.ref l,v]∧Zfc C B D H p k rows ns∧Zcr rows∧Zbf rows ns∧SqB K b H l (xs.map V.str)∧xs.length≤12∧(∀ x∈xs,x∈rows.map (·.1)) ∧
 TmV H d v∧Wf d∧(∀ i,(lvl i [d]).length≤1000)∧termB ns xs.length d=true∧∀ H',Zaj H H'→Q .non H'
theorem ne_nd:¬ (V.str "none"=V.str "deed"):=fun z=>by injection z with z;exact absurd z (by decide +kernel)
theorem ne_cd:¬ (V.str "clash"=V.str "deed"):=fun z=>by injection z with z;exact absurd z (by decide +kernel)
theorem sBV_ne (b:Bool):¬ (V.str (sB b)=V.str "kind"):=fun z=>by injection z with z;exact sB_ne b z
section
variable {P:Program} {w:World} {K:W.Frag} {mg:Str→Option Value} {base:Heap}
abbrev nRC:List Str:=["book","word","spot","call","answer"]
abbrev pRC:List Str:=["book","word","spot","call"]
theorem scRC:Zai nRC pRC (Zad s_run_call):=⟨rfl,rfl,rfl,by decide +kernel,rfl,by decide +kernel,by decide +kernel⟩
theorem ok_runcall {f C B D fT fB fM fC:Addr}{fd fdT fdB fdM fdC:FuncData}(F:Def K mg "run_call" s_run_call pRC f fd) (TD:TxtKn K D) (list:mg "list"=none)
  (DT:Def K mg "told" s_told ["board","call"] fT fdT) (GT:Zar P w K mg base CX0 8 fT fdT ["board","call"] (spTold C B)) (MB:MKBoard K D fB fdB) (MM:MKMakes K D fM fdM) (MC:MKCheck K D fC fdC):Zar P w K mg base CX0 9 f fd pRC (spRunCall C B D):=by
 have GB:Zar P w K mg base CX0 2 fB fdB ["self","word"] (spKBoard C B D):=ok_kboard MB.fn TD MC
 have GM:Zar P w K mg base CX0 2 fM fdM ["self","word"] (spKMakes C B D):=ok_kmakes MM.fn TD MC list
 refine F.fn.ok scRC (fun vs H Q E h=>?_) (fun cdv A outer s H vs Q E hr h=>?_)
 ·obtain ⟨p,k,ts,tc,rows,ns,n,sp,c,rfl,_⟩:=h
  rfl
 ·obtain ⟨p,k,ts,tc,rows,ns,n,sp,c,rfl,bk,g,gn,hn,hts,htc,gc,q⟩:=h
  have nd:=scRC.nd
  have hr2:Zcm 2 _:=hr.mono (by decide)
  have gnn:=gn.each n hn
  refine' ⟨_,(pS (Zag (i:=4) nd rfl (Or.inl rfl) (Zae DT GT hr (pC (Zc9 (pv 0) TD.cl MB.me GB hr2 MB.b .nil Zde (pC (pv 1) Zaa)) (pC (pv 3) Zaa))))
   (pS (Za4 (Zan Zec (Zaw (r:=Zfm K) Zbb (pv 4) Zaf (fun _ _=>rfl)) Zb3 (Zau _)) (Zac (Zal (Zbm (pC Zb3 (pC (Zaw (r:=rIxL K) Zav (Zc9 (pv 0) TD.cl MM.me GM hr2 MM.b .nil Zde (pC (pv 1) Zaa)) (Zaw (r:=Zfm K) Zbb (pv 4) Zaf (fun _ _=>rfl)) (fun _ _=>rfl)) Zaa))))) Zak)
   (Zac (Zal (Za0 op_catA (Zbm (pC (Zaw (r:=Zfm K) Zbb (pv 4) Zaf (fun _ _=>rfl)) (pC (pv 2) (pC (pv 3) Zaa)))) (Zds (r:=rSlA K) sl_tupA (pv 4) (Zfe Zaf) Zff)))))),?_⟩
  obtain ⟨dx,bo,mo,o,bvs,mvs,h1,_⟩:=bk.ex
  refine ⟨_,rfl,p,dx,_,rfl,h1,no_kboard _ _ _,_,rfl,p,k,rows,ns,n,rfl,bk,gn.nd,hn,fun y bd=>?_⟩
  refine ⟨_,rfl,y,k,tc,rows,n.2.1,_,c,rfl,bd,g,gnn.deeds,gnn.four,htc,gc,fun l H1 hl s1 hl1=>?_⟩
  have lt:=near_lt (rows:=rows) (ds:=n.2.2.map (·.1)) (xs:=c)
  unfold callN at q
  generalize nearL rows (n.2.2.map (·.1)) c=near at q hl1 lt
  rcases told_cases near with ⟨i,rfl⟩ | ⟨b,ks,ev,kl,ec⟩
  ·have li:=lt i (.head _)
   rw [List.length_map] at li
   refine ⟨_,rfl,l,_,_,_,rfl,rfl,SqT.of hl1,at0 _ _,rfl,_,rfl,?_⟩
   rw [decide_eq_true rfl]
   refine iteT ⟨_,rfl,p,dx,_,rfl,s1 _ _ h1,no_kmakes _ _ _,_,rfl,p,k,rows,ns,n,rfl,bk.mono s1,gn.nd,hn,fun lm hlm=>?_⟩
   have s12:Zaj H1 (upd H1 lm (.lst ((n.2.2.map (·.2)).map V.str))):=Zbj hlm
   have hl2:(upd H1 lm (.lst ((n.2.2.map (·.2)).map V.str))) lm=some (.lst ((n.2.2.map (·.2)).map V.str)):=uS
   generalize upd H1 lm (.lst ((n.2.2.map (·.2)).map V.str))=H2 at s12 hl2
   have hi2:(n.2.2.map (·.2))[i]?=some ((n.2.2.map (·.2)).getD i ("":Str)):=by
    rw [List.getD_eq_getElem?_getD,List.getElem?_map,List.getElem?_eq_getElem li]
    rfl
   refine ⟨_,rfl,l,_,_,_,rfl,rfl,SqT.of (s12 _ _ hl1),Za6 (j:=1) rfl,lm,_,_,_,rfl,rfl,SqL.of hl2,Za6 (j:=i) (by rw [List.getElem?_map,hi2];rfl),sL (by show 2≤100000;decide),fun t ht=>q t _ ((s1.trans s12).trans (Zbj ht)) uS⟩
  ·rw [ev] at hl1
   rw [ec] at q
   refine ⟨_,rfl,l,_,_,_,rfl,rfl,SqT.of hl1,at0 _ _,rfl,_,rfl,?_⟩
   rw [decide_eq_false (show ¬ (V.str (sB b)=V.str "deed") from by cases b;exact ne_nd;exact ne_cd)]
   refine Zdv ⟨_,rfl,l,_,_,_,rfl,rfl,SqT.of hl1,at0 _ _,_,rfl,_,rfl,sL (by show 3≤100000;decide),fun t ht=>?_⟩
   have s12:Zaj H1 (upd H1 t (.tup [.str (sB b),.ref ts,.ref tc])):=Zbj ht
   have ht2:(upd H1 t (.tup [.str (sB b),.ref ts,.ref tc])) t=some (.tup [.str (sB b),.ref ts,.ref tc]):=uS
   generalize upd H1 t (.tup [.str (sB b),.ref ts,.ref tc])=H2 at s12 ht2
   refine ⟨_,rfl,_,rfl,?_⟩
   unfold tNoPart
   refine rSlA_of (K:=K) (lo:=some 1) (hi:=none) (s12 _ _ hl1) fun u H3 s23 hu=>?_
   rw [cut1] at hu
   have hu:H3 u=some (.tup (ks.map Ze6)):=hu
   refine rCatA_of (K:=K) (s23 _ _ ht2) hu (sL (by rw [List.length_map];show 3 + _≤_;omega)) fun a H4 s34 ha=>?_
   have s4:=(s1.trans s12).trans (s23.trans s34)
   exact q a H4 s4 ⟨ts,tc,ha,s4 _ _ hts,s4 _ _ htc⟩
abbrev nRP:List Str:=["book","filling","term","spot","made","number","part","answer"]
abbrev pRP:List Str:=["book","filling","term","spot"]
theorem scRP:Zai nRP pRP (Zad s_run_part):=⟨rfl,rfl,rfl,by decide +kernel,rfl,by decide +kernel,by decide +kernel⟩
theorem ok_runp {f C B D fN fC:Addr}{fd fdN fdC:FuncData}(F:Def K mg "run_part" s_run_part pRP f fd) (T:TxtT mg) (enum:mg "enumerate"=none)
  (DN:Def K mg "is_number" Zek ["thing"] fN fdN) (DC:Def K mg "run_call" s_run_call pRC fC fdC) (GC:Zar P w K mg base CX0 9 fC fdC pRC (spRunCall C B D)):
  ∀ j,Zar P w K mg base CX0 (10 + j) f fd pRP (spRunP K C B D j):=by
 intro j
 induction j with
 | zero =>
  refine F.fn.ok scRP (fun vs H Q E h=>?_) (fun cdv A outer s H vs Q E hr h=>?_)
  ·obtain ⟨p,k,l,ts,rows,ns,b,xs,d,v,sp,rfl,_⟩:=h
   rfl
  ·obtain ⟨p,k,l,ts,rows,ns,b,xs,d,v,sp,rfl,_,_,_,_,_,_,z,_⟩:=h
   cases z
 | succ j GS =>
  have GN:Zar P w K mg base CX0 1 fN fdN ["thing"] spIsNum:=ok_isnum DN T
  refine F.fn.ok scRP (fun vs H Q E h=>?_) (fun cdv A outer s H vs Q E hr h=>?_)
  ·obtain ⟨p,k,l,ts,rows,ns,b,xs,d,v,sp,rfl,_⟩:=h
   rfl
  ·obtain ⟨p,k,l,ts,rows,ns,b,xs,d,v,sp,rfl,bk,g,gn,hS,hx,hv,sd,hts,hsp,q⟩:=h
   have nd:=scRP.nd
   have hr1:Zcm 1 _:=hr.mono (show 1≤10 + j by omega)
   have hr9:Zcm 9 _:=hr.mono (show 9≤10 + j by omega)
   refine' ⟨_,(pS (Za4 (Zcz (Zae DN GN hr1 (pC (pv 2) Zaa))) (Zac (Zal (Zbm (pC Zb3 (pC (Zaw (r:=rIx K) ix_seq (pv 1) (pv 2) (fun _ _=>rfl)) Zaa))))) Zak)
   (pS (Zag (i:=4) nd rfl (Or.inl rfl) (Zbn Zaa))
   (pS (Za8 PassesOwn.never rfl (pi_enum (by rfl) enum (pC (Zds (r:=rSlA K) sl_tupA (pv 2) (Zfe Zaf) Zff) Zaa)) (pg_tup rfl (gC (Zah (i:=5) nd rfl (Or.inl rfl)) (gC (Zah (i:=6) nd rfl (Or.inl rfl)) Zd3)))
     (pS (Zag (i:=7) nd rfl (Or.inl rfl) (Zae F GS hr (pC (pv 0) (pC (pv 1) (pC (pv 6) (pC (Za0 op_catA (pv 3) (Zbm (pC (pv 5) Zaa))) Zaa))))))
   (pS (Za4 (Zan op_ne (Zaw (r:=Zfm K) Zbb (pv 7) Zaf (fun _ _=>rfl)) Zb3 (Zau _)) (Zac (Zal (pv 7))) Zak)
   (Zac (Za3 (Zfo PySem.F.plainAttrs_list PySem.F.slot_list_append PySem.F.type_list_append Zbv (pv 4) (pC (Zaw (r:=Zfm K) Zbb (pv 7) Zaf (fun _ _=>rfl)) Zaa)))))))
   (Zac (Zal (Zae DC GC hr9 (pC (pv 0) (pC (Zaw (r:=Zfm K) Zbb (pv 2) Zaf (fun _ _=>rfl)) (pC (pv 3) (pC (Zbd Zbe (by rfl) T.tuple PyProof.Rows.boot_tuple (pC (pv 4) Zaa)) Zaa)))))))))),?_⟩
   rcases snd_inv sd with ⟨i,rfl,hi⟩ | ⟨n,hn,ds,rfl,hl,hk⟩
   ·cases hv
    refine ⟨_,rfl,.int i,_,rfl,.int _,_,rfl,iteT ⟨_,rfl,_,rfl,?_⟩⟩
    have ea:atI (xs.map V.str) (i:Int)=some (.str (xs.getD i ("":Str))):=Za6 (by
     rw [List.getElem?_map,List.getD_eq_getElem?_getD,List.getElem?_eq_getElem hi]
     rfl)
    cases b with
    | true=>exact .inl ⟨l,_,_,_,rfl,rfl,hS,ea,sL (by show 2≤100000;decide),fun t ht=>q t _ (Zbj ht) uS⟩
    | false=>exact .inr (.inl ⟨l,_,_,_,rfl,rfl,hS,ea,sL (by show 2≤100000;decide),fun t ht=>q t _ (Zbj ht) uS⟩)
   ·cases hv with
    | @tup a vs _ ha ht =>
    cases ht with
    | @cons _ _ v0 vs h0 ht =>
    cases h0
    have gnn:=gn.each n hn
    have n4:=gnn.four
    rw [run_tup] at q
    refine ⟨_,rfl,.tuple (.str n.1 :: ds),_,rfl,.tup ha (.cons (.str _ (word_ok gnn.word)) ht),_,rfl,Zdv ⟨Nat.zero_le _,fun lm hlm=>?_⟩⟩
    have s1:Zaj H (upd H lm (.lst [])):=Zbj hlm
    have hm1:(upd H lm (.lst [])) lm=some (.lst []):=uS
    generalize upd H lm (.lst [])=H1 at s1 hm1
    refine ⟨_,rfl,_,rfl,?_⟩
    unfold tNoPart
    refine rSlA_of (K:=K) (lo:=some 1) (hi:=none) (s1 _ _ ha) fun t2 H2 s12 ht2=>?_
    rw [cut1] at ht2
    have ht2:H2 t2=some (.tup vs):=ht2
    have s2:=s1.trans s12
    have hm2:=s12 _ _ hm1
    have vl:=ht.length
    have tm:t2≠lm:=fun z=>by rw [z,hm2] at ht2;cases ht2
    refine ⟨false,t2,vs,rfl,SqT.of ht2,for_pairs (fun i σ H'=>∃ (mk:List Str) (x5 x6 x7:Option V),σ=[some (.ref p),some (.ref l),some (.ref a),some (.ref ts),some (.ref lm),x5,x6,x7]∧Zaj H H'∧H' t2=some (.tup vs)∧H' lm=some (.lst (mk.map V.str))∧mk.length=i∧goR (fun c i=>runR rows ns xs j c (sp++[i])) (ds.drop i) i mk=goR (fun c i=>runR rows ns xs j c (sp++[i])) ds 0 [])
     ⟨[],none,none,none,rfl,s2,ht2,hm2,rfl,rfl⟩ (fun i σ H' _ ⟨_,_,_,_,_,_,h,_⟩=>SqT.of h) ?_ ?_⟩
    ·rintro i pr t σ H3 hi ⟨mk,x5,x6,x7,rfl,s3,ht3,hm3,ml,hg⟩ ht0
     obtain ⟨e1,hi⟩:=enumV_get hi
     obtain ⟨c,hc,hvc⟩:=ht.at_ hi
     have hcm:=List.mem_of_getElem? hc
     have il:i<ds.length:=(List.getElem?_eq_some_iff.mp hc).1
     refine g2_new ?_
     have s34:Zaj H3 (upd H3 t (.tup [pr.1,pr.2])):=Zbj ht0
     generalize upd H3 t (.tup [pr.1,pr.2])=H4 at s34
     rw [e1]
     have s4:=s3.trans s34
     refine ⟨_,rfl,_,rfl,_,rfl,_,rfl,_,rfl,sL (by show 1≤100000;decide),fun t5 ht5=>?_⟩
     have s45:Zaj H4 (upd H4 t5 (.tup [.int i])):=Zbj ht5
     have h55:(upd H4 t5 (.tup [.int i])) t5=some (.tup [.int i]):=uS
     generalize upd H4 t5 (.tup [.int i])=H5 at s45 h55
     have s5:=s4.trans s45
     refine rCatA_of (K:=K) (s5 _ _ hts) h55 (sL (by rw [List.length_map];show _ + 1≤_;omega)) fun t6 H6 s56 ht6=>?_
     have s6:=s5.trans s56
     have e6:sp.map Ze6++[.int (i:Int)]=(sp++[i]).map Ze6:=by rw [List.map_append];rfl
     rw [e6] at ht6
     refine ⟨p,k,l,t6,rows,ns,b,xs,c,pr.2,sp++[i],rfl,bk.mono s6,g,gn,hS.mono s6,hx,hvc.keep (Zct s6),hk c hcm,ht6,by rw [List.length_append,List.length_singleton];omega,fun ar H7 s67 hr7=>?_⟩
     have s36:=(s34.trans s45).trans s56
     have s37:=s36.trans s67
     have s7:=s3.trans s37
     have ed:ds.drop i=c :: ds.drop (i + 1):=by
      rw [List.drop_eq_getElem_cons il]
      rw [List.getElem?_eq_getElem il] at hc
      rw [Option.some.inj hc]
     rw [ed] at hg
     cases hrr:runR rows ns xs j c (sp++[i]) with
     | kind x =>
      rw [go_k (f:=fun c i=>runR rows ns xs j c (sp++[i])) hrr] at hg
      rw [hrr] at hr7
      have hr7:H7 ar=some (.tup [.str "kind",.str x]):=hr7
      refine ⟨_,rfl,ar,_,_,_,rfl,rfl,SqT.of hr7,at0 _ _,rfl,_,rfl,?_⟩
      rw [decide_eq_true rfl]
      have hm7:=s37 _ _ hm3
      refine Zdv ⟨_,rfl,.inl ⟨rfl,_,SqL.of hm7⟩,_,rfl,ar,_,_,_,rfl,rfl,SqT.of hr7,Za6 (j:=1) rfl,lm,_,_,rfl,rfl,hm7,Za1 (by rw [List.length_map];omega),mk++[x],_,_,_,rfl,fun b o e=>by rw [Zab (nNo e hlm)];exact s7 _ _ e,by rw [Zab tm];exact s37 _ _ ht3,by rw [uS,List.map_append];rfl,by rw [List.length_append,ml];rfl,hg⟩
     | bad b' sp' cl ks =>
      rw [go_b (f:=fun c i=>runR rows ns xs j c (sp++[i])) hrr] at hg
      rw [hrr] at hr7
      obtain ⟨u1,u2,hb1,hb2,hb3⟩:=hr7
      refine ⟨_,rfl,ar,_,_,_,rfl,rfl,SqT.of hb1,at0 _ _,rfl,_,rfl,?_⟩
      rw [decide_eq_false (sBV_ne b')]
      rw [← hg] at q
      exact iteT ⟨_,rfl,q ar H7 s7 ⟨u1,u2,hb1,hb2,hb3⟩⟩
    ·rintro σ H3 ⟨mk,x5,x6,x7,rfl,s3,ht3,hm3,ml,hg⟩
     rw [Zer,← vl,List.drop_length] at hg
     have hg:(Sum.inr mk:Sum Rs (List Str))=_:=hg
     refine ⟨_,rfl,_,rfl,a,_,_,_,rfl,rfl,SqT.of (s3 _ _ ha),at0 _ _,_,rfl,_,rfl,lm,_,rfl,.inl ⟨SqL.of hm3,fun tc htc=>?_⟩⟩
     have s34:Zaj H3 (upd H3 tc (.tup (mk.map V.str))):=Zbj htc
     have hc4:(upd H3 tc (.tup (mk.map V.str))) tc=some (.tup (mk.map V.str)):=uS
     generalize upd H3 tc (.tup (mk.map V.str))=H4 at s34 hc4
     have s4:=s3.trans s34
     rw [← hg] at q
     refine ⟨p,k,ts,tc,rows,ns,n,sp,mk,rfl,bk.mono s4,g,gn,hn,s4 _ _ hts,hc4,go_call gn hx hl hk hg.symm,fun ar H5 s45 hr5=>q ar H5 (s4.trans s45) ?_⟩
     show RsV H5 (callR rows ns n.1 sp mk) ar
     rw [callR_eq gn.nd hn]
     exact hr5
theorem scCkT:Zai ["book","filling","term"] ["book","filling","term"] (Zad Zeu):=⟨rfl,rfl,rfl,by decide +kernel,rfl,by decide +kernel,by decide +kernel⟩
theorem ok_ckterm {f C B D fI:Addr}{fd fdI:FuncData}(F:Def K mg "check_term" Zeu ["book","filling","term"] f fd) (DI:Def K mg "is_term" s_is_term ["book","filling","term"] fI fdI) (GI:Zar P w K mg base CX0 17 fI fdI ["book","filling","term"] (spIsTerm K C B D)):Zar P w K mg base CX0 18 f fd ["book","filling","term"] (spCkTerm K C B D):=by
 refine F.fn.ok scCkT (fun vs H Q E h=>?_) (fun cdv A outer s H vs Q E hr h=>?_)
 ·obtain ⟨p,k,l,rows,ns,b,xs,d,v,rfl,_⟩:=h
  rfl
 ·obtain ⟨p,k,l,rows,ns,b,xs,d,v,rfl,bk,g,gn,hS,hl,hx,hv,wf,lz,ht,q⟩:=h
  refine' ⟨_,Zac (Za4 (Zc8 (Zcz (Zae DI GI hr (pC (pv 0) (pC (pv 1) (pC (pv 2) Zaa)))))) Za5 Zak),?_⟩
  refine ⟨_,rfl,_,rfl,_,rfl,p,k,l,rows,ns,b,xs,d,v,rfl,bk,g,gn,hS,hl,hx,hv,wf,lz,fun H1 s1=>⟨_,rfl,?_⟩⟩
  rw [ht]
  exact Zdv (q H1 s1)
end
end K68
namespace K68
open PySem L2 Md
theorem go_fine {f:Dt→Nat→Rs}{G:Rs→Prop}:∀ {ds:List Dt}{i:Nat}{acc:List Str}{r:Rs},(∀ c∈ds,∀ i,G (f c i))→goR f ds i acc=.inl r→G r
 | [],i,acc,r,_,h=>by cases h
 | c :: cs,i,acc,r,hf,h=>by
  cases hc:f c i with
  | bad b sp cl ks=>rw [go_b hc] at h;injection h with h;rw [← h,← hc];exact hf c (.head _) i
  | kind x=>rw [go_k hc] at h;exact go_fine (fun c hc=>hf c (.tail _ hc)) h
def RsG (rows:List (Str×List Str)):Rs→Prop
 | .kind x=>x∈rows.map (·.1)
 | .bad _ sp c ks=>sp.length≤50∧ks.length≤2∧∀ x∈c,x∈rows.map (·.1)
theorem run_fine {rows:List (Str×List Str)}{ns:List Nam}{xs:List Str}(gn:Zbf rows ns) (hx:∀ x∈xs,x∈rows.map (·.1)):∀ (j:Nat) (d:Dt),sndN ns xs.length j d=true→∀ sp:List Nat,sp.length + j≤50→RsG rows (runR rows ns xs j d sp)
 | 0,d,h,sp,hs=>by cases h
 | j + 1,d,h,sp,hs=>by
  rcases snd_inv h with ⟨i,rfl,hi⟩ | ⟨n,hn,ds,rfl,hl,hk⟩
  ·exact run_known gn hx (j + 1) _ h sp _ rfl
  ·rw [run_tup]
   cases hg:goR (fun c i=>runR rows ns xs j c (sp++[i])) ds 0 [] with
   | inl r=>exact go_fine (fun c hc i=>run_fine gn hx j c (hk c hc) _ (by rw [List.length_append,List.length_singleton];omega)) hg
   | inr call =>
    show RsG rows (callR rows ns n.1 sp call)
    rw [callR_eq gn.nd hn]
    rcases told_cases (nearL rows (n.2.2.map (·.1)) call) with ⟨i,e⟩ | ⟨b,ks,ev,kl,ec⟩
    ·have:callN rows n sp call=.kind ((n.2.2.map (·.2)).getD i ("":Str)):=by unfold callN;rw [e];rfl
     rw [this]
     exact callN_known (gn.each n hn) this
    ·unfold callN
     rw [ec]
     exact ⟨by omega,kl,(go_call gn hx hl hk hg).known⟩
theorem ok_natsT (n:Nat) (ns:List Nat):(ns.map natD).all (W.kqdOk n)=true:=by
 rw [List.all_eq_true]
 intro z hz
 obtain ⟨k,_,rfl⟩:=List.mem_map.mp hz
 exact ok_nat n k
theorem ok_sB (n:Nat) (b:Bool):W.kqdOk n (.str (sB b))=true:=by
 cases b
 ·exact ok_sN n
 ·exact ok_sC n
theorem ok_sK (n:Nat):W.kqdOk n (.str "kind")=true:=by rw [W.kqdOk];decide +kernel
theorem nil_lvl:∀ k,lvl k []=[]
 | 0=>Zcc _
 | k + 1=>by rw [Zdu,nil_lvl k];rfl
theorem snd_lvl {ns:List Nam}{m:Nat}:∀ (j:Nat) (d:Dt),sndN ns m j d=true→lvl j [d]=[]
 | 0,d,h=>by cases h
 | j + 1,d,h=>by
  rw [lvl_in,kids_one]
  have all:∀ l:List Dt,(∀ c∈l,sndN ns m j c=true)→lvl j l=[]:=fun l=>by
   induction l with
   | nil=>exact fun _=>nil_lvl j
   | cons c r ih =>
    intro hc
    rw [show c :: r=[c]++r from rfl,Zc0,snd_lvl j c (hc c (.head _)),ih fun c h=>hc c (.tail _ h)]
    rfl
  rcases snd_inv h with ⟨i,rfl,hi⟩ | ⟨n,hn,ds,rfl,hl,hk⟩
  ·exact all [] fun _ h=>nomatch h
  ·exact all ds hk
theorem term_true {ns:List Nam}{m:Nat}{d:Dt}(h:sndN ns m 12 d=true) (hc:∀ k,cntL k [d]≤40):termB ns m d=true:=by
 unfold termB smallB
 rw [snd_lvl 12 d h,decide_eq_true (hc 12),h]
 rfl
theorem dr_wf1 {d:Dt}(h:Dr [d]):Wf d:=fun k e he=>by
 have:=h k e he
 match e,this with
 | .int _,_=>rfl
 | .tuple (.str _ :: _ :: _),_=>rfl
def SnV (H:Hp):Rs→Addr→Prop
 | .kind x,a=>H a=some (.tup [.str "kind",.str x])
 | .bad b _ _ ks,a=>H a=some (.tup (.str (sB b):: ks.map Ze6))
def spSeen:Sp:=fun vs H Q _=>∃ (aa ln tc:Addr) (rows:List (Str×List Str)) (avs:List (Key×V)) (ns:List Nam) (us:List V) (n:Nam) (c:List Str),vs=[.ref aa,.ref ln,.str n.1,.ref tc]∧Zcr rows∧H aa=some (.dK avs)∧Zbt H rows rows avs∧H ln=some (.lst us)∧Zfb H ns us∧Zbf rows ns∧n∈ns∧H tc=some (.tup (c.map V.str))∧Zbz rows n.2.1 c ∧
 ∀ (a:Addr) (H':Hp),Zaj H H'→(∀ sp,SnV H' (callN rows n sp c) a)→Q (.ref a) H'
theorem pairs_comp {J:It}{vs:List V}{Ok:Hp→Prop}(R:Runs J vs Ok) {te:TE}{σ:St}{Q:VK}{H1:Hp}{ps:List (List Str×Str)}(hz:vs.length≤1000) (hp:PrsV H1 ps vs) (hok:∀ H,Zaj H1 H→Ok H)
  (he:∀ (t tc:Addr) (y:V) H' (R:VK),H' t=some (.tup [.ref tc,y])→R (.ref tc) H'→te [some (.ref t)] H' R)
  (hd:∀ D us H',H1 D=none→Zaj H1 H'→H' D=some (.lst us)→Za2 H' (ps.map (·.1)) us→Q (.ref D) H'):compBody 1 [] (gName 0) tTrue te σ Q J H1:=by
 refine Ze8 R (sL (by omega)) (fun _=>true) (fun _ x v _=>v=fsP H1 x) (fun _ _ _ _ _ _ h=>h) hok ?_ ?_ ?_
 ·intro x H3 R _ _ hR'
  exact hR' H3 (Zaj.refl _)
 ·intro D x H3 R s3 _ _ hx _ hR'
  obtain ⟨i,hi⟩:=List.mem_iff_getElem?.mp hx
  obtain ⟨p,hp',t,tc,rfl,ht,hu'⟩:=Zas hp hi
  exact he t tc _ H3 R (s3 _ _ ht) (hR' _ _ (Zaj.refl _) (fsP_at ht).symm)
 ·intro D H3 ys hD s23 hlD hpD
  rw [List.filter_eq_self.mpr (fun _ _=>rfl)] at hpD
  rw [paired_eq hpD] at hlD
  exact hd D _ H3 hD s23 hlD ((pairs_fst hp).mono s23)
theorem nd_pair:(["pair"]:List Str).Nodup:=by decide +kernel
theorem nam_eq {ns:List Nam}(nd:(ns.map (·.1)).Nodup) {a b:Nam}(ha:a∈ns) (hb:b∈ns) (e:a.1=b.1):a=b:=by
 have h1:=find_nam nd ha
 have h2:=find_nam nd hb
 rw [e] at h1
 rw [h1] at h2
 exact Option.some.inj h2
section
variable {P:Program} {w:World} {K:W.Frag} {mg:Str→Option Value} {base:Heap}
abbrev nSe:List Str:=["above","names","word","call","pairs","name","seen"]
abbrev pSe:List Str:=["above","names","word","call"]
theorem scSe:Zai nSe pSe (Zad Zel):=⟨rfl,rfl,rfl,by decide +kernel,rfl,by decide +kernel,by decide +kernel⟩
theorem ok_seen {f fT:Addr}{fd fdT:FuncData}(F:Def K mg "_law_seen" Zel pSe f fd) (DT:Def K mg "_law_told" Zfu ["above","deeds","call"] fT fdT) (GT:Zar P w K mg base CX0 3 fT fdT ["above","deeds","call"] spLTold):Zar P w K mg base CX0 4 f fd pSe spSeen:=by
 refine F.fn.ok scSe (fun vs H Q E h=>?_) (fun cdv A outer s H vs Q E hr h=>?_)
 ·obtain ⟨aa,ln,tc,rows,avs,ns,us,n,c,rfl,_⟩:=h
  rfl
 ·obtain ⟨aa,ln,tc,rows,avs,ns,us,n,c,rfl,g,haa,hA,hln,hN,gn,hn,htc,gc,q⟩:=h
  have nd:=scSe.nd
  have gnn:=gn.each n hn
  refine' ⟨_,(pS (Zag (i:=4) nd rfl (Or.inl rfl) (Zbm Zaa))
   (pS (Za8 PassesOwn.never rfl (Za7 (pv 1)) (Zah (i:=5) nd rfl (Or.inl rfl))
    (Zac (Za4 (Zan Zec (Zaw (r:=Zfm K) Zbb (pv 5) Zaf (fun _ _=>rfl)) (pv 2) (Zau _)) (Zac (Zag (i:=4) nd rfl (Or.inl rfl) (Zaw (r:=Zfm K) Zbb (pv 5) Zaf (fun _ _=>rfl)))) Zak)))
   (pS (Zag (i:=6) nd rfl (Or.inl rfl) (Zae DT GT hr (pC (pv 0) (pC ?eC (pC (pv 3) Zaa)))))
   (pS (Za4 (Zan Zec (Zaw (r:=Zfm K) Zbb (pv 6) Zaf (fun _ _=>rfl)) Zb3 (Zau _)) (Zac (Zal (Zbm (pC Zb3 (pC (Zaw (r:=Zfm K) Zbb (Zaw (r:=Zfm K) Zbb (pv 4) (Zaw (r:=Zfm K) Zbb (pv 6) Zaf (fun _ _=>rfl)) (fun _ _=>rfl)) Zaf (fun _ _=>rfl)) Zaa))))) Zak)
   (Zac (Zal (pv 6))))))),?_⟩
  case eC=>exact (Zbl ["pair"] [] [] (fun _=>Zax (osc:=Zad Zel) (on:=nSe) (by decide +kernel) rfl rfl rfl) (pi_tup (pv 4)) (fun C s H fp=>Zah (i:=0) nd_pair rfl (Or.inl rfl) (Or.inr rfl)) (fun C s H fp=>Zbw) (fun C s H fp=>Zaw (r:=Zfm K) Zbb (pv 0) Zaf (fun _ _=>rfl)))
  refine ⟨Nat.zero_le _,fun t0 ht0=>?_⟩
  have s1:Zaj H (upd H t0 (.tup [])):=Zbj ht0
  have h01:(upd H t0 (.tup [])) t0=some (.tup []):=uS
  generalize upd H t0 (.tup [])=H1 at s1 h01
  obtain ⟨m,hm⟩:=List.getElem?_of_mem hn
  refine ⟨_,rfl,ln,rfl,⟨_,SqL.of (s1 _ _ hln)⟩,Zaq (Zat (xs:=us)) (fun i σ H'=>∃ (tp:Addr) (vs:List V) (x5:Option V),σ=[some (.ref aa),some (.ref ln),some (.str n.1),some (.ref tc),some (.ref tp),x5,none]∧H'=H1∧H1 tp=some (.tup vs)∧(m<i→PrsV H1 n.2.2 vs))
   ⟨t0,[],none,rfl,rfl,h01,fun h=>absurd h (Nat.not_lt_zero _)⟩ (fun i σ H' _ ⟨_,_,_,_,e,_⟩=>by rw [e];exact SqL.of (s1 _ _ hln)) ?_ ?_⟩
  ·rintro i v σ H' hi ⟨tp,vs,x5,rfl,e,htp,hps⟩
   have e:=e.symm
   subst e
   obtain ⟨n',hn',t,tp',vs',rfl,ht,htp',hP⟩:=Zas hN hi
   refine ⟨_,rfl,t,_,_,_,rfl,rfl,SqT.of (s1 _ _ ht),at0 _ _,_,rfl,rfl,_,rfl,Zed (fun z=>?_) (fun z=>?_)⟩
   ·have z:=of_decide_eq_true z
    injection z with z
    have en:n'=n:=nam_eq gn.nd (List.mem_of_getElem? hn') hn z
    subst en
    exact ⟨_,rfl,t,_,_,_,rfl,rfl,SqT.of (s1 _ _ ht),Za6 (j:=2) rfl,tp',vs',_,rfl,rfl,s1 _ _ htp',fun _=>hP.mono (Zct s1)⟩
   ·refine ⟨tp,vs,_,rfl,rfl,htp,fun h=>hps (Nat.lt_of_le_of_ne (Nat.le_of_lt_succ h) fun e=>z ?_)⟩
    rw [← e,hm] at hn'
    rw [Option.some.inj hn']
    exact decide_eq_true rfl
  ·rintro σ H' ⟨tp,vs,x5,rfl,e,htp,hps⟩
   have e:=e.symm
   subst e
   have hP:=hps (by have:=Paired.length hN;have:=(List.getElem?_eq_some_iff.mp hm).1;omega)
   have pl:=Paired.length hP
   have pf:=gnn.deeds.few
   rw [List.length_map] at pf
   refine ⟨_,rfl,_,rfl,tp,rfl,⟨_,SqT.of htp⟩,pairs_comp (Zc7 (xs:=vs)) (by omega) hP (fun H' s=>SqT.of (s _ _ htp)) ?_ fun ld us2 H2 hld s12 hld2 hD2=>?_⟩
   ·intro t tc y H' R ht hR
    exact ⟨_,rfl,t,_,_,_,rfl,rfl,SqT.of ht,at0 _ _,hR⟩
   have s2:=s1.trans s12
   refine ⟨_,rfl,aa,ld,tc,n.2.1,rows,avs,_,us2,c,rfl,g,s2 _ _ haa,hA.mono (fun _ _ e=>s2 _ _ e),hld2,hD2,gnn.deeds,s2 _ _ htc,gc,gnn.four,fun l H3 hl s23 hl3=>?_⟩
   have s3:=s2.trans s23
   have lt:=near_lt (rows:=rows) (ds:=n.2.2.map (·.1)) (xs:=c)
   unfold callN at q
   generalize nearL rows (n.2.2.map (·.1)) c=near at q hl3 lt
   rcases told_cases near with ⟨i,rfl⟩ | ⟨b,ks,ev,kl,ec⟩
   ·have li:=lt i (.head _)
    rw [List.length_map] at li
    refine ⟨_,rfl,l,_,_,_,rfl,rfl,SqT.of hl3,at0 _ _,rfl,_,rfl,?_⟩
    rw [decide_eq_true rfl]
    have hv:vs[i]?=some vs[i]:=List.getElem?_eq_getElem (by omega)
    obtain ⟨pr,hpr,t,tc',e,ht,htc'⟩:=Zas hP hv
    have s13:=s12.trans s23
    refine iteT ⟨_,rfl,_,rfl,l,_,_,_,rfl,rfl,SqT.of hl3,Za6 (j:=1) rfl,tp,_,_,_,rfl,rfl,SqT.of (s13 _ _ htp),Za6 (j:=i) hv,t,_,_,_,e,rfl,SqT.of (s13 _ _ ht),Za6 (j:=1) rfl,sL (by show 2≤100000;decide),fun t ht=>q t _ (s3.trans (Zbj ht)) fun sp=>?_⟩
    have ek:(n.2.2.map (·.2)).getD i ("":Str)=pr.2:=by
     rw [List.getD_eq_getElem?_getD,List.getElem?_map,hpr]
     rfl
    show (upd H3 t (.tup [.str "kind",.str pr.2])) t=some (.tup [.str "kind",.str ((n.2.2.map (·.2)).getD i ("":Str))])
    rw [ek]
    exact uS
   ·rw [ev] at hl3
    refine ⟨_,rfl,l,_,_,_,rfl,rfl,SqT.of hl3,at0 _ _,rfl,_,rfl,?_⟩
    rw [decide_eq_false (show ¬ (V.str (sB b)=V.str "deed") from by cases b;exact ne_nd;exact ne_cd)]
    exact Zdv ⟨_,rfl,q l H3 s3 fun sp=>by rw [ec];exact hl3⟩
end
end K68
namespace K68
open PySem L2 Md
def spRan (K:W.Frag) (j:Nat):Sp:=fun vs H Q _=>∃ (aa ln l ts:Addr) (rows:List (Str×List Str)) (avs:List (Key×V)) (ns:List Nam) (us:List V) (b:Bool) (xs:List Str) (d:Dt) (v:V) (sp:List Nat),vs=[.ref aa,.ref ln,.ref l,v,.ref ts]∧Zcr rows∧H aa=some (.dK avs)∧Zbt H rows rows avs∧H ln=some (.lst us)∧Zfb H ns us∧Zbf rows ns∧SqB K b H l (xs.map V.str)∧(∀ x∈xs,x∈rows.map (·.1))∧TmV H d v∧sndN ns xs.length j d=true∧H ts=some (.tup (sp.map Ze6))∧sp.length + j≤50 ∧
 ∀ (a:Addr) (H':Hp),Zaj H H'→RsV H' (runR rows ns xs j d sp) a→Q (.ref a) H'
structure TxtRn (mg:Str→Option Value):Prop where
 isi:mg "isinstance"=none
 int:mg "int"=none
 bool:mg "bool"=none
 tuple:mg "tuple"=none
 len:mg "len"=none
 range:mg "range"=none
 all:mg "all"=none
section
variable {P:Program} {w:World} {K:W.Frag} {mg:Str→Option Value} {base:Heap}
abbrev nRa:List Str:=["above","names","filling","term","spot","call","k","part","seen"]
abbrev pRa:List Str:=["above","names","filling","term","spot"]
theorem scRa:Zai nRa pRa (Zad s__law_ran):=⟨rfl,rfl,rfl,by decide +kernel,rfl,by decide +kernel,by decide +kernel⟩
theorem ok_ran {f fS:Addr}{fd fdS:FuncData}(F:Def K mg "_law_ran" s__law_ran pRa f fd) (T:TxtRn mg) (DS:Def K mg "_law_seen" Zel pSe fS fdS) (GSe:Zar P w K mg base CX0 4 fS fdS pSe spSeen):
  ∀ j,Zar P w K mg base CX0 (5 + j) f fd pRa (spRan K j):=by
 intro j
 induction j with
 | zero =>
  refine F.fn.ok scRa (fun vs H Q E h=>?_) (fun cdv A outer s H vs Q E hr h=>?_)
  ·obtain ⟨aa,ln,l,ts,rows,avs,ns,us,b,xs,d,v,sp,rfl,_⟩:=h
   rfl
  ·obtain ⟨aa,ln,l,ts,rows,avs,ns,us,b,xs,d,v,sp,rfl,_,_,_,_,_,_,_,_,_,z,_⟩:=h
   cases z
 | succ j GS =>
  refine F.fn.ok scRa (fun vs H Q E h=>?_) (fun cdv A outer s H vs Q E hr h=>?_)
  ·obtain ⟨aa,ln,l,ts,rows,avs,ns,us,b,xs,d,v,sp,rfl,_⟩:=h
   rfl
  ·obtain ⟨aa,ln,l,ts,rows,avs,ns,us,b,xs,d,v,sp,rfl,g,haa,hA,hln,hN,gn,hS,hx,hv,sd,hts,hsp,q⟩:=h
   have nd:=scRa.nd
   have hr4:Zcm 4 _:=hr.mono (show 4≤5 + j by omega)
   refine' ⟨_,(pS (Za4 (Zc8 (Zcz (Zam call_isi (by rfl) T.isi PyProof.Rows.boot_isinstance (pC (pv 3) (pC (pe_bltn (v:=.ty "tuple") (by rfl) T.tuple PyProof.Rows.boot_tuple rfl) Zaa))))) (Zac (Zal (Zbm (pC Zb3 (pC (Zaw (r:=rIx K) ix_seq (pv 2) (pv 3) (fun _ _=>rfl)) Zaa))))) Zak)
   (pS (Zag (i:=5) nd rfl (Or.inl rfl) (Zbm Zaa))
   (pS (Za8 PassesOwn.never rfl (Zbu (by rfl) T.range (pC (Za0 op_sub (Zam Zao (by rfl) T.len PySem.boot_len (pC (pv 3) Zaa)) Zaf) Zaa)) (Zah (i:=6) nd rfl (Or.inl rfl))
     (pS (Zag (i:=7) nd rfl (Or.inl rfl) (Zae F GS hr (pC (pv 0) (pC (pv 1) (pC (pv 2) (pC (Zaw (r:=Zfm K) Zbb (pv 3) (Za0 Zck (pv 6) Zaf) (fun _ _=>rfl)) (pC (Za0 op_catA (pv 4) (Zbm (pC (pv 6) Zaa))) Zaa)))))))
   (pS (Za4 (Zan op_ne (Zaw (r:=Zfm K) Zbb (pv 7) Zaf (fun _ _=>rfl)) Zb3 (Zau _)) (Zac (Zal (pv 7))) Zak)
   (Zac (Zag (i:=5) nd rfl (Or.inl rfl) (Za0 op_catA (pv 5) (Zbm (pC (Zaw (r:=Zfm K) Zbb (pv 7) Zaf (fun _ _=>rfl)) Zaa))))))))
   (pS (Zag (i:=8) nd rfl (Or.inl rfl) (Zae DS GSe hr4 (pC (pv 0) (pC (pv 1) (pC (Zaw (r:=Zfm K) Zbb (pv 3) Zaf (fun _ _=>rfl)) (pC (pv 5) Zaa))))))
   (pS (Za4 (Zan Zec (Zaw (r:=Zfm K) Zbb (pv 8) Zaf (fun _ _=>rfl)) Zb3 (Zau _)) (Zac (Zal (pv 8))) Zak)
   (Zac (Zal (Za0 op_catA (Zbm (pC (Zaw (r:=Zfm K) Zbb (pv 8) Zaf (fun _ _=>rfl)) (pC (pv 4) (pC (pv 5) Zaa)))) (Zds (r:=rSlA K) sl_tupA (pv 8) (Zfe Zaf) Zff))))))))),?_⟩
   rcases snd_inv sd with ⟨i,rfl,hi⟩ | ⟨n,hn,ds,rfl,hl,hk⟩
   ·cases hv
    have ea:atI (xs.map V.str) (i:Int)=some (.str (xs.getD i ("":Str))):=Za6 (by
     rw [List.getElem?_map,List.getD_eq_getElem?_getD,List.getElem?_eq_getElem hi]
     rfl)
    refine ⟨_,rfl,_,_,_,_,rfl,.int _,rfl,_,rfl,iteT ⟨_,rfl,_,rfl,?_⟩⟩
    cases b with
    | true=>exact .inl ⟨l,_,_,_,rfl,rfl,hS,ea,sL (by show 2≤100000;decide),fun t ht=>q t _ (Zbj ht) uS⟩
    | false=>exact .inr (.inl ⟨l,_,_,_,rfl,rfl,hS,ea,sL (by show 2≤100000;decide),fun t ht=>q t _ (Zbj ht) uS⟩)
   ·cases hv with
    | @tup a vs _ ha ht =>
    cases ht with
    | @cons _ _ v0 vs h0 ht =>
    cases h0
    have gnn:=gn.each n hn
    have n4:=gnn.four
    rw [run_tup] at q
    refine ⟨_,rfl,_,_,_,_,rfl,.tup ha,rfl,_,rfl,Zdv ⟨Nat.zero_le _,fun t1 ht1=>?_⟩⟩
    have s1:Zaj H (upd H t1 (.tup [])):=Zbj ht1
    have h11:(upd H t1 (.tup [])) t1=some (.tup []):=uS
    generalize upd H t1 (.tup [])=H1 at s1 h11
    have vl:=ht.length
    have el:((V.str n.1 :: vs).length:Int) - 1=(ds.length:Int):=by rw [List.length_cons];omega
    refine ⟨_,rfl,a,_,rfl,.inr (SqT.of (s1 _ _ ha)),_,_,rfl,rfl,(ds.length:Int),(by rw [← el]),by omega,by omega,Zaq Zbg (fun i σ H'=>∃ (mk:List Str) (tc:Addr) (x6 x7:Option V),σ=[some (.ref aa),some (.ref ln),some (.ref l),some (.ref a),some (.ref ts),some (.ref tc),x6,x7,none]∧Zaj H H'∧H' tc=some (.tup (mk.map V.str))∧mk.length=i∧goR (fun c i=>runR rows ns xs j c (sp++[i])) (ds.drop i) i mk=goR (fun c i=>runR rows ns xs j c (sp++[i])) ds 0 [])
     ⟨[],t1,none,none,rfl,s1,h11,rfl,rfl⟩ (fun _ _ _ _ _=>trivial) ?_ ?_⟩
    ·rintro i v' σ H3 hi ⟨mk,tc,x6,x7,rfl,s3,htc3,ml,hg⟩
     obtain ⟨hi,rfl⟩:=Zaz hi
     have il:i<ds.length:=by omega
     have hvi:vs[i]?=some vs[i]:=List.getElem?_eq_getElem (by omega)
     obtain ⟨c,hc,hvc⟩:=ht.at_ hvi
     have hcm:=List.mem_of_getElem? hc
     refine ⟨_,rfl,_,rfl,_,rfl,_,rfl,_,rfl,_,_,rfl,rfl,a,_,_,vs[i],rfl,rfl,SqT.of (s3 _ _ ha),(by rw [show (0 + (i:Int)) + 1=((i + 1:Nat):Int) by omega];exact Za6 (by rw [List.getElem?_cons_succ];exact hvi)),_,rfl,_,rfl,sL (by show 1≤100000;decide),fun t5 ht5=>?_⟩
     have s45:Zaj H3 (upd H3 t5 (.tup [.int (0 + (i:Int))])):=Zbj ht5
     have h55:(upd H3 t5 (.tup [.int (0 + (i:Int))])) t5=some (.tup [.int (0 + (i:Int))]):=uS
     generalize upd H3 t5 (.tup [.int (0 + (i:Int))])=H5 at s45 h55
     have s5:=s3.trans s45
     refine rCatA_of (K:=K) (s5 _ _ hts) h55 (sL (by rw [List.length_map];show _ + 1≤_;omega)) fun t6 H6 s56 ht6=>?_
     have s6:=s5.trans s56
     have e6:sp.map Ze6++[.int (0 + (i:Int))]=(sp++[i]).map Ze6:=by rw [List.map_append,Int.zero_add];rfl
     rw [e6] at ht6
     refine ⟨aa,ln,l,t6,rows,avs,ns,us,b,xs,c,vs[i],sp++[i],rfl,g,s6 _ _ haa,hA.mono (fun _ _ e=>s6 _ _ e),s6 _ _ hln,hN.mono (Zct s6),gn,hS.mono s6,hx,hvc.keep (Zct s6),hk c hcm,ht6,by rw [List.length_append,List.length_singleton];omega,fun ar H7 s67 hr7=>?_⟩
     have s37:=(s45.trans s56).trans s67
     have s7:=s3.trans s37
     have ed:ds.drop i=c :: ds.drop (i + 1):=by
      rw [List.drop_eq_getElem_cons il]
      rw [List.getElem?_eq_getElem il] at hc
      rw [Option.some.inj hc]
     rw [ed] at hg
     cases hrr:runR rows ns xs j c (sp++[i]) with
     | kind x =>
      rw [go_k (f:=fun c i=>runR rows ns xs j c (sp++[i])) hrr] at hg
      rw [hrr] at hr7
      have hr7:H7 ar=some (.tup [.str "kind",.str x]):=hr7
      refine ⟨_,rfl,ar,_,_,_,rfl,rfl,SqT.of hr7,at0 _ _,rfl,_,rfl,?_⟩
      rw [decide_eq_true rfl]
      refine Zdv ⟨_,rfl,_,rfl,ar,_,_,_,rfl,rfl,SqT.of hr7,Za6 (j:=1) rfl,sL (by show 1≤100000;decide),fun t8 ht8=>?_⟩
      have s78:Zaj H7 (upd H7 t8 (.tup [.str x])):=Zbj ht8
      have h88:(upd H7 t8 (.tup [.str x])) t8=some (.tup [.str x]):=uS
      generalize upd H7 t8 (.tup [.str x])=H8 at s78 h88
      refine rCatA_of (K:=K) (s78 _ _ (s37 _ _ htc3)) h88 (sL (by rw [List.length_map];show _ + 1≤_;omega)) fun t9 H9 s89 ht9=>?_
      exact ⟨mk++[x],t9,_,_,rfl,(s7.trans s78).trans s89,by rw [ht9,List.map_append];rfl,by rw [List.length_append,ml];rfl,hg⟩
     | bad b' sp' cl ks =>
      rw [go_b (f:=fun c i=>runR rows ns xs j c (sp++[i])) hrr] at hg
      rw [hrr] at hr7
      obtain ⟨u1,u2,hb1,hb2,hb3⟩:=hr7
      refine ⟨_,rfl,ar,_,_,_,rfl,rfl,SqT.of hb1,at0 _ _,rfl,_,rfl,?_⟩
      rw [decide_eq_false (sBV_ne b')]
      rw [← hg] at q
      exact iteT ⟨_,rfl,q ar H7 s7 ⟨u1,u2,hb1,hb2,hb3⟩⟩
    ·rintro σ H3 ⟨mk,tc,x6,x7,rfl,s3,htc3,ml,hg⟩
     rw [Zay,show ((ds.length:Int)).toNat=ds.length from rfl,List.drop_length] at hg
     have hg:(Sum.inr mk:Sum Rs (List Str))=_:=hg
     rw [← hg] at q
     have q:∀ (a:Addr) (H':Hp),Zaj H H'→RsV H' (callR rows ns n.1 sp mk) a→Q (.ref a) H':=q
     rw [callR_eq gn.nd hn] at q
     refine ⟨_,rfl,_,rfl,_,rfl,a,_,_,_,rfl,rfl,SqT.of (s3 _ _ ha),at0 _ _,_,rfl,aa,ln,tc,rows,avs,ns,us,n,mk,rfl,g,s3 _ _ haa,hA.mono (fun _ _ e=>s3 _ _ e),s3 _ _ hln,hN.mono (Zct s3),gn,hn,htc3,go_call gn hx hl hk hg.symm,fun l4 H4 s34 hl4=>?_⟩
     have hl4:=hl4 sp
     have s4:=s3.trans s34
     have rg:∀ {b sp' c ks},callN rows n sp mk=.bad b sp' c ks→ks.length≤2∧sp'=sp∧c=mk:=fun {b sp' c ks} e=>by
      rcases told_cases (nearL rows (n.2.2.map (·.1)) mk) with ⟨i,z⟩ | ⟨b2,ks2,ev,kl,ec⟩
      ·unfold callN at e;rw [z] at e;cases e
      ·unfold callN at e;rw [ec] at e;cases e;exact ⟨kl,rfl,rfl⟩
     cases hcn:callN rows n sp mk with
     | kind x =>
      rw [hcn] at q hl4
      have hl4:H4 l4=some (.tup [.str "kind",.str x]):=hl4
      refine ⟨_,rfl,l4,_,_,_,rfl,rfl,SqT.of hl4,at0 _ _,rfl,_,rfl,?_⟩
      rw [decide_eq_true rfl]
      exact iteT ⟨_,rfl,q l4 H4 s4 hl4⟩
     | bad b sp' c ks =>
      obtain ⟨kl,rfl,rfl⟩:=rg hcn
      rw [hcn] at q hl4
      have hl4:H4 l4=some (.tup (.str (sB b):: ks.map Ze6)):=hl4
      refine ⟨_,rfl,l4,_,_,_,rfl,rfl,SqT.of hl4,at0 _ _,rfl,_,rfl,?_⟩
      rw [decide_eq_false (sBV_ne b)]
      refine Zdv ⟨_,rfl,l4,_,_,_,rfl,rfl,SqT.of hl4,at0 _ _,_,rfl,_,rfl,sL (by show 3≤100000;decide),fun t ht=>?_⟩
      have s45:Zaj H4 (upd H4 t (.tup [.str (sB b),.ref ts,.ref tc])):=Zbj ht
      have ht5:(upd H4 t (.tup [.str (sB b),.ref ts,.ref tc])) t=some (.tup [.str (sB b),.ref ts,.ref tc]):=uS
      generalize upd H4 t (.tup [.str (sB b),.ref ts,.ref tc])=H5 at s45 ht5
      refine ⟨_,rfl,_,rfl,?_⟩
      unfold tNoPart
      refine rSlA_of (K:=K) (lo:=some 1) (hi:=none) (s45 _ _ hl4) fun u H6 s56 hu=>?_
      rw [cut1] at hu
      have hu:H6 u=some (.tup (ks.map Ze6)):=hu
      refine rCatA_of (K:=K) (s56 _ _ ht5) hu (sL (by rw [List.length_map];show 3 + _≤_;omega)) fun a7 H7 s67 ha7=>?_
      have s7:=(s4.trans s45).trans (s56.trans s67)
      exact q a7 H7 s7 ⟨ts,tc,ha7,s7 _ _ hts,((s34.trans s45).trans (s56.trans s67)) _ _ htc3⟩
end
end K68
namespace K68
open PySem L2 Md
def goC (f:List Str→Rs):List (List Str)→List Str→Sum (List Str×Rs) (List Str)
 | [],acc=>.inr acc
 | c :: cs,acc=>match f c with
  | .kind x=>goC f cs (acc++[x])
  | .bad b sp cl ks=>.inl (c,.bad b sp cl ks)
theorem goC_k {f:List Str→Rs}{c:List Str}{cs:List (List Str)}{acc:List Str}{x:Str}(h:f c=.kind x):goC f (c :: cs) acc=goC f cs (acc++[x]):=by rw [goC,h]
theorem goC_b {f:List Str→Rs}{c:List Str}{cs:List (List Str)}{acc:List Str}{b:Bool}{sp:List Nat}{cl:List Str}{ks:List Nat}(h:f c=.bad b sp cl ks):goC f (c :: cs) acc=.inl (c,.bad b sp cl ks):=by rw [goC,h]
abbrev someW (rows:List (Str×List Str)) (acc:List Str):List Str:=(rows.map (·.1)).filter fun x=>decide (x∈acc)
def CmV (rows:List (Str×List Str)) (H0 H:Hp):Sum (List Str×Rs) (List Str)→Addr→Prop
 | .inl (c,r),a=>∃ t u,H a=some (.tup [.str "falls",.ref t,.ref u])∧H t=some (.tup (c.map V.str))∧RsV H r u
 | .inr acc,a=>∃ l,H0 l=none∧H a=some (.tup [.str "holds",.ref l])∧H l=some (.lst ((someW rows acc).map V.str))
def cmD (rows:List (Str×List Str)):Sum (List Str×Rs) (List Str)→Dt
 | .inl (c,r)=>.tuple [.str "falls",datC c,rsD r]
 | .inr acc=>.tuple [.str "holds",.list ((someW rows acc).map W.Dat.str)]
theorem CmV.rep {K:W.Frag}{rows:List (Str×List Str)}{H0 H:Hp}:∀ {r:Sum (List Str×Rs) (List Str)}{a:Addr},CmV rows H0 H r a→Rep K H (.ref a) (cmD rows r)
 | .inl (c,r),_,⟨t,u,h1,h2,h3⟩=>.tuple (SqT.of h1) (.cons (.str _) (.cons (rep_call h2) (.cons h3.rep .nil)))
 | .inr acc,_,⟨l,_,h1,h2⟩=>.tuple (SqT.of h1) (.cons (.str _) (.cons (.list (SqL.of h2) (Zdy _)) .nil))
theorem lows_le (rows:List (Str×List Str)) (x:Str):(Zb1 rows x).length≤rows.length:=by
 have:=List.length_filter_le (fun y=>Zcy rows y x) (rows.map (·.1))
 rw [List.length_map] at this
 exact this
theorem lows_in {rows:List (Str×List Str)}{x y:Str}(h:y∈Zb1 rows x):y∈rows.map (·.1):=(List.mem_filter.mp h).1
def spCkNear:Sp:=fun vs H Q _=>∃ (l:Addr) (wss:List (List Str)) (us:List V),vs=[.ref l]∧H l=some (.lst us)∧RowsW H wss us∧(∀ i,(Zba (wss.take i)).length≤512)∧(∀ ws∈wss,ws.length≤1000)∧Q .non H
def spComes (K:W.Frag) (C B D:Addr):Sp:=fun vs H Q _=>∃ (p k l:Addr) (rows:List (Str×List Str)) (ns:List Nam) (b:Bool) (xs:List Str) (d:Dt) (v:V),vs=[.ref p,.ref l,v]∧Zfc C B D H p k rows ns∧Zcr rows∧Zbf rows ns∧SqB K b H l (xs.map V.str)∧xs.length≤12∧(∀ x∈xs,x∈rows.map (·.1)) ∧
 TmV H d v∧Wf d∧(∀ i,(lvl i [d]).length≤1000)∧termB ns xs.length d=true∧(∀ i,(Zba ((xs.map (Zb1 rows)).take i)).length≤512) ∧
 ∀ (a:Addr) (H':Hp),Zaj H H'→CmV rows H H' (goC (fun c=>runR rows ns c 12 d []) (Zba (xs.map (Zb1 rows))) []) a→Q (.ref a) H'
theorem near_known {rows:List (Str×List Str)}{xs:List Str}{c:List Str}(h:c∈Zba (xs.map (Zb1 rows))):c.length=xs.length∧∀ x∈c,x∈rows.map (·.1):=by
 refine ⟨by rw [prod_len h,List.length_map],?_⟩
 exact fold_mem (xs.map (Zb1 rows)) [[]] (fun x=>x∈rows.map (·.1)) (fun ws hws x hx=>by
  obtain ⟨y,_,rfl⟩:=List.mem_map.mp hws
  exact lows_in hx) (fun c hc x hx=>by rw [List.mem_singleton.mp hc] at hx;cases hx) c h
theorem nd_wkc:(["word","kinds"]:List Str).Nodup:=by decide +kernel
theorem nd_wmc:(["word","made"]:List Str).Nodup:=by decide +kernel
noncomputable def inAcc (acc:List Str):V→Bool
 | .str x=>decide (x∈acc)
 | _=>false
theorem someW_map (rows:List (Str×List Str)) (acc:List Str):(((rows.map (·.1)).map V.str).filter (inAcc acc)).map (fun v=>v)=(someW rows acc).map V.str:=by
 rw [List.map_id',List.filter_map]
 rfl
theorem no_wordsK (d a:Addr):(flds d a).lookup ("words":Str)=none:=flds_no d a (by decide +kernel) (by decide +kernel)
abbrev MWordsK (K:W.Frag) (C f:Addr) (fd:FuncData):Prop:=MDef K C "words" "Kinds.words" Zd7 ["self"] f fd
abbrev MBelow (K:W.Frag) (C f:Addr) (fd:FuncData):Prop:=MDef K C "below" "Kinds.below" Zc6 ["self","word"] f fd
section
variable {P:Program} {w:World} {K:W.Frag} {mg:Str→Option Value} {base:Heap}
abbrev nCN:List Str:=["rows","number","row"]
theorem scCN:Zai nCN ["rows"] (Zad Zdq):=⟨rfl,rfl,rfl,by decide +kernel,rfl,by decide +kernel,by decide +kernel⟩
theorem ok_cknear {f:Addr}{fd:FuncData}{T1:Tok}(F:Def K mg "check_nearer" Zdq ["rows"] f fd) (len:mg "len"=none) (c1:mg "MOST_NEARER"=some (.int 512 T1)):Zar P w K mg base CX0 1 f fd ["rows"] spCkNear:=by
 refine F.fn.ok scCN (fun vs H Q E h=>?_) (fun cdv A outer s H vs Q E hr h=>?_)
 ·obtain ⟨l,wss,us,rfl,_⟩:=h
  rfl
 ·obtain ⟨l,wss,us,rfl,hl,hR,hb,hw,q⟩:=h
  have nd:=scCN.nd
  have hul:wss.length=us.length:=Paired.length hR
  refine' ⟨_,(pS (Zag (i:=1) nd rfl (Or.inl rfl) Zaf)
   (pS (Za8 PassesOwn.never rfl (Za7 (pv 0)) (Zah (i:=2) nd rfl (Or.inl rfl)) (Zac (Zag (i:=1) nd rfl (Or.inl rfl) (Za0 op_mul (pv 1) (Zam Zao (by rfl) len PySem.boot_len (pC (pv 2) Zaa))))))
   (Zac (Za4 (Zan op_gt (pv 1) (Zeo (v:=.int 512) (by rfl) c1 ⟨_,rfl⟩) (Zau _)) Za5 Zak)))),?_⟩
  refine ⟨_,rfl,l,rfl,⟨_,SqL.of hl⟩,Zaq (Zat (xs:=us)) (fun i σ H'=>∃ x:Option V,σ=[some (.ref l),some (.int ((Zba (wss.take i)).length:Nat)),x]∧H'=H)
   ⟨none,by rw [List.take_zero];rfl,rfl⟩ (fun i σ H' _ ⟨_,_,e⟩=>by rw [e];exact SqL.of hl) ?_ ?_⟩
  ·rintro i v σ H' hi ⟨x,rfl,e⟩
   have e:=e.symm
   subst e
   obtain ⟨ws,hws,r,rfl,hr'⟩:=Zas hR hi
   have b1:=hb i
   have b2:=hw ws (List.mem_of_getElem? hws)
   refine ⟨_,rfl,_,rfl,r,_,rfl,.inl (SqL.of hr'),_,_,rfl,rfl,.inl ⟨by omega,by omega⟩,some (.ref r),?_,rfl⟩
   show [some (V.ref l),some (V.int ((((Zba (wss.take i)).length:Nat):Int) * (((ws.map V.str).length:Nat):Int))),_]=_
   rw [List.length_map,← Int.natCast_mul,List.take_add_one,hws]
   show _=[some (V.ref l),some (V.int (((Zba (wss.take i++[ws])).length:Nat):Int)),_]
   rw [Zef,longer_len]
  ·rintro σ H' ⟨x,rfl,e⟩
   have e:=e.symm
   subst e
   have b1:=hb us.length
   refine ⟨_,rfl,_,_,rfl,rfl,_,rfl,?_⟩
   rw [show decide ((512:Int)<(((Zba (wss.take us.length)).length:Nat):Int))=false from decide_eq_false (by omega)]
   exact Zdv q
abbrev nCo:List Str:=["book","filling","term","kinds","rows","made","nearer","answer"]
abbrev pCo:List Str:=["book","filling","term"]
theorem scCo:Zai nCo pCo (Zad s_comes):=⟨rfl,rfl,rfl,by decide +kernel,rfl,by decide +kernel,by decide +kernel⟩
theorem ok_comes {f C B D fT fK fL fN fO fP fW fCk fH:Addr}{fd fdT fdK fdL fdN fdO fdP fdW fdCk fdH:FuncData}(F:Def K mg "comes" s_comes pCo f fd) (TC:TxtC K C) (TD:TxtKn K D) (list:mg "list"=none) (MK:MKKinds K D fK fdK) (ML:MBelow K C fL fdL) (MW:MWordsK K C fW fdW) (MC:MCheck K C fCk fdCk) (MH:MHas K C fH fdH)
  (DT:Def K mg "check_term" Zeu pCo fT fdT) (GT:Zar P w K mg base CX0 18 fT fdT pCo (spCkTerm K C B D)) (DN:Def K mg "check_nearer" Zdq ["rows"] fN fdN) (GN:Zar P w K mg base CX0 1 fN fdN ["rows"] spCkNear) (DO:Def K mg "one_of_each" Zc1 ["rows"] fO fdO)
  (DP:Def K mg "run_part" s_run_part pRP fP fdP) (GP:Zar P w K mg base CX0 22 fP fdP pRP (spRunP K C B D 12)):Zar P w K mg base CX0 23 f fd pCo (spComes K C B D):=by
 have GK:Zar P w K mg base CX0 1 fK fdK ["self"] (spKKinds C B D):=ok_kkinds MK.fn TD
 have GL:Zar P w K mg base CX0 3 fL fdL ["self","word"] (spBelowOf C):=ok_belowOf ML.fn TC MC MH
 have GO:Zar P w K mg base CX0 1 fO fdO ["rows"] spOneEach:=ok_one_each DO
 have GW:Zar P w K mg base CX0 1 fW fdW ["self"] (spWordsOf C):=ok_wordsOf MW.fn TC list
 refine F.fn.ok scCo (fun vs H Q E h=>?_) (fun cdv A outer s H vs Q E hr h=>?_)
 ·obtain ⟨p,k,l,rows,ns,b,xs,d,v,rfl,_⟩:=h
  rfl
 ·obtain ⟨p,k,l,rows,ns,b,xs,d,v,rfl,bk,g,gn,hS,hl,hx,hv,wf,lz,ht,hb,q⟩:=h
  have nd:=scCo.nd
  have hu:=Zfp hr
  have hr1:Zcm 1 _:=hr.mono (by decide)
  have hr3:Zcm 3 _:=hr.mono (by decide)
  have hr18:Zcm 18 _:=hr.mono (by decide)
  refine' ⟨_,(pS (Za3 (Zae DT GT hr18 (pC (pv 0) (pC (pv 1) (pC (pv 2) Zaa)))))
   (pS (Zag (i:=3) nd rfl (Or.inr rfl) (Zdt (pv 0) TD.cl MK.me GK hr1 MK.b .nil Zde))
   (pS ?eR
   (pS (Za3 (Zae DN GN hr1 (pC (pv 4) Zaa)))
   (pS (Zag (i:=5) nd rfl (Or.inr rfl) Zeb)
   (pS (Za8 PassesOwn.never rfl (Za7 (Zae DO GO hr1 (pC (pv 4) Zaa))) (Zah (i:=6) nd rfl (Or.inl rfl))
    (pS (Zag (i:=7) nd rfl (Or.inl rfl) (Zae DP GP hr (pC (pv 0) (pC (pv 6) (pC (pv 2) (pC (Zbm Zaa) Zaa))))))
   (pS (Za4 (Zan op_ne (Zaw (r:=Zfm K) Zbb (pv 7) Zaf (fun _ _=>rfl)) Zb3 (Zau _)) (Zac (Zal (Zbm (pC Zb3 (pC (pv 6) (pC (pv 7) Zaa)))))) Zak)
   (Zac (Zen hu (pv 5) (Zaw (r:=Zfm K) Zbb (pv 7) Zaf (fun _ _=>rfl)) pe_bl rfl)))))
   (Zac (Zal (Zbm (pC Zb3 (pC ?eC Zaa))))))))))),?_⟩
  case eR=>exact (Zee (k:=4) ["word"] ["kinds"] [3] nd rfl rfl (fun _=>Zax (osc:=Zad s_comes) (on:=nCo) (by decide +kernel) rfl rfl rfl) (pi_seq (pv 1)) (fun C s H fp=>Zah (i:=0) nd_wkc rfl (Or.inl rfl) (Or.inr rfl)) (fun C s H fp=>Zbw) (fun C s H fp=>Zc9 (pv 1) TC.cl ML.me GL hr3 ML.b .nil Zde (pC (pv 0) Zaa)))
  case eC=>exact (Zbl ["word"] ["made"] [5] (fun _=>Zax (osc:=Zad s_comes) (on:=nCo) (by decide +kernel) rfl rfl rfl) (Za7 (Zdt (pv 3) TC.cl MW.me GW hr1 MW.b .nil Zde)) (fun C s H fp=>Zah (i:=0) nd_wmc rfl (Or.inl rfl) (Or.inr rfl)) (fun C s H fp=>Zem (pt_cmp (pc_din hu (pv 0) (pv 1)))) (fun C s H fp=>pv 0))
  refine ⟨_,rfl,_,rfl,_,rfl,p,k,l,rows,ns,b,xs,d,v,rfl,bk,g,gn,hS,hl,hx,hv,wf,lz,ht,fun H1 s1=>?_⟩
  have bk1:=bk.mono s1
  obtain ⟨dx,bo,mo,o,bvs,mvs,h1,h2,_⟩:=bk1.ex
  obtain ⟨dxk,dk,ak,okk,oak,kvs,avs,hk1,_⟩:=h2.ex
  have hS1:=hS.mono s1
  have gle:=g.le
  refine ⟨_,rfl,p,dx,_,rfl,h1,no_kkinds _ _ _,p,k,rows,ns,rfl,bk1,?_⟩
  refine ⟨_,rfl,b,l,_,rfl,hS1,Ze8 Zfw (sL (by rw [List.length_map];omega)) (fun _=>true) (fun D x v H=>∃ r y,x=.str y∧v=.ref r∧r≠D∧H1 r=none∧H r=some (.lst ((Zb1 rows y).map V.str))) (fun D x v Ha Hb kk ⟨r,y,e1,e2,e3,e4,e5⟩=>⟨r,y,e1,e2,e3,e4,kk _ _ e3 e5⟩) (fun H' s=>hS1.mono s) ?_ ?_ ?_⟩
  ·intro x H3 R _ _ hR'
   exact hR' H3 (Zaj.refl _)
  ·intro D x H3 R s3 ⟨ys,hD⟩ hDn hx' _ hR'
   obtain ⟨y,hy,rfl⟩:=List.mem_map.mp hx'
   exact ⟨_,rfl,k,dxk,_,rfl,s3 _ _ hk1,no_below _ _,_,rfl,k,rows,y,rfl,h2.mono s3,g,hx y hy,fun r hr'=>hR' _ _ (Zbj hr') ⟨r,y,rfl,rfl,Ne.symm (nNo hD hr'),s3.free hr',uS⟩⟩
  intro lr H2 us hlr s12 hl2 hp2
  rw [List.filter_eq_self.mpr (fun _ _=>rfl)] at hp2
  have hRW:RowsW H2 (xs.map (Zb1 rows)) us:=by
   have:∀ {xs:List Str} {us:List V},Paired (fun x v=>∃ r y,x=.str y∧v=.ref r∧r≠lr∧H1 r=none∧H2 r=some (.lst ((Zb1 rows y).map V.str))) (xs.map V.str) us→RowsW H2 (xs.map (Zb1 rows)) us:=fun {xs us} h=>by
    induction xs generalizing us with
    | nil=>cases h;exact .nil
    | cons x r ih =>
     cases h with
     | cons a c =>
      obtain ⟨r',y,e1,e2,_,_,e5⟩:=a
      injection e1 with e1
      subst e1
      exact .cons ⟨r',e2,e5⟩ (ih c)
   exact this hp2
  have hwl:∀ ws∈xs.map (Zb1 rows),ws.length≤1000:=fun ws hws=>by
   obtain ⟨y,_,rfl⟩:=List.mem_map.mp hws
   have:=lows_le rows y
   omega
  refine ⟨_,rfl,lr,_,us,rfl,hl2,hRW,hb,hwl,?_⟩
  intro md hmd
  have s23:Zaj H2 (upd H2 md (.dK [])):=Zbj hmd
  have hm3:(upd H2 md (.dK [])) md=some (.dK []):=uS
  generalize upd H2 md (.dK [])=H3 at s23 hm3
  have s2:=s1.trans s12
  have s3:=s2.trans s23
  have md0:H md=none:=s2.free hmd
  refine ⟨_,rfl,lr,_,us,rfl,s23 _ _ hl2,hRW.mono s23,(fun i=>Nat.le_trans (hb i) (by decide)),hwl,by rw [List.length_map];omega,fun lf ys H4 hlf s34 hlf4 hD4=>?_⟩
  have s4:=s3.trans s34
  have hm4:=s34 _ _ hm3
  have dl:=hD4.len
  have fl:(Zba (xs.map (Zb1 rows))).length≤512:=by
   have:=hb (xs.map (Zb1 rows)).length
   rw [List.take_length] at this
   exact this
  unfold termB at ht
  rw [Bool.and_eq_true] at ht
  have hlm:lf≠md:=fun z=>by rw [z,hm3] at hlf;cases hlf
  refine ⟨lf,rfl,⟨_,SqL.of hlf4⟩,Zaq (Zat (xs:=ys)) (fun i σ H'=>∃ (acc:List Str) (kv:List (Key×V)) (x6 x7:Option V),σ=[some (.ref p),some (.ref l),some v,some (.ref k),some (.ref lr),some (.ref md),x6,x7]∧(∀ b o,b≠md→H4 b=some o→H' b=some o)∧H' md=some (.dK kv)∧kv.length≤i∧(∀ x,(Zet kv (Sum.inr x)).isSome=decide (x∈acc))∧goC (fun c=>runR rows ns c 12 d []) ((Zba (xs.map (Zb1 rows))).drop i) acc=goC (fun c=>runR rows ns c 12 d []) (Zba (xs.map (Zb1 rows))) [])
   ⟨[],[],none,none,rfl,(fun _ _ _ e=>e),hm4,Nat.le_refl _,(fun x=>rfl),rfl⟩ (fun i σ H' _ ⟨_,_,_,_,_,kk,_⟩=>SqL.of (kk _ _ hlm hlf4)) ?_ ?_⟩
  ·rintro i v' σ H5 hi ⟨acc,kv,x6,x7,rfl,k5,hm5,kvl,hkv,hg⟩
   obtain ⟨c,hc,tc,rfl,htc⟩:=Zas hD4 hi
   have hcm:=List.mem_of_getElem? hc
   obtain ⟨cl,ck⟩:=near_known hcm
   have il:i<(Zba (xs.map (Zb1 rows))).length:=(List.getElem?_eq_some_iff.mp hc).1
   have s5:Zaj H H5:=fun b o e=>k5 _ _ (nNo e md0) (s4 _ _ e)
   have tcm:tc≠md:=fun z=>by rw [z,hm4] at htc;cases htc
   refine ⟨_,rfl,_,rfl,_,rfl,Nat.zero_le _,fun t0 ht0=>?_⟩
   have s56:Zaj H5 (upd H5 t0 (.tup [])):=Zbj ht0
   have h06:(upd H5 t0 (.tup [])) t0=some (.tup []):=uS
   generalize upd H5 t0 (.tup [])=H6 at s56 h06
   have s6:=s5.trans s56
   refine ⟨p,k,tc,t0,rows,ns,false,c,d,v,[],rfl,bk.mono s6,g,gn,SqT.of (s56 _ _ (k5 _ _ tcm htc)),ck,hv.keep (Zct s6),by rw [cl];exact ht.2,h06,by decide,fun ar H7 s67 hr7=>?_⟩
   have s57:=s56.trans s67
   have s7:=s5.trans s57
   have hm7:=s57 _ _ hm5
   have ed:(Zba (xs.map (Zb1 rows))).drop i=c :: (Zba (xs.map (Zb1 rows))).drop (i + 1):=by
    rw [List.drop_eq_getElem_cons il]
    rw [List.getElem?_eq_getElem il] at hc
    rw [Option.some.inj hc]
   rw [ed] at hg
   cases hrr:runR rows ns c 12 d [] with
   | kind x =>
    rw [goC_k (f:=fun c=>runR rows ns c 12 d []) hrr] at hg
    rw [hrr] at hr7
    have hr7:H7 ar=some (.tup [.str "kind",.str x]):=hr7
    refine ⟨_,rfl,ar,_,_,_,rfl,rfl,SqT.of hr7,at0 _ _,rfl,_,rfl,?_⟩
    rw [decide_eq_true rfl]
    refine Zdv ⟨_,rfl,_,rfl,ar,_,_,_,rfl,rfl,SqT.of hr7,Za6 (j:=1) rfl,md,_,rfl,DPut.k (k:=Sum.inr x) hm7 (Za1 (by omega)),acc++[x],_,_,_,rfl,fun b o hb e=>by rw [Zab hb];exact s57 _ _ (k5 _ _ hb e),uS,?_,fun y=>?_,hg⟩
    ·have:=length_putK kv (Sum.inr x:Key) (.bl true)
     omega
    ·rw [valV_put]
     by_cases hy:y=x
     ·rw [if_pos (by rw [hy]),hy]
      exact (decide_eq_true (by simp)).symm
     ·rw [if_neg (fun z=>hy (by injection z)),hkv y]
      exact decide_eq_decide.mpr ⟨fun h=>List.mem_append_left _ h,fun h=>(List.mem_append.mp h).elim id fun z=>absurd (List.mem_singleton.mp z) hy⟩
   | bad b' sp' cl' ks =>
    rw [goC_b (f:=fun c=>runR rows ns c 12 d []) hrr] at hg
    rw [hrr] at hr7
    obtain ⟨u1,u2,hb1,hb2,hb3⟩:=hr7
    refine ⟨_,rfl,ar,_,_,_,rfl,rfl,SqT.of hb1,at0 _ _,rfl,_,rfl,?_⟩
    rw [decide_eq_false (sBV_ne b')]
    rw [← hg] at q
    refine iteT ⟨_,rfl,_,rfl,sL (by show 3≤100000;decide),fun a8 ha8=>?_⟩
    have s78:=Zbj (o:=.tup [.str "falls",.ref tc,.ref ar]) ha8
    exact q a8 _ (s7.trans s78) ⟨tc,ar,uS,s78 _ _ (s57 _ _ (k5 _ _ tcm htc)),u1,u2,s78 _ _ hb1,s78 _ _ hb2,s78 _ _ hb3⟩
  ·rintro σ H5 ⟨acc,kv,x6,x7,rfl,k5,hm5,kvl,hkv,hg⟩
   have hg:(Sum.inr acc:Sum (List Str×Rs) (List Str))=goC (fun c=>runR rows ns c 12 d []) (Zba (xs.map (Zb1 rows))) []:=by
    rw [← hg,← dl,List.drop_length]
    rfl
   rw [← hg] at q
   have s5:Zaj H H5:=fun b o e=>k5 _ _ (nNo e md0) (s4 _ _ e)
   have kd5:Zbo C H5 k rows:=by
    obtain ⟨_,_,_,_,_,_,_,h2',_⟩:=(bk.mono s5).ex
    exact h2'
   have hk5:H5 k=some (.ins C dxk (flds dk ak)):=by
    obtain ⟨_,_,_,_,_,_,hz,h2z,_⟩:=bk.ex
    obtain ⟨_,_,_,_,_,_,_,hz1,_⟩:=h2z.ex
    have e1:=s1 _ _ hz1
    rw [hk1] at e1
    rw [Option.some.inj e1]
    exact s5 _ _ hz1
   refine ⟨_,rfl,k,dxk,_,rfl,hk5,no_wordsK _ _,k,rows,rfl,kd5,g,fun lw hlw=>?_⟩
   have s56:Zaj H5 (upd H5 lw (.lst ((rows.map (·.1)).map V.str))):=Zbj hlw
   have hw6:(upd H5 lw (.lst ((rows.map (·.1)).map V.str))) lw=some (.lst ((rows.map (·.1)).map V.str)):=uS
   generalize upd H5 lw (.lst ((rows.map (·.1)).map V.str))=H6 at s56 hw6
   have s6:=s5.trans s56
   have hm6:=s56 _ _ hm5
   refine ⟨lw,rfl,⟨_,SqL.of hw6⟩,Zdc (Zat (xs:=(rows.map (·.1)).map V.str)) (sL (by rw [List.length_map,List.length_map];omega)) (inAcc acc) (fun v=>v) (fun D ys hD=>SqL.of (by rw [Zab (nNo hw6 hD)];exact hw6)) ?_ ?_ ?_⟩
   ·intro D ys v R hD hv' hR
    obtain ⟨y,hy,rfl⟩:=List.mem_map.mp hv'
    have kp:∀ b o,H6 b=some o→(upd H6 D (.lst ys)) b=some o:=fun b o e=>by rw [Zab (nNo e hD)];exact e
    refine ⟨_,rfl,_,rfl,md,_,rfl,DGet.k (k:=Sum.inr y) (kp _ _ hm6),_,rfl,?_⟩
    rw [hkv y]
    exact hR
   ·intro D ys v R hD hv' _ hR
    exact ⟨_,rfl,hR⟩
   ·intro D hD
    rw [someW_map]
    have s67:=Zbj (o:=.lst ((someW rows acc).map V.str)) hD
    have hD7:(upd H6 D (.lst ((someW rows acc).map V.str))) D=some (.lst ((someW rows acc).map V.str)):=uS
    generalize upd H6 D (.lst ((someW rows acc).map V.str))=H7 at s67 hD7
    refine ⟨sL (by show 2≤100000;decide),fun a8 ha8=>?_⟩
    have s78:=Zbj (o:=.tup [.str "holds",.ref D]) ha8
    exact q a8 _ ((s6.trans s67).trans s78) ⟨D,s6.free hD,uS,s78 _ _ hD7⟩
end
end K68
namespace K68
open PySem L2 Md
def hdR (H:Hp):V→Str
 | .ref t=>match H t with
  | some (.tup (.str x :: _))=>x
  | _=>""
 | _=>""
theorem hdR_at {H:Hp}{t:Addr}{x:Str}{r:List V}(h:H t=some (.tup (.str x :: r))):hdR H (.ref t)=x:=by
 show (match H t with | some (.tup (.str x :: _))=>x | _=>"")=x
 rw [h]
theorem hd_rows {H:Hp}:∀ {rows:List (Str×List Str)}{vs:List V},Paired (RowV H) rows vs→vs.map (hdR H)=rows.map (·.1)
 | _,_,.nil=>rfl
 | _,_,.cons ⟨t,u,e,h1,_⟩ r=>by
  subst e
  rw [List.map_cons,List.map_cons,hdR_at h1,hd_rows r]
theorem rows_comp {K:W.Frag}{l:Addr}{H1:Hp}{rows:List (Str×List Str)}{js:List Nat}{σ:St}{tt:TT}{te:TE}{Q:VK}(hR:Zdf H1 l rows) (few:rows.length≤100) (f:Str→Bool)
  (ht:∀ (t u:Addr) (x:Str) H' (R:Bool→Hp→Prop),Zaj H1 H'→x∈rows.map (·.1)→H' t=some (.tup [.str x,.ref u])→R (f x) H'→tt (some (.ref t):: js.map fun j=>(σ[j]?).join) H' R)
  (he:∀ (t u:Addr) (x:Str) H' (R:VK),H' t=some (.tup [.str x,.ref u])→R (.str x) H'→te (some (.ref t):: js.map fun j=>(σ[j]?).join) H' R)
  (hd:∀ D,H1 D=none→Q (.ref D) (upd H1 D (.lst (((rows.map (·.1)).filter f).map V.str)))):compBody 1 js (gName 0) tt te σ Q (Itl K l) H1:=by
 obtain ⟨vs,hvs,hpr⟩:=hR
 have kp:∀ {D:Addr} {ys:List V},H1 D=none→Zaj H1 (upd H1 D (.lst ys)):=fun h=>Zbj h
 refine Zdc (Zat (xs:=vs)) (sL (by rw [← hpr.length];omega)) (fun v=>f (hdR H1 v)) (fun v=>.str (hdR H1 v)) (fun D ys hD=>SqL.of (kp hD _ _ hvs)) ?_ ?_ ?_
 ·intro D ys v R hD hv hR
  obtain ⟨i,hi⟩:=List.mem_iff_getElem?.mp hv
  obtain ⟨r,hr',t,u,rfl,h1,h2⟩:=Zas hpr hi
  rw [hdR_at h1] at hR
  exact ht t u r.1 _ R (kp hD) (List.mem_map.mpr ⟨r,List.mem_of_getElem? hr',rfl⟩) (kp hD _ _ h1) hR
 ·intro D ys v R hD hv _ hR
  obtain ⟨i,hi⟩:=List.mem_iff_getElem?.mp hv
  obtain ⟨r,hr',t,u,rfl,h1,h2⟩:=Zas hpr hi
  rw [hdR_at h1] at hR
  exact he t u r.1 _ R (kp hD _ _ h1) hR
 ·intro D hD
  have e:(vs.filter fun v=>f (hdR H1 v)).map (fun v=>V.str (hdR H1 v))=((rows.map (·.1)).filter f).map V.str:=by
   rw [← hd_rows hpr,List.filter_map,List.map_map]
   rfl
  rw [e]
  exact hd D hD
theorem cut_to (xs:List V) (k:Nat):cutV xs none (some (k:Int))=xs.take k:=by
 unfold cutV
 rw [HT.sIx_none,HT.sIx_nat,List.drop_zero,Nat.sub_zero]
 by_cases h:k≤xs.length
 ·rw [Nat.min_eq_left h]
 ·rw [Nat.min_eq_right (by omega),List.take_length,List.take_of_length_le (by omega)]
theorem cut_from (xs:List V) (k:Nat):cutV xs (some (k:Int)) none=xs.drop k:=by
 unfold cutV
 rw [HT.sIx_none,HT.sIx_nat]
 by_cases h:k≤xs.length
 ·rw [Nat.min_eq_left h];exact List.take_of_length_le (by rw [List.length_drop];omega)
 ·rw [Nat.min_eq_right (by omega),List.drop_length,List.drop_of_length_le (by omega)];exact List.take_nil
def spLBelow:Sp:=fun vs H Q _=>∃ (l aa:Addr) (rows:List (Str×List Str)) (avs:List (Key×V)) (x:Str),vs=[.ref l,.ref aa,.str x]∧Zdf H l rows∧Zcr rows∧H aa=some (.dK avs)∧Zbt H rows rows avs∧∀ lb,H lb=none→Q (.ref lb) (upd H lb (.lst ((Zb1 rows x).map V.str)))
def spLNear:Sp:=fun vs H Q _=>∃ (l aa lf:Addr) (rows:List (Str×List Str)) (avs:List (Key×V)) (xs:List Str),vs=[.ref l,.ref aa,.ref lf]∧Zdf H l rows∧Zcr rows∧H aa=some (.dK avs)∧Zbt H rows rows avs∧H lf=some (.lst (xs.map V.str))∧xs.length≤12∧(∀ i,(Zba ((xs.map (Zb1 rows)).take i)).length≤512) ∧
 ∀ (ln:Addr) (ys:List V) (H':Hp),H ln=none→Zaj H H'→H' ln=some (.lst ys)→Za2 H' (Zba (xs.map (Zb1 rows))) ys→Q (.ref ln) H'
def spCut:Sp:=fun vs H Q _=>∃ (l aa lf:Addr) (rows:List (Str×List Str)) (avs:List (Key×V)) (xs:List Str),vs=[.ref l,.ref aa,.ref lf]∧Zdf H l rows∧Zcr rows∧H aa=some (.dK avs)∧Zbt H rows rows avs∧H lf=some (.lst (xs.map V.str))∧1≤xs.length∧xs.length≤12 ∧
 ∀ (lk:Addr) (ys:List Str) (H':Hp),H lk=none→Zaj H H'→H' lk=some (.lst (ys.map V.str))→(∀ x∈ys,x∈xs)→1≤ys.length→ys.length≤xs.length→(∀ i,(Zba ((ys.map (Zb1 rows)).take i)).length≤24)→Q (.ref lk) H'
def spLDue (K:W.Frag):Sp:=fun vs H Q _=>∃ (l aa ln lf:Addr) (rows:List (Str×List Str)) (avs:List (Key×V)) (ns:List Nam) (us:List V) (xs:List Str) (d:Dt) (v:V),vs=[.ref l,.ref aa,.ref ln,.ref lf,v]∧Zdf H l rows∧Zcr rows∧H aa=some (.dK avs)∧Zbt H rows rows avs∧H ln=some (.lst us)∧Zfb H ns us∧Zbf rows ns∧H lf=some (.lst (xs.map V.str))∧xs.length≤12∧TmV H d v∧sndN ns xs.length 12 d=true∧(∀ i,(Zba ((xs.map (Zb1 rows)).take i)).length≤512) ∧
 ∀ (a:Addr) (H':Hp),Zaj H H'→CmV rows H H' (goC (fun c=>runR rows ns c 12 d []) (Zba (xs.map (Zb1 rows))) []) a→Q (.ref a) H'
theorem nd_raw:(["row","above","word"]:List Str).Nodup:=by decide +kernel
theorem nd_la:(["low","ahead"]:List Str).Nodup:=by decide +kernel
theorem nd_rm:(["row","made"]:List Str).Nodup:=by decide +kernel
section
variable {P:Program} {w:World} {K:W.Frag} {mg:Str→Option Value} {base:Heap}
abbrev nLB:List Str:=["rows","above","word"]
theorem scLB:Zai nLB nLB (Zad Zcx):=⟨rfl,rfl,rfl,by decide +kernel,rfl,by decide +kernel,by decide +kernel⟩
theorem ok_lbelow {f:Addr}{fd:FuncData}(F:Def K mg "_law_below" Zcx nLB f fd):Zar P w K mg base CX0 1 f fd nLB spLBelow:=by
 refine F.fn.ok scLB (fun vs H Q E h=>?_) (fun cdv A outer s H vs Q E hr h=>?_)
 ·obtain ⟨l,aa,rows,avs,x,rfl,_⟩:=h
  rfl
 ·obtain ⟨l,aa,rows,avs,x,rfl,hR,g,haa,hA,q⟩:=h
  have hu:=Zfp hr
  refine' ⟨_,Zac (Zal ?eC),?_⟩
  case eC=>exact (Zbl ["row"] ["above","word"] [1,2] (fun _=>Zax (osc:=Zad Zcx) (on:=nLB) (by decide +kernel) rfl rfl rfl) (Za7 (pv 0)) (fun C s H fp=>Zah (i:=0) nd_raw rfl (Or.inl rfl) (Or.inr rfl)) (fun C s H fp=>Zem (Zan (r:=rIn K false) op_in_seq (pv 2) (Zdk hu (pv 1) (Zaw (r:=Zfm K) Zbb (pv 0) Zaf (fun _ _=>rfl)) (fun _ _=>rfl)) (by with_unfolding_all rfl))) (fun C s H fp=>Zaw (r:=Zfm K) Zbb (pv 0) Zaf (fun _ _=>rfl)))
  have gle:=g.le
  obtain ⟨vs,hvs,hpr⟩:=id hR
  refine ⟨_,rfl,l,rfl,⟨_,SqL.of hvs⟩,rows_comp hR (by omega) (fun y=>Zcy rows y x) ?_ ?_ q⟩
  ·intro t u y H' R s' hy ht hR'
   obtain ⟨t2,fs,hv,ht2,hin⟩:=upw_at g hA s' hy
   refine ⟨_,rfl,_,rfl,_,rfl,t,_,_,_,rfl,rfl,SqT.of ht,at0 _ _,aa,_,rfl,(by rw [← hv];exact DGet.k (k:=Sum.inr y) (s' _ _ haa)),t2,_,rfl,.inl (SqL.of ht2),rfl,Zdz fs,_,rfl,?_⟩
   rw [if_neg (by decide),hin x]
   exact hR'
  ·intro t u y H' R ht hR'
   exact ⟨_,rfl,t,_,_,_,rfl,rfl,SqT.of ht,at0 _ _,hR'⟩
abbrev nLNr:List Str:=["rows","above","filling","fillings","word","longer","ahead"]
abbrev pLNr:List Str:=["rows","above","filling"]
theorem scLNr:Zai nLNr pLNr (Zad Zc5):=⟨rfl,rfl,rfl,by decide +kernel,rfl,by decide +kernel,by decide +kernel⟩
theorem ok_lnearer {f fB:Addr}{fd fdB:FuncData}(F:Def K mg "_law_nearer" Zc5 pLNr f fd) (DB:Def K mg "_law_below" Zcx nLB fB fdB):Zar P w K mg base CX0 2 f fd pLNr spLNear:=by
 have GB:Zar P w K mg base CX0 1 fB fdB nLB spLBelow:=ok_lbelow DB
 refine F.fn.ok scLNr (fun vs H Q E h=>?_) (fun cdv A outer s H vs Q E hr h=>?_)
 ·obtain ⟨l,aa,lf,rows,avs,xs,rfl,_⟩:=h
  rfl
 ·obtain ⟨l,aa,lf,rows,avs,xs,rfl,hR,g,haa,hA,hlf,hn,hb,q⟩:=h
  have nd:=scLNr.nd
  have gle:=g.le
  refine' ⟨_,(pS (Zag (i:=3) nd rfl (Or.inl rfl) (Zbn (pC (Zbm Zaa) Zaa)))
   (pS (Za8 PassesOwn.never rfl (Za7 (pv 2)) (Zah (i:=4) nd rfl (Or.inl rfl))
    (pS (Zag (i:=5) nd rfl (Or.inl rfl) (Zbn Zaa))
   (pS (Za8 PassesOwn.never rfl (Za7 (pv 3)) (Zah (i:=6) nd rfl (Or.inr rfl)) (Zac (Za3 (Zfo PySem.F.plainAttrs_list PySem.F.slot_list_extend PySem.F.type_list_extend mt_extend (pv 5) (pC ?ea Zaa)))))
   (Zac (Zag (i:=3) nd rfl (Or.inl rfl) (pv 5))))))
   (Zac (Zal (pv 3))))),?_⟩
  case ea=>exact (Zbl ["low"] ["ahead"] [6] (fun _=>Zax (osc:=Zad Zc5) (on:=nLNr) (by decide +kernel) rfl rfl rfl) (Za7 (Zae DB GB hr (pC (pv 0) (pC (pv 1) (pC (pv 4) Zaa))))) (fun C s H fp=>Zah (i:=0) nd_la rfl (Or.inl rfl) (Or.inr rfl)) (fun C s H fp=>Zbw)
    (fun C s H fp=>Za0 (r:=rCatA K) op_catA (pv 1) (Zbm (pC (pv 0) Zaa))))
  refine ⟨Nat.zero_le _,fun t0 ht0=>⟨sL (by show 1≤100000;decide),fun l0 hl0=>?_⟩⟩
  have s0:Zaj H (upd (upd H t0 (.tup [])) l0 (.lst [.ref t0])):=(Zbj ht0).trans (Zbj hl0)
  have l0H:H l0=none:=(Zbj (o:=.tup []) ht0).free hl0
  refine ⟨_,rfl,lf,rfl,⟨_,SqL.of (s0 _ _ hlf)⟩,Zaq (Zat (xs:=xs.map V.str)) (fun i σ H'=>∃ (lg:Addr) (ys:List V) (x1 x2 x3:Option V),σ=[some (.ref l),some (.ref aa),some (.ref lf),some (.ref lg),x1,x2,x3]∧Zaj H H'∧H lg=none∧H' lg=some (.lst ys)∧Za2 H' (Zba ((xs.map (Zb1 rows)).take i)) ys)
   ⟨l0,[.ref t0],none,none,none,rfl,s0,l0H,uS,.cons ⟨t0,rfl,(Zbj hl0) _ _ uS⟩ .nil⟩ (fun i σ H' _ ⟨_,_,_,_,_,_,s',_⟩=>SqL.of (s' _ _ hlf)) ?_ ?_⟩
  ·rintro i v σ H' hi ⟨lg,ys,x1,x2,x3,rfl,s',hlgH,hlg,hD⟩
   rw [List.getElem?_map] at hi
   obtain ⟨x,hx,rfl⟩:=Option.map_eq_some_iff.mp hi
   have hws:(xs.map (Zb1 rows))[i]?=some (Zb1 rows x):=by rw [List.getElem?_map,hx];rfl
   have hb1:=hb (i + 1)
   rw [List.take_add_one,hws] at hb1
   have hb1:(Zba ((xs.map (Zb1 rows)).take i++[Zb1 rows x])).length≤512:=hb1
   rw [Zef] at hb1
   have hwl:=lows_le rows x
   have hyl:=hD.len
   refine ⟨Nat.zero_le _,fun ln hln=>?_⟩
   have s1:Zaj H' (upd H' ln (.lst [])):=Zbj hln
   have lnH:H ln=none:=s'.free hln
   have lfn:lg≠ln:=nNo hlg hln
   refine ⟨_,rfl,lg,rfl,⟨_,SqL.of (s1 _ _ hlg)⟩,Zaq (Zat (xs:=ys)) (fun j σ H2=>∃ (zs:List V) (x3:Option V),σ=[some (.ref l),some (.ref aa),some (.ref lf),some (.ref lg),some (.str x),some (.ref ln),x3]∧Zaj H' H2∧H2 ln=some (.lst zs)∧Za2 H2 (Zeq ((Zba ((xs.map (Zb1 rows)).take i)).take j) (Zb1 rows x)) zs)
    ⟨[],x3,rfl,s1,uS,by rw [List.take_zero];exact .nil⟩ (fun j σ H2 _ ⟨_,_,_,s2,_⟩=>SqL.of (s2 _ _ hlg)) ?_ ?_⟩
   ·rintro j v σ H2 hj ⟨zs,x3',rfl,s2,hlnz,hZ⟩
    obtain ⟨c,hc,tc,rfl,htc⟩:=Zas hD hj
    have s02:=s'.trans s2
    refine ⟨_,rfl,.inl ⟨rfl,_,SqL.of hlnz⟩,_,rfl,_,rfl,_,rfl,l,aa,rows,avs,x,rfl,Zbk hR s02,g,s02 _ _ haa,hA.mono (fun _ _ e=>s02 _ _ e),fun lb hlb=>?_⟩
    have s2b:Zaj H2 (upd H2 lb (.lst ((Zb1 rows x).map V.str))):=Zbj hlb
    have hb2:(upd H2 lb (.lst ((Zb1 rows x).map V.str))) lb=some (.lst ((Zb1 rows x).map V.str)):=uS
    generalize upd H2 lb (.lst ((Zb1 rows x).map V.str))=H2b at s2b hb2
    refine ⟨lb,rfl,⟨_,SqL.of hb2⟩,Ze8 (Zat (xs:=(Zb1 rows x).map V.str)) (sL (by rw [List.length_map];omega)) (fun _=>true) (fun D x v H=>CallV c x v H∧∀ t,v=.ref t→t≠D) (fun D x v Ha Hb k h=>?_) (fun H' s'=>s'.seq (SqL.of hb2)) ?_ ?_ ?_⟩
    ·obtain ⟨⟨t,z,e1,e2,e3⟩,ne⟩:=h
     exact ⟨⟨t,z,e1,e2,k _ _ (ne t e2) e3⟩,ne⟩
    ·intro x H3 R _ _ hR'
     exact hR' H3 (Zaj.refl _)
    ·intro D x H3 R s3 hDx hDn hx _ hR'
     obtain ⟨z,hz,rfl⟩:=List.mem_map.mp hx
     obtain ⟨ys',hys'⟩:=hDx
     have htc3:=s3 _ _ (s2b _ _ (s2 _ _ htc))
     refine ⟨_,rfl,_,rfl,sL (by show 1≤100000;decide),fun t1 ht1=>?_⟩
     have s4:Zaj H3 (upd H3 t1 (.tup [.str z])):=Zbj ht1
     have t1D:t1≠D:=Ne.symm (nNo hys' ht1)
     have cl:c.length≤1000:=by
      have:=prod_len (List.mem_of_getElem? hc)
      rw [List.length_take,List.length_map] at this
      omega
     refine ⟨tc,t1,_,_,rfl,rfl,SqT.of (s4 _ _ htc3),SqT.of uS,sL (by rw [List.length_map];show c.length + 1≤100000;omega),fun e=>?_,(fun _ e=>nomatch e),fun _ _ t2 ht2=>?_⟩
     ·have e0:c=[]:=by cases c with | nil=>rfl | cons a r=>cases e
      subst e0
      exact hR' _ _ s4 ⟨⟨t1,z,rfl,rfl,uS⟩,fun t e=>by injection e with e;rw [← e];exact t1D⟩
     ·have t2D:t2≠D:=Ne.symm (nNo (s4 _ _ hys') ht2)
      exact hR' _ _ (s4.trans (Zbj ht2)) ⟨⟨t2,z,rfl,rfl,by rw [uS,List.map_append];rfl⟩,fun t e=>by injection e with e;rw [← e];exact t2D⟩
    ·intro D H3 vs3 hD3 s3 hl3 hp3
     rw [List.filter_eq_self.mpr (fun _ _=>rfl)] at hp3
     have hC:=calls_of (Paired.mapP hp3 fun _ _ z=>z.1)
     have s23:=s2b.trans s3
     have hlnz3:=s23 _ _ hlnz
     have zl:=hZ.len
     have vl:=hC.len
     rw [List.length_map] at vl
     have hj':j<(Zba ((xs.map (Zb1 rows)).take i)).length:=(List.getElem?_eq_some_iff.mp hc).1
     have lz:(Zeq ((Zba ((xs.map (Zb1 rows)).take i)).take j) (Zb1 rows x)).length + (Zb1 rows x).length≤10000:=by
      rw [longer_len] at hb1 ⊢
      rw [List.length_take,Nat.min_eq_left (by omega)]
      refine Nat.le_trans ?_ (Nat.le_trans hb1 (by decide))
      rw [← Nat.succ_mul]
      exact Nat.mul_le_mul_right _ hj'
     refine ⟨ln,D,_,_,rfl,rfl,hlnz3,hl3,sL (by omega),zs++vs3,_,rfl,fun b o e=>by rw [Zab (nNo e hln)];exact s23 _ _ (s2 _ _ e),uS,?_⟩
     rw [longer_take _ _ hc]
     have kp:∀ b o,b≠ln→H3 b=some o→(upd H3 ln (.lst (zs++vs3))) b=some o:=fun b o hb e=>by rw [Zab hb];exact e
     have dk:∀ {ds:List (List Str)} {us:List V},Za2 H3 ds us→Za2 (upd H3 ln (.lst (zs++vs3))) ds us:=fun h=>Paired.mapP h fun _ _ ⟨t,e,x⟩=>⟨t,e,kp _ _ (fun z=>by rw [z,hlnz3] at x;cases x) x⟩
     exact (dk (hZ.mono s23)).append (dk hC)
   ·rintro σ H2 ⟨zs,x3',rfl,s2,hlnz,hZ⟩
    have el:(Zba ((xs.map (Zb1 rows)).take i)).take ys.length=Zba ((xs.map (Zb1 rows)).take i):=by rw [← hyl,List.take_length]
    rw [el] at hZ
    refine ⟨_,rfl,ln,zs,_,_,_,rfl,s'.trans s2,lnH,hlnz,?_⟩
    rw [List.take_add_one,hws]
    show Za2 H2 (Zba ((xs.map (Zb1 rows)).take i++[Zb1 rows x])) zs
    rw [Zef]
    exact hZ
  ·rintro σ H' ⟨lg,ys,x1,x2,x3,rfl,s',hlgH,hlg,hD⟩
   rw [List.length_map,← List.length_map (f:=Zb1 rows),List.take_length] at hD
   exact ⟨_,rfl,q lg ys H' hlgH s' hlg hD⟩
end
end K68
namespace K68
open PySem L2 Md
structure TxtCm (mg:Str→Option Value):Prop where
 len:mg "len"=none
theorem lows_size (rows:List (Str×List Str)) (xs:List Str) {i:Nat}{x:Str}(h:xs[i]?=some x):(Zba ((xs.take (i + 1)).map (Zb1 rows))).length=(Zba ((xs.take i).map (Zb1 rows))).length * (Zb1 rows x).length:=by
 rw [List.take_add_one,h,List.map_append]
 show (Zba ((xs.take i).map (Zb1 rows)++[Zb1 rows x])).length=_
 rw [Zef,longer_len]
section
variable {P:Program} {w:World} {K:W.Frag} {mg:Str→Option Value} {base:Heap}
abbrev nCu:List Str:=["rows","above","filling","size","kept","word"]
theorem scCu:Zai nCu pLNr (Zad s__law_cut):=⟨rfl,rfl,rfl,by decide +kernel,rfl,by decide +kernel,by decide +kernel⟩
theorem ok_cut {f fB:Addr}{fd fdB:FuncData}(F:Def K mg "_law_cut" s__law_cut pLNr f fd) (len:mg "len"=none) (DB:Def K mg "_law_below" Zcx nLB fB fdB):Zar P w K mg base CX0 2 f fd pLNr spCut:=by
 have GB:Zar P w K mg base CX0 1 fB fdB nLB spLBelow:=ok_lbelow DB
 refine F.fn.ok scCu (fun vs H Q E h=>?_) (fun cdv A outer s H vs Q E hr h=>?_)
 ·obtain ⟨l,aa,lf,rows,avs,xs,rfl,_⟩:=h
  rfl
 ·obtain ⟨l,aa,lf,rows,avs,xs,rfl,hR,g,haa,hA,hlf,h1,h12,q⟩:=h
  have nd:=scCu.nd
  have gle:=g.le
  refine' ⟨_,(pS (Zag (i:=3) nd rfl (Or.inl rfl) (Zam Zao (by rfl) len PySem.boot_len (pC (Zae DB GB hr (pC (pv 0) (pC (pv 1) (pC (Zaw (r:=rIxL K) Zav (pv 2) Zaf (fun _ _=>rfl)) Zaa)))) Zaa)))
   (pS (Zag (i:=4) nd rfl (Or.inl rfl) (Zds (r:=rSlL K) sl_list (pv 2) Zff (Zfe Zaf)))
   (pS (Za8 PassesOwn.never rfl (Za7 (Zds (r:=rSlL K) sl_list (pv 2) (Zfe Zaf) Zff)) (Zah (i:=5) nd rfl (Or.inl rfl))
    (pS (Zag (i:=3) nd rfl (Or.inl rfl) (Za0 op_mul (pv 3) (Zam Zao (by rfl) len PySem.boot_len (pC (Zae DB GB hr (pC (pv 0) (pC (pv 1) (pC (pv 5) Zaa)))) Zaa))))
   (pS (Za4 (Zan op_gt (pv 3) Zaf (Zau _)) (Zac (Zal (pv 4))) Zak)
   (Zac (Zag (i:=4) nd rfl (Or.inl rfl) (Za0 op_cat (pv 4) (Zbn (pC (pv 5) Zaa))))))))
   (Zac (Zal (pv 4)))))),?_⟩
  obtain ⟨x0,hx0⟩:∃ x0,xs[0]?=some x0:=⟨xs[0],List.getElem?_eq_getElem (by omega)⟩
  refine ⟨_,rfl,_,rfl,_,rfl,lf,_,_,_,rfl,rfl,SqL.of hlf,Za6 (j:=0) (by rw [List.getElem?_map,hx0];rfl),l,aa,rows,avs,x0,rfl,hR,g,haa,hA,fun lb hlb=>?_⟩
  have s1:Zaj H (upd H lb (.lst ((Zb1 rows x0).map V.str))):=Zbj hlb
  have hb1:(upd H lb (.lst ((Zb1 rows x0).map V.str))) lb=some (.lst ((Zb1 rows x0).map V.str)):=uS
  generalize upd H lb (.lst ((Zb1 rows x0).map V.str))=H1 at s1 hb1
  refine ⟨lb,_,rfl,.inl (SqL.of hb1),?_⟩
  refine ⟨_,rfl,?_⟩
  unfold tNoPart
  refine ⟨(1:Int),rfl,lf,_,rfl,SqL.of (s1 _ _ hlf),fun lk hlk=>?_⟩
  have ec:cutV (xs.map V.str) none (some (1:Int))=(xs.take 1).map V.str:=by
   have:=cut_to (xs.map V.str) 1
   rw [List.map_take]
   exact this
  rw [ec]
  have s12:Zaj H1 (upd H1 lk (.lst ((xs.take 1).map V.str))):=Zbj hlk
  have hk2:(upd H1 lk (.lst ((xs.take 1).map V.str))) lk=some (.lst ((xs.take 1).map V.str)):=uS
  generalize upd H1 lk (.lst ((xs.take 1).map V.str))=H2 at s12 hk2
  have s2:=s1.trans s12
  refine ⟨_,rfl,_,rfl,?_⟩
  refine ⟨lf,_,rfl,SqL.of (s2 _ _ hlf),fun lr hlr=>?_⟩
  have ed:cutV (xs.map V.str) (some (1:Int)) none=(xs.drop 1).map V.str:=by
   have:=cut_from (xs.map V.str) 1
   rw [List.map_drop]
   exact this
  rw [ed]
  have s23:Zaj H2 (upd H2 lr (.lst ((xs.drop 1).map V.str))):=Zbj hlr
  have hr3:(upd H2 lr (.lst ((xs.drop 1).map V.str))) lr=some (.lst ((xs.drop 1).map V.str)):=uS
  generalize upd H2 lr (.lst ((xs.drop 1).map V.str))=H3 at s23 hr3
  have s3:=s2.trans s23
  have sz0:=lows_size rows xs hx0
  have e0:(Zba ((xs.take 0).map (Zb1 rows))).length=1:=by rw [List.take_zero];rfl
  rw [e0,Nat.one_mul] at sz0
  have l0:=lows_le rows x0
  refine ⟨lr,rfl,⟨_,SqL.of hr3⟩,Zaq (Zat (xs:=(xs.drop 1).map V.str)) (fun i σ H'=>∃ (lk:Addr) (x5:Option V),σ=[some (.ref l),some (.ref aa),some (.ref lf),some (.int ((Zba ((xs.take (i + 1)).map (Zb1 rows))).length:Nat)),some (.ref lk),x5]∧Zaj H3 H'∧H lk=none∧H' lk=some (.lst ((xs.take (i + 1)).map V.str))∧∀ j,(Zba (((xs.take (i + 1)).map (Zb1 rows)).take j)).length≤24)
   ⟨lk,none,?_,Zaj.refl _,s1.free hlk,s23 _ _ hk2,fun j=>?_⟩ (fun i σ H' _ ⟨_,_,_,s',_⟩=>SqL.of (s' _ _ hr3)) ?_ ?_⟩
  ·show [some (V.ref l),some (V.ref aa),some (V.ref lf),some (V.int ((((Zb1 rows x0).map V.str).length:Nat):Int)),some (V.ref lk),none]=_
   rw [List.length_map,← sz0]
  ·cases j with
   | zero=>rw [List.take_zero];show 1≤24;decide
   | succ j =>
    rw [List.take_of_length_le (by rw [List.length_map,List.length_take];omega),sz0]
    omega
  ·rintro i v σ H4 hi ⟨lk,x5,rfl,s34,lkH,hk4,hb⟩
   rw [List.getElem?_map] at hi
   obtain ⟨x,hx,rfl⟩:=Option.map_eq_some_iff.mp hi
   rw [List.getElem?_drop] at hx
   rw [show 1 + i=i + 1 by omega] at hx
   have s4:=s3.trans s34
   have bz:=hb (xs.take (i + 1)).length
   rw [← List.length_map (f:=Zb1 rows),List.take_length] at bz
   have lx:=lows_le rows x
   refine ⟨_,rfl,_,rfl,_,rfl,_,rfl,l,aa,rows,avs,x,rfl,Zbk hR s4,g,s4 _ _ haa,hA.mono (fun _ _ e=>s4 _ _ e),fun lb hlb=>?_⟩
   have s45:Zaj H4 (upd H4 lb (.lst ((Zb1 rows x).map V.str))):=Zbj hlb
   have hb5:(upd H4 lb (.lst ((Zb1 rows x).map V.str))) lb=some (.lst ((Zb1 rows x).map V.str)):=uS
   generalize upd H4 lb (.lst ((Zb1 rows x).map V.str))=H5 at s45 hb5
   have hk5:=s45 _ _ hk4
   refine ⟨lb,_,rfl,.inl (SqL.of hb5),_,_,rfl,rfl,.inl ⟨by omega,by omega⟩,?_⟩
   have es:(((Zba ((xs.take (i + 1)).map (Zb1 rows))).length:Nat):Int) * ((((Zb1 rows x).map V.str).length:Nat):Int)=(((Zba ((xs.take (i + 1 + 1)).map (Zb1 rows))).length:Nat):Int):=by
    rw [List.length_map,← Int.natCast_mul,lows_size rows xs hx]
   refine ⟨_,rfl,_,_,rfl,rfl,_,rfl,?_⟩
   rw [es]
   refine Zed (fun _=>⟨_,rfl,?_⟩) (fun z=>?_)
   ·exact q lk (xs.take (i + 1)) H5 lkH (s4.trans s45) hk5 (fun x hx=>List.mem_of_mem_take hx) (by rw [List.length_take];omega) (by rw [List.length_take];omega) hb
   ·have z:¬ ((16:Int)<(((Zba ((xs.take (i + 1 + 1)).map (Zb1 rows))).length:Nat):Int)):=fun y=>z (decide_eq_true y)
    refine ⟨_,rfl,_,rfl,sL (by show 1≤100000;decide),fun lo hlo=>?_⟩
    have s56:Zaj H5 (upd H5 lo (.lst [.str x])):=Zbj hlo
    have ho6:(upd H5 lo (.lst [.str x])) lo=some (.lst [.str x]):=uS
    generalize upd H5 lo (.lst [.str x])=H6 at s56 ho6
    refine ⟨lk,lo,_,_,rfl,rfl,s56 _ _ hk5,ho6,sL (by rw [List.length_map,List.length_take];show _ + 1≤_;omega),fun lp hlp=>?_⟩
    have s57:=(s45.trans s56).trans (Zbj (o:=.lst ((xs.take (i + 1)).map V.str++[.str x])) hlp)
    refine ⟨lp,some (.str x),(by
     show [some (V.ref l),some (V.ref aa),some (V.ref lf),some (V.int ((((Zba ((xs.take (i + 1)).map (Zb1 rows))).length:Nat):Int) * ((((Zb1 rows x).map V.str).length:Nat):Int))),some (V.ref lp),some (V.str x)]=_
     rw [es]),s34.trans s57,(s4.trans (s45.trans s56)).free hlp,?_,fun j=>?_⟩
    ·rw [uS,show xs.take (i + 1 + 1)=xs.take (i + 1)++(xs[i + 1]?).toList from List.take_add_one,hx,List.map_append]
     rfl
    ·by_cases hj:j≤((xs.take (i + 1)).map (Zb1 rows)).length
     ·have:=hb j
      rw [show xs.take (i + 1 + 1)=xs.take (i + 1)++(xs[i + 1]?).toList from List.take_add_one,List.map_append,List.take_append_of_le_length hj]
      exact this
     ·rw [List.take_of_length_le (by rw [List.length_map,List.length_take] at hj ⊢;omega)]
      omega
  ·rintro σ H4 ⟨lk,x5,rfl,s34,lkH,hk4,hb⟩
   exact ⟨_,rfl,q lk _ H4 lkH (s3.trans s34) hk4 (fun x hx=>List.mem_of_mem_take hx) (by rw [List.length_take];omega) (by rw [List.length_take];omega) hb⟩
abbrev nDu:List Str:=["rows","above","names","filling","term","made","nearer","seen"]
abbrev pDu:List Str:=["rows","above","names","filling","term"]
theorem scDu:Zai nDu pDu (Zad Zfl):=⟨rfl,rfl,rfl,by decide +kernel,rfl,by decide +kernel,by decide +kernel⟩
theorem ok_ldue {f fN fR:Addr}{fd fdN fdR:FuncData}(F:Def K mg "_law_due" Zfl pDu f fd) (DN:Def K mg "_law_nearer" Zc5 pLNr fN fdN) (GN:Zar P w K mg base CX0 2 fN fdN pLNr spLNear) (DR:Def K mg "_law_ran" s__law_ran pRa fR fdR) (GR:Zar P w K mg base CX0 17 fR fdR pRa (spRan K 12)):Zar P w K mg base CX0 18 f fd pDu (spLDue K):=by
 refine F.fn.ok scDu (fun vs H Q E h=>?_) (fun cdv A outer s H vs Q E hr h=>?_)
 ·obtain ⟨l,aa,ln,lf,rows,avs,ns,us,xs,d,v,rfl,_⟩:=h
  rfl
 ·obtain ⟨l,aa,ln,lf,rows,avs,ns,us,xs,d,v,rfl,hR,g,haa,hA,hln,hN,gn,hlf,hl,hv,sd,hb,q⟩:=h
  have nd:=scDu.nd
  have hr2:Zcm 2 _:=hr.mono (by decide)
  have gle:=g.le
  refine' ⟨_,(pS (Zag (i:=5) nd rfl (Or.inr rfl) (Zbn Zaa))
   (pS (Za8 PassesOwn.never rfl (Za7 (Zae DN GN hr2 (pC (pv 0) (pC (pv 1) (pC (pv 3) Zaa))))) (Zah (i:=6) nd rfl (Or.inl rfl))
    (pS (Zag (i:=7) nd rfl (Or.inl rfl) (Zae DR GR hr (pC (pv 1) (pC (pv 2) (pC (pv 6) (pC (pv 4) (pC (Zbm Zaa) Zaa)))))))
   (pS (Za4 (Zan op_ne (Zaw (r:=Zfm K) Zbb (pv 7) Zaf (fun _ _=>rfl)) Zb3 (Zau _)) (Zac (Zal (Zbm (pC Zb3 (pC (pv 6) (pC (pv 7) Zaa)))))) Zak)
   (Zac (Za3 (Zfo PySem.F.plainAttrs_list PySem.F.slot_list_append PySem.F.type_list_append Zbv (pv 5) (pC (Zaw (r:=Zfm K) Zbb (pv 7) Zaf (fun _ _=>rfl)) Zaa)))))))
   (Zac (Zal (Zbm (pC Zb3 (pC ?eC Zaa))))))),?_⟩
  case eC=>exact (Zbl ["row"] ["made"] [5] (fun _=>Zax (osc:=Zad Zfl) (on:=nDu) (by decide +kernel) rfl rfl rfl) (Za7 (pv 0)) (fun C s H fp=>Zah (i:=0) nd_rm rfl (Or.inl rfl) (Or.inr rfl)) (fun C s H fp=>Zem (Zan (r:=rIn K false) op_in_seq (Zaw (r:=Zfm K) Zbb (pv 0) Zaf (fun _ _=>rfl)) (pv 1) (by with_unfolding_all rfl))) (fun C s H fp=>Zaw (r:=Zfm K) Zbb (pv 0) Zaf (fun _ _=>rfl)))
  refine ⟨Nat.zero_le _,fun lm hlm=>?_⟩
  have s1:Zaj H (upd H lm (.lst [])):=Zbj hlm
  have hm1:(upd H lm (.lst [])) lm=some (.lst []):=uS
  generalize upd H lm (.lst [])=H1 at s1 hm1
  refine ⟨_,rfl,_,rfl,_,rfl,l,aa,lf,rows,avs,xs,rfl,Zbk hR s1,g,s1 _ _ haa,hA.mono (fun _ _ e=>s1 _ _ e),s1 _ _ hlf,hl,hb,fun lg ys H4 hlg s14 hg4 hD4=>?_⟩
  have s4:=s1.trans s14
  have hm4:=s14 _ _ hm1
  have dl:=hD4.len
  have hgm:lg≠lm:=fun z=>by rw [z,hm1] at hlg;cases hlg
  have fl:(Zba (xs.map (Zb1 rows))).length≤512:=by
   have:=hb (xs.map (Zb1 rows)).length
   rw [List.take_length] at this
   exact this
  refine ⟨lg,rfl,⟨_,SqL.of hg4⟩,Zaq (Zat (xs:=ys)) (fun i σ H'=>∃ (acc:List Str) (x6 x7:Option V),σ=[some (.ref l),some (.ref aa),some (.ref ln),some (.ref lf),some v,some (.ref lm),x6,x7]∧(∀ b o,b≠lm→H4 b=some o→H' b=some o)∧H' lm=some (.lst (acc.map V.str))∧acc.length=i∧goC (fun c=>runR rows ns c 12 d []) ((Zba (xs.map (Zb1 rows))).drop i) acc=goC (fun c=>runR rows ns c 12 d []) (Zba (xs.map (Zb1 rows))) [])
   ⟨[],none,none,rfl,(fun _ _ _ e=>e),hm4,rfl,rfl⟩ (fun i σ H' _ ⟨_,_,_,_,kk,_⟩=>SqL.of (kk _ _ hgm hg4)) ?_ ?_⟩
  ·rintro i v' σ H5 hi ⟨acc,x6,x7,rfl,k5,hm5,al,hg⟩
   obtain ⟨c,hc,tc,rfl,htc⟩:=Zas hD4 hi
   have hcm:=List.mem_of_getElem? hc
   obtain ⟨cl,ck⟩:=near_known hcm
   have il:i<(Zba (xs.map (Zb1 rows))).length:=(List.getElem?_eq_some_iff.mp hc).1
   have s5:Zaj H H5:=fun b o e=>k5 _ _ (nNo e hlm) (s4 _ _ e)
   have tcm:tc≠lm:=fun z=>by rw [z,hm4] at htc;cases htc
   refine ⟨_,rfl,_,rfl,_,rfl,_,rfl,Nat.zero_le _,fun t0 ht0=>?_⟩
   have s56:Zaj H5 (upd H5 t0 (.tup [])):=Zbj ht0
   have h06:(upd H5 t0 (.tup [])) t0=some (.tup []):=uS
   generalize upd H5 t0 (.tup [])=H6 at s56 h06
   have s6:=s5.trans s56
   refine ⟨aa,ln,tc,t0,rows,avs,ns,us,false,c,d,v,[],rfl,g,s6 _ _ haa,hA.mono (fun _ _ e=>s6 _ _ e),s6 _ _ hln,hN.mono (Zct s6),gn,SqT.of (s56 _ _ (k5 _ _ tcm htc)),ck,hv.keep (Zct s6),by rw [cl];exact sd,h06,by decide,fun ar H7 s67 hr7=>?_⟩
   have s57:=s56.trans s67
   have s7:=s5.trans s57
   have hm7:=s57 _ _ hm5
   have ed:(Zba (xs.map (Zb1 rows))).drop i=c :: (Zba (xs.map (Zb1 rows))).drop (i + 1):=by
    rw [List.drop_eq_getElem_cons il]
    rw [List.getElem?_eq_getElem il] at hc
    rw [Option.some.inj hc]
   rw [ed] at hg
   cases hrr:runR rows ns c 12 d [] with
   | kind x =>
    rw [goC_k (f:=fun c=>runR rows ns c 12 d []) hrr] at hg
    rw [hrr] at hr7
    have hr7:H7 ar=some (.tup [.str "kind",.str x]):=hr7
    refine ⟨_,rfl,ar,_,_,_,rfl,rfl,SqT.of hr7,at0 _ _,rfl,_,rfl,?_⟩
    rw [decide_eq_true rfl]
    exact Zdv ⟨_,rfl,.inl ⟨rfl,_,SqL.of hm7⟩,_,rfl,ar,_,_,_,rfl,rfl,SqT.of hr7,Za6 (j:=1) rfl,lm,_,_,rfl,rfl,hm7,Za1 (by rw [List.length_map];omega),acc++[x],_,_,rfl,fun b o hb e=>by rw [Zab hb];exact s57 _ _ (k5 _ _ hb e),by rw [uS,List.map_append];rfl,by rw [List.length_append,al];rfl,hg⟩
   | bad b' sp' cl' ks =>
    rw [goC_b (f:=fun c=>runR rows ns c 12 d []) hrr] at hg
    rw [hrr] at hr7
    obtain ⟨u1,u2,hb1,hb2,hb3⟩:=hr7
    refine ⟨_,rfl,ar,_,_,_,rfl,rfl,SqT.of hb1,at0 _ _,rfl,_,rfl,?_⟩
    rw [decide_eq_false (sBV_ne b')]
    rw [← hg] at q
    refine iteT ⟨_,rfl,_,rfl,sL (by show 3≤100000;decide),fun a8 ha8=>?_⟩
    have s78:=Zbj (o:=.tup [.str "falls",.ref tc,.ref ar]) ha8
    exact q a8 _ (s7.trans s78) ⟨tc,ar,uS,s78 _ _ (s57 _ _ (k5 _ _ tcm htc)),u1,u2,s78 _ _ hb1,s78 _ _ hb2,s78 _ _ hb3⟩
  ·rintro σ H5 ⟨acc,x6,x7,rfl,k5,hm5,al,hg⟩
   have hg:(Sum.inr acc:Sum (List Str×Rs) (List Str))=goC (fun c=>runR rows ns c 12 d []) (Zba (xs.map (Zb1 rows))) []:=by
    rw [← hg,← dl,List.drop_length]
    rfl
   rw [← hg] at q
   have s5:Zaj H H5:=fun b o e=>k5 _ _ (nNo e hlm) (s4 _ _ e)
   have hR5:=Zbk hR s5
   obtain ⟨vs,hvs,hpr⟩:=id hR5
   refine ⟨_,rfl,l,rfl,⟨_,SqL.of hvs⟩,rows_comp hR5 (by omega) (fun y=>decide (y∈acc)) ?_ ?_ ?_⟩
   ·intro t u y H' R s' hy ht hR'
    refine ⟨_,rfl,t,_,_,_,rfl,rfl,SqT.of ht,at0 _ _,_,rfl,lm,_,rfl,.inl (SqL.of (s' _ _ hm5)),rfl,Zdz acc,_,rfl,?_⟩
    rw [if_neg (by decide),in_strs]
    exact hR'
   ·intro t u y H' R ht hR'
    exact ⟨_,rfl,t,_,_,_,rfl,rfl,SqT.of ht,at0 _ _,hR'⟩
   ·intro D hD
    have s67:=Zbj (o:=.lst ((someW rows acc).map V.str)) hD
    have hD7:(upd H5 D (.lst ((someW rows acc).map V.str))) D=some (.lst ((someW rows acc).map V.str)):=uS
    generalize upd H5 D (.lst ((someW rows acc).map V.str))=H7 at s67 hD7
    refine ⟨sL (by show 2≤100000;decide),fun a8 ha8=>?_⟩
    have s78:=Zbj (o:=.tup [.str "holds",.ref D]) ha8
    exact q a8 _ ((s5.trans s67).trans s78) ⟨D,s5.free hD,uS,s78 _ _ hD7⟩
end
end K68
namespace K68
open PySem L2 Md
theorem mk_book {K:W.Frag}{C B D:Addr}{Hx:Hp}{pb db k l:Addr}{rows:List (Str×List Str)}{ns:List Nam}{R:Hp→Prop}{E:XK}(nb:Hx pb=none) (ndb:Hx db=none) (kd:Zbo C Hx k rows) (g:Zcr rows) (hN:NamesAt K Hx l ns) (gn:Zbf rows ns) (h:∀ H',Zaj Hx H'→Zfc C B D H' pb k rows ns→R H'):
  spKInit K C B D [.ref pb,.ref k,.ref l] (upd (upd Hx db (.own pb)) pb (.ins D db [])) (fun v H3=>v=.non∧R H3) E:=by
 have s34:Zaj Hx (upd (upd Hx db (.own pb)) pb (.ins D db [])):=fun b o e=>by
  have e1:(upd Hx db (.own pb)) b=some o:=by rw [Zab (nNo e ndb)];exact e
  rw [Zab (nNo e nb)];exact e1
 obtain ⟨b,vs,hl,hp⟩:=hN
 exact ⟨pb,db,k,l,rows,ns,rfl,uS,kd.mono s34,g,⟨b,vs,hl.mono s34,Paired.mapP hp fun _ _ z=>z.mono s34⟩,gn,fun H4 bk keep=>⟨rfl,h H4 (fun b o e=>keep b o (nNo e nb) (s34 _ _ e)) bk.at_⟩⟩
def spEx (sp:List (Str×List Str)→Sp):Sp:=fun vs H Q E=>∃ rows,Zcr rows∧sp rows vs H Q E
theorem fn_ex {P:Program}{w:World}{K:W.Frag}{mg:Str→Option Value}{base:Heap}{k:Nat}{f:Addr}{fd:FuncData}{ps:List Str}{sp:List (Str×List Str)→Sp}(h:∀ rows,Zcr rows→Zar P w K mg base CX0 k f fd ps (sp rows)):Zar P w K mg base CX0 k f fd ps (spEx sp):=
 ⟨fun vs H Q E ⟨r,g,z⟩=>(h r g).len vs H Q E z,fun A outer s H args us vs Q E hr he hb hv ⟨r,g,z⟩=>(h r g).run A outer s H args us vs Q E hr he hb hv z⟩
theorem CmV.tup {rows:List (Str×List Str)}{H0 H:Hp}:∀ {r:Sum (List Str×Rs) (List Str)}{a:Addr},CmV rows H0 H r a→∃ vs,H a=some (.tup vs)
 | .inl _,_,⟨_,_,h,_⟩=>⟨_,h⟩
 | .inr _,_,⟨_,_,h,_⟩=>⟨_,h⟩
theorem CmV.keep {rows:List (Str×List Str)}{H0 H H':Hp}:∀ {r:Sum (List Str×Rs) (List Str)}{a:Addr},(∀ b xs,H b=some (.tup xs)→H' b=some (.tup xs))→(∀ l,H0 l=none→(∃ xs,H l=some (.lst xs))→H' l=H l)→CmV rows H0 H r a→CmV rows H0 H' r a
 | .inl _,_,k,_,⟨t,u,h1,h2,h3⟩=>⟨t,u,k _ _ h1,k _ _ h2,h3.keep k⟩
 | .inr _,_,k,m,⟨l,h0,h1,h2⟩=>⟨l,h0,k _ _ h1,by rw [m l h0 ⟨_,h2⟩];exact h2⟩
theorem CmV.base {rows:List (Str×List Str)}{H0 H1 H:Hp}:∀ {r:Sum (List Str×Rs) (List Str)}{a:Addr},CmV rows H1 H r a→(∀ l,H1 l=none→H0 l=none)→CmV rows H0 H r a
 | .inl _,_,h,_=>h
 | .inr _,_,⟨l,h0,h1,h2⟩,k=>⟨l,k l h0,h1,h2⟩
theorem snd_up {ns:List Nam}{m:Nat}:∀ {j i:Nat}{d:Dt},j≤i→sndN ns m j d=true→sndN ns m i d=true
 | 0,_,_,_,h=>by cases h
 | j + 1,i,d,hi,h=>by
  obtain ⟨k,rfl⟩:∃ k,i=k + 1:=⟨i - 1,by omega⟩
  rcases snd_inv h with ⟨i,rfl,hi⟩ | ⟨n,hn,ds,rfl,hl,hk⟩
  ·exact h
  ·show (namedB ns (.tuple (.str n.1 :: ds))&&ds.all (sndN ns m k))=true
   have h:(namedB ns (.tuple (.str n.1 :: ds))&&ds.all (sndN ns m j))=true:=h
   rw [Bool.and_eq_true,List.all_eq_true] at h ⊢
   exact ⟨h.1,fun c hc=>snd_up (by omega) (hk c hc)⟩
def CmG (rows:List (Str×List Str)):Sum (List Str×Rs) (List Str)→Prop
 | .inl (c,r)=>(∀ x∈c,x∈rows.map (·.1))∧RsG rows r
 | .inr _=>True
theorem goC_good {rows:List (Str×List Str)}{f:List Str→Rs}:∀ {cs:List (List Str)}{acc:List Str},(∀ c∈cs,(∀ x∈c,x∈rows.map (·.1))∧RsG rows (f c))→CmG rows (goC f cs acc)
 | [],acc,_=>trivial
 | c :: cs,acc,h=>by
  cases hc:f c with
  | kind x=>rw [goC_k hc];exact goC_good fun d hd=>h d (.tail _ hd)
  | bad b sp cl ks =>
   rw [goC_b hc]
   have:=h c (.head _)
   rw [hc] at this
   exact this
theorem ok_sF (n:Nat):W.kqdOk n (.str "falls")=true:=by rw [W.kqdOk];decide +kernel
theorem ok_sH (n:Nat):W.kqdOk n (.str "holds")=true:=by rw [W.kqdOk];decide +kernel
theorem ok_rs8 {rows:List (Str×List Str)}(g:Zcr rows):∀ {r:Rs},RsG rows r→W.kqdOk 8 (rsD r)=true
 | .kind x,h=>by
  show ([.str "kind",.str x]:List Dt).all (W.kqdOk 7)=true
  rw [List.all_cons,List.all_cons,ok_sK,ok_str 7 (Zby g x h)]
  rfl
 | .bad b sp c ks,⟨_,_,h⟩=>by
  show ((.str (sB b):: .tuple (sp.map natD):: datC c :: ks.map natD):List Dt).all (W.kqdOk 7)=true
  have:W.kqdOk 7 (.tuple (sp.map natD))=true:=by
   show (sp.map natD).all (W.kqdOk 6)=true
   exact ok_natsT 6 sp
  rw [List.all_cons,List.all_cons,List.all_cons,ok_sB,ok_natsT,ok_call 6 fun x hx=>Zby g x (h x hx),this]
  rfl
theorem ok_cm {rows:List (Str×List Str)}(g:Zcr rows):∀ {r:Sum (List Str×Rs) (List Str)},CmG rows r→W.kqdOk 9 (cmD rows r)=true
 | .inl (c,r),⟨h1,h2⟩=>by
  show ([.str "falls",datC c,rsD r]:List Dt).all (W.kqdOk 8)=true
  rw [List.all_cons,List.all_cons,List.all_cons,ok_sF,ok_call 7 fun x hx=>Zby g x (h1 x hx),ok_rs8 g h2]
  rfl
 | .inr acc,_=>by
  show ([.str "holds",.list ((someW rows acc).map W.Dat.str)]:List Dt).all (W.kqdOk 8)=true
  have:W.kqdOk 8 (.list ((someW rows acc).map W.Dat.str))=true:=by
   show ((someW rows acc).map W.Dat.str).all (W.kqdOk 7)=true
   rw [List.all_eq_true]
   intro z hz
   obtain ⟨x,hx,rfl⟩:=List.mem_map.mp hz
   exact ok_str 7 (Zby g x (List.mem_filter.mp hx).1)
  rw [List.all_cons,List.all_cons,ok_sH,this]
  rfl
theorem ne_fh:¬ (V.str "falls"=V.str "holds"):=fun z=>by injection z with z;exact absurd z (by decide +kernel)
structure TxtLw (mg:Str→Option Value):Prop where
 isi:mg "isinstance"=none
 list:mg "list"=none
 tuple:mg "tuple"=none
 len:mg "len"=none
 range:mg "range"=none
section
variable {P:Program} {w:World} {K:W.Frag} {mg:Str→Option Value} {base:Heap}
abbrev nLaw:List Str:=["script","pot","rows","above","names","book","k","filling","handed","term","due","turn","found"]
theorem scLaw:Zai nLaw ["script"] (Zad s_law):=⟨rfl,rfl,rfl,by decide +kernel,rfl,by decide +kernel,by decide +kernel⟩
set_option maxHeartbeats 16000000 in
theorem ok_law {f C B D fI fKI fP fT fR fA fN fF fTm fCu fDu fCo:Addr}{fd fdI fdKI fdP fdT fdR fdA fdN fdF fdTm fdCu fdDu fdCo:FuncData}(F:Def K mg "law" s_law ["script"] f fd) (T:TxtLw mg)
  (M:Mk K C fI) (mgC:mg "Kinds"=some (.ref C)) (bI:Zes K fdI ["self","rows"] []) (GI:Zar P w K mg base CX0 4 fI fdI ["self","rows"] (spInit K C))
  (MD:Mk K D fKI) (mgD:mg "Book"=some (.ref D)) (bD:Zes K fdKI pKI []) (GD:Zar P w K mg base CX0 6 fKI fdKI pKI (spKInit K C B D))
  (DP:Def K mg "_law_pot" Zfk ["script","k"] fP fdP) (GP:Zar P w K mg base CX0 1 fP fdP ["script","k"] (spPot K)) (DT:Def K mg "_law_take" Za9 ["pot","many"] fT fdT) (GT:Zar P w K mg base CX0 1 fT fdT ["pot","many"] spTake)
  (DR:Def K mg "_law_rows" Zdi ["pot","most"] fR fdR) (GR:Zar P w K mg base CX0 4 fR fdR ["pot","most"] spRowsL) (DA:Def K mg "_law_above" Zez ["rows"] fA fdA) (GA:Zar P w K mg base CX0 1 fA fdA ["rows"] spLAbove)
  (DN:Def K mg "_law_names" Zey pNs fN fdN) (GN:Zar P w K mg base CX0 4 fN fdN pNs (spNames K)) (DF:Def K mg "_law_filling" Zcp pFi fF fdF) (GF:Zar P w K mg base CX0 2 fF fdF pFi spFill)
  (DTm:Def K mg "_law_term" Zdh pTm fTm fdTm) (GTm:∀ rows,Zcr rows→Zar P w K mg base CX0 14 fTm fdTm pTm (spTerm rows 12))
  (DCu:Def K mg "_law_cut" s__law_cut pLNr fCu fdCu) (GCu:Zar P w K mg base CX0 2 fCu fdCu pLNr spCut) (DDu:Def K mg "_law_due" Zfl pDu fDu fdDu) (GDu:Zar P w K mg base CX0 18 fDu fdDu pDu (spLDue K)) (DCo:Def K mg "comes" s_comes pCo fCo fdCo) (GCo:Zar P w K mg base CX0 23 fCo fdCo pCo (spComes K C B D)):
  Zar P w K mg base CX0 24 f fd ["script"] (spLaw K):=by
 have GTm:=fn_ex GTm
 refine F.fn.ok scLaw (fun vs H Q E h=>?_) (fun cdv A outer s H vs Q E hr h=>?_)
 ·obtain ⟨a,ns,rfl,_⟩:=h
  rfl
 ·obtain ⟨a,ns,rfl,hS,hlen,q⟩:=h
  have nd:=scLaw.nd
  have hu:=hr.units
  have hr1:Zcm 1 _:=hr.mono (by decide)
  have hr2:Zcm 2 _:=hr.mono (by decide)
  have hr4:Zcm 4 _:=hr.mono (by decide)
  have hr5:Zcm 5 _:=hr.mono (by decide)
  have hr6:Zcm 7 _:=hr.mono (by decide)
  have hr14:Zcm 14 _:=hr.mono (by decide)
  have hr18:Zcm 18 _:=hr.mono (by decide)
  refine' ⟨_,(pS (Zag (i:=1) nd rfl (Or.inl rfl) (Zae DP GP hr1 (pC (pv 0) (pC Zaf Zaa))))
   (pS (Zag (i:=2) nd rfl (Or.inl rfl) (Zae DR GR hr4 (pC (pv 1) (pC Zaf Zaa))))
   (pS (Zag (i:=3) nd rfl (Or.inl rfl) (Zae DA GA hr1 (pC (pv 2) Zaa)))
   (pS (Zag (i:=4) nd rfl (Or.inl rfl) (Zae DN GN hr4 (pC (pv 0) (pC Zaf (pC (pv 2) (pC (pv 3) (pC Zaf (pC Zaf (pC Zaf Zaa)))))))))
   (pS (Zag (i:=5) nd rfl (Or.inl rfl) (pe_make MD GD hr6 rfl mgD bD .nil Zde (pC (pe_make M GI hr5 rfl mgC bI .nil Zde (pC (pv 2) Zaa)) (pC (pv 4) Zaa))))
   (pS (Za8 PassesOwn.never rfl (pi_range2 (by rfl) T.range (pC Zaf (pC Zaf Zaa))) (Zah (i:=6) nd rfl (Or.inl rfl))
    (pS (Zag (i:=1) nd rfl (Or.inl rfl) (Zae DP GP hr1 (pC (pv 0) (pC (pv 6) Zaa))))
   (pS (Zag (i:=7) nd rfl (Or.inl rfl) (Zae DCu GCu hr2 (pC (pv 2) (pC (pv 3) (pC (Zae DF GF hr2 (pC (pv 1) (pC (pv 2) (pC (pv 4) (pC Zaf Zaa))))) Zaa)))))
   (pS (Zag (i:=8) nd rfl (Or.inl rfl) (Zbd Ze9 (by rfl) T.list PyProof.Rows.boot_list (pC (pv 7) Zaa)))
   (pS (Zag (i:=9) nd rfl (Or.inl rfl) (Zae DTm GTm hr14 (pC (pv 1) (pC (pv 4) (pC (Zam Zao (by rfl) T.len PySem.boot_len (pC (pv 7) Zaa)) (pC (Zbn (pC (Za0 Zck Zaf (Zae DT GT hr1 (pC (pv 1) (pC Zaf Zaa)))) Zaa)) (pC Zaf Zaa)))))))
   (pS (Zag (i:=10) nd rfl (Or.inl rfl) (Zae DDu GDu hr18 (pC (pv 2) (pC (pv 3) (pC (pv 4) (pC (pv 7) (pC (pv 9) Zaa)))))))
   (Zac (Za8 PassesOwn.never rfl (Zbu (by rfl) T.range (pC Zaf Zaa)) (Zah (i:=11) nd rfl (Or.inl rfl))
     (pS (Zag (i:=12) nd rfl (Or.inl rfl) (Zae DCo GCo hr (pC (pv 5) (pC (pv 8) (pC (pv 9) Zaa)))))
   (Zfd (Za4 (Zan Zec (Zae DT GT hr1 (pC (pv 1) (pC Zaf Zaa))) Zaf (Zau _)) (Zac (Zag (i:=12) nd rfl (Or.inl rfl) (Zae DCo GCo hr (pC (pv 5) (pC (Zbd Zbe (by rfl) T.tuple PyProof.Rows.boot_tuple (pC (pv 7) Zaa)) (pC (pv 9) Zaa)))))) Zak)
   (pS (Za4 (PW.pt (pw_or (Zc8 (Zcz (Zam call_isi (by rfl) T.isi PyProof.Rows.boot_isinstance (pC (pv 12) (pC (pe_bltn (v:=.ty "tuple") (by rfl) T.tuple PyProof.Rows.boot_tuple rfl) Zaa))))) (pw_or (Zan (op_neD hu) (pv 12) (pv 10) (Zau _)) (pw_or1 (Zan (op_neD hu) (pv 8) (pv 7) (Zau _)))))) (Zac (Zal pe_bl)) Zak)
   (Zac (Za4 (Zan Zec (Zaw (r:=Zfm K) Zbb (pv 12) Zaf (fun _ _=>rfl)) Zb3 (Zau _)) (Zac (Za3 (pe_bm0 PySem.F.plainAttrs_list PySem.F.slot_list_clear PySem.F.type_list_clear mt_clear (Zaw (r:=Zfm K) Zbb (pv 12) Zaf (fun _ _=>rfl))))) Zak)))))))))))))
   (Zac (Zal pe_bl)))))))),?_⟩
  refine ⟨_,rfl,a,0,ns,rfl,hS,by omega,by decide,by decide,fun p o hp ho=>?_⟩
  have s1:Zaj H (upd H p o):=Zbj hp
  have hp1:(upd H p o) p=some o:=uS
  generalize upd H p o=H1 at s1 hp1
  refine ⟨_,rfl,p,6,rfl,⟨o,hp1,ho⟩,by decide,by decide,fun l rows H3 d13 hl hR3 g _=>?_⟩
  have s03:Zaj H H3:=fun b u e=>d13.keep _ _ (nNo e hp) (s1 _ _ e)
  refine ⟨_,rfl,l,rows,rfl,hR3,g,fun aa avs H4 s34 haa hA=>?_⟩
  have s04:=s03.trans s34
  have hR4:=Zbk hR3 s34
  refine ⟨_,rfl,_,rfl,_,rfl,a,l,aa,1,4,6,1296,ns,rows,avs,rfl,s04.seq hS,by omega,by decide,hR4,g,haa,hA,by decide,by decide,by decide,fun ln nms us H5 s45 hln hln5 hN5 nm5 nl=>?_⟩
  have gn:Zbf rows nms:=⟨by omega,nm5.each,nm5.nd⟩
  have hR5:=Zbk hR4 s45
  refine ⟨_,rfl,?_⟩
  intro xb dxb nx ndx nex
  refine mk_kinds nx ndx hR5 g fun H6 s56 kd6=>?_
  refine ⟨_,rfl,?_⟩
  intro pb db nb ndb neb
  refine mk_book nb ndb kd6 g ⟨true,us,SqL.of (s56 _ _ hln5),Paired.mapP (hN5.mono (Zct s56)) fun n v h=>h.v⟩ gn fun H7 s67 bk=>?_
  have s57:=s56.trans s67
  have s47:=s45.trans s57
  have s07:=s04.trans s47
  have hln7:=s57 _ _ hln5
  have hN7:=hN5.mono (Zct s57)
  have hR7:=Zbk hR5 s57
  have hA7:Zbt H7 rows rows avs:=hA.mono fun _ _ e=>s47 _ _ e
  have haa7:=s47 _ _ haa
  refine ⟨6,9,rfl,⟨by decide,by decide,by decide,by decide⟩,Zaq Zbg (fun i σ H'=>∃ x1 x6 x7 x8 x9 x10 x11 x12:Option V,σ=[some (.ref a),x1,some (.ref l),some (.ref aa),some (.ref ln),some (.ref pb),x6,x7,x8,x9,x10,x11,x12]∧Zaj H7 H')
   ⟨some (.ref p),none,none,none,none,none,none,none,rfl,Zaj.refl _⟩ (fun _ _ _ _ _=>trivial) ?_ ?_⟩
  ·rintro i v' σ H12 hi ⟨x1,x6,x7,x8,x9,x10,x11,x12,rfl,s12⟩
   obtain ⟨hi8,rfl⟩:=Zaz hi
   have hi8:i<3:=hi8
   refine ⟨_,rfl,_,rfl,a,(6 + (i:Int)),ns,rfl,(s07.trans s12).seq hS,by omega,by omega,by omega,fun pk ok hpk hok=>?_⟩
   have s1213:Zaj H12 (upd H12 pk ok):=Zbj hpk
   have hpk13:(upd H12 pk ok) pk=some ok:=uS
   generalize upd H12 pk ok=H13 at s1213 hpk13
   have s713:=s12.trans s1213
   refine ⟨_,rfl,_,rfl,_,rfl,_,rfl,_,rfl,pk,l,ln,12,rows,nms,us,rfl,⟨ok,hpk13,hok⟩,Zbk hR7 s713,g,s713 _ _ hln7,hN7.mono (Zct s713),gn,by decide,by decide,fun lg zs H14 hlg d1314 hg14 kz z1 zl=>?_⟩
   have s1214:Zaj H12 H14:=fun b u e=>d1314.keep _ _ (nNo e hpk) (s1213 _ _ e)
   obtain ⟨o14,hpk14,ho14⟩:=d1314.pot
   have s714:=s12.trans s1214
   refine ⟨l,aa,lg,rows,avs,zs,rfl,Zbk hR7 s714,g,s714 _ _ haa7,hA7.mono (fun _ _ e=>s714 _ _ e),hg14,z1,zl,fun lf xs H15 hlf s1415 hf15 xz x1' xl' pb24=>?_⟩
   have kx:∀ x∈xs,x∈rows.map (·.1):=fun x hx=>kz x (xz x hx)
   have xl:xs.length≤12:=by omega
   have pb512:∀ i,(Zba ((xs.map (Zb1 rows)).take i)).length≤512:=fun i=>Nat.le_trans (pb24 i) (by decide)
   have hpk15:=s1415 _ _ hpk14
   have fpk:lf≠pk:=fun z=>by rw [z,hpk14] at hlf;cases hlf
   refine ⟨_,rfl,lf,_,rfl,.inl (SqL.of hf15),fun lh hlh=>?_⟩
   have s1516:Zaj H15 (upd H15 lh (.lst (xs.map V.str))):=Zbj hlh
   have hh16:(upd H15 lh (.lst (xs.map V.str))) lh=some (.lst (xs.map V.str)):=uS
   generalize upd H15 lh (.lst (xs.map V.str))=H16 at s1516 hh16
   have hpkn:lh≠pk:=fun z=>by rw [z,hpk15] at hlh;cases hlh
   have hf16:=s1516 _ _ hf15
   have hpk16:=s1516 _ _ hpk15
   have s1216:=(s1214.trans s1415).trans s1516
   refine ⟨_,rfl,_,rfl,_,rfl,lf,_,rfl,.inl (SqL.of hf16),_,rfl,pk,8,o14,rfl,hpk16,ho14,by decide,by decide,fun vr o17 r0 r1 ho17=>⟨_,_,rfl,rfl,sL (by show 1≤100000;decide),fun r hr'=>?_⟩⟩
   have d1617:Drawn pk H16 (upd H16 pk o17):=Drawn.upd ho17
   have hpk17:(upd H16 pk o17) pk=some o17:=uS
   generalize upd H16 pk o17=H17 at d1617 hpk17 hr'
   have s1217:Zaj H12 H17:=fun b u e=>d1617.keep _ _ (nNo e hpk) (s1216 _ _ e)
   have hf17:=d1617.keep _ _ fpk hf16
   have hh17:=d1617.keep _ _ hpkn hh16
   obtain ⟨ρ,eρ⟩:∃ ρ:Nat,(1:Int) + vr=(ρ:Int):=⟨(1 + vr).toNat,by omega⟩
   have s1718:Zaj H17 (upd H17 r (.lst [.int (1 + vr)])):=Zbj hr'
   have hr18:(upd H17 r (.lst [.int (1 + vr)])) r=some (.lst [.int (1 + vr)]):=uS
   generalize upd H17 r (.lst [.int (1 + vr)])=H18 at s1718 hr18
   rw [eρ] at hr18
   have r12:H12 r=none:=s1217.free hr'
   have pkr:pk≠r:=nNo hpk17 hr'
   have fr:lf≠r:=nNo hf17 hr'
   have hhr:lh≠r:=nNo hh17 hr'
   have s1218:=s1217.trans s1718
   have s718:=s12.trans s1218
   refine ⟨rows,g,pk,ln,r,xs.length,ρ,4,nms,us,by rw [List.length_map];rfl,by decide,by decide,⟨o17,s1718 _ _ hpk17,ho17⟩,hr18,pkr,s718 _ _ hln7,hN7.mono (Zct s718),gn,x1',xl,by omega,fun v d ρ' H19 st hv dr cn sd4=>?_⟩
   have s1219:Zaj H12 H19:=fun b u e=>st.keep _ _ (nNo e hpk) (nNo e r12) (s1218 _ _ e)
   obtain ⟨o19,hpk19,ho19⟩:=st.pot
   have hf19:=st.keep _ _ fpk fr (s1718 _ _ hf17)
   have hh19:=st.keep _ _ hpkn hhr (s1718 _ _ hh17)
   have sd:sndN nms xs.length 12 d=true:=snd_up (by decide) sd4
   have cn40:∀ k,cntL k [d]≤40:=fun k=>by have:=cn k;omega
   have wf:Wf d:=dr_wf1 dr
   have lz:∀ i,(lvl i [d]).length≤1000:=fun i=>by have:=lvl_cnt i [d];have:=cn40 (i + 1);omega
   have tt:termB nms xs.length d=true:=term_true sd cn40
   have s719:=s12.trans s1219
   refine ⟨_,rfl,_,rfl,_,rfl,_,rfl,_,rfl,l,aa,ln,lf,rows,avs,nms,us,xs,d,v,rfl,Zbk hR7 s719,g,s719 _ _ haa7,hA7.mono (fun _ _ e=>s719 _ _ e),s719 _ _ hln7,hN7.mono (Zct s719),gn,hf19,xl,hv,sd,pb512,fun ad H20 s1920 hdue=>?_⟩
   have cg:CmG rows (goC (fun c=>runR rows nms c 12 d []) (Zba (xs.map (Zb1 rows))) []):=goC_good fun c hc=>by
    obtain ⟨cl,ck⟩:=near_known hc
    exact ⟨ck,run_fine gn ck 12 d (by rw [cl];exact sd) [] (by decide)⟩
   have okr:=ok_cm g cg
   have okd:=ok_dat (ws:=xs) fun x hx=>Zby g x (kx x hx)
   have s1220:=s1219.trans s1920
   have hpk20:=s1920 _ _ hpk19
   have hf20:=s1920 _ _ hf19
   have hh20:=s1920 _ _ hh19
   have hv20:=hv.keep (Zct s1920)
   have pk19:H19 pk≠none:=fun z=>by rw [hpk19] at z;cases z
   refine ⟨2,rfl,by decide,by decide,Zaq Zbg (fun _ σ H'=>∃ x11 x12:Option V,σ=[some (.ref a),some (.ref pk),some (.ref l),some (.ref aa),some (.ref ln),some (.ref pb),some (.int (6 + (i:Int))),some (.ref lf),some (.ref lh),some v,some (.ref ad),x11,x12]∧(∀ b o,b≠pk→H20 b=some o→H' b=some o)∧∃ o,H' pk=some o∧PotO o)
    ⟨x11,x12,rfl,(fun _ _ _ e=>e),o19,hpk20,ho19⟩ (fun _ _ _ _ _=>trivial) ?_ ?_⟩
   ·rintro j v'' σ H21 hj ⟨x11,x12,rfl,k21,o21,hpk21,ho21⟩
    obtain ⟨hj2,rfl⟩:=Zaz hj
    have s1221:Zaj H12 H21:=fun b u e=>k21 _ _ (nNo e hpk) (s1220 _ _ e)
    have tk21:∀ b zs,H20 b=some (.tup zs)→H21 b=some (.tup zs):=fun b zs e=>k21 _ _ (fun z=>by rw [z,hpk20] at e;obtain ⟨_,_,q',_⟩:=ho19;rw [q'] at e;cases e) e
    have hf21:=k21 _ _ fpk hf20
    have hh21:=k21 _ _ hpkn hh20
    have s721:=s12.trans s1221
    have hdue21:CmV rows H19 H21 _ ad:=hdue.keep tk21 fun l2 h0 ⟨xs2,h2⟩=>by rw [h2];exact k21 _ _ (fun z=>pk19 (by rw [← z];exact h0)) h2
    refine ⟨_,rfl,_,rfl,_,rfl,pb,xb,lh,rows,nms,true,xs,d,v,rfl,bk.mono s721,g,gn,SqL.of hh21,xl,kx,hv20.keep tk21,wf,lz,tt,pb512,fun af H22 s2122 hfnd=>?_⟩
    refine ⟨(fun σ' H'=>∃ (af:Addr),σ'=[some (.ref a),some (.ref pk),some (.ref l),some (.ref aa),some (.ref ln),some (.ref pb),some (.int (6 + (i:Int))),some (.ref lf),some (.ref lh),some v,some (.ref ad),some (.int (0 + (j:Int))),some (.ref af)]∧(∀ b o,b≠pk→H21 b=some o→H' b=some o)∧(∃ o,H' pk=some o∧PotO o)∧CmV rows H21 H' (goC (fun c=>runR rows nms c 12 d []) (Zba (xs.map (Zb1 rows))) []) af),?_,?_⟩
    ·have hpk22:=s2122 _ _ hpk21
     refine ⟨_,rfl,pk,2,o21,rfl,hpk22,ho21,by decide,by decide,fun vx o23 _ _ ho23=>⟨rfl,_,rfl,?_⟩⟩
     have d2223:Drawn pk H22 (upd H22 pk o23):=Drawn.upd ho23
     have hpk23:(upd H22 pk o23) pk=some o23:=uS
     generalize upd H22 pk o23=H23 at d2223 hpk23
     have k2123:∀ b o,b≠pk→H21 b=some o→H23 b=some o:=fun b o hb e=>d2223.keep _ _ hb (s2122 _ _ e)
     have tk2223:∀ b zs,H22 b=some (.tup zs)→H23 b=some (.tup zs):=fun b zs e=>Drawn.tup d2223 hpk22 ho21 e
     refine Zed (fun _=>?_) (fun _=>⟨af,rfl,k2123,⟨o23,hpk23,ho23⟩,hfnd.keep tk2223 fun l2 h0 ⟨xs2,h2⟩=>by rw [h2];exact d2223.keep _ _ (fun z=>by rw [z,hpk21] at h0;cases h0) h2⟩)
     refine ⟨_,rfl,_,rfl,lf,_,rfl,.inl ⟨SqL.of (k2123 _ _ fpk hf21),fun tf htf=>?_⟩⟩
     have s2324:Zaj H23 (upd H23 tf (.tup (xs.map V.str))):=Zbj htf
     have htf24:(upd H23 tf (.tup (xs.map V.str))) tf=some (.tup (xs.map V.str)):=uS
     generalize upd H23 tf (.tup (xs.map V.str))=H24 at s2324 htf24
     have s724:Zaj H7 H24:=fun b u e=>s2324 _ _ (k2123 _ _ (nNo (s12 _ _ e) hpk) (s721 _ _ e))
     have hv24:=((hv20.keep tk21).keep (fun b zs e=>tk2223 _ _ (s2122 _ _ e))).keep (Zct s2324)
     refine ⟨_,rfl,pb,xb,tf,rows,nms,false,xs,d,v,rfl,bk.mono s724,g,gn,SqT.of htf24,xl,kx,hv24,wf,lz,tt,pb512,fun ag H25 s2425 hg25=>⟨ag,rfl,fun b o hb e=>s2425 _ _ (s2324 _ _ (k2123 _ _ hb e)),⟨o23,s2425 _ _ (s2324 _ _ hpk23),ho23⟩,?_⟩⟩
     have fre:∀ l2,H24 l2=none→H21 l2=none:=fun l2 h=>by
      cases hz:H21 l2 with
      | none=>rfl
      | some u =>
       by_cases e:l2=pk
       ·rw [e,s2324 _ _ hpk23] at h;cases h
       ·rw [s2324 _ _ (k2123 _ _ e hz)] at h;cases h
     exact hg25.base fre
    rintro σ' H26 ⟨af,rfl,k26,⟨o26,hpk26,ho26⟩,hfnd⟩
    have tk26:∀ b zs,H21 b=some (.tup zs)→H26 b=some (.tup zs):=fun b zs e=>k26 _ _ (fun z=>by rw [z,hpk21] at e;obtain ⟨_,_,q',_⟩:=ho21;rw [q'] at e;cases e) e
    have hdue26:CmV rows H19 H26 _ ad:=hdue21.keep tk26 fun l2 h0 ⟨xs2,h2⟩=>by rw [h2];exact k26 _ _ (fun z=>pk19 (by rw [← z];exact h0)) h2
    obtain ⟨fvs,hfv⟩:=hfnd.tup
    refine ⟨_,rfl,_,_,_,_,rfl,.tup hfv,rfl,_,rfl,Zdv ⟨_,rfl,_,rfl,cmD rows _,cmD rows _,hfnd.rep,hdue26.rep,okr,okr,_,rfl,?_⟩⟩
    rw [dEq_self]
    refine Zdv ⟨_,rfl,_,rfl,.list (xs.map W.Dat.str),.list (xs.map W.Dat.str),.list (SqL.of (k26 _ _ hpkn hh21)) (Zdy xs),.list (SqL.of (k26 _ _ fpk hf21)) (Zdy xs),okd,okd,_,rfl,?_⟩
    rw [dEq_self]
    refine Zdv ?_
    have k2026:∀ b o,b≠pk→H20 b=some o→H26 b=some o:=fun b o hb e=>k26 _ _ hb (k21 _ _ hb e)
    generalize goC (fun c=>runR rows nms c 12 d []) (Zba (xs.map (Zb1 rows))) []=res at hfnd
    match res,hfnd with
    | .inl (c,r),⟨t,u,h1,h2,h3⟩ =>
     refine ⟨_,rfl,af,_,_,_,rfl,rfl,SqT.of h1,at0 _ _,rfl,_,rfl,?_⟩
     rw [decide_eq_false ne_fh]
     exact Zdv ⟨_,_,rfl,k2026,o26,hpk26,ho26⟩
    | .inr acc,⟨l2,h0,h1,h2⟩ =>
     refine ⟨_,rfl,af,_,_,_,rfl,rfl,SqT.of h1,at0 _ _,rfl,_,rfl,?_⟩
     rw [decide_eq_true rfl]
     have l2p:l2≠pk:=fun z=>by rw [z,hpk21] at h0;cases h0
     refine iteT ⟨_,rfl,af,_,_,_,rfl,rfl,SqT.of h1,Za6 (j:=1) rfl,.inl ⟨rfl,_,SqL.of h2⟩,l2,_,rfl,rfl,h2,_,_,rfl,fun b o hb e=>?_,o26,by rw [Zab (Ne.symm l2p)];exact hpk26,ho26⟩
     rw [Zab (fun z=>by rw [← z,k21 _ _ hb e] at h0;cases h0)]
     exact k2026 _ _ hb e
   ·rintro σ H21 ⟨x11,x12,rfl,k21,_⟩
    exact ⟨_,_,_,_,_,_,_,_,rfl,fun b u e=>k21 _ _ (nNo (s12 _ _ e) hpk) (s1220 _ _ (s12 _ _ e))⟩
  ·rintro σ H12 ⟨x1,x6,x7,x8,x9,x10,x11,x12,rfl,s12⟩
   exact q H12
end
end K68
namespace K68
open PySem L2
theorem md {K:W.Frag}{C:Addr}{m q:Str}{st:Stmt}{ps:List Str}{f:Addr}{fd:FuncData}(T:Mp K C m q st f fd) (b:Zes K fd ps []):MDef K C m q st ps f fd:=⟨T.fn,b,T.a,T.i,T.fn.kp⟩
def tq:=@tp
set_option maxHeartbeats 4000000 in
theorem all_mk {l:W.OpenLaw}{w:World}{K:W.Frag}{h:Heap}{mg:Str→Option Value}{fa C B D f_mI f_mH f_mC f_mUn f_mW f_mL f_bI f_bK f_bP f_bD f_kI f_kC f_kK f_kW f_kB f_kM f_w f_cr f_cu f_fa f_en f_fr f_aa f_P f_T f_Le f_W f_Ws f_U f_R f_A f_ic f_cd f_cc f_wi f_fi f_de f_lw f_nw f_na f_ne f_to f_td f_ln f_pl f_ch f_pa f_ns f_cm f_in f_po f_sm f_hn f_is f_cf f_it f_ckt f_rc f_rp f_tm f_nrw f_flg f_lto f_se f_ra f_oe f_cn f_co f_lb f_lnr f_cut f_due f_L:Addr}{d_mI d_mH d_mC d_mUn d_mW d_mL d_bI d_bK d_bP d_bD d_kI d_kC d_kK d_kW d_kB d_kM d_w d_cr d_cu d_fa d_en d_fr d_aa d_P d_T d_Le d_W d_Ws d_U d_R d_A d_ic d_cd d_cc d_wi d_fi d_de d_lw d_nw d_na d_ne d_to d_td d_ln d_pl d_ch d_pa d_ns d_cm d_in d_po d_sm d_hn d_is d_cf d_it d_ckt d_rc d_rp d_tm d_nrw d_flg d_lto d_se d_ra d_oe d_cn d_co d_lb d_lnr d_cut d_due d_L:FuncData}(X:K.In h) (G:h.Ns mainGlobals mg) (hfa:mg "law"=some (.ref fa))
  {T_LETTERS T_MOST_LETTERS T_MOST_KINDS T_MOST_UPS T_MOST_PLACES T_MOST_DEEDS T_MOST_NAMES T_MOST_THINGS T_MOST_PARTS T_MOST_DEEP T_MOST_NEARER:Tok}
  (TC:Cp K "Kinds" C)
  (TB:Cp K "Board" B)
  (TD:Cp K "Book" D)
  (T_mI:Mp K C "__init__" "Kinds.__init__" Zd1 f_mI d_mI)
  (T_mH:Mp K C "has" "Kinds.has" Zfv f_mH d_mH)
  (T_mC:Mp K C "check" "Kinds.check" Zci f_mC d_mC)
  (T_mUn:Mp K C "under" "Kinds.under" Zd8 f_mUn d_mUn)
  (T_mW:Mp K C "words" "Kinds.words" Zd7 f_mW d_mW)
  (T_mL:Mp K C "below" "Kinds.below" Zc6 f_mL d_mL)
  (T_bI:Mp K B "__init__" "Board.__init__" Zd2 f_bI d_bI)
  (T_bK:Mp K B "kinds" "Board.kinds" Zd9 f_bK d_bK)
  (T_bP:Mp K B "places" "Board.places" Zdr f_bP d_bP)
  (T_bD:Mp K B "deeds" "Board.deeds" Zea f_bD d_bD)
  (T_kI:Mp K D "__init__" "Book.__init__" Zce f_kI d_kI)
  (T_kC:Mp K D "check_name" "Book.check_name" Zcj f_kC d_kC)
  (T_kK:Mp K D "kinds" "Book.kinds" Ze2 f_kK d_kK)
  (T_kW:Mp K D "words" "Book.words" Ze0 f_kW d_kW)
  (T_kB:Mp K D "board" "Book.board" Ze3 f_kB d_kB)
  (T_kM:Mp K D "makes" "Book.makes" Ze1 f_kM d_kM)
  (T_w:Tp K "is_word" Zej f_w d_w)
  (T_cr:Tp K "check_rows" Zev f_cr d_cr)
  (T_cu:Tp K "check_ups" Zfs f_cu d_cu)
  (T_fa:Tp K "first_among" Zcg f_fa d_fa)
  (T_en:Tp K "endless" Zfj f_en d_en)
  (T_fr:Tp K "find_ring" Zfr f_fr d_fr)
  (T_aa:Tp K "all_above" Zft f_aa d_aa)
  (T_P:Tp K "_law_pot" Zfk f_P d_P)
  (T_T:Tp K "_law_take" Za9 f_T d_T)
  (T_Le:Tp K "_law_letters" Zcb f_Le d_Le)
  (T_W:Tp K "_law_word" Zbc f_W d_W)
  (T_Ws:Tp K "_law_words" Zex f_Ws d_Ws)
  (T_U:Tp K "_law_ups" Zdg f_U d_U)
  (T_R:Tp K "_law_rows" Zdi f_R d_R)
  (T_A:Tp K "_law_above" Zez f_A d_A)
  (T_ic:Tp K "is_call" Zdw f_ic d_ic)
  (T_cd:Tp K "check_deeds" Zd5 f_cd d_cd)
  (T_cc:Tp K "check_call" Zew f_cc d_cc)
  (T_wi:Tp K "within" s_within f_wi d_wi)
  (T_fi:Tp K "fitting" s_fitting f_fi d_fi)
  (T_de:Tp K "_law_deeds" Zcw f_de d_de)
  (T_lw:Tp K "_law_within" Zc4 f_lw d_lw)
  (T_nw:Tp K "nearest_with" Zb9 f_nw d_nw)
  (T_na:Tp K "nearest_among" Zc2 f_na d_na)
  (T_ne:Tp K "nearest" s_nearest f_ne d_ne)
  (T_to:Tp K "told_of" s_told_of f_to d_to)
  (T_td:Tp K "told" s_told f_td d_td)
  (T_ln:Tp K "_law_nearest" Zca f_ln d_ln)
  (T_pl:Tp K "_law_places" Zd6 f_pl d_pl)
  (T_ch:Tp K "_law_chain" Zdx f_ch d_ch)
  (T_pa:Tp K "_law_pairs" Zcv f_pa d_pa)
  (T_ns:Tp K "_law_names" Zey f_ns d_ns)
  (T_cm:Tp K "check_makes" Zd4 f_cm d_cm)
  (T_in:Tp K "is_number" Zek f_in d_in)
  (T_po:Tp K "parts_of" s_parts_of f_po d_po)
  (T_sm:Tp K "is_small" s_is_small f_sm d_sm)
  (T_hn:Tp K "has_name" s_has_name f_hn d_hn)
  (T_is:Tp K "is_sound" Zfi f_is d_is)
  (T_cf:Tp K "check_filling" Zc3 f_cf d_cf)
  (T_it:Tp K "is_term" s_is_term f_it d_it)
  (T_ckt:Tp K "check_term" Zeu f_ckt d_ckt)
  (T_rc:Tp K "run_call" s_run_call f_rc d_rc)
  (T_rp:Tp K "run_part" s_run_part f_rp d_rp)
  (T_tm:Tp K "_law_term" Zdh f_tm d_tm)
  (T_nrw:Tp K "_law_near_words" Zch f_nrw d_nrw)
  (T_flg:Tp K "_law_filling" Zcp f_flg d_flg)
  (T_lto:Tp K "_law_told" Zfu f_lto d_lto)
  (T_se:Tp K "_law_seen" Zel f_se d_se)
  (T_ra:Tp K "_law_ran" s__law_ran f_ra d_ra)
  (T_oe:Tp K "one_of_each" Zc1 f_oe d_oe)
  (T_cn:Tp K "check_nearer" Zdq f_cn d_cn)
  (T_co:Tp K "comes" s_comes f_co d_co)
  (T_lb:Tp K "_law_below" Zcx f_lb d_lb)
  (T_lnr:Tp K "_law_nearer" Zc5 f_lnr d_lnr)
  (T_cut:Tp K "_law_cut" s__law_cut f_cut d_cut)
  (T_due:Tp K "_law_due" Zfl f_due d_due)
  (T_L:Tp K "law" s_law f_L d_L)
  (n_ups_of:W.findIn K (.ref C) "ups_of"=some none)
  (n_above_of:W.findIn K (.ref C) "above_of"=some none)
  (n_book_B:W.findIn K (.ref B) "book"=some none)
  (n_width_B:W.findIn K (.ref B) "width"=some none)
  (n_stands_B:W.findIn K (.ref B) "stands"=some none)
  (n_has_B:W.findIn K (.ref B) "has"=some none)
  (n_book_D:W.findIn K (.ref D) "book"=some none)
  (n_board_of_D:W.findIn K (.ref D) "board_of"=some none)
  (n_made_of_D:W.findIn K (.ref D) "made_of"=some none)
  (n_has_D:W.findIn K (.ref D) "has"=some none)
  (n_deeds_D:W.findIn K (.ref D) "deeds"=some none)
  (g_LETTERS:W.nsIn K mainGlobals "LETTERS"=some (some (.str Md.letters T_LETTERS)))
  (g_MOST_LETTERS:W.nsIn K mainGlobals "MOST_LETTERS"=some (some (.int 8 T_MOST_LETTERS)))
  (g_MOST_KINDS:W.nsIn K mainGlobals "MOST_KINDS"=some (some (.int 24 T_MOST_KINDS)))
  (g_MOST_UPS:W.nsIn K mainGlobals "MOST_UPS"=some (some (.int 8 T_MOST_UPS)))
  (g_MOST_PLACES:W.nsIn K mainGlobals "MOST_PLACES"=some (some (.int 4 T_MOST_PLACES)))
  (g_MOST_DEEDS:W.nsIn K mainGlobals "MOST_DEEDS"=some (some (.int 64 T_MOST_DEEDS)))
  (g_MOST_NAMES:W.nsIn K mainGlobals "MOST_NAMES"=some (some (.int 8 T_MOST_NAMES)))
  (g_MOST_THINGS:W.nsIn K mainGlobals "MOST_THINGS"=some (some (.int 12 T_MOST_THINGS)))
  (g_MOST_PARTS:W.nsIn K mainGlobals "MOST_PARTS"=some (some (.int 40 T_MOST_PARTS)))
  (g_MOST_DEEP:W.nsIn K mainGlobals "MOST_DEEP"=some (some (.int 12 T_MOST_DEEP)))
  (g_MOST_NEARER:W.nsIn K mainGlobals "MOST_NEARER"=some (some (.int 512 T_MOST_NEARER)))
  (z_len:W.nsIn K mainGlobals "len"=some none)
  (z_all:W.nsIn K mainGlobals "all"=some none)
  (z_any:W.nsIn K mainGlobals "any"=some none)
  (z_list:W.nsIn K mainGlobals "list"=some none)
  (z_tuple:W.nsIn K mainGlobals "tuple"=some none)
  (z_range:W.nsIn K mainGlobals "range"=some none)
  (z_int:W.nsIn K mainGlobals "int"=some none)
  (z_bool:W.nsIn K mainGlobals "bool"=some none)
  (z_isinstance:W.nsIn K mainGlobals "isinstance"=some none)
  (z_enumerate:W.nsIn K mainGlobals "enumerate"=some none)
  (z_zip:W.nsIn K mainGlobals "zip"=some none)
  : ∃ fd:FuncData,(∀ (s:Shared) (v:Value),BindsTo s fd ⟨[v],[]⟩ [("script",v)])∧∀ base:Heap,K.In base→base.Ns mainGlobals mg→Zar l.prog w K mg base CX0 24 fa fd ["script"] (spLaw K):=by
 have e:=hfa.symm.trans (W.mg_of X G T_L.a)
 cases e
 obtain ⟨_,_,_,_,_,_,rfl⟩:=Tp.ex T_L.fn
 have mgC_LETTERS:=W.mg_of X G g_LETTERS
 have mgC_MOST_LETTERS:=W.mg_of X G g_MOST_LETTERS
 have mgC_MOST_KINDS:=W.mg_of X G g_MOST_KINDS
 have mgC_MOST_UPS:=W.mg_of X G g_MOST_UPS
 have mgC_MOST_PLACES:=W.mg_of X G g_MOST_PLACES
 have mgC_MOST_DEEDS:=W.mg_of X G g_MOST_DEEDS
 have mgC_MOST_NAMES:=W.mg_of X G g_MOST_NAMES
 have mgC_MOST_THINGS:=W.mg_of X G g_MOST_THINGS
 have mgC_MOST_PARTS:=W.mg_of X G g_MOST_PARTS
 have mgC_MOST_DEEP:=W.mg_of X G g_MOST_DEEP
 have mgC_MOST_NEARER:=W.mg_of X G g_MOST_NEARER
 have mgN_len:=W.mg_none_of X G z_len
 have mgN_all:=W.mg_none_of X G z_all
 have mgN_any:=W.mg_none_of X G z_any
 have mgN_list:=W.mg_none_of X G z_list
 have mgN_tuple:=W.mg_none_of X G z_tuple
 have mgN_range:=W.mg_none_of X G z_range
 have mgN_int:=W.mg_none_of X G z_int
 have mgN_bool:=W.mg_none_of X G z_bool
 have mgN_isinstance:=W.mg_none_of X G z_isinstance
 have mgN_enumerate:=W.mg_none_of X G z_enumerate
 have mgN_zip:=W.mg_none_of X G z_zip
 obtain ⟨aC,pg,hd,po,sa,mk,kc⟩:=TC
 have mgC:=W.mg_of X G aC
 have M:Mk K C f_mI:=⟨mk,T_mI.a,T_mI.i,kc⟩
 obtain ⟨aB,pg_B,hd_B,po_B,sa_B,mk_B,kc_B⟩:=TB
 have mgB:=W.mg_of X G aB
 have M_B:Mk K B f_bI:=⟨mk_B,T_bI.a,T_bI.i,kc_B⟩
 obtain ⟨aD,pg_D,hd_D,po_D,sa_D,mk_D,kc_D⟩:=TD
 have mgD:=W.mg_of X G aD
 have M_D:Mk K D f_kI:=⟨mk_D,T_kI.a,T_kI.i,kc_D⟩
 have F_mI:=T_mI.fn
 have b_mI:=bn2 "self" "rows" T_mI.fn
 have a_mH:=T_mH.a
 have M_mH:=md T_mH (bn2 "self" "word" T_mH.fn)
 have M_mC:=md T_mC (bn2 "self" "word" T_mC.fn)
 have M_mUn:=md T_mUn (bn3 "self" "one" "other" T_mUn.fn)
 have M_mW:=md T_mW (bn1 "self" T_mW.fn)
 have M_mL:=md T_mL (bn2 "self" "word" T_mL.fn)
 have F_bI:=T_bI.fn
 have b_bI:=bn4 "self" "kinds" "places" "deeds" T_bI.fn
 have M_bK:=md T_bK (bn1 "self" T_bK.fn)
 have M_bP:=md T_bP (bn1 "self" T_bP.fn)
 have a_bD:=T_bD.a
 have M_bD:=md T_bD (bn1 "self" T_bD.fn)
 have F_kI:=T_kI.fn
 have b_kI:=bn3 "self" "kinds" "names" T_kI.fn
 have M_kC:=md T_kC (bn2 "self" "word" T_kC.fn)
 have M_kK:=md T_kK (bn1 "self" T_kK.fn)
 have M_kW:=md T_kW (bn1 "self" T_kW.fn)
 have M_kB:=md T_kB (bn2 "self" "word" T_kB.fn)
 have M_kM:=md T_kM (bn2 "self" "word" T_kM.fn)
 have D_w:=df X G T_w (bn1 "text" T_w.fn)
 have D_cr:=df X G T_cr (bn1 "rows" T_cr.fn)
 have D_cu:=df X G T_cu (bn1 "ups_of" T_cu.fn)
 have D_fa:=df X G T_fa (bn2 "words" "others" T_fa.fn)
 have D_en:=df X G T_en (bn1 "ups_of" T_en.fn)
 have D_fr:=df X G T_fr (bn1 "ups_of" T_fr.fn)
 have D_aa:=df X G T_aa (bn2 "ups_of" "word" T_aa.fn)
 have D_P:=df X G T_P (bn2 "script" "k" T_P.fn)
 have D_T:=df X G T_T (bn2 "pot" "many" T_T.fn)
 have D_Le:=df X G T_Le (bn1 "number" T_Le.fn)
 have D_W:=df X G T_W (bn2 "pot" "words" T_W.fn)
 have D_Ws:=df X G T_Ws (bn2 "pot" "many" T_Ws.fn)
 have D_U:=df X G T_U (bn3 "pot" "k" "shape" T_U.fn)
 have D_R:=df X G T_R (bn2 "pot" "most" T_R.fn)
 have D_A:=df X G T_A (bn1 "rows" T_A.fn)
 have D_ic:=df X G T_ic (bn3 "kinds" "places" "call" T_ic.fn)
 have D_cd:=df X G T_cd (bn3 "kinds" "places" "deeds" T_cd.fn)
 have D_cc:=df X G T_cc (bn3 "kinds" "places" "call" T_cc.fn)
 have D_wi:=df X G T_wi (bn3 "kinds" "one" "other" T_wi.fn)
 have D_fi:=df X G T_fi (bn2 "board" "call" T_fi.fn)
 have D_de:=df X G T_de (bn5 "pot" "rows" "above" "places" "most" T_de.fn)
 have D_lw:=df X G T_lw (bn3 "above" "one" "other" T_lw.fn)
 have D_nw:=df X G T_nw (bn4 "kinds" "deeds" "near" "number" T_nw.fn)
 have D_na:=df X G T_na (bn2 "board" "numbers" T_na.fn)
 have D_ne:=df X G T_ne (bn2 "board" "call" T_ne.fn)
 have D_to:=df X G T_to (bn1 "near" T_to.fn)
 have D_td:=df X G T_td (bn2 "board" "call" T_td.fn)
 have D_ln:=df X G T_ln (bn3 "above" "deeds" "call" T_ln.fn)
 have D_pl:=df X G T_pl (bn3 "pot" "many" "most" T_pl.fn)
 have D_ch:=df X G T_ch (bn4 "pot" "above" "call" "most" T_ch.fn)
 have D_pa:=df X G T_pa (bn5 "pot" "rows" "above" "places" "most" T_pa.fn)
 have D_ns:=df X G T_ns (bn7 "script" "at" "rows" "above" "most" "few" "calls" T_ns.fn)
 have D_cm:=df X G T_cm (bn2 "kinds" "makes" T_cm.fn)
 have D_in:=df X G T_in (bn1 "thing" T_in.fn)
 have D_po:=df X G T_po (bn1 "level" T_po.fn)
 have D_sm:=df X G T_sm (bn1 "term" T_sm.fn)
 have D_hn:=df X G T_hn (bn2 "book" "term" T_hn.fn)
 have D_is:=df X G T_is (bn3 "book" "length" "term" T_is.fn)
 have D_cf:=df X G T_cf (bn2 "kinds" "filling" T_cf.fn)
 have D_it:=df X G T_it (bn3 "book" "filling" "term" T_it.fn)
 have D_ckt:=df X G T_ckt (bn3 "book" "filling" "term" T_ckt.fn)
 have D_rc:=df X G T_rc (bn4 "book" "word" "spot" "call" T_rc.fn)
 have D_rp:=df X G T_rp (bn4 "book" "filling" "term" "spot" T_rp.fn)
 have D_tm:=df X G T_tm (bn5 "pot" "names" "many" "room" "deep" T_tm.fn)
 have D_nrw:=df X G T_nrw (bn1 "names" T_nrw.fn)
 have D_flg:=df X G T_flg (bn4 "pot" "rows" "names" "most" T_flg.fn)
 have D_lto:=df X G T_lto (bn3 "above" "deeds" "call" T_lto.fn)
 have D_se:=df X G T_se (bn4 "above" "names" "word" "call" T_se.fn)
 have D_ra:=df X G T_ra (bn5 "above" "names" "filling" "term" "spot" T_ra.fn)
 have D_oe:=df X G T_oe (bn1 "rows" T_oe.fn)
 have D_cn:=df X G T_cn (bn1 "rows" T_cn.fn)
 have D_co:=df X G T_co (bn3 "book" "filling" "term" T_co.fn)
 have D_lb:=df X G T_lb (bn3 "rows" "above" "word" T_lb.fn)
 have D_lnr:=df X G T_lnr (bn3 "rows" "above" "filling" T_lnr.fn)
 have D_cut:=df X G T_cut (bn3 "rows" "above" "filling" T_cut.fn)
 have D_due:=df X G T_due (bn5 "rows" "above" "names" "filling" "term" T_due.fn)
 have D_L:=df X G T_L (bn1 "script" T_L.fn)
 have TK:TxtK mg:=⟨⟨_,mgC_LETTERS⟩,⟨_,mgC_MOST_LETTERS⟩,⟨_,mgC_MOST_KINDS⟩,⟨_,mgC_MOST_UPS⟩,mgN_len,mgN_all,mgN_list,mgN_tuple⟩
 have TR:TxtR mg:=⟨mgN_range,mgN_int,mgN_len,mgN_tuple,mgN_list⟩
 have TC:TxtC K C:=⟨⟨pg,hd,po,sa⟩,n_ups_of,n_above_of⟩
 have TBd:TxtBd K B:=⟨⟨pg_B,hd_B,po_B,sa_B⟩,n_book_B,n_width_B,n_stands_B⟩
 have TBm:TxtBm mg:=⟨⟨_,mgC_MOST_PLACES⟩,⟨_,mgC_MOST_DEEDS⟩,mgN_len,mgN_all,mgN_tuple,mgN_list,mgN_enumerate⟩
 have hBC:B≠C:=fun z=>by rw [z,a_mH] at n_has_B;cases n_has_B
 have TKn:TxtKn K D:=⟨⟨pg_D,hd_D,po_D,sa_D⟩,n_book_D,n_board_of_D,n_made_of_D⟩
 have hDC:D≠C:=fun z=>by rw [z,a_mH] at n_has_D;cases n_has_D
 have hDB:D≠B:=fun z=>by rw [z,a_bD] at n_deeds_D;cases n_deeds_D
 have TDd:TxtD mg:=⟨mgN_len,mgN_range,mgN_tuple⟩
 have TT:TxtT mg:=⟨mgN_isinstance,mgN_int,mgN_bool,mgN_tuple,mgN_len,mgN_range⟩
 exact ⟨_,fun s v=>.of_eq rfl,fun base _ _=>have GW:=ok_within (P:=l.prog) (w:=w) (base:=base) D_wi mgN_zip TC M_mUn M_mC M_mH;have GF:=ok_fitting (P:=l.prog) (w:=w) (base:=base) D_fi TBm mgN_zip TC TBd M_bK M_bP M_bD D_cc D_wi D_ic M_mUn M_mC M_mH;have GA:=ok_near_among D_na mgN_list mgN_any TBd M_bK M_bD D_nw D_wi GW;have GN:=ok_nearest D_ne D_na GA D_fi GF;have GTd:=ok_told D_td D_ne GN D_to mgN_len;have GB:=ok_binit (P:=l.prog) (w:=w) (base:=base) F_bI TBm TBd TC D_cd D_ic M_mH hBC;have GLW:=ok_lwithin (P:=l.prog) (w:=w) (base:=base) D_lw ⟨mgN_all,mgN_zip⟩;have GI:=ok_init (P:=l.prog) (w:=w) (base:=base) F_mI TK TC D_cr D_w D_cu D_fr D_en D_fa D_aa;have GR:=ok_rowsL (P:=l.prog) (w:=w) (base:=base) D_R D_T D_U D_Ws D_W D_Le TR;have GP:=ok_pot (P:=l.prog) (w:=w) (base:=base) D_P mgN_len;have GT:=ok_take (P:=l.prog) (w:=w) (base:=base) D_T;have GLA:=ok_labove (P:=l.prog) (w:=w) (base:=base) D_A mgN_len;have GDe:=ok_deedsD (P:=l.prog) (w:=w) (base:=base) D_de D_T ⟨mgN_len,mgN_range,mgN_tuple⟩;have GR:=ok_rowsL (P:=l.prog) (w:=w) (base:=base) D_R D_T D_U D_Ws D_W D_Le TR;have GW:=ok_word (P:=l.prog) (w:=w) (base:=base) D_W D_T D_Le mgN_len;have GLA:=ok_labove (P:=l.prog) (w:=w) (base:=base) D_A mgN_len;have GDe:=ok_deedsD (P:=l.prog) (w:=w) (base:=base) D_de D_T TDd;have GPl:=ok_places D_pl D_T GT;have GCh:=ok_chain D_ch TDd D_T GT;have GPa:=ok_pairs D_pa TDd D_T GT D_de GDe D_ch GCh;have GNs:=ok_names D_ns TDd D_P GP D_T GT D_W GW D_pl GPl D_pa GPa;have GKI:=ok_kinit F_kI TK ⟨_,mgC_MOST_NAMES⟩ TKn hDC hDB D_w M_B mgB b_bI GB D_cm (ok_cmakes D_cm TC M_mH);have GKW:=ok_kwords (C:=C) (B:=B) M_kW.fn TKn mgN_list;have GKB:=ok_kboard (C:=C) (B:=B) M_kB.fn TKn M_kC;have GHN:=ok_hasname D_hn TT TKn TBd M_kW GKW M_kB GKB M_bP;have GSo:=ok_sound D_is TT mgN_all D_in D_hn GHN 12;have GCk:=ok_check M_mC.fn TC M_mH;have GCF:=ok_ckfill D_cf TT TC mgC_MOST_THINGS M_mC GCk;have GSm:=ok_small D_sm TT mgC_MOST_DEEP mgC_MOST_PARTS D_po;have GIT:=ok_isterm D_it TT TKn M_kK D_cf GCF D_sm GSm D_is GSo;have GCT:=ok_ckterm D_ckt D_it GIT;have GRC:=ok_runcall D_rc TKn mgN_list D_td GTd M_kB M_kM M_kC;have GRP:=ok_runp D_rp TT mgN_enumerate D_in D_rc GRC 12;have GFi:=ok_fill D_flg TDd mgN_list D_T GT D_nrw;have GLN:=ok_lnearest (P:=l.prog) (w:=w) (base:=base) D_ln ⟨mgN_len,mgN_range,mgN_any⟩ D_lw GLW;have GTo:=ok_ltold D_lto mgN_len D_ln GLN;have GSe:=ok_seen D_se D_lto GTo;have TRn:TxtRn mg:=⟨mgN_isinstance,mgN_int,mgN_bool,mgN_tuple,mgN_len,mgN_range,mgN_all⟩;have GRa:=ok_ran D_ra TRn D_se GSe 12;have GCN:=ok_cknear (P:=l.prog) (w:=w) (base:=base) D_cn mgN_len mgC_MOST_NEARER;have GCo:=ok_comes D_co TC TKn mgN_list M_kK M_mL M_mW M_mC M_mH D_ckt GCT D_cn GCN D_oe D_rp GRP;ok_law D_L ⟨mgN_isinstance,mgN_list,mgN_tuple,mgN_len,mgN_range⟩ M mgC b_mI GI M_D mgD b_kI GKI D_P GP D_T GT D_R GR D_A GLA D_ns GNs D_flg GFi D_tm (fun rows g=>ok_term g D_tm TDd D_T GT 12) D_cut (ok_cut D_cut mgN_len D_lb) D_due (ok_ldue D_due D_lnr (ok_lnearer D_lnr D_lb) D_ra GRa) D_co GCo⟩
theorem walk {l:W.OpenLaw}{q:Program}{loose:List Str}{XP:(Str→Option Value)→Heap→Prop}{YP:World→Heap→Prop}{d:DefRec}{K:Params→W.Frag}(hn:l.most=some 63) (hdf:d.params.defaults=[])
  (hY:∀ (w:World) (h:Heap),YP w h→(K w.params).In h)
  (F:∀ (w:World) (mg:Str→Option Value) (fa:Addr) (h:Heap),(K w.params).In h→h.Ns mainGlobals mg→mg d.name=some (.ref fa) →
   ∃ fd:FuncData,(∀ (s:Shared) (u:Value),BindsTo s fd ⟨[u],[]⟩ [("script",u)])∧∀ base:Heap,(K w.params).In base→base.Ns mainGlobals mg→Zar l.prog w (K w.params) mg base CX0 24 fa fd ["script"] (spLaw (K w.params))):
  W.WalkO q loose XP YP l.row.toRowW d [] (fun f vs=>PySem.call f vs):=
 L2.walk_of (n:=63) (k:=24) (x:="script") (CX:=fun _=>CX0) (sp:=fun w=>spLaw (K w.params)) hn (by decide) hdf ⟨rfl,by decide,by decide,rfl⟩ hY F (fun _ _ a ns hl _ hS=>⟨a,ns,rfl,hS,hl,fun _=>rfl⟩) fun _ _ _ _ _ z=>z
end K68
namespace PySem.W.Fast
def tw2177866815224938736:=0
def tw18264270685976371602:=0
def tw17740079521524392915:=0
def tw4880893041262136113:=0
def tw15184190210405899977:=0
def tw1306216706017644792:=0
def tw6211746134824230159:=0
def tw547797726085506862:=0
def tw1060463950721216176:=0
def tw11309181609563368458:=0
def tw520824762248267685:=0
def tw3526716392558162644:=0
def tw3005288057195536262:=0
def tw6302570084703174830:=0
def tw507664856951141752:=0
def tw3621425874985475961:=0
def tw11621546208415771892:=0
def tw14189111361768161617:=0
def tw4864478865802706607:=0
def tw1337812929798683366:=0
def tw17902504337023184260:=0
def tw13560661759169475309:=0
def tw5231310090722857967:=0
def tw12678666892093685437:=0
def tw2980317484855444233:=0
def tw17913223279412006302:=0
def tw18008497044541666723:=0
def tw17652048959085338986:=0
def tw12748574746444109254:=0
def tw11426325879110165886:=0
def tw6265829960558955911:=0
def tw11805255640762495656:=0
def tw11988394419884374511:=0
def tw16887563619731796047:=0
def tw4431546066352404160:=0
def tw13490767348995615224:=0
def tw452118445798810354:=0
def tw18289674716373398673:=0
def tw13983274269902712605:=0
def tw8980021367757590526:=0
def tw7245812882752416915:=0
def tw8041134004334003960:=0
def tw11146560537928491253:=0
def tw17217829406665807271:=0
def tw7770863238710566317:=0
def tw14892296171560249060:=0
def tw9777670374842496702:=0
def tw17166032305455876650:=0
def tw15649833896039610750:=0
def tw12806709755728772988:=0
def tw3468912618705580162:=0
def tw15394699453262968132:=0
def tw9360102772005803404:=0
def tw10645604426394164325:=0
def tw3238102350549851440:=0
def tw4758092326499880120:=0
def tw13311474280444342750:=0
def tw7338104191085704500:=0
def tw482693316735228190:=0
def tw12354569494600171687:=0
def tw15731967875274781280:=0
def tw16359426861322606910:=0
def tw2837457431506167857:=0
def tw3937188182677000544:=0
def tw9446943227172789695:=0
def tw4538055284853067930:=0
def tw18176460866677568493:=0
def tw4603874216328458579:=0
def tw6578207214314819476:=0
def tw11342952991785640184:=0
def tw1597872204122581475:=0
def tw2498725477083212385:=0
def tw6584513897774829335:=0
def tw17978428630647176529:=0
def tw7891513301330663463:=0
def tw14543297536183823591:=0
def tw16126349302957864491:=0
def tw1598856153541721477:=0
def tw10038969549980715764:=0
def tw12211172427177441201:=0
def tw15287894606086590218:=0
def tw14483568334322160966:=0
def tw1015862188260224411:=0
def tw10618734612256012705:=0
def tw17785890059420159246:=0
def tw4368378833086566308:=0
def tw16256914251235615468:=0
def tw780923889101173911:=0
def tw1412307985327970168:=0
def tw3564873810029814499:=0
def tw9217797834789270894:=0
def tw2859530663036727732:=0
def tw18417513380989779449:=0
def tw11031099541493758680:=0
def tw14156482430947818278:=0
def tw16104378187653791856:=0
def tw1368660140834756083:=0
def tw14155693665108505460:=0
def tw6644050358378651378:=0
def tw5736135165269293270:=0
def tw9593407108931709268:=0
def tw2839027108272616998:=0
def tw17222143287303840957:=0
def tw13750292876943607905:=0
def tw1639368524565450834:=0
def tw9507409180477890153:=0
def tw8346392844460775902:=0
def tw10014204238518375069:=0
def tw7019118284462670358:=0
def tw2251534550444210269:=0
def tw14885632354855165292:=0
def tw6949353622822967106:=0
def tw3788712024630790646:=0
def tw818010119296177453:=0
def tw1403547659624168477:=0
def tw5464984566632274795:=0
def tw10098618988868185504:=0
def tw14337694689418716688:=0
def tw752224036607195413:=0
def tw2140686477989255375:=0
def tw481994931569814590:=0
def tw14543774318947895199:=0
def tw5596498468955060844:=0
def tw800804708593001465:=0
def tw8753156865093612033:=0
def tw1894313473490536207:=0
def tw14817198926814756814:=0
def tw18374469247565410627:=0
def tw303734169372274196:=0
def tw9229814286500973:=0
def tw2521391299427478575:=0
def tw6549712216663933318:=0
def tw6873152581204053820:=0
def tw10219296631819093744:=0
def tw13848081757843855669:=0
def tw14872779368625839201:=0
def tw12692502125463363351:=0
def tw10803449875347693329:=0
def tw3235930435636656062:=0
def tw12031211495078873899:=0
def tw14597758300178309551:=0
def tw11382811929319967967:=0
def tw16174838037346209906:=0
def tw9353267241064163279:=0
def tw13917318073257760143:=0
def tw5417659557876445479:=0
def tw4905921866503993050:=0
def tw8101287881745398434:=0
def tw12238897605017705934:=0
def tw9409682759975631892:=0
def tw1591896044695261502:=0
def tw11244844575489890315:=0
def tw16146364482375026131:=0
def tw7710476227644233172:=0
def tw10129653059646316421:=0
def tw5618268906657939772:=0
def tw16401744443273230061:=0
def tw11665498204890164600:=0
def tw7561452493701984399:=0
def tw12251740220621457004:=0
def tw9229572110829521398:=0
def tw2050922622659161927:=0
def tw1836319777084207951:=0
def tw16877761780590157918:=0
def tw10700463146401186784:=0
def tw2118746688942748664:=0
def tw3485773995048311371:=0
def tw6628778354784916525:=0
def tw15600727147894126068:=0
def tw4742307247349050317:=0
def tw1546827343004577519:=0
def tw8761053406315085862:=0
def tw1366438689537436144:=0
def tw11304890555019427135:=0
def tw13017338608986056578:=0
def tw17494359198045597471:=0
def tw17448083167893175698:=0
def tw13683397280738131233:=0
def tw3076921455706917324:=0
def tw5725364471668547715:=0
def tw2803748212455707318:=0
def tw11221000881599957040:=0
def tw272697973904983614:=0
def tw12594662158223356963:=0
def tw4165692658581054095:=0
def tw10718279744659362941:=0
def tw1336599626376850460:=0
def tw14532677112172779826:=0
def tw12590315941514276364:=0
def tw9436678567600346454:=0
def tw11865984424701818311:=0
def tw15911264223080149892:=0
def tw5685719421562838556:=0
def tw16178504570188769957:=0
def tw8575084098473794303:=0
def tw2392434953509899054:=0
def tw366466832350330011:=0
def tw4547998628937280184:=0
def tw11769745616012036522:=0
def tw8405633547996491241:=0
def tw11660963553594112648:=0
def tw109328290447615208:=0
def tw6739363350573447973:=0
def tw17417020589240116985:=0
def tw5464933773504330210:=0
def tw2715842027972797700:=0
def tw16799009192968697066:=0
def tw6765626412026138177:=0
def tw15057561778613072133:=0
def tw1517847699133224171:=0
def tw7103639710404112290:=0
def tw2753359044745746121:=0
def tw2946137719655859607:=0
def tw8720325524404493114:=0
def tw3496534379074675349:=0
def tw609734471632590780:=0
def tw6793954506782702208:=0
def tw1444859097407648259:=0
def tw7070526381136873496:=0
def tw16204798441979181376:=0
def tw12730999847182437574:=0
def tw667885964517487144:=0
def tw5565804253119648025:=0
def tw34983524229521388:=0
def tw13394772495344032706:=0
def tw12634440772321870486:=0
def tw16314942131556204153:=0
def tw14481086356475596932:=0
def tw1403545496175314843:=0
def tw10645907078062452437:=0
def tw17106201912755248400:=0
def tw14774370168491502024:=0
def tw4268969076715484813:=0
def tw7024911434919474092:=0
def tw9228699380646139828:=0
def tw4645998990765105372:=0
def tw4909194178414313170:=0
def tw15588161375233990202:=0
def tw7811636413084474335:=0
def tw457268958767474279:=0
def tw14685578085299750267:=0
def tw1974913919521172457:=0
def tw1210258137868108638:=0
def tw5454765183676055891:=0
def tw2997957072540305101:=0
def tw3047124751077982954:=0
def tw13513755853582416702:=0
def tw7178828552803394446:=0
def tw4324543272954619651:=0
def tw14546157787563690051:=0
def tw3393261898129513600:=0
def tw268676344727880293:=0
def tw11663183127592481442:=0
def tw4002115611492090997:=0
def tw2518488121800369987:=0
def tw17503035817707211664:=0
def tw16383399191667979995:=0
def tw16030219604931158013:=0
def tw13974787993936261113:=0
def tw12560709367432832328:=0
def tw9018195242593192781:=0
def tw14726619104802968277:=0
def tw16164500979709313173:=0
def tw12291650386426258366:=0
def tw12286702002029005214:=0
def tw2884396759898564332:=0
def tw10960228139699280233:=0
def tw1277191003044423149:=0
def tw12717088166218709548:=0
def tw6470132785282768287:=0
def tw17870707831609340960:=0
def tw12815190184434034147:=0
def tw10589693433770288945:=0
def tw16181062351397517380:=0
def tw11623242492337612108:=0
def tw2255633090650832588:=0
def tw4683617412175734965:=0
def tw11956252058350317018:=0
def tw7774960357217593703:=0
def tw17441443051558202033:=0
def tw9895132056422939869:=0
def tw8386990198489770512:=0
def tw9813050125846338321:=0
def tw3046791224613574945:=0
def tw14085153743019453763:=0
def tw9431790128147554069:=0
def tw13414506525964367271:=0
def tw8437158039593089847:=0
def tw692995196998761879:=0
def tw3162490083614635878:=0
def tw12713907628545809624:=0
def tw12141004564924504927:=0
def tw9127260732355472040:=0
def tw4264924195946393122:=0
def tw12555878761462531033:=0
def tw9750923970400226006:=0
def tw10977429933590104522:=0
def tw11191805583818028352:=0
def tw8373069136568193892:=0
def tw9669304534985025863:=0
def tw16130233285745306580:=0
def tw17120440929993821442:=0
def tw10143946319438600310:=0
def tw5184318122498828493:=0
def tw14912101712954420477:=0
def tw2330610353756585892:=0
def tw6988458779313918261:=0
def tw15491474696713583551:=0
def tw15351760925663032734:=0
def tw8918409205502718404:=0
def tw393958368923839848:=0
def tw212338659996375825:=0
def tw18168441635120750878:=0
def tw5774172972176257726:=0
def tw9648964375807765598:=0
def tw963131371944398342:=0
def tw18124257864354504978:=0
def tw16425000761246989990:=0
def tw1617059277177458388:=0
def tw1284946306541458601:=0
def tw871266218103365090:=0
def tw17363455964088373069:=0
def tw15335656386648828767:=0
def tw7942256635623230309:=0
def tw718017292015882806:=0
def tw3224205894192269952:=0
def tw12722554805822434581:=0
def tw5225999348503176912:=0
def tw15633041346846970208:=0
def tw12935403522357679378:=0
def tw10361153059585200722:=0
def tw8395174011739180980:=0
def tw17924076647313431307:=0
def tw16222281391353399502:=0
def tw8319026218317263859:=0
def tw13814813952584329372:=0
def tw3755489470726346953:=0
def tw10430520136451257371:=0
def tw4749830980261227907:=0
def tw9038738330863048418:=0
def tw12819083894422957956:=0
def tw13090866339473515439:=0
def tw17770371810078275515:=0
def tw10407013747474802497:=0
def tw7366406398013663839:=0
def tw10318629610637545608:=0
def tw9828771147578407220:=0
def tw9116580776649822364:=0
def tw6046396038399500438:=0
def tw15327493772032011818:=0
def tw11495201481000846293:=0
def tw10834080903414752953:=0
def tw14135149711233099193:=0
def tw3433872103769517962:=0
def tw3183269965845282676:=0
def tw7146017800705017270:=0
def tw14848732472770146118:=0
def tw10431520665490989230:=0
def tw51854904155800081:=0
def tw432153730259831091:=0
def tw2354077532442133491:=0
def tw14019885522052613663:=0
def tw228080676600649906:=0
def tw7006050823074784455:=0
def tw6171177165982921828:=0
def tw11279118579865789936:=0
def tw6485741748734375504:=0
def tw5987310657366944016:=0
def tw9260243993612291872:=0
def tw2278715875088979009:=0
def tw11631036726741050879:=0
def tw11023112589653956488:=0
def tw10661435567819870221:=0
def tw1259043935512526504:=0
def tw7589798844222079758:=0
def tw3945374372456336750:=0
def tw3171162416928857523:=0
def tw5524352493168874024:=0
def tw17372701237458844810:=0
def tw12440943695594245569:=0
def tw17378426161538891861:=0
def tw15676769168384582681:=0
def tw13640342328898264453:=0
def tw6304929687457510446:=0
def tw4410672284947058924:=0
def tw9013036806877556449:=0
def tw4701293114401393793:=0
def tw10727546080185620728:=0
def tw6822833035148353307:=0
def tw6622177529814859481:=0
def tw10585757697953232830:=0
def tw8656026000473638326:=0
def tw8163303593158065344:=0
def tw6959526196081394519:=0
def tw2046808837863735862:=0
def tw12095532528588649772:=0
def tw8389248528709328953:=0
def tw6916662675181447082:=0
def tw11014895412860861871:=0
def tw11022480209594670018:=0
def tw17656548304884581922:=0
def tw5153647297657698604:=0
def tw3190581784182280219:=0
def tw8880161550433269320:=0
def tw15763647037553661117:=0
def tw330019552689317802:=0
def tw7512399462211128048:=0
def tw2207527576434882256:=0
def tw16925574619131378984:=0
def tw4277525924245929407:=0
def tw1774608913757311603:=0
def tw8921716649277262570:=0
def tw7034520813562718516:=0
def tw468277058681703335:=0
def tw1510396963315654337:=0
def tw5522019710970099488:=0
def tw4950292483339305879:=0
def tw3619515353124119749:=0
def tw7636433958694505405:=0
def tw5135694068937916739:=0
def tw1135259589834586178:=0
def tw1084312362682768608:=0
def tw18212014266705553706:=0
def tw14433560894647628409:=0
def tw7510446364675820386:=0
def tw7504748779196640827:=0
def tw4843113683992018225:=0
def tw17159336980780243150:=0
def tw12869314215413484847:=0
def tw3275841038082380013:=0
def tw5250026319822339879:=0
def tw17802624888551664226:=0
def tw17456492284553954606:=0
def tw5305309424580996365:=0
def tw11222416248574152710:=0
def tw5803078699109533741:=0
def tw5646474128136675685:=0
def tw17436478392226411032:=0
def tw16234894916639825164:=0
def tw14587129348425072521:=0
def tw16482564083357073503:=0
def tw17511533477008413323:=0
def tw18376739726330760543:=0
def tw16403370693548845319:=0
def tw5978141818304274580:=0
def tw3802180786424675858:=0
def tw14021008255541896179:=0
def tw11497463286280473036:=0
def tw11855160583568924250:=0
def tw3982948056365840960:=0
def tw17664156840308514344:=0
def tw17253654001547068352:=0
def tw1567295504758094207:=0
def tw18373451461670839411:=0
def tw5571361979016747340:=0
def tw4967106724068322724:=0
def tw2746546022990114663:=0
def tw2324603453918262114:=0
def tw17213881887552240976:=0
def tw16427856417261259062:=0
def tw12868466335276266055:=0
def tw12841013191759015700:=0
def tw1168798415066909578:=0
def tw11136306770690158050:=0
def tw12506640487964264219:=0
def tw6797297934967742954:=0
def tw3839216680130946190:=0
def tw8173275325930574031:=0
def tw641064191154436240:=0
def tw6054100717953602827:=0
def tw5878840297907935930:=0
def tw5592058910666091397:=0
def tw3282470608451517517:=0
def tw16504611359523265277:=0
def tw12327390555288010918:=0
def tw11285866871673021763:=0
def tw10818806946867875120:=0
def tw14571947535964858114:=0
def tw12329052518245749217:=0
def tw750591402744655631:=0
def tw5109690394266107979:=0
def tw5107278966423767438:=0
def tw16955688010540122237:=0
def tw13940169654566077963:=0
def tw4799304325713576287:=0
def tw3092856404738568659:=0
def tw3433128593291194249:=0
def tw14905551036766722744:=0
def tw13364700035794048250:=0
def tw15928751657886182646:=0
def tw9906937353714786996:=0
def tw9428348520841824617:=0
def tw8979015109115820920:=0
def tw7572564635184037060:=0
def tw210212607120091409:=0
def tw16751179377784493335:=0
def tw16166929387975491679:=0
def tw15355940188270019946:=0
def tw15073072243712388919:=0
def tw14853472007763622435:=0
def tw1372200752401422053:=0
def tw1176701347872821681:=0
def tw11499087325189732862:=0
def tw16229890010808744959:=0
def tw9860326261083848053:=0
def tw8304681550385188902:=0
def tw7172253912505385189:=0
def tw6069433068026387408:=0
def tw5881241526762328420:=0
def tw4081653959901967162:=0
def tw3268535650893110982:=0
def tw2275450311723160822:=0
def tw17268108841100113943:=0
def tw15267692983922776141:=0
def tw14550254970776701439:=0
def tw12157373452387108998:=0
def tw11952881686506909520:=0
def tw11711535128754921232:=0
def tw9589304864778476746:=0
def tw9126550582661915189:=0
def tw841331217192046117:=0
def tw7815936327106332527:=0
def tw7673134232716803944:=0
def tw7269552001291257517:=0
def tw7134837440176779971:=0
def tw6138934289532503198:=0
def tw3469291332347840811:=0
def tw3185782236116015439:=0
def tw1571638994357876609:=0
def tw13953867622715843575:=0
def tw12935520489340166529:=0
def tw11305892925849329744:=0
def tw9205586174389887059:=0
def tw9391336812761980823:=0
def tw7052431432372091410:=0
def tw5865052122180521056:=0
def tw5332220986891374651:=0
def tw4429608093094480838:=0
def tw17163594292970066713:=0
def tw16590311768349167766:=0
def tw15922960363151874922:=0
def tw12638065990444256341:=0
def tw11858658451324676157:=0
def tw9728019414700013767:=0
def tw9428759676347210334:=0
def tw905755389694643945:=0
def tw5437483327778689615:=0
def tw4665413763781766015:=0
def tw3722604931100341302:=0
def tw2286410775280782343:=0
def tw1904060060283613709:=0
def tw17373988014326612661:=0
def tw14759271307419589735:=0
def tw1457599435439596938:=0
def tw13211310691134026642:=0
def tw12609845095751693142:=0
def tw12053975092924631747:=0
def tw9785528053135465483:=0
def tw9720694923218252485:=0
def tw9704492108159647695:=0
def tw9649397154788813215:=0
def tw9478045993701860646:=0
def tw9262612664648287091:=0
def tw9054814060526234024:=0
def tw8980661957351967534:=0
def tw8821889312618322320:=0
def tw8776123784026598569:=0
def tw8624359239949208251:=0
def tw8400167138365002688:=0
def tw815384502992213783:=0
def tw8073772683661473282:=0
def tw8066230260561872203:=0
def tw8059294256639629208:=0
def tw7925646970012642691:=0
def tw7766997580640676268:=0
def tw7724512156760370892:=0
def tw7477786721274505943:=0
def tw7356169489151652724:=0
def tw7207561425851751701:=0
def tw7054798211809026143:=0
def tw7002549662121304461:=0
def tw6998361038831533994:=0
def tw698822304115850185:=0
def tw6881408856772656696:=0
def tw6830402210419652748:=0
def tw6827032071117630355:=0
def tw6700206600170662736:=0
def tw6568520831482899841:=0
def tw6512812908518457197:=0
def tw6389117021591774254:=0
def tw6298652176183510398:=0
def tw6182933467991919595:=0
def tw6153607334358541434:=0
def tw6071562646928209308:=0
def tw5969272084991173278:=0
def tw590206104653055064:=0
def tw5819911383500411960:=0
def tw5792466388920782506:=0
def tw5711683416536970481:=0
def tw5702931722329071095:=0
def tw5632660350614918992:=0
def tw5612597443458650930:=0
def tw5578368105857547224:=0
def tw5440015281911503767:=0
def tw5332675786425842787:=0
def tw5166035524750680678:=0
def tw4902887433003810624:=0
def tw479103806432321284:=0
def tw4715484072899921234:=0
def tw4706799827717946651:=0
def tw4675474795569544254:=0
def tw4671468608367622980:=0
def tw4623231665943794046:=0
def tw4453203044426249235:=0
def tw4385989345330491516:=0
def tw4297964724673920876:=0
def tw4275841854694741726:=0
def tw4159439848521483855:=0
def tw406453209084032060:=0
def tw389839408775382803:=0
def tw3741041570665661873:=0
def tw3648514312245840111:=0
def tw3554174810211620461:=0
def tw3487475114014933950:=0
def tw3420616601880382878:=0
def tw3385281515700307453:=0
def tw3342727666086981027:=0
def tw3293730724183875621:=0
def tw3104487554126713748:=0
def tw2970781748519929918:=0
def tw2961846566599771111:=0
def tw2910550415280909575:=0
def tw290684742028405997:=0
def tw2902382200345148293:=0
def tw2868716504543436613:=0
def tw2717083634389916120:=0
def tw2665473744654367051:=0
def tw2658658784981468628:=0
def tw2474597857563806135:=0
def tw2376449272423506104:=0
def tw2341940774018763832:=0
def tw2173551426245164362:=0
def tw2127711489933201470:=0
def tw2083276589979246960:=0
def tw2062134969463302266:=0
def tw1926669636386659611:=0
def tw18405286152490457905:=0
def tw18332183788398815651:=0
def tw18235056124010011411:=0
def tw18177775837734663771:=0
def tw17974274164498985427:=0
def tw17806734956977132264:=0
def tw17662019607269676730:=0
def tw17597526049897256626:=0
def tw17549029728728114197:=0
def tw17441274972792982432:=0
def tw17305816282000464505:=0
def tw17291466321309573645:=0
def tw17147261657140672609:=0
def tw17082703151812542206:=0
def tw16979957593773176537:=0
def tw16972140320515037256:=0
def tw16965536447844352527:=0
def tw16954582259788794233:=0
def tw16909946576075230914:=0
def tw16907570750811905570:=0
def tw16835973398054082929:=0
def tw16815796542581560825:=0
def tw16782362084357576277:=0
def tw16676592276395244556:=0
def tw16675605175541449542:=0
def tw16569682726109273002:=0
def tw16517276362040103927:=0
def tw16414772013836846751:=0
def tw16208603567420022956:=0
def tw16166288531669279059:=0
def tw15883562945200435514:=0
def tw15817250485872398994:=0
def tw15775305143376883560:=0
def tw15691488057368792924:=0
def tw15586326815322164081:=0
def tw15556726351923496296:=0
def tw15285946769331688049:=0
def tw15216211573678588697:=0
def tw1512817493887152305:=0
def tw14950175962105745461:=0
def tw14945933681557142195:=0
def tw14848459348527855914:=0
def tw14481696673415385954:=0
def tw14310255911016858961:=0
def tw14306679055636682260:=0
def tw14298747372480632244:=0
def tw14255981287990968771:=0
def tw14191489887908246430:=0
def tw14109877210077394533:=0
def tw14049577947479754977:=0
def tw14015089943594372486:=0
def tw13659916291819790769:=0
def tw13611631808734835638:=0
def tw1357823773334729913:=0
end PySem.W.Fast
open PySem PySem.W PyProof.Rows
set_option maxRecDepth 100000 in
set_option maxHeartbeats 0 in
theorem PySem.Challenge.cw_manydeeds_k68_what_comes_of_a_term_holds : PySem.Challenge.rw_manydeeds_k68_what_comes_of_a_term.Holds := by
 w_on;o_law;k_head;(case hw=>w_witness2)
 k_fill
 refine K68.walk (l:=PySem.Challenge.rw_manydeeds_k68_what_comes_of_a_term) rfl rfl (fun w h Y=>W.kIn_of Y) ?F
 case F =>
  intro w mg fa h KX G hmg
  refine' K68.all_mk KX G hmg ?_ ?_ ?_ ?_ ?_ ?_ ?_ ?_ ?_ ?_ ?_ ?_ ?_ ?_ ?_ ?_ ?_ ?_ ?_ ?_ ?_ ?_ ?_ ?_ ?_ ?_ ?_ ?_ ?_ ?_ ?_ ?_ ?_ ?_ ?_ ?_ ?_ ?_ ?_ ?_ ?_ ?_ ?_ ?_ ?_ ?_ ?_ ?_ ?_ ?_ ?_ ?_ ?_ ?_ ?_ ?_ ?_ ?_ ?_ ?_ ?_ ?_ ?_ ?_ ?_ ?_ ?_ ?_ ?_ ?_ ?_ ?_ ?_ ?_ ?_ ?_ ?_ ?_ ?_ ?_ ?_ ?_ ?_ ?_ ?_ ?_ ?_ ?_ ?_ ?_ ?_ ?_ ?_ ?_ ?_ ?_ ?_ ?_ ?_ ?_ ?_ ?_ ?_ ?_ ?_ ?_ ?_ ?_ ?_
  any_goals first | exact L2.tp (by k_is) (by k_is) (by k_is) (by k_is) | exact L2.mp (by k_is) (by k_is) (by k_is) (by k_is) (by k_is) | exact ⟨by k_is,by k_is,by k_is,by k_is,by k_is,by k_is,by k_is⟩ | k_is
