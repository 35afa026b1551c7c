import PyProof.Rows.All
import Wide.All
import OpenK.AllK
import Wide.FinOn
import Lean
import PyProof.EqAt
import PyProof.EqKinds
import PyProof.TupleCall
import PySem.Challenge.RW_manydeeds_k72_books_read
set_option Elab.async false
set_option linter.all false
set_option maxRecDepth 100000
namespace L2
open PySem PySem.Spec PyProof.Rows
abbrev Key:=Sum Int Str
def keyIs:Key→Value→Bool
 | .inl k,v=>Value.isInt k v
 | .inr x,v=>Value.isStrOf x v
def keyH (w:World):Key→Int
 | .inl k=>hashInt k
 | .inr x=>hashStr w x
theorem keyIs_shape:∀ {k:Key}{v:Value},keyIs k v=true→(∃ i t,k=Sum.inl i∧v=Value.int i t)∨(∃ x t,k=Sum.inr x∧v=Value.str x t)
 | .inl i,v,h=>by
  obtain ⟨t,e⟩:=Value.isInt_shape (k:=i) (v:=v) h
  exact .inl ⟨i,t,rfl,e⟩
 | .inr x,v,h=>by
  obtain ⟨t,e⟩:=Value.isStrOf_shape (x:=x) (v:=v) h
  exact .inr ⟨x,t,rfl,e⟩
theorem keyIs_int (i:Int) (t:Tok):keyIs (.inl i) (.int i t)=true:=by simp [keyIs,Value.isInt]
theorem keyIs_str (x:Str) (t:Tok):keyIs (.inr x) (.str x t)=true:=by simp [keyIs,Value.isStrOf]
theorem key_ll (a b:Int):decide ((Sum.inl a:Key)=Sum.inl b)=(a == b):=by
 by_cases e:a=b
 ·subst e;simp
 ·have h:¬ (Sum.inl a:Key)=Sum.inl b:=fun q=>e (Sum.inl.inj q)
  rw [decide_eq_false h]
  exact (beq_eq_false_iff_ne.mpr e).symm
theorem key_rr (a b:Str):decide ((Sum.inr a:Key)=Sum.inr b)=decide (a=b):=by
 by_cases e:a=b
 ·subst e;simp
 ·have h:¬ (Sum.inr a:Key)=Sum.inr b:=fun q=>e (Sum.inr.inj q)
  rw [decide_eq_false h,decide_eq_false e]
theorem key_lr (a:Int) (b:Str):decide ((Sum.inl a:Key)=Sum.inr b)=false:=decide_eq_false (fun q=>nomatch q)
theorem key_rl (a:Str) (b:Int):decide ((Sum.inr a:Key)=Sum.inl b)=false:=decide_eq_false (fun q=>nomatch q)
def mixKind (prog:Program) (w:World):PySem.KeyKind prog w Key where
 is:=keyIs
 hash:=keyH w
 inj:=fun v a b ha hb=>by
  rcases keyIs_shape ha with ⟨i,t,rfl,rfl⟩ | ⟨x,t,rfl,rfl⟩
  ·rcases keyIs_shape hb with ⟨j,u,rfl,e⟩ | ⟨y,u,rfl,e⟩
   ·injection e with e1 _;rw [e1]
   ·exact nomatch e
  ·rcases keyIs_shape hb with ⟨j,u,rfl,e⟩ | ⟨y,u,rfl,e⟩
   ·exact nomatch e
   ·injection e with e1 _;rw [e1]
 byValue:=fun k v h=>by
  rcases keyIs_shape h with ⟨i,t,rfl,rfl⟩ | ⟨x,t,rfl,rfl⟩ <;> rfl
 pyHash:=fun hv h=>by
  rcases keyIs_shape hv with ⟨i,t,rfl,rfl⟩ | ⟨x,t,rfl,rfl⟩
  ·exact wpAny_pyHash_int h
  ·exact wpAny_pyHash_str h
 eqBool:=fun hu hv h=>by
  rcases keyIs_shape hu with ⟨i,t,rfl,rfl⟩ | ⟨x,t,rfl,rfl⟩
  ·rcases keyIs_shape hv with ⟨j,u,rfl,rfl⟩ | ⟨y,u,rfl,rfl⟩
   ·rw [key_ll] at h;exact wpAny_eqBool_int h
   ·rw [key_lr] at h;exact SeqAt.EqAt.int_str i t y u _ _ _ _ h
  ·rcases keyIs_shape hv with ⟨j,u,rfl,rfl⟩ | ⟨y,u,rfl,rfl⟩
   ·rw [key_rl] at h;exact SeqAt.EqAt.str_int x t j u _ _ _ _ h
   ·rw [key_rr] at h;exact wpAny_eqBool_str h
 «strs»:=fun k x t v h=>by
  rcases keyIs_shape h with ⟨i,u,rfl,e⟩ | ⟨y,u,rfl,e⟩
  ·exact nomatch e
  ·injection e with e1 _
   subst e1
   cases v <;> rfl
theorem mixKind_int (prog:Program) (w:World) (i:Int) (t:Tok):(mixKind prog w).is (.inl i) (.int i t)=true:=keyIs_int i t
theorem mixKind_str (prog:Program) (w:World) (x:Str) (t:Tok):(mixKind prog w).is (.inr x) (.str x t)=true:=keyIs_str x t
end L2
namespace L2
open PySem PySem.Spec PyProof.Rows
inductive V where
 | non | bl (b:Bool) | int (i:Int) | str (x:Str) | byt (b:Array UInt8) | flt (b:UInt64) | ref (a:Addr) | ty (n:String)
 deriving DecidableEq
def RelV:V→Value→Prop
 | .non,u=>u=Value.none
 | .bl b,u=>u=Value.bool b
 | .int i,u=>∃ t,u=Value.int i t
 | .str x,u=>∃ t,u=Value.str x t
 | .byt b,u=>∃ t,u=Value.bytes b t
 | .flt b,u=>∃ t,u=Value.float b t
 | .ref a,u=>u=Value.ref a
 | .ty n,u=>u=Value.type n
abbrev Vals:List V→List Value→Prop:=Paired RelV
theorem Vals.length {xs:List V}{us:List Value}(r:Vals xs us):xs.length=us.length:=Paired.length r
theorem Vals.get:∀ {xs:List V}{us:List Value}{i:Nat}{x:V},Vals xs us→xs[i]?=some x→∃ u,us[i]?=some u∧RelV x u
 | _,_,_,_,.nil,e=>by simp at e
 | _,_,0,_,.cons r _,e=>by simp at e;subst e;exact ⟨_,rfl,r⟩
 | _,_,i + 1,x,.cons _ t,e=>by
  obtain ⟨u,h1,h2⟩:=Vals.get (i:=i) (x:=x) t (by simpa using e)
  exact ⟨u,by simpa using h1,h2⟩
theorem Vals.set {x:V}{u:Value}(r:RelV x u):∀ {xs:List V}{us:List Value}(i:Nat),Vals xs us→Vals (xs.set i x) (us.set i u)
 | _,_,_,.nil=>.nil
 | _,_,0,.cons _ t=>.cons r t
 | _,_,i + 1,.cons q t=>.cons q (Vals.set r i t)
theorem Vals.append:∀ {xs ys:List V}{us ws:List Value},Vals xs us→Vals ys ws→Vals (xs++ys) (us++ws)
 | _,_,_,_,.nil,s=>s
 | _,_,_,_,.cons r t,s=>.cons r (Vals.append t s)
theorem Vals.take:∀ {xs:List V}{us:List Value}(n:Nat),Vals xs us→Vals (xs.take n) (us.take n)
 | _,_,0,_=>.nil
 | _,_,_ + 1,.nil=>.nil
 | _,_,n + 1,.cons r t=>.cons r (Vals.take n t)
theorem Vals.drop:∀ {xs:List V}{us:List Value}(n:Nat),Vals xs us→Vals (xs.drop n) (us.drop n)
 | _,_,0,r=>r
 | _,_,_ + 1,.nil=>.nil
 | _,_,n + 1,.cons _ t=>Vals.drop n t
def RelO:Option V→Option Value→Prop
 | some v,some u=>RelV v u
 | none,none=>True
 | _,_=>False
def KV {κ:Type}:List (κ×V)→List (κ×Value)→Prop:=Paired fun (p:κ×V) (q:κ×Value)=>p.1=q.1∧RelV p.2 q.2
def kV:Key→V
 | .inl i=>.int i
 | .inr x=>.str x
inductive HO where
 | lst (xs:List V)
 | tup (xs:List V)
 | dK (kvs:List (Key×V)) | dT (kvs:List (List Key×V))
 | set (S:Int→Bool) (n:Nat)
 | ins (C dx:Addr) (fs:List (Str×V))
 | own (x:Addr)
 | xd (fs:List (Str×V))
 | met (f x:Addr)
 | rng (lo hi:Int)
 | frz (o:Obj) (u:HO)
 | tbl (ps:Array Value)
 | ext (φ:Heap→Prop)
abbrev Hp:=Addr→Option HO
def upd (H:Hp) (a:Addr) (o:HO):Hp:=fun b=>if b=a then some o else H b
theorem uS {H:Hp}{a:Addr}{o:HO}:upd H a o a=some o:=by unfold upd;rw [if_pos rfl]
theorem upd_ne {H:Hp}{a b:Addr}{o:HO}(h:b≠a):upd H a o b=H b:=by unfold upd;rw [if_neg h]
theorem upd_upd {H:Hp}{a:Addr}{o u:HO}:upd (upd H a o) a u=upd H a u:=by
 funext b;unfold upd;split <;> rfl
theorem ne_of {H:Hp}{a b:Addr}{o u:HO}(h:H a=some o) (h':H b=some u) (d:o≠u):a≠b:=by
 intro e;subst e;rw [h] at h';exact d (Option.some.inj h')
theorem nNo {H:Hp}{a b:Addr}{o:HO}(h:H a=some o) (h':H b=none):a≠b:=by
 intro e;subst e;rw [h] at h';cases h'
section
variable (P:Program) (w:World)
def ObjOk (H:Hp) (h:Heap) (a:Addr):HO→Prop
 | .lst xs=>xs.length≤sizeLine∧∃ (its:List Value) (n:Nat),Vals xs its∧h.get? a=some { cls:=.type "list",data:=.seq its.toArray n }
 | .tup xs=>xs.length≤sizeLine∧∃ its:List Value,Vals xs its∧IsTup h a its.toArray
 | .dK kvs=>kvs.length≤sizeLine∧(a == sysModules)=false∧∃ vs,KV kvs vs∧h.DictOf (mixKind P w) a vs
 | .dT kvs=>kvs.length≤sizeLine∧(a == sysModules)=false∧∃ xs:List (List Key×Addr×Value),
   Paired (fun (p:List Key×V) (q:List Key×Addr×Value)=>p.1=q.1∧H q.2.1=some (.tup (p.1.map kV))∧RelV p.2 q.2.2) kvs xs ∧
   ∃ o es ep,h.get? a=some o∧o.ExactDict∧o.data=.dict es ep∧es.toList=xs.map (entryOfKey (tupleKind (mixKind P w)))∧(xs.map (·.1)).Nodup
 | .set S n=>h.SetOf (intKind P w) a S n
 | .ins C dx fs=>H dx=some (.own a)∧fs.length≤1000∧dx≠a∧h.get? a=some (W.instObj C dx) ∧
   ∃ mA,h.Ns1 dx mA∧(∀ f,RelO (fs.lookup f) (mA f))∧PySem.Within mA (fs.map (·.1))
 | .own _=>∃ o,h.get? a=some o
 | .xd fs=>∃ mA,h.Ns1 a mA∧∀ f,RelO (fs.lookup f) (mA f)
 | .rng lo hi=>∃ t u v,h.get? a=some { cls:=.type "range",data:=.fields #[.int lo t,.int hi u,.int 1 v] }
 | .frz o u=>h.get? a=some o∧ObjOk H h a u
 | .tbl ps=>h.get? a=some { cls:=.none,data:=.fields ps }
 | .met f x=>h.get? a=some (W.methodObj (.ref f) (.ref x))
 | .ext φ=>φ h∧(∃ o,h.get? a=some o)∧∀ h1 h2:Heap,φ h1→(∀ o,h1.get? a=some o→h2.get? a=some o)→φ h2
def HOk (H:Hp) (h:Heap):Prop:=∀ a o,H a=some o→ObjOk P w H h a o
end
section
variable {P:Program} {w:World} {H H':Hp} {h h':Heap} {a:Addr} {o:HO}
theorem ObjOk.lt (x:ObjOk P w H h a o):a<h.objs.size:=by
 cases o with
 | lst xs=>obtain ⟨_,_,_,_,e⟩:=x;exact Heap.lt_size e
 | tup xs=>obtain ⟨_,_,_,p⟩:=x;exact p.lt
 | dK kvs=>obtain ⟨_,_,_,_,o,_,_,e,_⟩:=x;exact Heap.lt_size e
 | dT kvs=>obtain ⟨_,_,_,_,o,_,_,e,_⟩:=x;exact Heap.lt_size e
 | set S n=>obtain ⟨o,_,_,_,e,_⟩:=x;exact Heap.lt_size e
 | ins C dx fs=>obtain ⟨_,_,_,e,_⟩:=x;exact Heap.lt_size e
 | own y=>obtain ⟨_,e⟩:=x;exact Heap.lt_size e
 | xd fs=>obtain ⟨_,⟨_,_,_,e,_⟩,_⟩:=x;exact Heap.lt_size e
 | rng lo hi=>obtain ⟨_,_,_,e⟩:=x;exact Heap.lt_size e
 | frz ob u=>obtain ⟨e,_⟩:=x;exact Heap.lt_size e
 | tbl ps=>exact Heap.lt_size (show h.get? a=some _ from x)
 | met f y=>exact Heap.lt_size (show h.get? a=some _ from x)
 | ext φ=>obtain ⟨_,⟨_,e⟩,_⟩:=x;exact Heap.lt_size e
theorem Paired.mapP {α β:Type}{F G:α→β→Prop}:∀ {l₁:List α}{l₂:List β},Paired F l₁ l₂→(∀ a b,F a b→G a b)→Paired G l₁ l₂
 | _,_,.nil,_=>.nil
 | _,_,.cons r t,f=>.cons (f _ _ r) (Paired.mapP t f)
theorem ObjOk.stay (x:ObjOk P w H h a o) (k:∀ b u,(b=a∨H b=some (.own a))→h.get? b=some u→h'.get? b=some u)
  (ho:∀ b,H b=some (.own a)→H' b=some (.own a)) (ht:∀ b xs,H b=some (.tup xs)→H' b=some (.tup xs)):ObjOk P w H' h' a o:=by
 induction o with
 | lst xs=>obtain ⟨z,its,n,r,e⟩:=x;exact ⟨z,its,n,r,k _ _ (.inl rfl) e⟩
 | tup xs=>obtain ⟨z,its,r,ob,e,c⟩:=x;exact ⟨z,its,r,ob,k _ _ (.inl rfl) e,c⟩
 | dK kvs=>obtain ⟨z,y,vs,r,ob,es,ep,e,c⟩:=x;exact ⟨z,y,vs,r,ob,es,ep,k _ _ (.inl rfl) e,c⟩
 | dT kvs =>
  obtain ⟨z,y,xs,r,ob,es,ep,e,c⟩:=x
  exact ⟨z,y,xs,Paired.mapP r fun p q z=>⟨z.1,ht _ _ z.2.1,z.2.2⟩,ob,es,ep,k _ _ (.inl rfl) e,c⟩
 | set S n=>obtain ⟨ob,es,ep,t,e,c⟩:=x;exact ⟨ob,es,ep,t,k _ _ (.inl rfl) e,c⟩
 | ins C dx fs =>
  obtain ⟨d,z,ne,e,mA,⟨od,es,ep,e2,c⟩,r⟩:=x
  exact ⟨ho _ d,z,ne,k _ _ (.inl rfl) e,mA,⟨od,es,ep,k _ _ (.inr d) e2,c⟩,r⟩
 | own y=>obtain ⟨ob,e⟩:=x;exact ⟨ob,k _ _ (.inl rfl) e⟩
 | xd fs=>obtain ⟨mA,⟨od,es,ep,e,c⟩,r⟩:=x;exact ⟨mA,⟨od,es,ep,k _ _ (.inl rfl) e,c⟩,r⟩
 | rng lo hi=>obtain ⟨t,u,v,e⟩:=x;exact ⟨t,u,v,k _ _ (.inl rfl) e⟩
 | frz ob u ih=>obtain ⟨e,q⟩:=x;exact ⟨k _ _ (.inl rfl) e,ih q⟩
 | tbl ps =>
  have e:h.get? a=some { cls:=.none,data:=.fields ps }:=x
  show h'.get? a=some { cls:=.none,data:=.fields ps }
  exact k a _ (.inl rfl) e
 | met f y =>
  have e:h.get? a=some (W.methodObj (.ref f) (.ref y)):=x
  show h'.get? a=some (W.methodObj (.ref f) (.ref y))
  exact k a _ (.inl rfl) e
 | ext φ=>obtain ⟨p,⟨o,e⟩,st⟩:=x;exact ⟨st _ _ p fun o q=>k _ _ (.inl rfl) q,⟨o,k _ _ (.inl rfl) e⟩,st⟩
theorem HOk.lt (x:HOk P w H h) (e:H a=some o):a<h.objs.size:=(x a o e).lt
theorem HOk.fresh (x:HOk P w H h) (e:h.objs.size≤a):H a=none:=by
 cases q:H a with
 | none=>rfl
 | some u=>exact absurd (Nat.lt_of_lt_of_le (x.lt q) e) (Nat.lt_irrefl _)
theorem HOk.kept (x:HOk P w H h) (k:∀ b u,h.get? b=some u→h'.get? b=some u):HOk P w H h':=fun a o e =>
 (x a o e).stay (fun b u _ q=>k b u q) (fun _ q=>q) fun _ _ q=>q
theorem HOk.laid (x:HOk P w H h) (k:∀ b u,h.get? b=some u→h'.get? b=some u) (hp:h.objs.size≤a) (new:ObjOk P w (upd H a o) h' a o):HOk P w (upd H a o) h':=fun b u e=>by
 have hn:=x.fresh hp
 by_cases hb:b=a
 ·subst hb;rw [uS] at e;cases e;exact new
 ·rw [upd_ne hb] at e
  exact (x b u e).stay (fun c v _ q=>k c v q) (fun c q=>by rw [upd_ne (nNo q hn)];exact q) fun c xs q=>by rw [upd_ne (nNo q hn)];exact q
end
def Rd (H:Hp) (a:Addr) (u:HO):Prop:=H a=some u∨∃ o,H a=some (.frz o u)
theorem Rd.ok {P:Program}{w:World}{H:Hp}{h:Heap}{a:Addr}{u:HO}(r:Rd H a u) (x:HOk P w H h):ObjOk P w H h a u:=by
 rcases r with r | ⟨o,r⟩
 ·exact x a u r
 ·obtain ⟨_,q⟩:=x a _ r
  exact q
def Mut:Option HO→Prop
 | some (.lst _)=>True
 | some (.dK _)=>True
 | some (.dT _)=>True
 | some (.set _ _)=>True
 | some (.ins _ _ _)=>True
 | some (.ext _)=>True
 | _=>False
section
variable {P:Program} {w:World} {H:Hp} {h h':Heap} {x e:Addr} {o':HO}
theorem HOk.write (ok:HOk P w H h) (mu:Mut (H x)) (he:e=x∨H e=some (.own x)) (k:∀ b u,b≠e→h.get? b=some u→h'.get? b=some u) (heo:∃ u,h'.get? e=some u)
  (new:ObjOk P w (upd H x o') h' x o'):HOk P w (upd H x o') h':=fun b u q=>by
 have nown:∀ c y,H c=some (.own y)→c≠x:=fun c y r z=>by subst z;rw [r] at mu;exact mu
 have ntup:∀ c xs,H c=some (.tup xs)→c≠x:=fun c xs r z=>by subst z;rw [r] at mu;exact mu
 by_cases hb:b=x
 ·subst hb;rw [uS] at q;cases q;exact new
 ·rw [upd_ne hb] at q
  by_cases hbe:b=e
  ·have q':H b=some (.own x):=by
    rcases he with z | z
    ·exact absurd (hbe.trans z) hb
    ·rw [hbe];exact z
   rw [q] at q';cases q'
   obtain ⟨v,hv⟩:=heo
   exact ⟨v,by rw [hbe];exact hv⟩
  ·refine (ok b u q).stay (fun c v hc r=>k c v ?_ r) (fun c r=>by rw [upd_ne (nown c b r)];exact r) fun c xs r=>by rw [upd_ne (ntup c xs r)];exact r
   rcases hc with rfl | hc
   ·exact hbe
   ·rintro rfl
    rcases he with z | z
    ·exact nown c b hc z
    ·rw [hc] at z;cases z;exact hb rfl
end
structure Un (fs ex:List Addr) (H H':Hp) (h h':Heap):Prop where
 keep:∀ b o,h.get? b=some o→H b=none→b∉fs→b∉ex→h'.get? b=some o
 slot:∀ b o,h.get? b=some o→H b=none→b∈fs→b∉ex→∃ sl,h'.get? b=some { o with slots:=sl }
 free:∀ b o,h.get? b=some o→H b=none→b∉ex→H' b=none
 there:∀ b o,h.get? b=some o→b∉ex→∃ o',h'.get? b=some o'
 tups:∀ b xs,H b=some (.tup xs)→H' b=some (.tup xs)
 frzs:∀ b o u,H b=some (.frz o u)→H' b=some (.frz o u)
 tbls:∀ b ps,H b=some (.tbl ps)→∃ more,H' b=some (.tbl (ps++more))
section
variable {fs fs' ex ex':List Addr} {H H1 H2:Hp} {h h1 h2 h':Heap} {a x e:Addr} {o:HO}
theorem Un.any (u:Un fs ex H H1 h h1) {b:Addr}{ob:Obj}(q:h.get? b=some ob) (n:H b=none) (hx:b∉ex):∃ sl,h1.get? b=some { ob with slots:=sl }:=by
 by_cases hb:b∈fs
 ·exact u.slot b ob q n hb hx
 ·exact ⟨ob.slots,u.keep b ob q n hb hx⟩
theorem Un.kept (k:∀ b u,h.get? b=some u→h'.get? b=some u):Un fs ex H H h h' :=
 ⟨fun b ob q _ _ _=>k b ob q,fun b ob q _ _ _=>⟨ob.slots,k b ob q⟩,fun _ _ _ n _=>n,fun b ob q _=>⟨ob,k b ob q⟩,fun _ _ q=>q,fun _ _ _ q=>q,fun _ ps q=>⟨#[],by rw [q];simp⟩⟩
theorem Un.refl:Un fs ex H H h h:=Un.kept fun _ _ q=>q
theorem Un.laid (k:∀ b u,h.get? b=some u→h'.get? b=some u) (hp:h.objs.size≤a) (hn:H a=none):Un fs ex H (upd H a o) h h' where
 keep:=fun b u q _ _ _=>k b u q
 slot:=fun b u q _ _ _=>⟨u.slots,k b u q⟩
 free:=fun b u q n _=>by rw [upd_ne (Nat.ne_of_lt (Nat.lt_of_lt_of_le (Heap.lt_size q) hp))];exact n
 there:=fun b u q _=>⟨u,k b u q⟩
 tups:=fun b xs q=>by rw [upd_ne (nNo q hn)];exact q
 frzs:=fun b u xs q=>by rw [upd_ne (nNo q hn)];exact q
 tbls:=fun b ps q=>⟨#[],by rw [upd_ne (nNo q hn),q];simp⟩
theorem Un.write (mu:Mut (H x)) (he:e=x∨H e=some (.own x)) (k:∀ b u,b≠e→h.get? b=some u→h'.get? b=some u) (heo:∃ u,h'.get? e=some u):Un fs ex H (upd H x o) h h':=by
 have hx:∀ b,H b=none→b≠x:=fun b n z=>by subst z;rw [n] at mu;exact mu
 have hb:∀ b,H b=none→b≠e:=fun b n z=>by
  subst z
  rcases he with r | r
  ·exact hx b n r
  ·rw [n] at r;cases r
 have hm:∀ b u,H b=some u→¬ Mut (some u)→b≠x:=fun b u q nm z=>by subst z;rw [q] at mu;exact nm mu
 refine ⟨fun b u q n _ _=>k b u (hb b n) q,fun b u q n _ _=>⟨u.slots,k b u (hb b n) q⟩,fun b u q n _=>by rw [upd_ne (hx b n)];exact n,fun b u q _=>?_,
  fun b xs q=>by rw [upd_ne (hm b _ q fun z=>z)];exact q,fun b u xs q=>by rw [upd_ne (hm b _ q fun z=>z)];exact q,fun b ps q=>⟨#[],by rw [upd_ne (hm b _ q fun z=>z),q];simp⟩⟩
 by_cases hbe:b=e
 ·subst hbe;exact heo
 ·exact ⟨u,k b u hbe q⟩
end
def trk (h:Heap) (H:Hp):List Addr:=(List.range h.objs.size).filter fun a=>(H a).isSome
def hidT (h:Heap) (H:Hp):Heap:=W.hideAll h (trk h H)
theorem hidT_size (h:Heap) (H:Hp):(hidT h H).objs.size=h.objs.size:=W.hideAll_size _ _
theorem hidT_get {h:Heap}{H:Hp}{b:Addr}{o:Obj}(e:h.get? b=some o) (n:H b=none):(hidT h H).get? b=some o :=
 W.hideAll_get _ e fun hm=>by
  have q:(H b).isSome=true:=(List.mem_filter.mp hm).2
  rw [n] at q;simp at q
theorem of_hidT {h:Heap}{H:Hp}{b:Addr}{o:Obj}(e:(hidT h H).get? b=some o):h.get? b=some o∧H b=none:=by
 have e':h.get? b=some o:=W.of_hideAll (trk h H) e
 refine ⟨e',?_⟩
 cases q:H b with
 | none=>rfl
 | some x =>
  have hm:b∈trk h H:=List.mem_filter.mpr ⟨List.mem_range.mpr (Heap.lt_size e'),by simp [q]⟩
  have z:(hidT h H).get? b=none:=W.hideAll_none (trk h H) hm
  rw [z] at e;cases e
def allNews (g h:Heap) (L:Addr):List (Addr×Obj):=(List.range h.objs.size).filterMap fun a=>if a=L∨(g.get? a).isSome=true then none else (h.get? a).map fun o=>(a,o)
def rest (g h:Heap) (L d:Addr):List (Addr×Obj):=(allNews g h L).filter fun p=>decide (p.1≠d)
end L2
namespace L2
open PySem PySem.Spec PyProof.Rows
structure Mod (K:W.Frag) (mg:Str→Option Value) (base:Heap):Prop where
 kin:K.In base
 glob:base.Ns mainGlobals mg
 blt:∃ mb,base.Ns builtinsNs mb∧∀ x:Str,x≠"__name__"→mb x=bootBuiltins x
 nolimit:base.NoLimit
structure Cx where
 prog:Program
 w:World
 K:W.Frag
 mg:Str→Option Value
 base:Heap
 A:Around
 N:List Str
 s₀:Shared
 H₀:Hp
 env:Env
 outer:List Env
 stack:List Env
 ex:List Addr
 fn:Str→Bool
 calm:Bool
 pn:List (Addr×Obj)
 xe:Value→Shared→Prop
def frs (l:List Env):List Addr:=l.filterMap (·.frame)
abbrev Cx.fs (X:Cx):List Addr:=frs X.outer
def Vis (sc:Scope) (x:Str):Prop:=sc.names.lookup x=some .local∨sc.names.lookup x=some .cell∨sc.names.lookup x=some .free
def Loc (sc:Scope) (x:Str):Prop:=sc.names.lookup x=some .local∨sc.names.lookup x=some .cell
def Look (env:Env) (h:Heap) (m:Str→Option Value) (x:Str) (u:Value):Prop :=
 (env.kindOf x=some .local∧m x=some u)∨((env.kindOf x=some .cell∨env.kindOf x=some .free)∧∃ c,env.cells.lookup x=some c∧h.IsCell c (some u))
structure Cx.Ok (X:Cx):Prop where
 mod:Mod X.K X.mg X.base
 kind:X.env.scope.kind=.function
 glob:X.env.globals=mainGlobals
 blt:X.env.builtins=builtinsNs
 above:X.s₀.heap.objs.size≤X.env.locals
 inj:∀ x y c,X.env.cells.lookup x=some c→X.env.cells.lookup y=some c→x=y
 has:∀ x,(X.env.kindOf x=some .cell∨X.env.kindOf x=some .free)→∃ c,X.env.cells.lookup x=some c
 cab:∀ x c,X.fn x=true→X.env.cells.lookup x=some c→X.s₀.heap.objs.size≤c
 hd:X.calm=true→X.A.handled=none
 frames:X.A.frames=some X.stack
 stk:X.stack=X.outer∨(X.stack=X.env :: X.outer∧X.env.frame=some X.env.locals)
 exf:∀ b∈X.ex,b≠X.env.locals∧∀ x c,X.env.cells.lookup x=some c→c≠b
 bs:∀ b o,X.base.get? b=some o→X.s₀.heap.get? b=some o∧X.H₀ b=none
 bsz:X.base.objs.size≤X.s₀.heap.objs.size
 noex:∀ b o,X.base.get? b=some o→b∉X.ex
 exfs:∀ b∈X.ex,b∉X.fs
 funs:X.s₀.heap.FunFrames X.base X.outer
 frf:∀ b∈X.fs,X.H₀ b=none
structure Inv (X:Cx) (pins:List (Addr×Obj)) (σ:List (Option V)) (H:Hp) (s:Shared):Prop where
 ok:X.Ok
 os:s.os=X.s₀.os
 bare:AllBare s.gens
 base:Un X.fs X.ex X.H₀ H X.s₀.heap s.heap
 loc:∃ m,s.heap.Ns X.env.locals m∧∀ (i:Nat) (x:Str) (v:V),X.N[i]?=some x→σ[i]?=some (some v)→Vis X.env.scope x→∃ u,RelV v u∧Look X.env s.heap m x u
 cell:∀ x c,X.env.cells.lookup x=some c→∃ v,s.heap.IsCell c v
 free:H X.env.locals=none
 freeC:∀ x c,X.env.cells.lookup x=some c→H c=none
 pin:∀ p∈X.pn++pins,s.heap.get? p.1=some p.2∧H p.1=none∧p.1≠X.env.locals∧p.1∉X.fs∧∀ v,p.2.data≠.cell v
 hok:HOk X.prog X.w H s.heap
 len:σ.length=X.N.length
section
variable {X:Cx} {pins:List (Addr×Obj)} {σ:List (Option V)} {H H':Hp} {s:Shared} {h':Heap}
theorem Cx.Ok.nofr (ok:X.Ok) {b:Addr}{o:Obj}(e:X.base.get? b=some o):b∉X.fs:=fun hb=>by
 have:=(ok.funs.mem hb).1
 rw [e] at this;cases this
theorem Inv.bs (I:Inv X pins σ H s):∀ b o,X.base.get? b=some o→s.heap.get? b=some o∧H b=none:=fun b o e =>
 ⟨I.base.keep b o (I.ok.bs b o e).1 (I.ok.bs b o e).2 (I.ok.nofr e) (I.ok.noex b o e),I.base.free b o (I.ok.bs b o e).1 (I.ok.bs b o e).2 (I.ok.noex b o e)⟩
theorem Inv.bk (I:Inv X pins σ H s):∀ b o,X.base.get? b=some o→s.heap.get? b=some o:=fun b o e=>(I.bs b o e).1
theorem Inv.mod (I:Inv X pins σ H s):Mod X.K X.mg X.base:=I.ok.mod
theorem Inv.kIn (I:Inv X pins σ H s):X.K.In s.heap:=I.ok.mod.kin.keeps I.bk
theorem Inv.lt (I:Inv X pins σ H s):X.env.locals<s.heap.objs.size:=let ⟨_,hn,_⟩:=I.loc;hn.lt
theorem Inv.sz (I:Inv X pins σ H s):X.s₀.heap.objs.size≤s.heap.objs.size:=Nat.le_trans I.ok.above (Nat.le_of_lt I.lt)
theorem Inv.nofs (I:Inv X pins σ H s) {a:Addr}(h:s.heap.objs.size≤a):a∉X.fs:=fun hb=>by
 obtain ⟨_,o,ho,_⟩:=I.ok.funs.mem hb
 exact absurd (Nat.lt_of_lt_of_le (Heap.lt_size ho) (Nat.le_trans I.sz h)) (Nat.lt_irrefl _)
theorem Inv.cne (I:Inv X pins σ H s):∀ x c,X.env.cells.lookup x=some c→c≠X.env.locals:=fun x c e z=>by
 obtain ⟨v,o,ho,hd⟩:=I.cell x c e
 obtain ⟨m,⟨o',es,ep,ho',hd',_⟩,_⟩:=I.loc
 rw [z,ho'] at ho;cases ho;rw [hd'] at hd;cases hd
theorem Inv.funs (I:Inv X pins σ H s):s.heap.FunFrames X.base X.outer:=by
 have all:∀ (l:List Env),(∀ b∈frs l,b∈X.fs)→X.s₀.heap.FunFrames X.base l→s.heap.FunFrames X.base l:=by
  intro l
  induction l with
  | nil=>intro _ _;trivial
  | cons env r ih =>
   intro hs hl
   obtain ⟨hk,⟨L,o,hf,hn,ho,hd⟩,hr⟩:=hl
   have hL:L∈X.fs:=hs L (by unfold frs;rw [List.filterMap_cons,hf];exact List.mem_cons_self)
   obtain ⟨sl,e⟩:=I.base.slot L o ho (I.ok.frf L hL) hL fun z=>I.ok.exfs L z hL
   exact ⟨hk,⟨L,_,hf,hn,e,hd⟩,ih (fun b hb=>hs b (by unfold frs;rw [List.filterMap_cons,hf];exact List.mem_cons_of_mem _ hb)) hr⟩
 exact all X.outer (fun _ hb=>hb) I.ok.funs
theorem Inv.stack (I:Inv X pins σ H s):s.heap.FunFrames X.base X.stack:=by
 rcases I.ok.stk with e | ⟨e,hf⟩
 ·rw [e];exact I.funs
 ·rw [e]
  obtain ⟨m,hn,_⟩:=I.loc
  refine .cons (by rw [I.ok.kind];decide) hf hn ?_ I.funs
  exact Heap.get?_none_of_le (Nat.le_trans I.ok.bsz I.ok.above)
theorem Inv.stkSub (I:Inv X pins σ H s):∀ b∈frs X.stack,b∈X.env.locals :: X.fs:=fun b hb=>by
 rcases I.ok.stk with e | ⟨e,hf⟩
 ·rw [e] at hb;exact List.mem_cons_of_mem _ hb
 ·rw [e] at hb
  unfold frs at hb
  rw [List.filterMap_cons,hf] at hb
  exact hb
theorem Inv.stkFree (I:Inv X pins σ H s):∀ b∈frs X.stack,H b=none:=fun b hb=>by
 rcases List.mem_cons.mp (I.stkSub b hb) with e | hb
 ·rw [e];exact I.free
 ·obtain ⟨_,o,ho,_⟩:=I.ok.funs.mem hb
  exact I.base.free b o ho (I.ok.frf b hb) fun z=>I.ok.exfs b z hb
theorem Inv.step {g':Array GenState}{t':Nat}{d':Drawn}{ch:List Addr}(I:Inv X pins σ H s)
  (hch:∀ b∈ch,(b∈X.ex∨X.s₀.heap.objs.size≤b)∧b≠X.env.locals∧(∀ x c,X.env.cells.lookup x=some c→c≠b)∧∀ p∈X.pn++pins,p.1≠b)
  (keep:∀ b o,b≠X.env.locals→b∉X.fs→b∉ch→s.heap.get? b=some o→H b=none→h'.get? b=some o)
  (slot:∀ b o,b≠X.env.locals→b∈X.fs→b∉ch→s.heap.get? b=some o→H b=none→∃ sl,h'.get? b=some { o with slots:=sl }) (free:∀ b o,b∉ch→s.heap.get? b=some o→H b=none→H' b=none)
  (there:∀ b o,b∉ch→s.heap.get? b=some o→∃ o',h'.get? b=some o')
  (tups:∀ b xs,H b=some (.tup xs)→H' b=some (.tup xs)) (frzs:∀ b o u,H b=some (.frz o u)→H' b=some (.frz o u)) (tbls:∀ b ps,H b=some (.tbl ps)→∃ more,H' b=some (.tbl (ps++more)))
  (ns:∀ m,s.heap.Ns X.env.locals m→h'.Ns X.env.locals m) (hok:HOk X.prog X.w H' h') (hg:AllBare g'):
  Inv X pins σ H' { s with heap:=h',gens:=g',drawn:=d',toks:=t' }:=by
 have neL:∀ b o,X.s₀.heap.get? b=some o→b≠X.env.locals:=fun b o e=>Nat.ne_of_lt (Nat.lt_of_lt_of_le (Heap.lt_size e) I.ok.above)
 have neC:∀ b o,X.s₀.heap.get? b=some o→b∉X.ex→b∉ch:=fun b o e hx hb=>by
  rcases (hch b hb).1 with z | z
  ·exact hx z
  ·exact absurd (Nat.lt_of_lt_of_le (Heap.lt_size e) z) (Nat.lt_irrefl _)
 have cellK:∀ x c,X.env.cells.lookup x=some c→∀ v,s.heap.IsCell c v→h'.IsCell c v:=fun x c e v ⟨o,ho,hd⟩=>by
  have nch:c∉ch:=fun z=>(hch c z).2.2.1 x c e rfl
  by_cases hc:c∈X.fs
  ·obtain ⟨sl,q⟩:=slot c o (I.cne x c e) hc nch ho (I.freeC x c e)
   exact ⟨_,q,hd⟩
  ·exact ⟨o,keep c o (I.cne x c e) hc nch ho (I.freeC x c e),hd⟩
 refine ⟨I.ok,I.os,hg,⟨fun b o e n hb hx=>?_,fun b o e n hb hx=>?_,fun b o e n hx=>?_,fun b o e hx=>?_,fun b xs e=>tups b xs (I.base.tups b xs e),fun b o xs e=>frzs b o xs (I.base.frzs b o xs e),fun b ps e=>?_⟩,?_,fun x c e=>?_,?_,fun x c e=>?_,fun p hp=>?_,hok,I.len⟩
 ·exact keep b o (neL b o e) hb (neC b o e hx) (I.base.keep b o e n hb hx) (I.base.free b o e n hx)
 ·obtain ⟨sl,e1⟩:=I.base.slot b o e n hb hx
  obtain ⟨sl',e2⟩:=slot b _ (neL b o e) hb (neC b o e hx) e1 (I.base.free b o e n hx)
  exact ⟨sl',e2⟩
 ·obtain ⟨o',e1⟩:=I.base.there b o e hx
  exact free b o' (neC b o e hx) e1 (I.base.free b o e n hx)
 ·obtain ⟨o',e1⟩:=I.base.there b o e hx
  exact there b o' (neC b o e hx) e1
 ·obtain ⟨m1,e1⟩:=I.base.tbls b ps e
  obtain ⟨m2,e2⟩:=tbls b _ e1
  exact ⟨m1++m2,by rw [e2,Array.append_assoc]⟩
 ·obtain ⟨m,hn,hl⟩:=I.loc
  refine ⟨m,ns m hn,fun i x v e1 e2 e3=>?_⟩
  obtain ⟨u,r,l⟩:=hl i x v e1 e2 e3
  refine ⟨u,r,?_⟩
  rcases l with l | ⟨k,c,e,z⟩
  ·exact .inl l
  ·exact .inr ⟨k,c,e,cellK x c e _ z⟩
 ·obtain ⟨v,z⟩:=I.cell x c e
  exact ⟨v,cellK x c e v z⟩
 ·obtain ⟨m,⟨o,_,_,ho,_⟩,_⟩:=I.loc
  exact free _ o (fun z=>(hch _ z).2.1 rfl) ho I.free
 ·obtain ⟨v,o,ho,hd⟩:=I.cell x c e
  exact free c o (fun z=>(hch c z).2.2.1 x c e rfl) ho (I.freeC x c e)
 ·obtain ⟨e,n,ne,nf,d⟩:=I.pin p hp
  have nch:p.1∉ch:=fun z=>(hch p.1 z).2.2.2 p hp rfl
  exact ⟨keep p.1 p.2 ne nf nch e n,free p.1 p.2 nch e n,ne,nf,d⟩
theorem Inv.un {t':Nat}(I:Inv X pins σ H s) (u:Un X.fs [] H H' s.heap h') (hok:HOk X.prog X.w H' h'):Inv X pins σ H' { s with heap:=h',toks:=t' }:=by
 obtain ⟨m,⟨o,es,ep,ho,r⟩,_⟩:=id I.loc
 obtain ⟨sl,hL⟩:=u.any ho I.free (by simp)
 exact I.step (g':=s.gens) (d':=s.drawn) (ch:=[]) (fun _ z=>nomatch z) (fun b o _ hb _ e n=>u.keep b o e n hb (by simp)) (fun b o _ hb _ e n=>u.slot b o e n hb (by simp)) (fun b o _ e n=>u.free b o e n (by simp)) (fun b o _ e=>u.there b o e (by simp)) u.tups u.frzs u.tbls (fun m' hm=>by
  obtain ⟨o',es',ep',ho',r'⟩:=hm
  rw [ho] at ho';cases ho'
  exact ⟨_,es',ep',hL,r'⟩) hok I.bare
theorem Inv.call {g':Array GenState}{t':Nat}{d':Drawn}{ch:List Addr}(I:Inv X pins σ H s) (u:Un (frs X.stack) ch H H' s.heap h') (hok:HOk X.prog X.w H' h') (hg:AllBare g')
  (hch:∀ b∈ch,(b∈X.ex∨X.s₀.heap.objs.size≤b)∧b≠X.env.locals∧(∀ x c,X.env.cells.lookup x=some c→c≠b)∧∀ p∈X.pn++pins,p.1≠b):
  Inv X pins σ H' { s with heap:=h',gens:=g',drawn:=d',toks:=t' }:=by
 obtain ⟨m,⟨o,es,ep,ho,r⟩,_⟩:=id I.loc
 obtain ⟨sl,hL⟩:=u.any ho I.free fun z=>(hch _ z).2.1 rfl
 exact I.step (ch:=ch) hch (fun b o hL hb hc e n=>u.keep b o e n (fun z=>(List.mem_cons.mp (I.stkSub b z)).elim hL hb) hc) (fun b o _ _ hc e n=>u.any e n hc) (fun b o hc e n=>u.free b o e n hc) (fun b o hc e=>u.there b o e hc) u.tups u.frzs u.tbls (fun m' hm=>by
  obtain ⟨o',es',ep',ho',r'⟩:=hm
  rw [ho] at ho';cases ho'
  exact ⟨_,es',ep',hL,r'⟩) hok hg
theorem Inv.turned {t':Nat}{it:Addr}(I:Inv X pins σ H s) (k:∀ b o,b≠it→s.heap.get? b=some o→h'.get? b=some o) (hn:H it=none) (hL:it≠X.env.locals)
  (h1:it∈X.ex∨X.s₀.heap.objs.size≤it) (h2:∀ x c,X.env.cells.lookup x=some c→c≠it) (h3:∀ p∈X.pn++pins,p.1≠it):Inv X pins σ H { s with heap:=h',toks:=t' }:=by
 have nit:∀ b u,H b=some u→b≠it:=fun b u e z=>by rw [z,hn] at e;cases e
 refine I.step (g':=s.gens) (d':=s.drawn) (ch:=[it]) (fun b hb=>?_) (fun b o _ _ hc e _=>k b o (fun z=>hc (by simp [z])) e) (fun b o _ _ hc e _=>⟨o.slots,k b o (fun z=>hc (by simp [z])) e⟩) (fun _ _ _ _ n=>n)
  (fun b o hc e=>⟨o,k b o (fun z=>hc (by simp [z])) e⟩) (fun _ _ e=>e) (fun _ _ _ e=>e) (fun b ps e=>⟨#[],by rw [e];simp⟩) (fun m hm=>?_) (fun b u e=>?_) I.bare
 ·have e:b=it:=by simpa using hb
  subst e
  exact ⟨h1,hL,h2,h3⟩
 ·obtain ⟨o,es,ep,ho,r⟩:=hm
  exact ⟨o,es,ep,k _ o (Ne.symm hL) ho,r⟩
 ·refine (I.hok b u e).stay (fun c v hc q=>k c v ?_ q) (fun _ q=>q) fun _ _ q=>q
  rcases hc with z | z
  ·rw [z];exact nit b u e
  ·exact nit c _ z
theorem Inv.tok (I:Inv X pins σ H s) (t:Nat):Inv X pins σ H { s with toks:=t }:=I.un (h':=s.heap) (t':=t) Un.refl I.hok
theorem Inv.kept {t':Nat}(I:Inv X pins σ H s) (k:∀ b u,s.heap.get? b=some u→h'.get? b=some u):Inv X pins σ H { s with heap:=h',toks:=t' }:=I.un (Un.kept k) (I.hok.kept k)
theorem Inv.laid {a:Addr}{o:HO}{t':Nat}(I:Inv X pins σ H s) (k:∀ b u,s.heap.get? b=some u→h'.get? b=some u) (hp:s.heap.objs.size≤a) (new:ObjOk X.prog X.w (upd H a o) h' a o):
  Inv X pins σ (upd H a o) { s with heap:=h',toks:=t' }:=I.un (Un.laid k hp (I.hok.fresh hp)) (I.hok.laid k hp new)
theorem Inv.write {x e:Addr}{o:HO}{t':Nat}(I:Inv X pins σ H s) (mu:Mut (H x)) (he:e=x∨H e=some (.own x)) (k:∀ b u,b≠e→s.heap.get? b=some u→h'.get? b=some u) (heo:∃ u,h'.get? e=some u)
  (new:ObjOk X.prog X.w (upd H x o) h' x o):Inv X pins σ (upd H x o) { s with heap:=h',toks:=t' }:=I.un (Un.write mu he k heo) (I.hok.write mu he k heo new)
theorem Inv.pins_of {pins':List (Addr×Obj)}(I:Inv X pins σ H s) (h:∀ p∈pins',s.heap.get? p.1=some p.2∧H p.1=none∧p.1≠X.env.locals∧p.1∉X.fs∧∀ v,p.2.data≠.cell v):Inv X pins' σ H s :=
 ⟨I.ok,I.os,I.bare,I.base,I.loc,I.cell,I.free,I.freeC,fun p hp=>(List.mem_append.mp hp).elim (fun z=>I.pin p (List.mem_append_left _ z)) (h p),I.hok,I.len⟩
theorem nodup_ix {N:List Str}(hN:N.Nodup) {i j:Nat}{x:Str}(a:N[i]?=some x) (b:N[j]?=some x):i=j:=by
 obtain ⟨h1,e1⟩:=List.getElem?_eq_some_iff.mp a
 obtain ⟨h2,e2⟩:=List.getElem?_eq_some_iff.mp b
 exact (List.getElem_inj hN).mp (e1.trans e2.symm)
theorem store_ok2 {M:Model}{A:Around}{E:Value→Shared→Prop}{i:Nat}{x:Str}{v:V}{u:Value}{Q:Unit→Shared→Prop}(I:Inv X pins σ H s) (hN:X.N.Nodup) (hi:X.N[i]?=some x) (hx:Loc X.env.scope x) (r:RelV v u)
  (h:∀ s',Inv X pins (σ.set i (some v)) H s'→(∃ a,Heap.SameBut a s.heap s'.heap∧(a=X.env.locals∨X.env.cells.lookup x=some a))→Q () s') (hf:X.fn x=true∨X.env.scope.names.lookup x=some .local:=by first | exact .inl rfl | exact .inr rfl | assumption):wpAny M A (storeName X.env x u) Q E s:=by
 obtain ⟨m,hn,hl⟩:=id I.loc
 have hcls:(X.env.scope.kind == .class || (X.env.scope.kind == .module&&X.env.locals != X.env.globals))=false:=by rw [I.ok.kind];rfl
 have hiσ:i<σ.length:=by rw [I.len];exact (List.getElem?_eq_some_iff.mp hi).1
 have cne:=I.cne
 have tracked:∀ {a:Addr} {h':Heap},(∃ o,s.heap.get? a=some o∧H a=none)→Heap.SameBut a s.heap h'→HOk X.prog X.w H h':=fun {a h'} ha hs b ob e=>by
  obtain ⟨_,_,hfree⟩:=ha
  refine (I.hok b ob e).stay (fun c w' hc q=>(hs.2 c ?_).trans q) (fun _ q=>q) fun _ _ q=>q
  rintro rfl
  rcases hc with rfl | hc
  ·rw [hfree] at e;cases e
  ·rw [hfree] at hc;cases hc
 rcases hx with hk | hk
 ·refine wpAny_storeName_local hk hn (fun h' hn' hs=>?_) hcls
  obtain ⟨oL,_,_,hoL,_⟩:=id hn
  refine h _ ⟨I.ok,I.os,I.bare,⟨fun b o e n hb hx=>?_,fun b o e n hb hx=>?_,I.base.free,fun b o e hx=>?_,I.base.tups,I.base.frzs,I.base.tbls⟩,⟨_,hn',fun j y v' e1 e2 e3=>?_⟩,fun y c e=>?_,I.free,I.freeC,fun p hp=>?_,tracked ⟨oL,hoL,I.free⟩ hs,by simpa using I.len⟩ ⟨_,hs,.inl rfl⟩
  ·exact (hs.2 b (Nat.ne_of_lt (Nat.lt_of_lt_of_le (Heap.lt_size e) I.ok.above))).trans (I.base.keep b o e n hb hx)
  ·obtain ⟨sl,e1⟩:=I.base.slot b o e n hb hx
   exact ⟨sl,(hs.2 b (Nat.ne_of_lt (Nat.lt_of_lt_of_le (Heap.lt_size e) I.ok.above))).trans e1⟩
  ·obtain ⟨o',e1⟩:=I.base.there b o e hx
   exact ⟨o',(hs.2 b (Nat.ne_of_lt (Nat.lt_of_lt_of_le (Heap.lt_size e) I.ok.above))).trans e1⟩
  ·by_cases hj:j=i
   ·subst hj
    rw [hi] at e1;cases e1
    rw [List.getElem?_set_self hiσ] at e2
    cases e2
    exact ⟨u,r,.inl ⟨hk,by simp⟩⟩
   ·rw [List.getElem?_set_ne (Ne.symm hj)] at e2
    obtain ⟨u',r',q⟩:=hl j y v' e1 e2 e3
    refine ⟨u',r',?_⟩
    rcases q with ⟨k,e⟩ | ⟨k,c,e,z⟩
    ·refine .inl ⟨k,?_⟩
     have:y≠x:=fun e=>hj (nodup_ix hN e1 (e ▸ hi))
     simp [this,e]
    ·exact .inr ⟨k,c,e,z.sameBut hs (cne y c e)⟩
  ·obtain ⟨w',z⟩:=I.cell y c e
   exact ⟨w',z.sameBut hs (cne y c e)⟩
  ·obtain ⟨e,n,ne,nf,d⟩:=I.pin p hp
   exact ⟨(hs.2 p.1 ne).trans e,n,ne,nf,d⟩
 ·have hfn:X.fn x=true:=by
   rcases hf with z | z
   ·exact z
   ·rw [z] at hk;cases hk
  obtain ⟨c,hc⟩:=I.ok.has x (.inl hk)
  obtain ⟨w',z⟩:=I.cell x c hc
  refine wpAny_storeName_cell I.ok.kind hk hc z (fun h' hc' hs=>?_)
  obtain ⟨oc,hoc,hocd⟩:=id z
  refine h { s with heap:=h' } ⟨I.ok,I.os,I.bare,⟨fun b o e n hb hx=>?_,fun b o e n hb hx=>?_,I.base.free,fun b o e hx=>?_,I.base.tups,I.base.frzs,I.base.tbls⟩,⟨m,hn.sameBut hs (Ne.symm (cne x c hc)),fun j y v' e1 e2 e3=>?_⟩,fun y c' e=>?_,I.free,I.freeC,fun p hp=>?_,tracked ⟨oc,hoc,I.freeC x c hc⟩ hs,by simpa using I.len⟩ ⟨c,hs,.inr hc⟩
  ·exact (hs.2 b (Nat.ne_of_lt (Nat.lt_of_lt_of_le (Heap.lt_size e) (I.ok.cab x c hfn hc)))).trans (I.base.keep b o e n hb hx)
  ·obtain ⟨sl,e1⟩:=I.base.slot b o e n hb hx
   exact ⟨sl,(hs.2 b (Nat.ne_of_lt (Nat.lt_of_lt_of_le (Heap.lt_size e) (I.ok.cab x c hfn hc)))).trans e1⟩
  ·obtain ⟨o',e1⟩:=I.base.there b o e hx
   exact ⟨o',(hs.2 b (Nat.ne_of_lt (Nat.lt_of_lt_of_le (Heap.lt_size e) (I.ok.cab x c hfn hc)))).trans e1⟩
  ·by_cases hj:j=i
   ·subst hj
    rw [hi] at e1;cases e1
    rw [List.getElem?_set_self hiσ] at e2
    cases e2
    exact ⟨u,r,.inr ⟨.inl hk,c,hc,hc'⟩⟩
   ·rw [List.getElem?_set_ne (Ne.symm hj)] at e2
    obtain ⟨u',r',q⟩:=hl j y v' e1 e2 e3
    refine ⟨u',r',?_⟩
    rcases q with q | ⟨k,c',e,z'⟩
    ·exact .inl q
    ·refine .inr ⟨k,c',e,z'.sameBut hs ?_⟩
     rintro rfl
     exact hj (nodup_ix hN e1 (I.ok.inj _ _ _ e hc ▸ hi))
  ·by_cases hcc:c'=c
   ·subst hcc;exact ⟨_,hc'⟩
   ·obtain ⟨w2,z2⟩:=I.cell y c' e
    exact ⟨w2,z2.sameBut hs hcc⟩
  ·obtain ⟨e,n,ne,nf,d⟩:=I.pin p hp
   refine ⟨(hs.2 p.1 ?_).trans e,n,ne,nf,d⟩
   intro q
   rw [q,hoc] at e
   have q':oc=p.2:=Option.some.inj e
   exact d w' (by rw [← q'];exact hocd)
theorem store_ok {M:Model}{A:Around}{E:Value→Shared→Prop}{i:Nat}{x:Str}{v:V}{u:Value}{Q:Unit→Shared→Prop}(I:Inv X pins σ H s) (hN:X.N.Nodup) (hi:X.N[i]?=some x) (hx:Loc X.env.scope x) (r:RelV v u)
  (h:∀ s',Inv X pins (σ.set i (some v)) H s'→Q () s') (hf:X.fn x=true∨X.env.scope.names.lookup x=some .local:=by first | exact .inl rfl | exact .inr rfl | assumption):wpAny M A (storeName X.env x u) Q E s :=
 store_ok2 I hN hi hx r (fun s' I' _=>h s' I') hf
theorem Inv.call' {s':Shared}{ch:List Addr}(I:Inv X pins σ H s) (ho:s'.os=s.os) (u:Un (frs X.stack) ch H H' s.heap s'.heap) (hok:HOk X.prog X.w H' s'.heap) (hg:AllBare s'.gens)
  (hch:∀ b∈ch,(b∈X.ex∨X.s₀.heap.objs.size≤b)∧b≠X.env.locals∧(∀ x c,X.env.cells.lookup x=some c→c≠b)∧∀ p∈X.pn++pins,p.1≠b):Inv X pins σ H' s':=by
 obtain ⟨h',g',d',t',o'⟩:=s'
 have e:o'=s.os:=ho
 subst e
 exact I.call (g':=g') (t':=t') (d':=d') u hok hg hch
end
abbrev XK:=Value→Option Addr→Hp→Prop
abbrev St:=List (Option V)
abbrev VK:=V→Hp→Prop
abbrev TE:=St→Hp→VK→Prop
abbrev TT:=St→Hp→(Bool→Hp→Prop)→Prop
abbrev TA:=St→Hp→(List V→Hp→Prop)→Prop
structure Ends where
 nx:St→Hp→Prop
 rt:VK
 bk:St→Hp→Prop:=fun _ _=>False
 ct:St→Hp→Prop:=fun _ _=>False
abbrev TS:=Ends→St→Hp→Prop
def EP (X:Cx) (pins:List (Addr×Obj)) (σ:St) (Q:VK) (u:Value) (s':Shared):Prop:=∃ v H',Inv X pins σ H' s'∧RelV v u∧Q v H'
def TP (X:Cx) (pins:List (Addr×Obj)) (σ:St) (Q:Bool→Hp→Prop) (b:Bool) (s':Shared):Prop:=∃ H',Inv X pins σ H' s'∧Q b H'
def AP (X:Cx) (pins:List (Addr×Obj)) (σ:St) (Q:List V→Hp→Prop) (us:List Value) (s':Shared):Prop:=∃ vs H',Inv X pins σ H' s'∧Vals vs us∧Q vs H'
def SP (X:Cx) (pins:List (Addr×Obj)) (D:Ends) (f:Flow) (s':Shared):Prop :=
 match f with
 | .next=>∃ σ' H',Inv X pins σ' H' s'∧D.nx σ' H'
 | .brk=>∃ σ' H',Inv X pins σ' H' s'∧D.bk σ' H'
 | .cont=>∃ σ' H',Inv X pins σ' H' s'∧D.ct σ' H'
 | .ret u=>∃ v σ' H',Inv X pins σ' H' s'∧RelV v u∧D.rt v H'
def PE (X:Cx) (e:Expr) (t:TE):Prop :=
 ∀ (pins:List (Addr×Obj)) (s:Shared) (σ:St) (H:Hp) (Q:VK),Inv X pins σ H s→t σ H Q→wpAny (model X.prog X.w) X.A (eval e X.env) (EP X pins σ Q) X.xe s
def PT (X:Cx) (e:Expr) (t:TT):Prop :=
 ∀ (pins:List (Addr×Obj)) (s:Shared) (σ:St) (H:Hp) (Q:Bool→Hp→Prop),Inv X pins σ H s→t σ H Q→wpAny (model X.prog X.w) X.A (isTrue e X.env (eval e X.env)) (TP X pins σ Q) X.xe s
def PW (X:Cx) (e:Expr) (t:TT):Prop :=
 ∀ (whole:Sem Value) (pins:List (Addr×Obj)) (s:Shared) (σ:St) (H:Hp) (Q:Bool→Hp→Prop),Inv X pins σ H s→t σ H Q→wpAny (model X.prog X.w) X.A (isTrue e X.env whole) (TP X pins σ Q) X.xe s
theorem PW.pt {X:Cx}{e:Expr}{t:TT}(h:PW X e t):PT X e t:=h _
def PA (X:Cx) (es:List Expr) (t:TA):Prop :=
 ∀ (pos:Pos) (pins:List (Addr×Obj)) (s:Shared) (σ:St) (H:Hp) (Q:List V→Hp→Prop),Inv X pins σ H s→t σ H Q→wpAny (model X.prog X.w) X.A (spliced (backTo pos (starEach es X.env))) (AP X pins σ Q) X.xe s
def PS (X:Cx) (st:Stmt) (t:TS):Prop :=
 ∀ (pins:List (Addr×Obj)) (s:Shared) (σ:St) (H:Hp) (D:Ends),Inv X pins σ H s→t D σ H→wpAny (model X.prog X.w) X.A (exec st X.env) (SP X pins D) X.xe s
def PSs (X:Cx) (st:List Stmt) (t:TS):Prop :=
 ∀ (pins:List (Addr×Obj)) (s:Shared) (σ:St) (H:Hp) (D:Ends),Inv X pins σ H s→t D σ H→wpAny (model X.prog X.w) X.A (execs st X.env) (SP X pins D) X.xe s
theorem thn {α:Type}{t:Sem α}{Q Q':α→Shared→Prop}{M:Model}{A:Around}{E:Value→Shared→Prop}{s:Shared}(h:wpAny M A t Q E s) (hQ:∀ a s,Q a s→Q' a s):wpAny M A t Q' E s:=wpAny_mono h hQ fun _ _ x=>x
end L2
namespace L2
open PySem PySem.Spec PyProof.Rows
section
variable {X:Cx}
def tVar (i:Nat):TE:=fun σ H Q=>∃ v,σ[i]?=some (some v)∧Q v H
def tC (v:V):TE:=fun _ H Q=>Q v H
theorem pe_var {i:Nat}{x:Str}{pos:Pos}(hN:X.N[i]?=some x) (hv:Vis X.env.scope x) (hd:(x == ("__debug__":Str))=false:=by decide) (hcd:(x == ("__classdict__":Str))=false:=by decide):PE X (.Name x pos) (tVar i):=by
 intro pins s σ H Q I h
 obtain ⟨v,e,h⟩:=h
 obtain ⟨m,hn,hl⟩:=I.loc
 obtain ⟨u,r,l⟩:=hl i x v hN e hv
 have fin:EP X pins σ Q u s:=⟨v,H,I,r,h⟩
 rcases l with ⟨hk,hm⟩ | ⟨hk,c,hc,hcell⟩
 ·exact wpAny_Name (wpAny_loadName_local I.ok.kind hk hn hm fin) hd
 ·rcases hk with hk | hk
  ·exact wpAny_Name (wpAny_loadName_cell I.ok.kind hk hc hcell fin) hd
  ·exact wpAny_Name (wpAny_loadName_free I.ok.kind hk hc hcell fin hcd) hd
theorem pe_int {i j pos}:PE X (.Constant (.int i) j pos) (tC (.int i)):=fun _ _ _ H _ I h=>wpAny_Constant_int ⟨.int i,H,I.tok _,⟨_,rfl⟩,h⟩
theorem pe_bl {b j pos}:PE X (.Constant (.bool b) j pos) (tC (.bl b)):=fun _ _ _ H _ I h=>Constant_bool ⟨.bl b,H,I,rfl,h⟩
theorem pe_non {j pos}:PE X (.Constant .none j pos) (tC .non):=fun _ _ _ H _ I h=>Constant_none ⟨.non,H,I,rfl,h⟩
theorem pe_str {x j pos}:PE X (.Constant (.str x) j pos) (tC (.str x)):=fun _ _ _ H _ I h=>Calls.Constant_str ⟨.str x,H,I.tok _,⟨_,rfl⟩,h⟩
def Gl (X:Cx) (x:Str):Prop:=X.env.kindOf x=some .globalImplicit
theorem ld_glob {E:Value→Shared→Prop}{pins:List (Addr×Obj)}{s:Shared}{σ:St}{H:Hp}{x:Str}{u:Value}{pos:Pos}{Q:Value→Shared→Prop}(I:Inv X pins σ H s) (hg:Gl X x) (hm:X.mg x=some u) (h:Q u s)
  (hd:(x == ("__debug__":Str))=false:=by decide):wpAny (model X.prog X.w) X.A (eval (.Name x pos) X.env) Q E s :=
 Calls.Name_function_global I.ok.kind hg (Calls.loadGlobal_global (by rw [I.ok.glob];exact I.mod.glob.keeps I.bk) hm h) hd
theorem ld_blt {E:Value→Shared→Prop}{pins:List (Addr×Obj)}{s:Shared}{σ:St}{H:Hp}{x:Str}{u:Value}{pos:Pos}{Q:Value→Shared→Prop}(I:Inv X pins σ H s) (hg:Gl X x) (hm:X.mg x=none) (hv:bootBuiltins x=some u) (h:Q u s)
  (hn:x≠"__name__":=by decide) (hd:(x == ("__debug__":Str))=false:=by decide):wpAny (model X.prog X.w) X.A (eval (.Name x pos) X.env) Q E s:=by
 obtain ⟨mb,h1,h2⟩:=I.mod.blt
 exact Calls.Name_function_global I.ok.kind hg (Calls.loadGlobal_builtin (by rw [I.ok.glob];exact I.mod.glob.keeps I.bk) hm (by rw [I.ok.blt];exact h1.keeps I.bk) ((h2 x hn).trans hv) h) hd
theorem pe_glob {x:Str}{v:V}{u:Value}{pos:Pos}(hg:Gl X x) (hm:X.mg x=some u) (r:RelV v u) (hd:(x == ("__debug__":Str))=false:=by decide):PE X (.Name x pos) (tC v):=
 fun _ _ _ H _ I h=>ld_glob I hg hm ⟨v,H,I,r,h⟩ hd
variable {a b:Expr} {ta tb:TE} {pos:Pos}
def PC (X:Cx) (op:CmpOp) (a b:Expr) (t:TE):Prop :=
 ∀ (pins:List (Addr×Obj)) (s:Shared) (σ:St) (H:Hp) (Q:VK),Inv X pins σ H s→t σ H Q →
  wpAny (model X.prog X.w) X.A (eval a X.env) (fun v s₁=>wpAny (model X.prog X.w) X.A (eval b X.env) (fun u s₂=>wpAny (model X.prog X.w) X.A (compareOp op v u) (EP X pins σ Q) X.xe s₂) X.xe s₁) X.xe s
theorem nobehind (b:Expr) {op:CmpOp}(h:op≠.In) (h2:op≠.NotIn):behindInMarks op b=false:=by
 have e1:(op == CmpOp.In)=false:=by cases op <;> first | rfl | exact absurd rfl h
 have e2:(op == CmpOp.NotIn)=false:=by cases op <;> first | rfl | exact absurd rfl h2
 cases b <;> simp [behindInMarks,e1,e2]
def tNotN (ta:TE):TE:=fun σ H Q=>ta σ H fun x H1=>Q (.bl (!decide (x=.non))) H1
theorem RelV.none_iff {x:V}{v:Value}(r:RelV x v):(v == Value.none)=decide (x=.non):=by
 cases x with
 | non=>cases r;rfl
 | bl _=>cases r;rfl
 | int _=>obtain ⟨t,rfl⟩:=r;rfl
 | str _=>obtain ⟨t,rfl⟩:=r;rfl
 | byt _=>obtain ⟨t,rfl⟩:=r;rfl
 | flt _=>obtain ⟨t,rfl⟩:=r;rfl
 | ref _=>cases r;rfl
 | ty _=>cases r;rfl
theorem pc_notN {j pos'}(ha:PE X a ta):PC X .IsNot a (.Constant .none j pos') (tNotN ta):=by
 intro pins s σ H Q I h
 refine thn (ha pins s σ H _ I h) fun v s1 ⟨x,H1,I1,r1,q1⟩=>?_
 exact Constant_none (isnot_none_gen ⟨.bl _,H1,I1,by rw [r1.none_iff];rfl,q1⟩)
def tB (t:TE):TT:=fun σ H Q=>t σ H fun x H1=>∃ c,x=.bl c∧Q c H1
theorem pe_cmp {op:CmpOp}{t:TE}(h:PC X op a b t) (h1:behindInMarks op b=false:=by first | exact nobehind _ (by decide) (by decide) | rfl):PE X (.Compare a [op] [b] pos) t:=fun pins s σ H Q I hw=>wpAny_Compare1 (h pins s σ H Q I hw) h1
theorem pt_cmp {op:CmpOp}{t:TE}(h:PC X op a b t) (h1:behindInMarks op b=false:=by first | exact nobehind _ (by decide) (by decide) | rfl):PT X (.Compare a [op] [b] pos) (tB t):=by
 intro pins s σ H Q I hw
 refine wpAny_isTrue_Compare1 (thn (h pins s σ H _ I hw) fun v s1 h1=>thn h1 fun u s2 h2=>thn h2 fun c s3 ⟨x,H1,I1,r1,q1⟩=>?_) h1
 obtain ⟨d,rfl,q⟩:=q1
 cases r1
 exact wpAny_truthy_bool ⟨H1,I1,q⟩
theorem pt_val {e:Expr}{t:TE}(h:PE X e t) (he:∀ whole,isTrue e X.env whole=(do let v ← whole;standAt e.pos;holding [v] (truthy v)):=by intro _;rfl):PT X e (tB t):=by
 intro pins s σ H Q I hw
 refine isTrue_plain (thn (h pins s σ H _ I hw) fun v s1 ⟨x,H1,I1,r1,q1⟩=>?_) (he _)
 obtain ⟨d,rfl,q⟩:=q1
 cases r1
 exact wpAny_truthy_bool ⟨H1,I1,q⟩
variable {tA tB':TT} {rest:List Expr}
def tAnd (t u:TT):TT:=fun σ H Q=>t σ H fun c H1=>if c=true then u σ H1 Q else Q false H1
def tOr (t u:TT):TT:=fun σ H Q=>t σ H fun c H1=>if c=true then Q true H1 else u σ H1 Q
def tNot (t:TT):TT:=fun σ H Q=>t σ H fun c H1=>Q (!c) H1
theorem pw_and1 (ha:PT X a tA):PW X (.BoolOp .And [a] pos) tA:=by
 intro wh pins s σ H Q I h
 refine isTrue_and (thn (ha pins s σ H Q I h) fun c s1 e=>?_)
 cases c with
 | true=>exact isTrue_and_nil e
 | false=>exact e
theorem pw_or1 (ha:PT X a tA):PW X (.BoolOp .Or [a] pos) tA:=by
 intro wh pins s σ H Q I h
 refine isTrue_or (thn (ha pins s σ H Q I h) fun c s1 e=>?_)
 cases c with
 | false=>exact isTrue_or_nil e
 | true=>exact e
theorem pw_and (ha:PT X a tA) (hb:PW X (.BoolOp .And (b :: rest) pos) tB'):PW X (.BoolOp .And (a :: b :: rest) pos) (tAnd tA tB'):=by
 intro wh pins s σ H Q I h
 refine isTrue_and (thn (ha pins s σ H _ I h) fun c s1 ⟨H1,I1,q1⟩=>?_)
 cases c with
 | true=>exact hb wh pins s1 σ H1 Q I1 q1
 | false=>exact ⟨H1,I1,q1⟩
theorem pw_or (ha:PT X a tA) (hb:PW X (.BoolOp .Or (b :: rest) pos) tB'):PW X (.BoolOp .Or (a :: b :: rest) pos) (tOr tA tB'):=by
 intro wh pins s σ H Q I h
 refine isTrue_or (thn (ha pins s σ H _ I h) fun c s1 ⟨H1,I1,q1⟩=>?_)
 cases c with
 | true=>exact ⟨H1,I1,q1⟩
 | false=>exact hb wh pins s1 σ H1 Q I1 q1
theorem pt_not (ha:PT X a tA):PT X (.UnaryOp .Not a pos) (tNot tA):=by
 intro pins s σ H Q I h
 exact isTrue_not (ha pins s σ H (fun c H1=>Q (!c) H1) I h)
def tAndV (ta tb:TE):TE:=fun σ H Q=>ta σ H fun x H1=>∃ c,x=.bl c∧if c=true then tb σ H1 Q else Q (.bl false) H1
def tOrV (ta tb:TE):TE:=fun σ H Q=>ta σ H fun x H1=>∃ c,x=.bl c∧if c=true then Q (.bl true) H1 else tb σ H1 Q
theorem pe_one {op}{t:TE}(h:PE X a t):PE X (.BoolOp op [a] pos) t:=fun pins s σ H Q I hw=>BoolOp_one (h pins s σ H Q I hw)
theorem pe_and (ha:PE X a ta) (hb:PE X (.BoolOp .And (b :: rest) pos) tb):PE X (.BoolOp .And (a :: b :: rest) pos) (tAndV ta tb):=by
 intro pins s σ H Q I h
 refine BoolOp_and (thn (ha pins s σ H _ I h) fun v s1 ⟨x,H1,I1,r1,q1⟩=>?_)
 obtain ⟨c,rfl,q1⟩:=q1
 cases r1
 refine wpAny_truthy_bool ?_
 cases c with
 | true=>exact hb pins s1 σ H1 Q I1 q1
 | false=>exact ⟨.bl false,H1,I1,rfl,q1⟩
theorem pe_or (ha:PE X a ta) (hb:PE X (.BoolOp .Or (b :: rest) pos) tb):PE X (.BoolOp .Or (a :: b :: rest) pos) (tOrV ta tb):=by
 intro pins s σ H Q I h
 refine BoolOp_or (thn (ha pins s σ H _ I h) fun v s1 ⟨x,H1,I1,r1,q1⟩=>?_)
 obtain ⟨c,rfl,q1⟩:=q1
 cases r1
 refine wpAny_truthy_bool ?_
 cases c with
 | false=>exact hb pins s1 σ H1 Q I1 q1
 | true=>exact ⟨.bl true,H1,I1,rfl,q1⟩
end
end L2
namespace L2
open PySem PySem.Spec PyProof.Rows
def SqL (K:W.Frag) (H:Hp) (a:Addr) (xs:List V):Prop :=
 Rd H a (.lst xs) ∨
  ∃ (o:Obj) (its:Array Value) (n:Nat),K.lookup a=some o∧o.cls=.type "list"∧o.dict=none∧o.data=.seq its n∧its.size≤sizeLine∧Vals xs its.toList
def SqT (K:W.Frag) (H:Hp) (a:Addr) (xs:List V):Prop :=
 Rd H a (.tup xs) ∨
  ∃ (o:Obj) (its:Array Value) (n:Nat),K.lookup a=some o∧o.cls=.type "tuple"∧o.data=.seq its n∧its.size≤sizeLine∧Vals xs its.toList
def absV:Value→Option V
 | .none=>some .non
 | .bool b=>some (.bl b)
 | .int i _=>some (.int i)
 | .str x _=>some (.str x)
 | .bytes b _=>some (.byt b)
 | .float b _=>some (.flt b)
 | .ref a=>some (.ref a)
 | .type n=>some (.ty n)
 | _=>none
theorem RelV.abs {x:V}{u:Value}(r:RelV x u):absV u=some x:=by
 cases x with
 | non=>cases r;rfl
 | bl _=>cases r;rfl
 | int _=>obtain ⟨t,rfl⟩:=r;rfl
 | str _=>obtain ⟨t,rfl⟩:=r;rfl
 | byt _=>obtain ⟨t,rfl⟩:=r;rfl
 | flt _=>obtain ⟨t,rfl⟩:=r;rfl
 | ref _=>cases r;rfl
 | ty _=>cases r;rfl
theorem RelV.inj {x y:V}{u:Value}(r:RelV x u) (q:RelV y u):x=y:=Option.some.inj (r.abs.symm.trans q.abs)
theorem Vals.inj:∀ {xs ys:List V}{us:List Value},Vals xs us→Vals ys us→xs=ys
 | _,_,_,.nil,.nil=>rfl
 | _,_,_,.cons r t,.cons r' t'=>by rw [r.inj r',Vals.inj t t']
section
variable {X:Cx} {pins:List (Addr×Obj)} {σ:St} {H:Hp} {s:Shared} {a:Addr} {xs ys:List V}
theorem SqL.of {K:W.Frag}(h:H a=some (.lst xs)):SqL K H a xs:=.inl (.inl h)
theorem SqT.of {K:W.Frag}(h:H a=some (.tup xs)):SqT K H a xs:=.inl (.inl h)
theorem Inv.list (I:Inv X pins σ H s) (h:SqL X.K H a xs):∃ its:List Value,Vals xs its∧PlainL s.heap a its.toArray∧xs.length≤sizeLine:=by
 rcases h with h | ⟨o,its,n,hk,hc,hd,hs,hz,r⟩
 ·obtain ⟨z,its,n,r,e⟩:=h.ok I.hok
  exact ⟨its,r,⟨_,n,e,rfl,rfl,rfl⟩,z⟩
 ·refine ⟨its.toList,r,⟨o,n,I.kIn a o hk,hc,hd,by simpa using hs⟩,?_⟩
  have e:=r.length
  simp only [Array.length_toList] at e
  omega
theorem Inv.tuple (I:Inv X pins σ H s) (h:SqT X.K H a xs):∃ its:List Value,Vals xs its∧IsTup s.heap a its.toArray∧xs.length≤sizeLine:=by
 rcases h with h | ⟨o,its,n,hk,hc,hs,hz,r⟩
 ·obtain ⟨z,its,r,p⟩:=h.ok I.hok
  exact ⟨its,r,p,z⟩
 ·refine ⟨its.toList,r,⟨o,I.kIn a o hk,hc,n,by simpa using hs⟩,?_⟩
  have e:=r.length
  simp only [Array.length_toList] at e
  omega
theorem Inv.list_inj (I:Inv X pins σ H s) (h:SqL X.K H a xs) (h':SqL X.K H a ys):xs=ys:=by
 obtain ⟨its,r,⟨o,n,e,_,_,d⟩,_⟩:=I.list h
 obtain ⟨its',r',⟨o',n',e',_,_,d'⟩,_⟩:=I.list h'
 rw [e] at e';cases e'
 rw [d] at d'
 injection d' with d1 _
 have:its=its':=by simpa using congrArg Array.toList d1
 subst this
 exact r.inj r'
theorem Inv.tuple_inj (I:Inv X pins σ H s) (h:SqT X.K H a xs) (h':SqT X.K H a ys):xs=ys:=by
 obtain ⟨its,r,⟨o,e,_,n,d⟩,_⟩:=I.tuple h
 obtain ⟨its',r',⟨o',e',_,n',d'⟩,_⟩:=I.tuple h'
 rw [e] at e';cases e'
 rw [d] at d'
 injection d' with d1 _
 have:its=its':=by simpa using congrArg Array.toList d1
 subst this
 exact r.inj r'
end
abbrev Cx.wish (X:Cx) (E:Value→Shared→Prop):Cx:={ X with xe:=E }
abbrev Cx.nox (X:Cx):Cx:=X.wish fun _ _=>False
theorem Cx.Ok.wish {X:Cx}(ok:X.Ok) (E:Value→Shared→Prop):(X.wish E).Ok :=
 ⟨ok.mod,ok.kind,ok.glob,ok.blt,ok.above,ok.inj,ok.has,ok.cab,ok.hd,ok.frames,ok.stk,ok.exf,ok.bs,ok.bsz,ok.noex,ok.exfs,ok.funs,ok.frf⟩
theorem Cx.Ok.unwish {X:Cx}{E:Value→Shared→Prop}(ok:(X.wish E).Ok):X.Ok :=
 ⟨ok.mod,ok.kind,ok.glob,ok.blt,ok.above,ok.inj,ok.has,ok.cab,ok.hd,ok.frames,ok.stk,ok.exf,ok.bs,ok.bsz,ok.noex,ok.exfs,ok.funs,ok.frf⟩
section
variable {X:Cx} {pins:List (Addr×Obj)} {σ:St} {H:Hp} {s:Shared} {E:Value→Shared→Prop}
theorem Inv.wish (I:Inv X pins σ H s) (E:Value→Shared→Prop):Inv (X.wish E) pins σ H s:=⟨I.ok.wish E,I.os,I.bare,I.base,I.loc,I.cell,I.free,I.freeC,I.pin,I.hok,I.len⟩
theorem Inv.unwish (I:Inv (X.wish E) pins σ H s):Inv X pins σ H s:=⟨I.ok.unwish,I.os,I.bare,I.base,I.loc,I.cell,I.free,I.freeC,I.pin,I.hok,I.len⟩
theorem SP.unwish {D:Ends}{f:Flow}{s':Shared}(h:SP (X.wish E) pins D f s'):SP X pins D f s':=by
 cases f with
 | next=>obtain ⟨σ',H',I,q⟩:=h;exact ⟨σ',H',I.unwish,q⟩
 | brk=>obtain ⟨σ',H',I,q⟩:=h;exact ⟨σ',H',I.unwish,q⟩
 | cont=>obtain ⟨σ',H',I,q⟩:=h;exact ⟨σ',H',I.unwish,q⟩
 | ret u=>obtain ⟨v,σ',H',I,r,q⟩:=h;exact ⟨v,σ',H',I.unwish,r,q⟩
theorem PSs.nox {st:List Stmt}{t:TS}(h:PSs X.nox st t):PSs X st t:=fun pins s σ H D I hw =>
 wpAny_mono (h pins s σ H D (I.wish _) hw) (fun _ _ q=>q.unwish) fun _ _ z=>False.elim z
end
section
variable {X:Cx} {st:Stmt} {rest:List Stmt} {t u:TS} {e:Expr} {te:TE} {pos:Pos}
def tNext:TS:=fun D σ H=>D.nx σ H
def tSeq (t u:TS):TS:=fun D σ H=>t { D with nx:=u D } σ H
theorem pss_nil:PSs X [] tNext:=fun _ _ σ H _ I h=>wpAny_execs_nil ⟨σ,H,I,h⟩
theorem pS (h1:PS X st t) (h2:PSs X rest u):PSs X (st :: rest) (tSeq t u):=by
 intro pins s σ H D I h
 refine wpAny_execs_cons (thn (h1 pins s σ H { D with nx:=u D } I h) fun f s1 q=>?_)
 cases f with
 | next =>
  obtain ⟨σ',H',I',q⟩:=q
  exact h2 pins s1 σ' H' D I' q
 | ret v=>exact q
 | brk=>exact q
 | cont=>exact q
theorem pss_one (h1:PS X st t):PSs X [st] t:=by
 intro pins s σ H D I h
 refine wpAny_execs_cons (thn (h1 pins s σ H D I h) fun f s1 q=>?_)
 cases f with
 | next=>exact wpAny_execs_nil q
 | ret v=>exact q
 | brk=>exact q
 | cont=>exact q
theorem Inv.quiet {pins:List (Addr×Obj)}{σ:St}{H:Hp}{s:Shared}(I:Inv X pins σ H s):interactive X.env=false:=by simp [interactive,I.ok.kind]
def tDrop (te:TE):TS:=fun D σ H=>te σ H fun _ H1=>D.nx σ H1
theorem ps_expr (he:PE X e te) (hs:swapsWith e none pos.line X.env=pure false:=by rfl):PS X (.Expr e pos) (tDrop te):=by
 intro pins s σ H D I h
 exact wpAny_Expr_any (thn (he pins s σ H _ I h) fun v s1 ⟨x,H1,I1,r1,q1⟩=>⟨σ,H1,I1,q1⟩) I.quiet hs
def tRet (te:TE):TS:=fun D σ H=>te σ H D.rt
theorem ps_ret (he:PE X e te):PS X (.Return (some e) pos) (tRet te):=by
 intro pins s σ H D I h
 exact wpAny_Return_some (thn (he pins s σ H _ I h) fun v s1 ⟨x,H1,I1,r1,q1⟩=>⟨x,σ,H1,I1,r1,q1⟩)
def tIfS (c:TT) (t u:TS):TS:=fun D σ H=>c σ H fun b H1=>if b=true then t D σ H1 else u D σ H1
theorem ps_if {c:Expr}{a b:List Stmt}{tc:TT}(hc:PT X c tc) (ha:PSs X a t) (hb:PSs X b u):PS X (.If c a b pos) (tIfS tc t u):=by
 intro pins s σ H D I h
 refine wpAny_If (thn (hc pins s σ H _ I h) fun d s1 ⟨H1,I1,q1⟩=>?_)
 cases d with
 | true=>exact ha pins s1 σ H1 D I1 q1
 | false=>exact hb pins s1 σ H1 D I1 q1
def tNever:TS:=fun _ _ _=>False
theorem pss_never {sts:List Stmt}:PSs X sts tNever:=fun _ _ _ _ _ _ h=>h.elim
end
abbrev TG:=V→St→Hp→(St→Hp→Prop)→Prop
abbrev TGs:=List V→St→Hp→(St→Hp→Prop)→Prop
def PG (X:Cx) (target:Expr) (t:TG):Prop :=
 ∀ (pins:List (Addr×Obj)) (s:Shared) (σ:St) (H:Hp) (v:V) (u:Value) (Q:St→Hp→Prop),Inv X pins σ H s→RelV v u→t v σ H Q →
  wpAny (model X.prog X.w) X.A (assign target X.env u) (fun _ s'=>∃ σ' H',Inv X pins σ' H' s'∧Q σ' H') X.xe s
def PGs (X:Cx) (ts:List Expr) (t:TGs):Prop :=
 ∀ (pins:List (Addr×Obj)) (s:Shared) (σ:St) (H:Hp) (vs:List V) (us:List Value) (Q:St→Hp→Prop),Inv X pins σ H s→Vals vs us→t vs σ H Q →
  wpAny (model X.prog X.w) X.A (assignInOrder ((assignEach ts X.env).map (·.2)) us) (fun _ s'=>∃ σ' H',Inv X pins σ' H' s'∧Q σ' H') X.xe s
abbrev TSet:=V→V→V→Hp→(Hp→Prop)→Prop
def PSet (X:Cx) (t:TSet):Prop :=
 ∀ (pins:List (Addr×Obj)) (s:Shared) (σ:St) (H:Hp) (o i v:V) (ov iv u:Value) (Q:Hp→Prop),Inv X pins σ H s→RelV o ov→RelV i iv→RelV v u→t o i v H Q →
  wpAny (model X.prog X.w) X.A (setItem ov iv u) (fun _ s'=>∃ H',Inv X pins σ H' s'∧Q H') X.xe s
section
variable {X:Cx} {pos:Pos}
def gName (i:Nat):TG:=fun v σ H Q=>Q (σ.set i (some v)) H
theorem pg_name {i:Nat}{x:Str}(hN:X.N.Nodup) (hi:X.N[i]?=some x) (hx:Loc X.env.scope x) (hf:X.fn x=true∨X.env.scope.names.lookup x=some .local:=by first | exact .inl rfl | exact .inr rfl | assumption):PG X (.Name x pos) (gName i):=by
 intro pins s σ H v u Q I r h
 exact wpAny_assign_Name (store_ok I hN hi hx r (fun s' I'=>⟨_,H,I',h⟩) hf)
def gNil:TGs:=fun vs σ H Q=>vs=[]∧Q σ H
def gCons (t:TG) (u:TGs):TGs:=fun vs σ H Q=>∃ v r,vs=v :: r∧t v σ H fun σ' H'=>u r σ' H' Q
theorem pgs_nil:PGs X [] gNil:=by
 intro pins s σ H vs us Q I r h
 obtain ⟨e,h⟩:=h
 subst e
 cases r
 exact assignInOrder_nil ⟨σ,H,I,h⟩
theorem gC {e:Expr}{es:List Expr}{t:TG}{u:TGs} (h1:PG X e t) (h2:PGs X es u)
  (hs:(assignEach (e :: es) X.env).map (·.2)=assign e X.env :: (assignEach es X.env).map (·.2):=by rfl):PGs X (e :: es) (gCons t u):=by
 intro pins s σ H vs us Q I r h
 obtain ⟨v,vr,e1,h⟩:=h
 subst e1
 cases r with
 | cons r rr =>
  rw [hs]
  refine assignInOrder_cons (thn (h1 pins s σ H _ _ _ I r h) fun _ s1 ⟨σ1,H1,I1,q1⟩=>?_)
  exact h2 pins s1 σ1 H1 _ _ Q I1 rr q1
def gTup (K:W.Frag) (n:Nat) (t:TGs):TG:=fun v σ H Q=>∃ a xs,v=.ref a∧SqT K H a xs∧xs.length=n∧t xs σ H Q
theorem pg_tup {es:List Expr}{k:Nat}{t:TGs}{n:Nat}(hc:X.calm=true) (h:PGs X es t)
  (hn:(assignEach es X.env).length=n:=by rfl) (hst:(assignEach es X.env).findIdx? (·.1)=none:=by rfl):PG X (.Tuple es k pos) (gTup X.K n t):=by
 intro pins s σ H v u Q I r hw
 obtain ⟨a,xs,e1,hq,hl,hw⟩:=hw
 subst e1
 cases r
 obtain ⟨its,rv,ht,hz⟩:=I.tuple hq
 refine assign_Tuple_tuple (I.ok.hd hc) ht (by simp [hn,← hl,rv.length]) hst fun h' hx=>?_
 have I1:Inv X pins σ H { s with heap:=h' }:=I.kept (t':=s.toks) fun b o e=>hx b o (Nat.ne_of_lt (Heap.lt_size e)) e
 exact h pins _ σ H xs _ Q I1 (by simpa using rv) hw
def gSub (to ti:TE) (t:TSet):TG:=fun v σ H Q=>to σ H fun o H1=>ti σ H1 fun i H2=>t o i v H2 fun H3=>Q σ H3
theorem pg_sub {o i:Expr}{to ti:TE}{t:TSet}(ho:PE X o to) (hi:PE X i ti) (hs:PSet X t)
  (ha:∀ v,assign (.Subscript o i pos) X.env v=(do
   let ov ← holding [v] (eval o X.env)
   let iv ← holding [v,ov] (eval i X.env)
   standAt pos
   holding [v,ov,iv] (setItem ov iv v)
   release [v,ov,iv] []):=by intro _;rfl):PG X (.Subscript o i pos) (gSub to ti t):=by
 intro pins s σ H v u Q I r h
 rw [ha]
 refine wpAny_bind (wpAny_holding (thn (ho pins s σ H _ I h) fun ov s1 ⟨x,H1,I1,r1,q1⟩=>?_))
 refine wpAny_bind (wpAny_holding (thn (hi pins s1 σ H1 _ I1 q1) fun iv s2 ⟨y,H2,I2,r2,q2⟩=>?_))
 refine wpAny_bind (wpAny_standAt (wpAny_bind (wpAny_holding (thn (hs pins s2 σ H2 x y v ov iv u _ I2 r1 r2 r q2) fun _ s3 ⟨H3,I3,q3⟩=>?_))))
 exact wpAny_release ⟨σ,H3,I3,q3⟩
def tAsg (te:TE) (g:TG):TS:=fun D σ H=>te σ H fun x H1=>g x σ H1 D.nx
theorem ps_asg {tg e:Expr}{te:TE}{g:TG}(he:PE X e te) (hg:PG X tg g) (hs:swapsWithSole [tg] e pos.line X.env=pure false:=by rfl) (hw:swappedStores [tg] e X.env=pure none:=by rfl)
  (h1:(assignEach [tg] X.env).map (·.2)=[assign tg X.env]:=by rfl):PS X (.Assign [tg] e pos) (tAsg te g):=by
 intro pins s σ H D I h
 refine wpAny_Assign_stores (thn (he pins s σ H _ I h) fun v s1 ⟨x,H1,I1,r1,q1⟩=>?_) hs hw
 rw [h1]
 exact thn (hg pins s1 σ H1 x v _ I1 r1 q1) fun _ s2 q=>q
theorem ps_set {i:Nat}{x:Str}{e:Expr}{te:TE}{pos':Pos}(hN:X.N.Nodup) (hi:X.N[i]?=some x) (hx:Loc X.env.scope x) (he:PE X e te) (hs:swapsWith e (some (.Name x pos')) pos.line X.env=pure false:=by rfl) (hf:X.fn x=true∨X.env.scope.names.lookup x=some .local:=by first | exact .inl rfl | exact .inr rfl | assumption):
  PS X (.Assign [.Name x pos'] e pos) (tAsg te (gName i)):=by
 intro pins s σ H D I h
 refine wpAny_Assign_Name (thn (he pins s σ H _ I h) fun v s1 ⟨y,H1,I1,r1,q1⟩=>?_) hs
 exact store_ok I1 hN hi hx r1 (fun s2 I2=>⟨_,H1,I2,q1⟩) hf
end
section
variable {X:Cx} {pos:Pos}
def tWhile (c:TT) (tb:TS):TS:=fun D σ H=>∃ W:Nat→St→Hp→Prop,(∃ m,W m σ H)∧∀ m σ H,W m σ H →
 c σ H fun b H1=>if b=true then ∃ N:St→Hp→Prop,(∀ σ' H',N σ' H'→∃ m',m'<m∧W m' σ' H')∧tb { D with nx:=N,ct:=N,bk:=D.nx } σ H1 else D.nx σ H1
theorem ps_while {c:Expr}{body:List Stmt}{tc:TT}{tb:TS}(hp:PassesOwn (model X.prog X.w) X.A X.env X.xe) (hc:PT X c tc) (hb:PSs X body tb):PS X (.While c body [] pos) (tWhile tc tb):=by
 intro pins s σ H D I h
 obtain ⟨W,⟨m0,w0⟩,turn⟩:=h
 refine wpAny_While (codeAny_whileLoop (fun n s'=>∃ σ' H',Inv X pins σ' H' s'∧W n σ' H') ?_ m0 ⟨σ,H,I,w0⟩)
 rintro n s1 ⟨σ1,H1,I1,w1⟩
 refine wpAny_passesOwn hp (thn (hc pins s1 σ1 H1 _ I1 (turn n σ1 H1 w1)) fun b s2 ⟨H2,I2,q2⟩=>?_)
 cases b with
 | true =>
  obtain ⟨N,hN,q2⟩:=q2
  rw [if_pos rfl]
  refine wpAny_passesOwn hp (thn (hb pins s2 σ1 H2 _ I2 q2) fun f s3 q3=>?_)
  cases f with
  | next =>
   obtain ⟨σ3,H3,I3,n3⟩:=q3
   obtain ⟨m',hm,w3⟩:=hN σ3 H3 n3
   exact ⟨m',hm,σ3,H3,I3,w3⟩
  | cont =>
   obtain ⟨σ3,H3,I3,n3⟩:=q3
   obtain ⟨m',hm,w3⟩:=hN σ3 H3 n3
   exact ⟨m',hm,σ3,H3,I3,w3⟩
  | brk=>exact q3
  | ret v=>exact q3
 | false =>
  rw [if_neg Bool.false_ne_true]
  exact wpAny_execs_nil ⟨σ1,H2,I2,q2⟩
end
structure It where
 go:Nat→Hp→Prop
 yld:Nat→Hp→V→Hp→Prop
 stop:Nat→Hp→Prop
def FpOk (X:Cx) (pins:List (Addr×Obj)) (H:Hp) (b:Addr):Prop :=
 H b=none∧b≠X.env.locals∧b∉X.fs∧(b∈X.ex∨X.s₀.heap.objs.size≤b)∧(∀ x c,X.env.cells.lookup x=some c→c≠b)∧∀ p∈X.pn++pins,p.1≠b
theorem Inv.fpOk {X:Cx}{pins:List (Addr×Obj)}{σ:St}{H H':Hp}{s:Shared}{b:Addr}(I:Inv X pins σ H s) (hb:s.heap.objs.size≤b) (hn:H' b=none):FpOk X pins H' b:=by
 refine ⟨hn,Nat.ne_of_gt (Nat.lt_of_lt_of_le I.lt hb),I.nofs hb,.inr (Nat.le_trans I.sz hb),fun x c e z=>?_,fun p hp z=>?_⟩
 ·obtain ⟨v,q⟩:=I.cell x c e
  exact absurd (Nat.lt_of_lt_of_le q.lt (by rw [z];exact hb)) (Nat.lt_irrefl _)
 ·exact absurd (Nat.lt_of_lt_of_le (Heap.lt_size (I.pin p hp).1) (by rw [z];exact hb)) (Nat.lt_irrefl _)
structure Turn (P:Program) (w:World) (K:W.Frag) (tg:Expr) (J:It) (fp:List Addr) (it:Addr) (tn:Nat→Heap→Prop):Prop where
 mem:it∈fp
 obj:∀ i h,tn i h→∀ b∈fp,∃ o,h.get? b=some o∧∀ v,o.data≠.cell v
 keep:∀ i h h',tn i h→(∀ b∈fp,∀ o,h.get? b=some o→h'.get? b=some o)→tn i h'
 item:∀ (X:Cx),X.prog=P→X.w=w→X.K=K→X.calm=true→∀ (i:Nat) (pins:List (Addr×Obj)) (s:Shared) (σ:St) (H:Hp) (E:Value→Shared→Prop),Inv X pins σ H s→(∀ b∈fp,FpOk X pins H b)→tn i s.heap→J.go i H →
  wpAny (model P w) X.A (pyNext (.ref it)) (fun r s1=>∃ u,r=some u ∧
   wpAny (model P w) X.A (letOwnedTupleGo tg (.ref it) u) (fun _ s2=>∃ x H',Inv X pins σ H' s2∧RelV x u∧J.yld i H x H'∧tn (i + 1) s2.heap∧∀ b∈fp,H' b=none) E s1) E s
 done:∀ (X:Cx),X.prog=P→X.w=w→X.K=K→X.calm=true→∀ (i:Nat) (pins:List (Addr×Obj)) (s:Shared) (σ:St) (H:Hp) (E:Value→Shared→Prop),Inv X pins σ H s→(∀ b∈fp,FpOk X pins H b)→tn i s.heap→J.stop i H →
  wpAny (model P w) X.A (pyNext (.ref it)) (fun r s1=>r=none∧Inv X pins σ H s1) E s
 self:∀ (A:Around) (i:Nat) (s:Shared) (Q:Value→Shared→Prop) (E:Value→Shared→Prop),tn i s.heap→Q (.ref it) s→wpAny (model P w) A (pyIter (.ref it)) Q E s
abbrev TI:=St→Hp→(It→Hp→Prop)→Prop
def PIE (X:Cx) (pins:List (Addr×Obj)) (σ:St) (tg:Expr) (R:It→Hp→Prop) (itv:Value) (s2:Shared):Prop :=
 ∃ (it:Addr) (fp:List Addr) (tn:Nat→Heap→Prop) (J:It) (H':Hp),itv=.ref it∧Inv X pins σ H' s2∧Turn X.prog X.w X.K tg J fp it tn∧tn 0 s2.heap∧(∀ b∈fp,FpOk X pins H' b)∧R J H'
def PI (X:Cx) (tg iter:Expr) (wi:TI):Prop :=
 ∀ (pins:List (Addr×Obj)) (s:Shared) (σ:St) (H:Hp) (R:It→Hp→Prop),Inv X pins σ H s→wi σ H R →
  wpAny (model X.prog X.w) X.A (eval iter X.env) (fun v s1=>wpAny (model X.prog X.w) X.A (pyIter v) (PIE X pins σ tg R) X.xe s1) X.xe s
theorem go_of {M:Model}{A:Around}{E:Value→Shared→Prop}{s:Shared}{tg:Expr}{it:Addr}{u:Value}{o:Obj}{n:String}{vs:Array Value}{Q:Unit→Shared→Prop}(ho:s.heap.get? it=some o) (hc:o.cls=.type n) (hd:o.data=.fields vs)
  (hn:["enumerate","zip","dict_itemiterator","dict_reverseitemiterator","odict_iterator","itertools.zip_longest","itertools.pairwise"].contains n=false) (hQ:Q () s):wpAny M A (letOwnedTupleGo tg (.ref it) u) Q E s:=by
 unfold letOwnedTupleGo
 cases tg <;> first
  | exact wpAny_pure hQ
  | (cases u <;> first
    | exact wpAny_pure hQ
    | (refine wpAny_bind (wpAny_load ho ?_)
       rw [hc,hd]
       show wpAny M A (if (["enumerate","zip","dict_itemiterator","dict_reverseitemiterator","odict_iterator","itertools.zip_longest","itertools.pairwise"].contains n&&vs[0]? == some (rawInt _))=true then _ else _) Q E s
       rw [if_neg (by intro h;rw [hn,Bool.false_and] at h;cases h)]
       exact wpAny_pure hQ))
def Itl (K:W.Frag) (a:Addr):It :=
 ⟨fun i H=>∃ xs x,SqL K H a xs∧xs[i]?=some x,fun i H x H'=>H'=H∧∀ xs,SqL K H a xs→xs[i]?=some x,fun i H=>∃ xs,SqL K H a xs∧xs.length≤i⟩
def Itt (K:W.Frag) (a:Addr):It :=
 ⟨fun i H=>∃ xs x,SqT K H a xs∧xs[i]?=some x,fun i H x H'=>H'=H∧∀ xs,SqT K H a xs→xs[i]?=some x,fun i H=>∃ xs,SqT K H a xs∧xs.length≤i⟩
def Itr (lo:Int) (n:Nat):It:=⟨fun i _=>i<n,fun i H x H'=>H'=H∧x=.int (lo + i),fun i _=>n≤i⟩
theorem turn_list {P:Program}{w:World}{K:W.Frag}{tg:Expr} (a it:Addr):Turn P w K tg (Itl K a) [it] it (fun i h=>h.IsListIter it a i) where
 mem:=by simp
 obj:=fun i h st b hb=>by
  have e:b=it:=by simpa using hb
  subst e
  obtain ⟨o,e,c,d⟩:=st
  exact ⟨o,e,fun v z=>by rw [d] at z;cases z⟩
 keep:=fun i h h' st k=>st.at fun o e=>k it (by simp) o e
 item:=by
  intro X hP hw hK hc i pins s σ H E I hf st hg
  subst hP hw hK
  obtain ⟨xs,x,hq,hx⟩:=hg
  obtain ⟨its,rv,p,hz⟩:=I.list hq
  obtain ⟨u,hu,ru⟩:=rv.get hx
  obtain ⟨f0,f1,f2,f3,f4,f5⟩:=hf it (by simp)
  refine wpAny_pyNext_list_item st p.isList (x:=u) (by simpa using hu) fun h' st' sb=>?_
  have I1:Inv X pins σ H { s with heap:=h' }:=I.turned (t':=s.toks) (fun b o hb e=>(sb.2 b hb).trans e) f0 f1 f3 f4 f5
  obtain ⟨o,e,c,d⟩:=id st'
  exact ⟨u,rfl,go_of (s:={ s with heap:=h' }) e c d (by decide) ⟨x,H,I1,ru,⟨rfl,fun ys hy=>by rw [I.list_inj hy hq];exact hx⟩,st',fun b hb=>(hf b hb).1⟩⟩
 done:=by
  intro X hP hw hK hc i pins s σ H E I hf st hg
  subst hP hw hK
  obtain ⟨xs,hq,hx⟩:=hg
  obtain ⟨its,rv,p,hz⟩:=I.list hq
  obtain ⟨f0,f1,f2,f3,f4,f5⟩:=hf it (by simp)
  have hl:=rv.length
  exact wpAny_pyNext_list_end (I.ok.hd hc) st p.isList (by simp;omega) fun h' eb=>⟨rfl,I.turned (t':=s.toks) (fun b o hb e=>eb b o hb e) f0 f1 f3 f4 f5⟩
 self:=fun _ _ _ _ _ st h=>wpAny_pyIter_listiter st h
theorem turn_tuple {P:Program}{w:World}{K:W.Frag}{tg:Expr} (a it:Addr):Turn P w K tg (Itt K a) [it] it (fun i h=>h.IsTupleIter it a i) where
 mem:=by simp
 obj:=fun i h st b hb=>by
  have e:b=it:=by simpa using hb
  subst e
  obtain ⟨o,e,c,d⟩:=st
  exact ⟨o,e,fun v z=>by rw [d] at z;cases z⟩
 keep:=fun i h h' st k=>st.at fun o e=>k it (by simp) o e
 item:=by
  intro X hP hw hK hc i pins s σ H E I hf st hg
  subst hP hw hK
  obtain ⟨xs,x,hq,hx⟩:=hg
  obtain ⟨its,rv,p,hz⟩:=I.tuple hq
  obtain ⟨u,hu,ru⟩:=rv.get hx
  obtain ⟨f0,f1,f2,f3,f4,f5⟩:=hf it (by simp)
  refine wpAny_pyNext_tuple_item st (show s.heap.IsTuple a its.toArray from p) (x:=u) (by simpa using hu) fun h' st' sb=>?_
  have I1:Inv X pins σ H { s with heap:=h' }:=I.turned (t':=s.toks) (fun b o hb e=>(sb.2 b hb).trans e) f0 f1 f3 f4 f5
  obtain ⟨o,e,c,d⟩:=id st'
  exact ⟨u,rfl,go_of (s:={ s with heap:=h' }) e c d (by decide) ⟨x,H,I1,ru,⟨rfl,fun ys hy=>by rw [I.tuple_inj hy hq];exact hx⟩,st',fun b hb=>(hf b hb).1⟩⟩
 done:=by
  intro X hP hw hK hc i pins s σ H E I hf st hg
  subst hP hw hK
  obtain ⟨xs,hq,hx⟩:=hg
  obtain ⟨its,rv,p,hz⟩:=I.tuple hq
  obtain ⟨f0,f1,f2,f3,f4,f5⟩:=hf it (by simp)
  have hl:=rv.length
  exact wpAny_pyNext_tuple_end (I.ok.hd hc) st (show s.heap.IsTuple a its.toArray from p) (by simp;omega) fun h' eb=>⟨rfl,I.turned (t':=s.toks) (fun b o hb e=>eb b o hb e) f0 f1 f3 f4 f5⟩
 self:=fun _ _ _ _ _ st h=>wpAny_pyIter_tupleiter st h
theorem turn_range {P:Program}{w:World}{K:W.Frag}{tg:Expr}(it:Addr) (lo:Int) (n:Nat):Turn P w K tg (Itr lo n) [it] it (fun i h=>IsRangeIter h it (lo + (i:Nat) * 1) ((n:Int) - (i:Nat)) 1) where
 mem:=by simp
 obj:=fun i h st b hb=>by
  have e:b=it:=by simpa using hb
  subst e
  exact ⟨_,st,fun v z=>by
   have z':Data.fields _=Data.cell v:=z
   cases z'⟩
 keep:=fun i h h' st k=>k it (by simp) _ st
 item:=by
  intro X hP hw hK hc i pins s σ H E I hf st hg
  subst hP hw hK
  obtain ⟨f0,f1,f2,f3,f4,f5⟩:=hf it (by simp)
  have W:=Walks.range (prog:=X.prog) (w:=X.w) (I.ok.hd hc) it lo 1 n
  refine W.item i s _ _ hg st fun v h' tk hv st' kk=>?_
  obtain ⟨t,rfl⟩:=hv
  have I1:Inv X pins σ H { s with heap:=h',toks:=tk }:=I.turned (fun b o hb e=>kk b o (by simpa using hb) e) f0 f1 f3 f4 f5
  refine ⟨_,rfl,go_of (s:={ s with heap:=h',toks:=tk }) (n:="range_iterator") st' rfl rfl (by decide) ⟨.int (lo + i),H,I1,⟨t,?_⟩,⟨rfl,rfl⟩,st',fun b hb=>(hf b hb).1⟩⟩
  rw [Int.mul_one]
 done:=by
  intro X hP hw hK hc i pins s σ H E I hf st hg
  subst hP hw hK
  obtain ⟨f0,f1,f2,f3,f4,f5⟩:=hf it (by simp)
  exact wpAny_pyNext_range_end (I.ok.hd hc) st (by have:n≤i:=hg;omega) fun h' eb=>⟨rfl,I.turned (t':=s.toks) (fun b o hb e=>eb b o hb e) f0 f1 f3 f4 f5⟩
 self:=fun _ _ _ _ _ st h=>wpAny_pyIter_rangeiter st h
end L2
namespace L2
open PySem PySem.Spec PyProof.Rows
section
variable {X:Cx} {tg:Expr}
def iList (K:W.Frag) (tl:TE):TI:=fun σ H R=>tl σ H fun x H1=>∃ a,x=.ref a∧(∃ xs,SqL K H1 a xs)∧R (Itl K a) H1
def iTup (K:W.Frag) (tl:TE):TI:=fun σ H R=>tl σ H fun x H1=>∃ a,x=.ref a∧(∃ xs,SqT K H1 a xs)∧R (Itt K a) H1
theorem pi_list {l:Expr}{tl:TE}(hl:PE X l tl):PI X tg l (iList X.K tl):=by
 intro pins s σ H R I h
 refine thn (hl pins s σ H _ I h) fun v s1 ⟨x,H1,I1,r1,q1⟩=>?_
 obtain ⟨a,e,⟨xs,hq⟩,q⟩:=q1
 subst e
 cases r1
 obtain ⟨its,rv,p,hz⟩:=I1.list hq
 refine wpAny_pyIter_list p.isList ?_
 refine ⟨s1.heap.objs.size,[s1.heap.objs.size],_,_,H1,rfl,I1.kept (t':=s1.toks) fun b o e=>Heap.get?_push_of_some _ e,turn_list a _,⟨_,Heap.get?_push_size _ rfl,rfl,rfl⟩,fun b hb=>?_,q⟩
 have e:b=s1.heap.objs.size:=by simpa using hb
 subst e
 exact I1.fpOk (Nat.le_refl _) (I1.hok.fresh (Nat.le_refl _))
theorem pi_tup {l:Expr}{tl:TE}(hl:PE X l tl):PI X tg l (iTup X.K tl):=by
 intro pins s σ H R I h
 refine thn (hl pins s σ H _ I h) fun v s1 ⟨x,H1,I1,r1,q1⟩=>?_
 obtain ⟨a,e,⟨xs,hq⟩,q⟩:=q1
 subst e
 cases r1
 obtain ⟨its,rv,p,hz⟩:=I1.tuple hq
 refine wpAny_pyIter_tuple (show s1.heap.IsTuple a its.toArray from p) ?_
 refine ⟨s1.heap.objs.size,[s1.heap.objs.size],_,_,H1,rfl,I1.kept (t':=s1.toks) fun b o e=>Heap.get?_push_of_some _ e,turn_tuple a _,⟨_,Heap.get?_push_size _ rfl,rfl,rfl⟩,fun b hb=>?_,q⟩
 have e:b=s1.heap.objs.size:=by simpa using hb
 subst e
 exact I1.fpOk (Nat.le_refl _) (I1.hok.fresh (Nat.le_refl _))
theorem range_it {pins:List (Addr×Obj)}{σ:St}{H:Hp}{s:Shared}{R:It→Hp→Prop}{E:Value→Shared→Prop}{lo hi:Int}{t u v:Tok}{tk:Nat}(I:Inv X pins σ H s) (h1:-(2 ^ 62)≤lo) (h2:lo<2 ^ 62) (h3:-(2 ^ 62)≤hi) (h4:hi<2 ^ 62)
  (q:R (Itr lo (hi - lo).toNat) H):wpAny (model X.prog X.w) X.A (pyIter (.ref s.heap.objs.size)) (PIE X pins σ tg R) E { s with heap:=s.heap.push { cls:=.type "range",data:=.fields #[.int lo t,.int hi u,.int 1 v] },toks:=tk }:=by
 refine wpAny_pyIter_range (IsRange.new ..) (small_one h1 h2 h3 h4) ?_
 have I1:Inv X pins σ H { s with heap:=s.heap.push { cls:=.type "range",data:=.fields #[.int lo t,.int hi u,.int 1 v] },toks:=tk }:=I.kept fun b o e=>Heap.get?_push_of_some _ e
 refine ⟨(s.heap.push { cls:=.type "range",data:=.fields #[.int lo t,.int hi u,.int 1 v] }).objs.size,[(s.heap.push { cls:=.type "range",data:=.fields #[.int lo t,.int hi u,.int 1 v] }).objs.size],_,_,H,rfl,
  I1.kept (t':=tk) fun b o e=>Heap.get?_push_of_some _ e,turn_range _ lo (hi - lo).toNat,?_,fun b hb=>?_,q⟩
 ·have e1:lo + ((0:Nat):Int) * 1=lo:=by simp
  have e2:(((hi - lo).toNat:Nat):Int) - ((0:Nat):Int)=Builtin.Range.rangeSize lo hi 1:=by rw [rangeSize_one];split <;> omega
  show IsRangeIter _ _ (lo + ((0:Nat):Int) * 1) ((((hi - lo).toNat:Nat):Int) - ((0:Nat):Int)) 1
  rw [e1,e2]
  exact Heap.get?_push_size _ rfl
 ·have e:b=(s.heap.push { cls:=.type "range",data:=.fields #[.int lo t,.int hi u,.int 1 v] }).objs.size:=by simpa using hb
  subst e
  exact I1.fpOk (Nat.le_refl _) (I1.hok.fresh (Nat.le_refl _))
def iRng1 (ta:TA):TI:=fun σ H R=>ta σ H fun vs H1=>∃ j:Int,vs=[.int j]∧-(2 ^ 62)≤j∧j<2 ^ 62∧R (Itr 0 j.toNat) H1
theorem pi_range1 {a:Expr}{ta:TA}{p pos:Pos}(hg:Gl X "range") (hm:X.mg "range"=none) (ha:PA X [a] ta) (hs:starEach [a] X.env=[(false,eval a X.env)]:=by rfl):PI X tg (.Call (.Name "range" p) [a] [] pos) (iRng1 ta):=by
 intro pins s σ H R I h
 refine Call_ (ld_blt I hg hm boot_range (PyProof.Rows.callWith_type1 (thn (ha pos pins s σ H _ I h) fun us s1 ⟨vs,H1,I1,r1,q1⟩=>?_) hs rfl))
 obtain ⟨j,e,q1,q2,q⟩:=q1
 subst e
 cases r1 with
 | cons r rr =>
  cases rr
  obtain ⟨t,rfl⟩:=r
  exact call_range_1 (range_it I1 (by omega) (by omega) q1 q2 (by simpa using q))
def tFor (wi:TI) (g:TG) (tb:TS):TS:=fun D σ H=>wi σ H fun J H1=>∃ W:Nat→Nat→St→Hp→Prop,(∃ m,W 0 m σ H1)∧∀ i m σ H,W i m σ H →
 (J.stop i H∧D.nx σ H)∨(J.go i H∧∃ N:St→Hp→Prop,(∀ σ' H',N σ' H'→∃ m',m'<m∧W (i + 1) m' σ' H')∧∀ x H',J.yld i H x H'→g x σ H' fun σ2 H2=>tb { D with nx:=N,ct:=N,bk:=D.nx } σ2 H2)
def pinsAt (fp:List Addr) (h:Heap):List (Addr×Obj):=fp.filterMap fun b=>(h.get? b).map fun o=>(b,o)
theorem mem_pinsAt {fp:List Addr}{h:Heap}{b:Addr}{o:Obj}(hb:b∈fp) (e:h.get? b=some o):(b,o)∈pinsAt fp h:=List.mem_filterMap.mpr ⟨b,hb,by rw [e];rfl⟩
theorem of_pinsAt {fp:List Addr}{h:Heap}{p:Addr×Obj}(hp:p∈pinsAt fp h):p.1∈fp∧h.get? p.1=some p.2:=by
 obtain ⟨b,hb,e⟩:=List.mem_filterMap.mp hp
 cases q:h.get? b with
 | none=>rw [q] at e;cases e
 | some o =>
  rw [q] at e
  have e':(b,o)=p:=Option.some.inj e
  subst e'
  exact ⟨hb,q⟩
theorem Inv.pinned {pins:List (Addr×Obj)}{σ:St}{H:Hp}{s:Shared}{fp:List Addr}(I:Inv X pins σ H s) (hf:∀ b∈fp,FpOk X pins H b) (ho:∀ b∈fp,∃ o,s.heap.get? b=some o∧∀ v,o.data≠.cell v):Inv X (pins++pinsAt fp s.heap) σ H s :=
 I.pins_of fun p hp=>(List.mem_append.mp hp).elim (fun z=>I.pin p (List.mem_append_right _ z)) fun z=>by
  obtain ⟨hb,e⟩:=of_pinsAt z
  obtain ⟨f0,f1,f2,_⟩:=hf p.1 hb
  obtain ⟨o,e',d⟩:=ho p.1 hb
  rw [e] at e';cases e'
  exact ⟨e,f0,f1,f2,d⟩
theorem Inv.unpinned {pins pl:List (Addr×Obj)}{σ:St}{H:Hp}{s:Shared}(I:Inv X (pins++pl) σ H s):Inv X pins σ H s:=I.pins_of fun p hp=>I.pin p (List.mem_append_right _ (List.mem_append_left _ hp))
theorem ps_for {iter:Expr}{body:List Stmt}{wi:TI}{g:TG}{tb:TS}{pos:Pos}(hp:PassesOwn (model X.prog X.w) X.A X.env X.xe) (hc:X.calm=true) (hi:PI X tg iter wi) (hg:PG X tg g) (hb:PSs X body tb)
  (hs:∀ x,foldedSetIterable iter X.env x=pure x:=by intro _;rfl):PS X (.For tg iter body [] pos) (tFor wi g tb):=by
 intro pins s σ H D I h
 refine wpAny_For (thn (hi pins s σ H _ I h) fun v s1 h1=>thn h1 fun itv s2 h2=>?_) hs
 obtain ⟨it,fp,tn,J,H2,e,I2,T,st2,f2,W,⟨m0,w0⟩,turn⟩:=h2
 subst e
 have stat:∀ {H':Hp},(∀ b∈fp,H' b=none)→∀ b∈fp,FpOk X pins H' b:=fun hn b hb=>⟨hn b hb,(f2 b hb).2⟩
 refine codeAny_forLoop_any (fun n s'=>∃ i σ' H',Inv X pins σ' H' s'∧tn i s'.heap∧(∀ b∈fp,H' b=none)∧W i n σ' H') ?_ m0 ⟨0,σ,H2,I2,st2,fun b hb=>(f2 b hb).1,w0⟩
 rintro n s3 ⟨i,σ3,H3,I3,st3,fr3,w3⟩
 rcases turn i n σ3 H3 w3 with ⟨stop,qn⟩ | ⟨go,N,hN,step⟩
 ·refine wpAny_passesOwn hp (thn (T.done X rfl rfl rfl hc i pins s3 σ3 H3 X.xe I3 (stat fr3) st3 stop) fun r s4 ⟨hr,I4⟩=>?_)
  subst hr
  exact wpAny_execs_nil ⟨σ3,H3,I4,qn⟩
 ·refine wpAny_passesOwn hp (thn (T.item X rfl rfl rfl hc i pins s3 σ3 H3 X.xe I3 (stat fr3) st3 go) fun r s4 ⟨u,hr,h4⟩=>?_)
  subst hr
  refine wpAny_passesOwn hp (thn h4 fun _ s5 ⟨x,H5,I5,r5,y5,st5,fr5⟩=>?_)
  have I5':=I5.pinned (stat fr5) (T.obj _ _ st5)
  refine wpAny_passesOwn hp (thn (hg _ s5 σ3 H5 x u _ I5' r5 (step x H5 y5)) fun _ s6 ⟨σ6,H6,I6,q6⟩=>?_)
  refine wpAny_passesOwn hp (thn (hb _ s6 σ6 H6 _ I6 q6) fun f s7 q7=>?_)
  have again:∀ {σ7:St} {H7:Hp},Inv X (pins++pinsAt fp s5.heap) σ7 H7 s7→N σ7 H7→∃ m,m<n∧∃ i σ' H',Inv X pins σ' H' s7∧tn i s7.heap∧(∀ b∈fp,H' b=none)∧W i m σ' H':=fun {σ7 H7} I7 n7=>by
   obtain ⟨m',hm,w7⟩:=hN σ7 H7 n7
   refine ⟨m',hm,i + 1,σ7,H7,I7.unpinned,T.keep _ _ _ st5 fun b hb o e=>(I7.pin (b,o) (List.mem_append_right _ (List.mem_append_right _ (mem_pinsAt hb e)))).1,fun b hb=>?_,w7⟩
   obtain ⟨o,e,d⟩:=T.obj _ _ st5 b hb
   exact (I7.pin (b,o) (List.mem_append_right _ (List.mem_append_right _ (mem_pinsAt hb e)))).2.1
  cases f with
  | next=>obtain ⟨σ7,H7,I7,n7⟩:=q7;exact again I7 n7
  | cont=>obtain ⟨σ7,H7,I7,n7⟩:=q7;exact again I7 n7
  | brk=>obtain ⟨σ7,H7,I7,q7⟩:=q7;exact ⟨σ7,H7,I7.unpinned,q7⟩
  | ret v=>obtain ⟨x7,σ7,H7,I7,r7,q7⟩:=q7;exact ⟨x7,σ7,H7,I7.unpinned,r7,q7⟩
end
end L2
namespace L2
open PySem PySem.Spec PyProof.Rows
abbrev R2:=V→V→Hp→VK→Prop
def OpR (X:Cx) (f:Value→Value→Sem Value) (r:R2):Prop :=
 ∀ (pins:List (Addr×Obj)) (s:Shared) (σ:St) (H:Hp) (x y:V) (v u:Value) (Q:VK),Inv X pins σ H s→RelV x v→RelV y u→r x y H Q →
  wpAny (model X.prog X.w) X.A (f v u) (EP X pins σ Q) X.xe s
def UnR (X:Cx) (f:Value→Sem Value) (r:V→Hp→VK→Prop):Prop :=
 ∀ (pins:List (Addr×Obj)) (s:Shared) (σ:St) (H:Hp) (x:V) (v:Value) (Q:VK),Inv X pins σ H s→RelV x v→r x H Q →
  wpAny (model X.prog X.w) X.A (f v) (EP X pins σ Q) X.xe s
def CallR (X:Cx) (f:Value) (r:List V→Hp→VK→Prop):Prop :=
 ∀ (pins:List (Addr×Obj)) (s:Shared) (σ:St) (H:Hp) (xs:List V) (us:List Value) (Q:VK),Inv X pins σ H s→Vals xs us→r xs H Q →
  wpAny (model X.prog X.w) X.A (call f us) (EP X pins σ Q) X.xe s
def TruR (X:Cx) (r:V→Hp→(Bool→Hp→Prop)→Prop):Prop :=
 ∀ (pins:List (Addr×Obj)) (s:Shared) (σ:St) (H:Hp) (x:V) (v:Value) (Q:Bool→Hp→Prop),Inv X pins σ H s→RelV x v→r x H Q →
  wpAny (model X.prog X.w) X.A (truthy v) (TP X pins σ Q) X.xe s
def tOp (r:R2) (ta tb:TE):TE:=fun σ H Q=>ta σ H fun x H1=>tb σ H1 fun y H2=>r x y H2 Q
def tUn (r:V→Hp→VK→Prop) (ta:TE):TE:=fun σ H Q=>ta σ H fun x H1=>r x H1 Q
def rI (C:Int→Int→Prop) (g:Int→Int→V):R2:=fun x y H Q=>∃ i j,x=.int i∧y=.int j∧C i j∧Q (g i j) H
def rI0 (g:Int→Int→V):R2:=fun x y H Q=>∃ i j,x=.int i∧y=.int j∧Q (g i j) H
def rU (g:Int→V):V→Hp→VK→Prop:=fun x H Q=>∃ i,x=.int i∧Q (g i) H
section
variable {X:Cx} {a b c:Expr} {ta tb tc:TE} {pos:Pos}
theorem binT (ha:PE X a ta) (hb:PE X b tb) {pins:List (Addr×Obj)}{s:Shared}{σ:St}{H:Hp}{R:V→V→Hp→Prop}(I:Inv X pins σ H s)
  (h:ta σ H fun x H1=>tb σ H1 fun y H2=>R x y H2) {Q:Value→Shared→Prop} {f:Value→Value→Sem Value}
  (hf:∀ v u s2 x y H2,Inv X pins σ H2 s2→RelV x v→RelV y u→R x y H2→wpAny (model X.prog X.w) X.A (f v u) Q X.xe s2):
  wpAny (model X.prog X.w) X.A (eval a X.env) (fun v s₁=>wpAny (model X.prog X.w) X.A (eval b X.env) (fun u s₂=>wpAny (model X.prog X.w) X.A (f v u) Q X.xe s₂) X.xe s₁) X.xe s:=by
 refine thn (ha pins s σ H _ I h) fun v s1 ⟨x,H1,I1,r1,q1⟩=>?_
 refine thn (hb pins s1 σ H1 _ I1 q1) fun u s2 ⟨y,H2,I2,r2,q2⟩=>?_
 exact hf v u s2 x y H2 I2 r1 r2 q2
theorem pe_op {op:Operator}{r:R2}(ho:OpR X (binaryOp op) r) (ha:PE X a ta) (hb:PE X b tb):PE X (.BinOp a op b pos) (tOp r ta tb):=by
 intro pins s σ H Q I h
 exact wpAny_BinOp (binT ha hb I h fun v u s2 x y H2 I2 rx ry q=>ho pins s2 σ H2 x y v u Q I2 rx ry q)
theorem pe_un {op:UnaryOp}{r:V→Hp→VK→Prop}(ho:UnR X (unaryOp op) r) (ha:PE X a ta):PE X (.UnaryOp op a pos) (tUn r ta):=by
 intro pins s σ H Q I h
 exact UnaryOp_ (thn (ha pins s σ H _ I h) fun v s1 ⟨x,H1,I1,r1,q1⟩=>ho pins s1 σ H1 x v Q I1 r1 q1)
theorem opI {f:Value→Value→Sem Value}{C:Int→Int→Prop}{g:Int→Int→Int}
  (rule:∀ (i j:Int) (t u:Tok) (s:Shared) (Q:Value→Shared→Prop) (E:Value→Shared→Prop),C i j→Q (.int (g i j) s.toks) { s with toks:=s.toks + 1 }→wpAny (model X.prog X.w) X.A (f (.int i t) (.int j u)) Q E s):
  OpR X f (rI C fun i j=>.int (g i j)):=by
 intro pins s σ H x y v u Q I rx ry h
 obtain ⟨i,j,rfl,rfl,hc,q⟩:=h
 obtain ⟨t,rfl⟩:=rx
 obtain ⟨t',rfl⟩:=ry
 exact rule i j t t' s _ _ hc ⟨.int (g i j),H,I.tok _,⟨_,rfl⟩,q⟩
theorem opI0 {f:Value→Value→Sem Value}{g:Int→Int→Int}
  (rule:∀ (i j:Int) (t u:Tok) (s:Shared) (Q:Value→Shared→Prop) (E:Value→Shared→Prop),Q (.int (g i j) s.toks) { s with toks:=s.toks + 1 }→wpAny (model X.prog X.w) X.A (f (.int i t) (.int j u)) Q E s):
  OpR X f (rI0 fun i j=>.int (g i j)):=by
 intro pins s σ H x y v u Q I rx ry h
 obtain ⟨i,j,rfl,rfl,q⟩:=h
 obtain ⟨t,rfl⟩:=rx
 obtain ⟨t',rfl⟩:=ry
 exact rule i j t t' s _ _ ⟨.int (g i j),H,I.tok _,⟨_,rfl⟩,q⟩
theorem opB0 {f:Value→Value→Sem Value}{g:Int→Int→Bool}
  (rule:∀ (i j:Int) (t u:Tok) (s:Shared) (Q:Value→Shared→Prop) (E:Value→Shared→Prop),Q (.bool (g i j)) s→wpAny (model X.prog X.w) X.A (f (.int i t) (.int j u)) Q E s):
  OpR X f (rI0 fun i j=>.bl (g i j)):=by
 intro pins s σ H x y v u Q I rx ry h
 obtain ⟨i,j,rfl,rfl,q⟩:=h
 obtain ⟨t,rfl⟩:=rx
 obtain ⟨t',rfl⟩:=ry
 exact rule i j t t' s _ _ ⟨.bl (g i j),H,I,rfl,q⟩
def CDiv (i j:Int):Prop:=0<j∧j<1073741824
def CPow (i j:Int):Prop:=0≤j∧j≤1000000∧i.natAbs<2 ^ 64
def CMul (i j:Int):Prop:=(-(2 ^ 64)<i∧i<2 ^ 64)∨(-(2 ^ 64)<j∧j<2 ^ 64)
theorem CMul.ok {i j:Int}(h:CMul i j):IntMulOk i j:=by
 rcases h with ⟨h1,h2⟩ | ⟨h1,h2⟩
 ·exact .of_left (intBits_le_64 h1 h2)
 ·exact .of_right (intBits_le_64 h1 h2)
theorem op_add:OpR X (binaryOp .Add) (rI0 fun i j=>.int (i + j)):=opI0 fun _ _ _ _ _ _ _ q=>add_int q
theorem op_sub:OpR X (binaryOp .Sub) (rI0 fun i j=>.int (i - j)):=opI0 fun _ _ _ _ _ _ _ q=>sub_int q
theorem op_mul:OpR X (binaryOp .Mult) (rI CMul fun i j=>.int (i * j)):=opI fun _ _ _ _ _ _ _ hc q=>mul_int q hc.ok
theorem op_fdiv:OpR X (binaryOp .FloorDiv) (rI CDiv fun i j=>.int (i / j)):=opI fun i j _ _ _ _ _ hc q=>by
 have h1:(0:Int)<j:=hc.1
 have h2:j<1073741824:=hc.2
 exact floordiv_int (by omega) (by rw [Int.fdiv_eq_ediv_of_nonneg i (by omega)];exact q) (.inl (PyProof.noPylong_small (by omega)))
theorem op_mod:OpR X (binaryOp .Mod) (rI (fun _ j=>0<j) fun i j=>.int (i % j)):=opI fun i j _ _ _ _ _ hc q=>by
 have h1:(0:Int)<j:=hc
 exact mod_int' (by omega) (by rw [Int.fmod_eq_emod_of_nonneg i (by omega)];exact q)
theorem op_pow:OpR X (binaryOp .Pow) (rI CPow fun i j=>.int (i ^ j.toNat)):=opI fun _ _ _ _ _ _ _ hc q=>pow_int_small hc.1 hc.2.1 hc.2.2 q
theorem unI {f:Value→Sem Value}{g:Int→Int}
  (rule:∀ (i:Int) (t:Tok) (s:Shared) (Q:Value→Shared→Prop) (E:Value→Shared→Prop),Q (.int (g i) s.toks) { s with toks:=s.toks + 1 }→wpAny (model X.prog X.w) X.A (f (.int i t)) Q E s):
  UnR X f (rU fun i=>.int (g i)):=by
 intro pins s σ H x v Q I rx h
 obtain ⟨i,rfl,q⟩:=h
 obtain ⟨t,rfl⟩:=rx
 exact rule i t s _ _ ⟨.int (g i),H,I.tok _,⟨_,rfl⟩,q⟩
theorem un_neg:UnR X (unaryOp .USub) (rU fun i=>.int (-i)):=unI fun _ _ _ _ _ q=>neg_int q
end
def scal:V→V→Bool
 | .non,.non=>true | .non,.int _=>true | .int _,.non=>true | .non,.bl _=>true | .bl _,.non=>true | .non,.str _=>true | .str _,.non=>true
 | .int _,.int _=>true | .bl _,.bl _=>true | .str _,.str _=>true | .byt _,.byt _=>true
 | .int _,.str _=>true | .str _,.int _=>true | .bl _,.str _=>true | .str _,.bl _=>true
 | _,_=>false
def rEq:R2:=fun x y H Q=>scal x y=true∧Q (.bl (decide (x=y))) H
def rNe:R2:=fun x y H Q=>scal x y=true∧Q (.bl (!decide (x=y))) H
theorem dec_int {i j:Int}:decide (V.int i=V.int j)=(i == j):=by
 rw [Bool.eq_iff_iff]
 simp
theorem dec_bl {i j:Bool}:decide (V.bl i=V.bl j)=(i == j):=by
 rw [Bool.eq_iff_iff]
 simp
theorem dec_str {i j:Str}:decide (V.str i=V.str j)=(i == j):=by
 rw [Bool.eq_iff_iff]
 simp
theorem dec_byt {i j:Array UInt8}:decide (V.byt i=V.byt j)=(i.toList == j.toList):=by
 rw [Bool.eq_iff_iff]
 cases i
 cases j
 simp
section
variable {X:Cx} {a b c:Expr} {ta tb tc:TE} {pos:Pos}
theorem fin_bl {pins:List (Addr×Obj)}{σ:St}{H:Hp}{s:Shared}{Q:VK}{k k':Bool}(I:Inv X pins σ H s) (q:Q (.bl k) H) (e:k=k'):EP X pins σ Q (.bool k') s:=by
 subst e
 exact ⟨.bl k,H,I,rfl,q⟩
theorem op_eq:OpR X (compareOp .Eq) rEq:=by
 intro pins s σ H x y v u Q I rx ry h
 obtain ⟨hs,q⟩:=h
 cases x with
 | non =>
  cases rx
  cases y with
  | non=>cases ry;exact PySem.EqNone.eq_none_none (fin_bl I q (by simp))
  | bl j=>cases ry;exact PySem.EqNone.eq_none_bool (fin_bl I q (by simp))
  | int j=>obtain ⟨t',rfl⟩:=ry;exact PySem.EqNone.eq_none_int (fin_bl I q (by simp))
  | str j=>obtain ⟨t',rfl⟩:=ry;exact PySem.EqNone.eq_none_str (fin_bl I q (by simp))
  | _=>exact absurd (show false=true from hs) Bool.false_ne_true
 | bl i =>
  cases rx
  cases y with
  | non=>cases ry;exact PySem.EqNone.eq_bool_none (fin_bl I q (by simp))
  | bl j=>cases ry;exact eq_bool (fin_bl I q dec_bl)
  | str j=>obtain ⟨t',rfl⟩:=ry;exact PySem.EqMixed.eq_bool_str (fin_bl I q (by simp))
  | _=>exact absurd (show false=true from hs) Bool.false_ne_true
 | int i =>
  obtain ⟨t,rfl⟩:=rx
  cases y with
  | non=>cases ry;exact PySem.EqNone.eq_int_none (fin_bl I q (by simp))
  | int j=>obtain ⟨t',rfl⟩:=ry;exact eq_int (fin_bl I q dec_int)
  | str j=>obtain ⟨t',rfl⟩:=ry;exact PySem.EqMixed.eq_int_str (fin_bl I q (by simp))
  | _=>exact absurd (show false=true from hs) Bool.false_ne_true
 | str i =>
  obtain ⟨t,rfl⟩:=rx
  cases y with
  | non=>cases ry;exact PySem.EqNone.eq_str_none (fin_bl I q (by simp))
  | bl j=>cases ry;exact PySem.EqMixed.eq_str_bool (fin_bl I q (by simp))
  | int j=>obtain ⟨t',rfl⟩:=ry;exact PySem.EqMixed.eq_str_int (fin_bl I q (by simp))
  | str j=>obtain ⟨t',rfl⟩:=ry;exact eq_str (fin_bl I q dec_str)
  | _=>exact absurd (show false=true from hs) Bool.false_ne_true
 | byt i =>
  obtain ⟨t,rfl⟩:=rx
  cases y with
  | byt j=>obtain ⟨t',rfl⟩:=ry;exact W.eq_bytes (fin_bl I q dec_byt)
  | _=>exact absurd (show false=true from hs) Bool.false_ne_true
 | _=>cases y <;> exact absurd (show false=true from hs) Bool.false_ne_true
theorem op_ne:OpR X (compareOp .NotEq) rNe:=by
 intro pins s σ H x y v u Q I rx ry h
 obtain ⟨hs,q⟩:=h
 cases x with
 | non =>
  cases rx
  cases y with
  | non=>cases ry;exact PySem.EqNone.ne_none_none (fin_bl I q (by simp))
  | bl j=>cases ry;exact PySem.EqNone.ne_none_bool (fin_bl I q (by simp))
  | int j=>obtain ⟨t',rfl⟩:=ry;exact PySem.EqNone.ne_none_int (fin_bl I q (by simp))
  | str j=>obtain ⟨t',rfl⟩:=ry;exact PySem.EqNone.ne_none_str (fin_bl I q (by simp))
  | _=>exact absurd (show false=true from hs) Bool.false_ne_true
 | bl i =>
  cases rx
  cases y with
  | non=>cases ry;exact PySem.EqNone.ne_bool_none (fin_bl I q (by simp))
  | bl j=>cases ry;exact ne_bool (fin_bl I q (congrArg not dec_bl))
  | str j=>obtain ⟨t',rfl⟩:=ry;exact PySem.EqMixed.ne_bool_str (fin_bl I q (by simp))
  | _=>exact absurd (show false=true from hs) Bool.false_ne_true
 | int i =>
  obtain ⟨t,rfl⟩:=rx
  cases y with
  | non=>cases ry;exact PySem.EqNone.ne_int_none (fin_bl I q (by simp))
  | int j=>obtain ⟨t',rfl⟩:=ry;exact ne_int (fin_bl I q (congrArg not dec_int))
  | str j=>obtain ⟨t',rfl⟩:=ry;exact PySem.EqMixed.ne_int_str (fin_bl I q (by simp))
  | _=>exact absurd (show false=true from hs) Bool.false_ne_true
 | str i =>
  obtain ⟨t,rfl⟩:=rx
  cases y with
  | non=>cases ry;exact PySem.EqNone.ne_str_none (fin_bl I q (by simp))
  | bl j=>cases ry;exact PySem.EqMixed.ne_str_bool (fin_bl I q (by simp))
  | int j=>obtain ⟨t',rfl⟩:=ry;exact PySem.EqMixed.ne_str_int (fin_bl I q (by simp))
  | str j=>obtain ⟨t',rfl⟩:=ry;exact ne_str (fin_bl I q (congrArg not dec_str))
  | _=>exact absurd (show false=true from hs) Bool.false_ne_true
 | byt i =>
  obtain ⟨t,rfl⟩:=rx
  cases y with
  | byt j=>obtain ⟨t',rfl⟩:=ry;exact W.ne_bytes (fin_bl I q (congrArg not dec_byt))
  | _=>exact absurd (show false=true from hs) Bool.false_ne_true
 | _=>cases y <;> exact absurd (show false=true from hs) Bool.false_ne_true
theorem op_lt:OpR X (compareOp .Lt) (rI0 fun i j=>.bl (decide (i<j))):=opB0 fun _ _ _ _ _ _ _ q=>lt_int q
theorem op_le:OpR X (compareOp .LtE) (rI0 fun i j=>.bl (decide (i≤j))):=opB0 fun _ _ _ _ _ _ _ q=>le_int q
theorem op_gt:OpR X (compareOp .Gt) (rI0 fun i j=>.bl (decide (j<i))):=opB0 fun _ _ _ _ _ _ _ q=>gt_int q
theorem op_ge:OpR X (compareOp .GtE) (rI0 fun i j=>.bl (decide (j≤i))):=opB0 fun _ _ _ _ _ _ _ q=>ge_int q
theorem op_in_str:OpR X (compareOp .In) (fun x y H Q=>∃ i j,x=.str i∧y=.str j∧Q (.bl (!(Builtin.Str.occurrences j i 0 j.length 1).isEmpty)) H):=by
 intro pins s σ H x y v u Q I rx ry h
 obtain ⟨i,j,rfl,rfl,q⟩:=h
 obtain ⟨t,rfl⟩:=rx
 obtain ⟨t',rfl⟩:=ry
 exact in_str (fin_bl I q rfl)
theorem op_isN:OpR X (compareOp .Is) (fun x y H Q=>y=.non∧Q (.bl (decide (x=.non))) H):=by
 intro pins s σ H x y v u Q I rx ry h
 obtain ⟨rfl,q⟩:=h
 cases ry
 refine is_none_gen (fin_bl I q ?_)
 cases x <;> first
  | (cases rx;rfl)
  | (obtain ⟨t,rfl⟩:=rx;rfl)
theorem nomark (b:Expr) {op:CmpOp}(h:op≠.In:=by decide) (h2:op≠.NotIn:=by decide):behindInMarks op b=false:=by
 have e1:(op == CmpOp.In)=false:=by cases op <;> first | rfl | exact absurd rfl h
 have e2:(op == CmpOp.NotIn)=false:=by cases op <;> first | rfl | exact absurd rfl h2
 cases b <;> simp [behindInMarks,e1,e2]
theorem pe_cmpR {op:CmpOp}{r:R2}(ho:OpR X (compareOp op) r) (ha:PE X a ta) (hb:PE X b tb) (hm:behindInMarks op b=false):PE X (.Compare a [op] [b] pos) (tOp r ta tb):=by
 intro pins s σ H Q I h
 exact wpAny_Compare1 (binT ha hb I h fun v u s2 x y H2 I2 rx ry q=>ho pins s2 σ H2 x y v u Q I2 rx ry q) hm
def tTest (t:TE):TT:=fun σ H Q=>t σ H fun x H'=>∃ k,x=.bl k∧Q k H'
theorem pt_cmpR {op:CmpOp}{r:R2}(ho:OpR X (compareOp op) r) (ha:PE X a ta) (hb:PE X b tb) (hm:behindInMarks op b=false):PT X (.Compare a [op] [b] pos) (tTest (tOp r ta tb)):=by
 intro pins s σ H Q I h
 refine wpAny_isTrue_Compare1 (thn (ha pins s σ H _ I h) fun v s1 ⟨x,H1,I1,r1,q1⟩=>thn (hb pins s1 σ H1 _ I1 q1) fun u s2 ⟨y,H2,I2,r2,q2⟩ =>
  thn (ho pins s2 σ H2 x y v u _ I2 r1 r2 q2) fun c s3 ⟨z,H3,I3,r3,k,e,q3⟩=>?_) hm
 subst e
 cases r3
 exact wpAny_truthy_bool ⟨H3,I3,q3⟩
def tChain (r r':R2) (ta tb tc:TE):TE:=fun σ H Q=>ta σ H fun x H1=>tb σ H1 fun y H2=>r x y H2 fun z H3=>∃ k,z=.bl k ∧
 (if k=true then tc σ H3 fun w' H4=>r' y w' H4 Q else Q (.bl false) H3)
theorem pt_chain {op op':CmpOp}{r r':R2}(ho:OpR X (compareOp op) r) (ho':OpR X (compareOp op') r') (ha:PE X a ta) (hb:PE X b tb) (hc:PE X c tc)
  (hm:lastMarks [op,op'] [b,c]=false:=by with_unfolding_all rfl):PT X (.Compare a [op,op'] [b,c] pos) (tTest (tChain r r' ta tb tc)):=by
 intro pins s σ H Q I h
 refine isTrue_chain (thn (ha pins s σ H _ I h) fun v s1 ⟨x,H1,I1,r1,q1⟩=>test_link (thn (hb pins s1 σ H1 _ I1 q1) fun u s2 ⟨y,H2,I2,r2,q2⟩ =>
  thn (ho pins s2 σ H2 x y v u _ I2 r1 r2 q2) fun d s3 ⟨z,H3,I3,r3,k,e,q3⟩=>?_)) hm
 subst e
 cases r3
 refine wpAny_truthy_bool ?_
 cases k with
 | false =>
  obtain ⟨k',e',q'⟩:=q3
  cases e'
  exact ite_ff ⟨H3,I3,q'⟩
 | true =>
  refine ite_tt (test_last (thn (hc pins s3 σ H3 _ I3 q3) fun w' s4 ⟨z',H4,I4,r4,q4⟩=>thn (ho' pins s4 σ H4 y z' u w' _ I4 r2 r4 q4) fun d' s5 ⟨z2,H5,I5,r5,k2,e2,q5⟩=>?_))
  subst e2
  cases r5
  exact wpAny_truthy_bool ⟨H5,I5,q5⟩
def TruV (K:W.Frag) (x:V) (H:Hp) (k:Bool):Prop :=
 match x with
 | .non=>k=false
 | .bl b=>k=b
 | .int i=>k=(i != 0)
 | .str y=>y.length≤sizeLine∧k=((y.length:Int) != 0)
 | .byt y=>y.size≤sizeLine∧k=((y.size:Int) != 0)
 | .ref p=>(∃ xs,SqL K H p xs∧k=!xs.isEmpty)∨(∃ xs,SqT K H p xs∧k=!xs.isEmpty)∨∃ kvs,H p=some (.dK kvs)∧k=!kvs.isEmpty
 | _=>False
theorem isEmpty_kv {κ:Type}{kvs:List (κ×V)}{vs:List (κ×Value)}(r:KV kvs vs):(!vs.isEmpty)=!kvs.isEmpty:=by
 cases r <;> rfl
theorem isEmpty_of {xs:List V}{its:List Value}(r:Vals xs its):(!its.toArray.isEmpty)=!xs.isEmpty:=by
 cases r <;> simp
theorem line63:(sizeLine:Nat)<2 ^ 63:=by rw [sizeLine_eq];decide
theorem tru_ok:TruR X (fun x H Q=>∃ k,TruV X.K x H k∧Q k H):=by
 intro pins s σ H x v Q I rx h
 obtain ⟨k,e,q⟩:=h
 have hl:=line63
 have hs:sizeLine=16777216:=sizeLine_eq
 cases x with
 | non =>
  cases rx
  have e':k=false:=e
  subst e'
  exact truthy_none ⟨H,I,q⟩
 | bl b =>
  cases rx
  have e':k=b:=e
  subst e'
  exact wpAny_truthy_bool ⟨H,I,q⟩
 | int i =>
  obtain ⟨t,rfl⟩:=rx
  have e':k=(i != 0):=e
  subst e'
  exact PySem.P.truthy_int ⟨H,I,q⟩
 | str y =>
  obtain ⟨t,rfl⟩:=rx
  obtain ⟨hy,e'⟩:y.length≤sizeLine∧k=((y.length:Int) != 0):=e
  subst e'
  exact PySem.P.truthy_str (by omega) ⟨H,I.tok _,q⟩
 | byt y =>
  obtain ⟨t,rfl⟩:=rx
  obtain ⟨hy,e'⟩:y.size≤sizeLine∧k=((y.size:Int) != 0):=e
  subst e'
  exact W.truthy_bytes (by omega) ⟨H,I.tok _,q⟩
 | ref p =>
  cases rx
  have e':(∃ xs,SqL X.K H p xs∧k=!xs.isEmpty)∨(∃ xs,SqT X.K H p xs∧k=!xs.isEmpty)∨∃ kvs,H p=some (.dK kvs)∧k=!kvs.isEmpty:=e
  rcases e' with ⟨xs,hx,e'⟩ | ⟨xs,hx,e'⟩ | ⟨kvs,hx,e'⟩
  ·subst e'
   obtain ⟨its,r,pl,hz⟩:=I.list hx
   have hlen:=r.length
   exact wpAny_truthy_list pl.isList (by simp only [List.size_toArray];omega) ⟨H,I.tok _,by rw [isEmpty_of r];exact q⟩
  ·subst e'
   obtain ⟨its,r,pl,hz⟩:=I.tuple hx
   have hlen:=r.length
   exact truthy_tuple pl (by simp only [List.size_toArray];omega) ⟨H,I.tok _,by rw [isEmpty_of r];exact q⟩
  ·subst e'
   obtain ⟨hz,hS,vs,r,m⟩:kvs.length≤sizeLine∧(p == sysModules)=false∧∃ vs,KV kvs vs∧s.heap.DictOf (mixKind X.prog X.w) p vs:=I.hok p _ hx
   have hlen:kvs.length=vs.length:=Paired.length r
   exact wpAny_truthy_dict hS m (by omega) ⟨H,I.tok _,by rw [isEmpty_kv r];exact q⟩
 | _=>exact (show False from e).elim
theorem pt_truth (ha:PE X a ta) (he:∀ whole,isTrue a X.env whole=(do let v ← whole;standAt a.pos;holding [v] (truthy v))):
  PT X a (fun σ H Q=>ta σ H fun x H'=>∃ k,TruV X.K x H' k∧Q k H'):=by
 intro pins s σ H Q I h
 exact isTrue_plain (thn (ha pins s σ H _ I h) fun v s1 ⟨x,H1,I1,r1,q1⟩=>tru_ok pins s1 σ H1 x v Q I1 r1 q1) (he _)
theorem op_add_str:OpR X (binaryOp .Add) (fun x y H Q=>∃ i j,x=.str i∧y=.str j∧i.length + j.length≤sizeLine∧Q (.str (i++j)) H):=by
 intro pins s σ H x y v u Q I rx ry h
 obtain ⟨i,j,rfl,rfl,hz,q⟩:=h
 obtain ⟨t,rfl⟩:=rx
 obtain ⟨t',rfl⟩:=ry
 exact add_str (fun t' tk=>⟨.str (i++j),H,I.tok _,⟨_,rfl⟩,q⟩) hz
theorem vals1 {x:V}{us:List Value}(r:Vals [x] us):∃ u,us=[u]∧RelV x u:=by
 cases r with
 | cons r1 r2=>cases r2;exact ⟨_,rfl,r1⟩
theorem vals2 {x y:V}{us:List Value}(r:Vals [x,y] us):∃ u w',us=[u,w']∧RelV x u∧RelV y w':=by
 cases r with
 | cons r1 r2 =>
  cases r2 with
  | cons r3 r4=>cases r4;exact ⟨_,_,rfl,r1,r3⟩
theorem call_int1:CallR X (.type "int") (fun xs H Q=>(∃ i,xs=[.int i]∧Q (.int i) H)∨∃ k,xs=[.bl k]∧Q (.int (if k then 1 else 0)) H):=by
 intro pins s σ H xs us Q I r h
 rcases h with ⟨i,rfl,q⟩ | ⟨k,rfl,q⟩
 ·obtain ⟨u,rfl,t,rfl⟩:=vals1 r
  exact call_int_int ⟨.int i,H,I,⟨_,rfl⟩,q⟩
 ·obtain ⟨u,rfl,r1⟩:=vals1 r
  cases r1
  exact call_int_bool ⟨.int (if k then 1 else 0),H,I.tok _,⟨_,rfl⟩,q⟩
theorem call_str_int:CallR X (.type "str") (fun xs H Q=>∃ i,xs=[.int i]∧i.natAbs.log2<1920∧Q (.str (toString i)) H):=by
 intro pins s σ H xs us Q I r h
 obtain ⟨i,rfl,hz,q⟩:=h
 obtain ⟨u,rfl,t,rfl⟩:=vals1 r
 exact PySem.P.str_of_int hz ⟨.str _,H,I.tok _,⟨_,rfl⟩,q⟩
def LenV (K:W.Frag) (x:V) (H:Hp) (n:Nat):Prop :=
 match x with
 | .str y=>y.length≤sizeLine∧n=y.length
 | .byt y=>y.size≤sizeLine∧n=y.size
 | .ref p=>(∃ xs,SqL K H p xs∧n=xs.length)∨∃ xs,SqT K H p xs∧n=xs.length
 | _=>False
theorem call_len:CallR X (.builtin "len") (fun xs H Q=>∃ x n,xs=[x]∧LenV X.K x H n∧Q (.int n) H):=by
 intro pins s σ H xs us Q I r h
 obtain ⟨x,n,rfl,e,q⟩:=h
 obtain ⟨u,rfl,rx⟩:=vals1 r
 have hl:=line63
 have hs:sizeLine=16777216:=sizeLine_eq
 cases x with
 | str y =>
  obtain ⟨t,rfl⟩:=rx
  obtain ⟨hy,e'⟩:y.length≤sizeLine∧n=y.length:=e
  subst e'
  exact len_str (by omega) ⟨.int _,H,I.tok _,⟨_,rfl⟩,q⟩
 | byt y =>
  obtain ⟨t,rfl⟩:=rx
  obtain ⟨hy,e'⟩:y.size≤sizeLine∧n=y.size:=e
  subst e'
  exact W.len_bytes (by omega) ⟨.int _,H,I.tok _,⟨_,rfl⟩,q⟩
 | ref p =>
  cases rx
  have e':(∃ xs,SqL X.K H p xs∧n=xs.length)∨∃ xs,SqT X.K H p xs∧n=xs.length:=e
  rcases e' with ⟨xs,hx,e'⟩ | ⟨xs,hx,e'⟩
  ·subst e'
   obtain ⟨its,r',pl,hz⟩:=I.list hx
   have hlen:=r'.length
   exact Calls.call_len_list pl.isList (by simp only [List.size_toArray];omega) ⟨.int xs.length,H,I.tok _,⟨_,by simp only [List.size_toArray];rw [hlen]⟩,q⟩
  ·subst e'
   obtain ⟨its,r',pl,hz⟩:=I.tuple hx
   have hlen:=r'.length
   exact len_tuple pl (by simp only [List.size_toArray];omega) ⟨.int xs.length,H,I.tok _,⟨_,by simp only [List.size_toArray];rw [hlen]⟩,q⟩
 | _=>exact (show False from e).elim
end
end L2
namespace L2
open PySem PySem.Spec PyProof.Rows
structure ObjM (h:Heap) (x dx C:Addr) (mA:Str→Option Value):Prop where
 obj:h.get? x=some (W.instObj C dx)
 ns:h.Ns1 dx mA
 ne:dx≠x
theorem lookIn_ns {h:Heap}{dx:Addr}{mA:Str→Option Value}(n:h.Ns1 dx mA):∃ od,h.get? dx=some od∧∀ name,W.lookIn name od=some (mA name):=by
 obtain ⟨o,es,ep,ho,hd,hk,_,hm⟩:=n
 refine ⟨o,ho,fun name=>?_⟩
 have e:=hm name
 unfold nsFind findBy at e
 rw [← Array.find?_toList] at e
 unfold W.lookIn
 rw [hd]
 dsimp only
 split
 ·rename_i y q
  rw [q] at e
  exact congrArg some e
 ·rename_i q
  rw [q] at e
  have a:es.toList.any (·.refKey)=false:=by
   rw [List.any_eq_false]
   intro y hy
   obtain ⟨z,t,hkey⟩:=hk y (Array.mem_toList_iff.mp hy)
   simp [DictEntry.refKey,hkey]
  have a':¬ es.toList.any (·.refKey)=true:=by rw [a];exact Bool.false_ne_true
  rw [if_neg a']
  exact congrArg some e
theorem ObjM.look {h:Heap}{x dx C:Addr}{mA:Str→Option Value}(I:ObjM h x dx C mA):∃ od,W.InstAt h x (W.instObj C dx) C (some od)∧∀ name,W.lookIn name od=some (mA name):=
 let ⟨od,ho,hl⟩:=lookIn_ns I.ns
 ⟨od,⟨I.obj,rfl,rfl,ho⟩,hl⟩
section
variable {prog:Program} {w:World} {A:Around} {E:Value→Shared→Prop} {s:Shared} {K:W.Frag} {x dx C f:Addr} {mA:Str→Option Value} {name:Str} {v:Value}
theorem get_map {expr:Bool}{Q:Value→Shared→Prop}(X:K.In s.heap) (I:ObjM s.heap x dx C mA) (hg:W.plainGet K C name=true) (hh:W.hasDictIn K C=true)
  (ha:W.findIn K (.ref C) name=some none) (hv:mA name=some v) (hv':W.handedIn v=true) (h:Q v { s with toks:=s.toks + 1 }):
  wpAny (model prog w) A (getAttr (.ref x) name expr) Q E s:=by
 obtain ⟨od,J,hl⟩:=I.look
 exact W.get_value X J (W.plainGet_of hg).1 (W.findObj_own hh ha rfl (by rw [hl,hv])) hv' h
theorem get_meth {pl:Sem Bool}{Q:Value×List Value→Shared→Prop}(X:K.In s.heap) (I:ObjM s.heap x dx C mA) (hg:W.plainGet K C name=true)
  (hf:W.findIn K (.ref C) name=some (some (.ref f))) (ht:W.isFn K (.ref f)=true) (hv:mA name=none) (h:Q (.ref f,[.ref x]) s):
  wpAny (model prog w) A (getMethod (.ref x) name pl) Q E s:=by
 obtain ⟨od,J,hl⟩:=I.look
 exact W.method_fn X J (W.plainGet_of hg).1 (W.plainGet_of hg).2 hf (beq_iff_eq.mp ht) (by show (W.lookIn name od).map (·.isSome)=some false;rw [hl,hv];rfl) h
theorem set_map {ns:List Str}{Q:Unit→Shared→Prop}(X:K.In s.heap) (I:ObjM s.heap x dx C mA)
  (hs:W.findIn K (.ref C) "__setattr__"=some (some (.builtin "object.__setattr__"))) (hp:W.plainOver K C=true) (ht:W.takerIn K C name=some none) (hh:W.hasDictIn K C=true)
  (hw:PySem.Within mA ns) (hsz:ns.length≤sizeLine)
  (h:∀ h',ObjM h' x dx C (fun y=>if y=name then some v else mA y)→Heap.SameBut dx s.heap h'→Q () { s with heap:=h',toks:=s.toks + 2 }):
  wpAny (model prog w) A (setAttr (.ref x) name v) Q E s:=by
 obtain ⟨od,J,hl⟩:=I.look
 refine W.set_plain X J hs (W.osa_open (s:={ s with toks:=s.toks + 1 }) (r:=none) X J hp ht fun b=>?_)
 obtain ⟨cd,hc,hd'⟩:=W.any_some hh
 have hx:s.heap.get? x=some ⟨.ref C,some dx,.plain,#[]⟩:=I.obj
 refine wpAny_bind (wpAny_pure (wpAny_bind (wpAny_bind (wpAny_loadPart hx (wpAny_bind (W.Looks.here (s:={ s with toks:=s.toks + 1 }) (W.looks_clsIn X hc) ?_))))))
 rw [hd']
 refine wpAny_pure (a:=some dx) (wpAny_bind (wpAny_pure (wpAny_bind ?_)))
 refine wpAny_nsSet1 (s:={ s with toks:=s.toks + 1 }) I.ns fun h' hn2 hs2=>?_
 obtain ⟨oD,esD,epD,hoD,hdD,hcD⟩:=hn2.count (PySem.Within.cons name v hw)
 refine wpAny_bind (wpAny_lookBehind hoD (by rw [hdD];exact pastItsLine_dict (Nat.le_trans hcD (by rw [List.length_cons];omega))) ?_)
 exact wpAny_pure (h _ ⟨(hs2.2 _ (Ne.symm I.ne)).trans I.obj,hn2,I.ne⟩ hs2)
theorem make_map {R:Result→Shared→Prop}{vs:List Value}{kw:List (Str×Value)}(X:K.In s.heap) (hm:W.makesIn K C=true)
  (hi:W.findIn K (.ref C) "__init__"=some (some (.ref f))) (hf:W.typeIn K (.ref f)=some (.type "function"))
  (h:codeAny (model prog w) (A.under (.builtin "type.__call__" ⟨.ref C :: vs,kw⟩)) (.call (.ref f) ⟨.ref (s.heap.objs.size + 1):: vs,kw⟩) (W.InitBack (s.heap.objs.size + 1) R)
   { s with heap:=(s.heap.push W.emptyDict).push (W.instObj C s.heap.objs.size) }):
  codeAny (model prog w) A (.call (.ref C) ⟨vs,kw⟩) R s:=by
 obtain ⟨hh,g,d,t,os⟩:=s
 exact W.make_core (W.makes_of X hm) (W.looks_findIn X hi) (fun self=>W.bind_fn X self hf) (.inl rfl) h
end
def putF (f:Str) (v:V):List (Str×V)→List (Str×V)
 | []=>[(f,v)]
 | (g,x):: r=>if g=f then (g,v):: r else (g,x):: putF f v r
theorem lookup_putF (f g:Str) (v:V):∀ fs:List (Str×V),(putF f v fs).lookup g=if g=f then some v else fs.lookup g
 | []=>by
  show List.lookup g [(f,v)]=_
  by_cases h:g=f
  ·have hb:(g == f)=true:=beq_iff_eq.mpr h
   simp only [List.lookup,hb,if_pos h]
  ·have hb:(g == f)=false:=beq_eq_false_iff_ne.mpr h
   simp only [List.lookup,hb,if_neg h]
 | (k,x):: r=>by
  have ih:=lookup_putF f g v r
  rw [show putF f v ((k,x):: r)=(if k=f then (k,v):: r else (k,x):: putF f v r) from rfl]
  by_cases hk:k=f
  ·rw [if_pos hk]
   by_cases h:g=k
   ·have hb:(g == k)=true:=beq_iff_eq.mpr h
    simp only [List.lookup,hb,if_pos (h.trans hk)]
   ·have hb:(g == k)=false:=beq_eq_false_iff_ne.mpr h
    simp only [List.lookup,hb,if_neg (fun e:g=f=>h (e.trans hk.symm))]
  ·rw [if_neg hk]
   by_cases h:g=k
   ·have hb:(g == k)=true:=beq_iff_eq.mpr h
    simp only [List.lookup,hb,if_neg (fun e:g=f=>hk (h.symm.trans e))]
   ·have hb:(g == k)=false:=beq_eq_false_iff_ne.mpr h
    simp only [List.lookup,hb]
    exact ih
theorem keys_putF (f:Str) (v:V):∀ fs:List (Str×V),f∈(putF f v fs).map (·.1)∧∀ g,g∈fs.map (·.1)→g∈(putF f v fs).map (·.1)
 | []=>⟨by simp [putF],fun g h=>by simp at h⟩
 | (k,x):: r=>by
  obtain ⟨i1,i2⟩:=keys_putF f v r
  rw [show putF f v ((k,x):: r)=(if k=f then (k,v):: r else (k,x):: putF f v r) from rfl]
  by_cases hk:k=f
  ·rw [if_pos hk]
   subst hk
   exact ⟨by simp,fun g h=>by simpa using h⟩
  ·rw [if_neg hk]
   refine ⟨?_,fun g h=>?_⟩
   ·rw [List.map_cons]
    exact List.mem_cons_of_mem _ i1
   ·rw [List.map_cons] at h ⊢
    rcases List.mem_cons.mp h with e | e
    ·exact List.mem_cons.mpr (.inl e)
    ·exact List.mem_cons_of_mem _ (i2 g e)
theorem length_putF (f:Str) (v:V):∀ fs:List (Str×V),(putF f v fs).length≤fs.length + 1
 | []=>by simp [putF]
 | (k,x):: r=>by
  have ih:=length_putF f v r
  rw [show putF f v ((k,x):: r)=(if k=f then (k,v):: r else (k,x):: putF f v r) from rfl]
  by_cases hk:k=f
  ·rw [if_pos hk,List.length_cons,List.length_cons];omega
  ·rw [if_neg hk,List.length_cons,List.length_cons];omega
theorem RelO.some_of {v:V}{o:Option Value}(r:RelO (some v) o):∃ u,o=some u∧RelV v u:=by
 cases o with
 | none=>exact (show False from r).elim
 | some u=>exact ⟨u,rfl,r⟩
theorem RelO.none_of {o:Option Value}(r:RelO none o):o=none:=by
 cases o with
 | none=>rfl
 | some u=>exact (show False from r).elim
theorem handed_of {v:V}{u:Value}(r:RelV v u):W.handedIn u=true:=by
 cases v with
 | non=>cases (show u=Value.none from r);rfl
 | bl b=>cases (show u=Value.bool b from r);rfl
 | int i=>obtain ⟨t,e⟩:=(show ∃ t,u=Value.int i t from r);cases e;rfl
 | str x=>obtain ⟨t,e⟩:=(show ∃ t,u=Value.str x t from r);cases e;rfl
 | byt b=>obtain ⟨t,e⟩:=(show ∃ t,u=Value.bytes b t from r);cases e;rfl
 | flt b=>obtain ⟨t,e⟩:=(show ∃ t,u=Value.float b t from r);cases e;rfl
 | ref a=>cases (show u=Value.ref a from r);rfl
 | ty n=>cases (show u=Value.type n from r);rfl
section
variable {P:Program} {w:World} {H H':Hp} {h h':Heap} {a C dx:Addr} {fs fs':List (Str×V)}
theorem ins_get (hok:HOk P w H h) (e:H a=some (.ins C dx fs)):∃ mA,ObjM h a dx C mA∧(∀ f,RelO (fs.lookup f) (mA f))∧PySem.Within mA (fs.map (·.1))∧fs.length≤1000∧H dx=some (.own a):=by
 obtain ⟨d,z,ne,ob,mA,n,r,q⟩:=(show ObjOk P w H h a (.ins C dx fs) from hok a _ e)
 exact ⟨mA,⟨ob,n,ne⟩,r,q,z,d⟩
end
structure Cls (K:W.Frag) (C:Addr):Prop where
 pg:W.plainGet K C Str.empty=true
 hd:W.hasDictIn K C=true
 po:W.plainOver K C=true
 sa:W.findIn K (.ref C) "__setattr__"=some (some (.builtin "object.__setattr__"))
theorem Cls.get {K:W.Frag}{C:Addr}(c:Cls K C) (f:Str):W.plainGet K C f=true:=c.pg
def NoAttr (K:W.Frag) (C:Addr) (f:Str):Prop:=W.findIn K (.ref C) f=some none
theorem NoAttr.taker {K:W.Frag}{C:Addr}{f:Str}(n:NoAttr K C f):W.takerIn K C f=some none:=by
 unfold W.takerIn
 rw [show W.findIn K (.ref C) f=some none from n]
 rfl
structure Con (K:W.Frag) (C:Addr) (f:Str) (v:V) (u:Value):Prop where
 at_:W.findIn K (.ref C) f=some (some u)
 rel:RelV v u
 get:W.specialIn K u "__get__"=some none
 cp:W.copiedNames.contains f=false
structure Meth (K:W.Frag) (C:Addr) (m:Str) (f:Addr):Prop where
 at_:W.findIn K (.ref C) m=some (some (.ref f))
 fn:W.isFn K (.ref f)=true
 kp:W.keepIn K (.ref f)=true
section
variable {X:Cx} {pins:List (Addr×Obj)} {σ:St} {H:Hp} {s:Shared} {a C dx:Addr} {fs:List (Str×V)} {f:Str} {v:V} {A:Around} {E:Value→Shared→Prop}
theorem getattr_ok {b:Bool}{Q:Value→Shared→Prop}(I:Inv X pins σ H s) (e:H a=some (.ins C dx fs)) (c:Cls X.K C) (n:NoAttr X.K C f) (l:fs.lookup f=some v)
  (h:∀ u s',Inv X pins σ H s'→RelV v u→Q u s'):wpAny (model X.prog X.w) A (getAttr (.ref a) f b) Q E s:=by
 obtain ⟨mA,O,r,_,_,_⟩:=ins_get I.hok e
 obtain ⟨u,hu,ru⟩:=RelO.some_of (v:=v) (o:=mA f) (by rw [← l];exact r f)
 exact get_map I.kIn O (c.get f) c.hd n hu (handed_of ru) (h u _ (I.tok _) ru)
theorem getmeth_ok {m:Str}{g:Addr}{pl:Sem Bool}{Q:Value×List Value→Shared→Prop}(I:Inv X pins σ H s) (e:H a=some (.ins C dx fs)) (c:Cls X.K C) (k:Meth X.K C m g) (l:fs.lookup m=none)
  (h:Q (.ref g,[.ref a]) s):wpAny (model X.prog X.w) A (getMethod (.ref a) m pl) Q E s:=by
 obtain ⟨mA,O,r,_,_,_⟩:=ins_get I.hok e
 have hn:mA m=none:=RelO.none_of (by rw [← l];exact r m)
 exact get_meth I.kIn O (c.get m) k.at_ k.fn hn h
theorem setattr_ok {y:V}{u:Value}{Q:Unit→Shared→Prop}(I:Inv X pins σ H s) (e:H a=some (.ins C dx fs)) (c:Cls X.K C) (n:NoAttr X.K C f) (hl:fs.length<1000) (ry:RelV y u)
  (h:∀ s',Inv X pins σ (upd H a (.ins C dx (putF f y fs))) s'→Q () s'):wpAny (model X.prog X.w) A (setAttr (.ref a) f u) Q E s:=by
 obtain ⟨mA,O,r,wi,_,ho⟩:=ins_get I.hok e
 have hz:(fs.map (·.1)).length≤sizeLine:=by rw [List.length_map,sizeLine_eq];omega
 refine set_map I.kIn O c.sa c.po n.taker c.hd wi hz fun h' O' sb=>h _ ?_
 have hd:∃ o,h'.get? dx=some o:=let ⟨o,_,_,e',_⟩:=O'.ns;⟨o,e'⟩
 refine I.write (x:=a) (e:=dx) (by rw [e];exact True.intro) (.inr ho) (fun b q hb z=>(sb.2 b hb).trans z) hd ?_
 refine ⟨by rw [upd_ne O.ne];exact ho,?_,O.ne,O'.obj,_,O'.ns,fun g=>?_,fun g hg=>?_⟩
 ·have:=length_putF f y fs;omega
 ·show RelO ((putF f y fs).lookup g) (if g=f then some u else mA g)
  rw [lookup_putF]
  by_cases q:g=f
  ·rw [if_pos q,if_pos q];exact ry
  ·rw [if_neg q,if_neg q];exact r g
 ·by_cases q:g=f
  ·rw [q];exact (keys_putF f y fs).1
  ·refine (keys_putF f y fs).2 g (wi g fun z=>hg ?_)
   show (if g=f then some u else mA g)=none
   rw [if_neg q];exact z
theorem Inv.made (I:Inv X pins σ H s):Inv X pins σ (upd (upd H s.heap.objs.size (.own (s.heap.objs.size + 1))) (s.heap.objs.size + 1) (.ins C s.heap.objs.size []))
  { s with heap:=(s.heap.push W.emptyDict).push (W.instObj C s.heap.objs.size) }:=by
 have e1:(s.heap.push W.emptyDict).get? s.heap.objs.size=some W.emptyDict:=Heap.get?_push_size s.heap rfl
 have e2:((s.heap.push W.emptyDict).push (W.instObj C s.heap.objs.size)).get? (s.heap.objs.size + 1)=some (W.instObj C s.heap.objs.size):=by
  have:=Heap.get?_push_size (s.heap.push W.emptyDict) (o:=W.instObj C s.heap.objs.size) rfl
  rwa [Heap.size_push] at this
 have e3:(s.heap.push W.emptyDict).Ns s.heap.objs.size (fun _=>none):=⟨W.emptyDict,#[],_,e1,rfl,(fun e he=>absurd he (by simp)),fun _=>rfl⟩
 have I1:=I.laid (a:=s.heap.objs.size) (o:=.own (s.heap.objs.size + 1)) (h':=s.heap.push W.emptyDict) (t':=s.toks) (fun b u q=>Heap.get?_push_of_some _ q) (Nat.le_refl _) ⟨_,e1⟩
 refine I1.laid (a:=s.heap.objs.size + 1) (o:=.ins C s.heap.objs.size []) (t':=s.toks) (fun b u q=>Heap.get?_push_of_some _ q) (Nat.le_of_eq (Heap.size_push _ _)) ?_
 have ne:s.heap.objs.size≠s.heap.objs.size + 1:=Nat.ne_of_lt (Nat.lt_succ_self _)
 refine ⟨by rw [upd_ne ne,uS],Nat.zero_le _,ne,e2,fun _=>none,(Heap.Ns1.of_empty e3).at fun o q=>Heap.get?_push_of_some _ q,fun _=>True.intro,fun y hy=>absurd rfl hy⟩
theorem attr_of {prog:Program}{w:World}{env:Env}{e:Expr}{f:Str}{pos:Pos}{s:Shared}{Q:Value→Shared→Prop}(hb:attributeBase e f env (eval e env)=eval e env)
  (h:wpAny (model prog w) A (eval e env) (fun o s₁=>wpAny (model prog w) A (getAttr o f true) Q E s₁) E s):wpAny (model prog w) A (eval (.Attribute e f pos) env) Q E s :=
 Attribute_any_ h (by rw [arm_eval_Attribute,hb])
end
def tFld (K:W.Frag) (ta:TE) (f:Str):TE:=fun σ H Q=>ta σ H fun x H1=>∃ a C dx fs v,x=.ref a∧H1 a=some (.ins C dx fs)∧Cls K C∧NoAttr K C f∧fs.lookup f=some v∧Q v H1
def sFld (K:W.Frag) (ta tv:TE) (f:Str):TS:=fun D σ H=>tv σ H fun y H1=>ta σ H1 fun x H2=>∃ a C dx fs,x=.ref a∧H2 a=some (.ins C dx fs)∧Cls K C∧NoAttr K C f∧fs.length<1000 ∧
 D.nx σ (upd H2 a (.ins C dx (putF f y fs)))
section
variable {X:Cx} {o e value:Expr} {f:Str} {pos pos' tpos:Pos} {ta tv:TE}
theorem pe_fld (he:PE X e ta) (hb:attributeBase e f X.env (eval e X.env)=eval e X.env):PE X (.Attribute e f pos) (tFld X.K ta f):=by
 intro pins s σ H Q I h
 refine attr_of hb (thn (he pins s σ H _ I h) fun u s1 ⟨x,H1,I1,rx,a,C,dx,fs,v,ex,ea,c,n,l,q⟩=>?_)
 subst ex
 obtain rfl:u=Value.ref a:=rx
 exact getattr_ok I1 ea c n l fun u' s2 I2 ru=>⟨v,H1,I2,ru,q⟩
theorem ps_fld (ha:PE X o ta) (hv:PE X value tv) (hs:swapsWith value (some (.Attribute o f pos')) pos.line X.env=pure false):PS X (.Assign [.Attribute o f pos'] value pos) (sFld X.K ta tv f):=by
 intro pins s σ H D I h
 refine plainObj_wpAny_Assign_Attribute (thn (hv pins s σ H _ I h) fun u s1 ⟨y,H1,I1,ry,q⟩=>thn (ha pins s1 σ H1 _ I1 q) fun ov s2 ⟨x,H2,I2,rx,a,C,dx,fs,ex,ea,c,n,l,q2⟩=>?_) hs
 subst ex
 obtain rfl:ov=Value.ref a:=rx
 exact setattr_ok I2 ea c n l ry fun s3 I3=>⟨σ,_,I3,q2⟩
end
section
variable {X:Cx} {pins:List (Addr×Obj)} {σ:St} {H:Hp} {s:Shared} {A:Around} {E:Value→Shared→Prop} {Q:Value→Shared→Prop} {c:Value} {b:Bool}
inductive TyOf (K:W.Frag) (H:Hp):V→Value→Prop where
 | non:TyOf K H .non (.type "NoneType")
 | bl (x:Bool):TyOf K H (.bl x) (.type "bool")
 | int (i:Int):TyOf K H (.int i) (.type "int")
 | str (x:Str):TyOf K H (.str x) (.type "str")
 | flt (x:UInt64):TyOf K H (.flt x) (.type "float")
 | lst {a:Addr} {xs:List V} (e:H a=some (.lst xs)):TyOf K H (.ref a) (.type "list")
 | frz {a:Addr} {o:Obj} {xs:List V} (e:H a=some (.frz o (.lst xs))):TyOf K H (.ref a) (.type "list")
 | tup {a:Addr} {xs:List V} (e:H a=some (.tup xs)):TyOf K H (.ref a) (.type "tuple")
 | dK {a:Addr} {kvs:List (Key×V)} (e:H a=some (.dK kvs)):TyOf K H (.ref a) (.type "dict")
 | dT {a:Addr} {kvs:List (List Key×V)} (e:H a=some (.dT kvs)):TyOf K H (.ref a) (.type "dict")
 | ins {a C dx:Addr} {fs:List (Str×V)} (e:H a=some (.ins C dx fs)) (cl:Cls K C) (ha:W.findIn K (.ref C) "__class__"=some (some (.builtin "object.__class__")))
   (hn:W.specialIn K (.builtin "object.__class__") "__get__"=some (some (.builtin "getset_descriptor.__get__"))) (htk:W.takesIn K (.builtin "object.__class__")=some true)
   (hm:W.mroIn K C (.type "object")=some true):TyOf K H (.ref a) (.ref C)
end
end L2
namespace L2
open PySem PySem.Spec PyProof.Rows
structure Room (k:Nat) (A:Around):Prop where
 hd:A.handled=none
 dp:A.depth + 3 * k + 5<recursionLimit
 un:A.units + 16 * k + 200<cLine
 gd:A.guards=some []
theorem Room.mono {j k:Nat}{A:Around}(r:Room k A) (h:j≤k):Room j A:=⟨r.hd,by have:=r.dp;omega,by have:=r.un;omega,r.gd⟩
theorem Room.deeper {k:Nat}{A:Around}(r:Room (k + 1) A) (env:Env):Room k (A.deeper env):=
 ⟨r.hd,by have:=r.dp;show A.depth + 1 + 3 * k + 5<_;omega,by have:=r.un;show A.units + 3 + 16 * k + 200<_;omega,r.gd⟩
theorem make_depth {A:Around}{C:Addr}{us:List Value}{kw:List (Str×Value)}:(A.under (.builtin "type.__call__" ⟨.ref C :: us,kw⟩)).depth=A.depth + 1:=by
 first | rfl | simp [Around.under,Code.weight,Code.isCreation,Code.isGuard,Code.isCaller,Code.frames,Code.isFrame,guardIds]
theorem make_units {A:Around}{C:Addr}{us:List Value}{kw:List (Str×Value)}:(A.under (.builtin "type.__call__" ⟨.ref C :: us,kw⟩)).units=A.units + 1:=by
 first | rfl | simp [Around.under,Code.cUnits,Code.frames,Code.isFrame]
theorem Room.make {k:Nat}{A:Around}(r:Room (k + 1) A) (C:Addr) (us:List Value) (kw:List (Str×Value)):Room k (A.under (.builtin "type.__call__" ⟨.ref C :: us,kw⟩)):=
 ⟨r.hd,by have:=r.dp;rw [make_depth];omega,by have:=r.un;rw [make_units];omega,by first | exact r.gd | simpa [Around.under,Code.guards,Code.isGuard,guardIds,pushGuards] using r.gd⟩
theorem Room.depth {k:Nat}{A:Around}(r:Room k A):A.depth<recursionLimit:=by have:=r.dp;omega
theorem Room.units {k:Nat}{A:Around}(r:Room k A):A.units + 64<cLine:=by have:=r.un;omega
def tNil:TA:=fun _ H Q=>Q [] H
def tCons (ta:TE) (tr:TA):TA:=fun σ H Q=>ta σ H fun x H1=>tr σ H1 fun xs H2=>Q (x :: xs) H2
section
variable {X:Cx} {e:Expr} {es:List Expr} {te:TE} {t:TA} {pos:Pos}
theorem pa_nil:PA X [] tNil:=fun _ _ _ _ H Q I h=>Calls.spliced_nil ⟨[],H,I,.nil,h⟩
theorem pC (ha:PE X e te) (hr:PA X es t) (hs:starEach (e :: es) X.env=(false,eval e X.env):: starEach es X.env:=by rfl):PA X (e :: es) (tCons te t):=by
 intro pos pins s σ H Q I h
 rw [hs]
 show wpAny _ _ (spliced ((false,eval e X.env):: backTo pos (starEach es X.env))) _ _ s
 refine Calls.spliced_cons (thn (ha pins s σ H _ I h) fun u s1 ⟨x,H1,I1,r1,q1⟩=>?_)
 exact thn (hr pos pins s1 σ H1 _ I1 q1) fun us s2 ⟨xs,H2,I2,r2,q2⟩=>⟨x :: xs,H2,I2,.cons r1 r2,q2⟩
def tTup (t:TA):TE:=fun σ H Q=>t σ H fun xs H1=>xs.length≤sizeLine∧∀ p,H1 p=none→Q (.ref p) (upd H1 p (.tup xs))
def tLst (t:TA):TE:=fun σ H Q=>t σ H fun xs H1=>xs.length≤sizeLine∧∀ p,H1 p=none→Q (.ref p) (upd H1 p (.lst xs))
theorem pe_tup {x1}(h:PA X es t):PE X (.Tuple es x1 pos) (tTup t):=by
 intro pins s σ H Q I hq
 refine wpAny_Tuple_spliced (thn (h pos pins s σ H _ I hq) fun us s1 ⟨xs,H1,I1,r,z,q⟩=>⟨by rw [← r.length];exact z,?_⟩)
 have hf:H1 s1.heap.objs.size=none:=I1.hok.fresh (Nat.le_refl _)
 refine ⟨.ref s1.heap.objs.size,upd H1 s1.heap.objs.size (.tup xs),I1.laid (t':=s1.toks) (fun b u e=>Heap.get?_push_of_some _ e) (Nat.le_refl _) ?_,rfl,q _ hf⟩
 exact ⟨z,us,r,⟨_,Heap.get?_push_size _ rfl,rfl,_,rfl⟩⟩
theorem pe_lst (h:PA X es t):PE X (.List es pos) (tLst t):=by
 intro pins s σ H Q I hq
 refine wpAny_List_spliced (thn (h pos pins s σ H _ I hq) fun us s1 ⟨xs,H1,I1,r,z,q⟩=>⟨by rw [← r.length];exact z,?_⟩)
 have hf:H1 s1.heap.objs.size=none:=I1.hok.fresh (Nat.le_refl _)
 refine ⟨.ref s1.heap.objs.size,upd H1 s1.heap.objs.size (.lst xs),I1.laid (t':=s1.toks) (fun b u e=>Heap.get?_push_of_some _ e) (Nat.le_refl _) ?_,rfl,q _ hf⟩
 exact ⟨z,us,0,r,Heap.get?_push_size _ rfl⟩
end
abbrev Sp:=List V→Hp→VK→XK→Prop
abbrev CXT:=List Env→Hp→Shared→XK→Value→Shared→Prop
structure Env0 (P:Program) (w:World) (K:W.Frag) (mg:Str→Option Value) (base:Heap) (A:Around) (outer:List Env) (s:Shared) (H:Hp):Prop where
 frames:A.frames=some outer
 mod:Mod K mg base
 bs:∀ b o,base.get? b=some o→s.heap.get? b=some o∧H b=none
 bsz:base.objs.size≤s.heap.objs.size
 funs:s.heap.FunFrames base outer
 frf:∀ b∈frs outer,H b=none
 hok:HOk P w H s.heap
 bare:AllBare s.gens
def CE (outer:List Env) (P:Program) (w:World) (H:Hp) (s:Shared) (Q:VK) (u:Value) (s':Shared):Prop :=
 ∃ v H',s'.os=s.os∧AllBare s'.gens∧Un (frs outer) [] H H' s.heap s'.heap∧HOk P w H' s'.heap∧RelV v u∧Q v H'
def CR (CX:CXT) (outer:List Env) (P:Program) (w:World) (H:Hp) (s:Shared) (Q:VK) (E:XK) (r:Result) (s':Shared):Prop :=
 match r with
 | .ok (.ret u)=>CE outer P w H s Q u s'
 | .ok _=>False
 | .error e=>CX outer H s E e s'
structure FnOk (P:Program) (w:World) (K:W.Frag) (mg:Str→Option Value) (base:Heap) (CX:CXT) (k:Nat) (f:Addr) (fd:FuncData) (ps:List Str) (sp:Sp):Prop where
 len:∀ vs H Q E,sp vs H Q E→vs.length=ps.length
 run:∀ (A:Around) (outer:List Env) (s:Shared) (H:Hp) (args:Args) (us:List Value) (vs:List V) (Q:VK) (E:XK),Room k A→Env0 P w K mg base A outer s H→BindsTo s fd args (ps.zip us)→Vals vs us→sp vs H Q E →
  codeAny (model P w) A (.call (.ref f) args) (CR CX outer P w H s Q E) s
theorem Env0.make {P:Program}{w:World}{K:W.Frag}{mg:Str→Option Value}{base:Heap}{A:Around}{outer:List Env}{s:Shared}{H:Hp}(e:Env0 P w K mg base A outer s H) (C:Addr) (us:List Value) (kw:List (Str×Value)):
  Env0 P w K mg base (A.under (.builtin "type.__call__" ⟨.ref C :: us,kw⟩)) outer s H:=⟨by first | exact e.frames | (simpa [Around.under,Code.envs,Code.isFrame,pushEnvs] using e.frames),e.mod,e.bs,e.bsz,e.funs,e.frf,e.hok,e.bare⟩
section
variable {X:Cx} {pins:List (Addr×Obj)} {σ:St} {H:Hp} {s s':Shared}
theorem Inv.env0 (I:Inv X pins σ H s):Env0 X.prog X.w X.K X.mg X.base X.A X.stack s H :=
 ⟨I.ok.frames,I.ok.mod,I.bs,Nat.le_trans I.ok.bsz I.sz,I.stack,I.stkFree,I.hok,I.bare⟩
theorem Inv.after {Q:VK}{u:Value}(I:Inv X pins σ H s) (h:CE X.stack X.prog X.w H s Q u s'):EP X pins σ Q u s':=by
 obtain ⟨v,H',os,bare,un,hok,r,q⟩:=h
 obtain ⟨hh,g,d,t,os'⟩:=s'
 obtain rfl:os'=s.os:=os
 exact ⟨v,H',I.call (h':=hh) (g':=g) (d':=d) (t':=t) (ch:=[]) un hok bare (fun b z=>absurd z (by simp)),r,q⟩
end
def tCall (sp:Sp) (dvs:List V) (E:XK) (t:TA):TE:=fun σ H Q=>t σ H fun vs H1=>sp (vs++dvs) H1 Q E
def tMeth (C:Addr) (m:Str) (sp:Sp) (dvs:List V) (E:XK) (ta:TE) (t:TA):TE:=fun σ H Q=>ta σ H fun x H1=>∃ a dx fs,x=.ref a∧H1 a=some (.ins C dx fs)∧fs.lookup m=none ∧
 t σ H1 fun vs H2=>sp (x :: (vs++dvs)) H2 Q E
def tMake (C:Addr) (sp:Sp) (dvs:List V) (E:XK) (t:TA):TE:=fun σ H Q=>t σ H fun vs H1=>∀ x dx,H1 x=none→H1 dx=none→dx≠x →
 sp (.ref x :: (vs++dvs)) (upd (upd H1 dx (.own x)) x (.ins C dx [])) (fun v H2=>v=.non∧Q (.ref x) H2) E
def Binds (K:W.Frag) (fd:FuncData) (ps:List Str) (ds:List Value):Prop :=
 ∀ (s:Shared) (us:List Value),K.In s.heap→(us++ds).length=ps.length→BindsTo s fd ⟨us,[]⟩ (ps.zip (us++ds))
theorem Binds.all {K:W.Frag}{fd:FuncData}{ps:List Str}(h:∀ us:List Value,us.length=ps.length→bindArgs fd ⟨us,[]⟩=pure (ps.zip us)):Binds K fd ps []:=fun s us _ hl=>by
 rw [List.append_nil] at hl ⊢
 exact .of_eq (h us hl)
def Passes (CX:CXT) (X:Cx) (E:XK):Prop:=∀ (pins:List (Addr×Obj)) (σ:St) (H:Hp) (s:Shared) (e:Value) (s':Shared),Inv X pins σ H s→CX X.stack H s E e s'→X.xe e s'
section
variable {X:Cx} {CX:CXT} {k:Nat} {f C:Addr} {fd:FuncData} {ps:List Str} {sp:Sp} {dvs:List V} {ds:List Value} {E:XK} {x m:Str} {p pos apos:Pos} {e o:Expr} {es:List Expr} {ta:TE} {t:TA}
theorem run_fn {pins:List (Addr×Obj)}{σ:St}{H:Hp}{s:Shared}{Q:VK}{us:List Value}{vs:List V}(F:FnOk X.prog X.w X.K X.mg X.base CX k f fd ps sp) (hr:Room k X.A) (hb:Binds X.K fd ps ds) (hd:Vals dvs ds) (hx:Passes CX X E)
  (I:Inv X pins σ H s) (r:Vals vs us) (h:sp (vs++dvs) H Q E):wpAny (model X.prog X.w) X.A (call (.ref f) us) (EP X pins σ Q) X.xe s:=by
 have r2:Vals (vs++dvs) (us++ds):=r.append hd
 have hl:(us++ds).length=ps.length:=by rw [← r2.length];exact F.len _ _ _ _ h
 refine wpAny_call (codeAny_mono (F.run X.A X.stack s H ⟨us,[]⟩ (us++ds) (vs++dvs) Q E hr I.env0 (hb s us I.kIn hl) r2 h) fun r s' hq=>?_)
 cases r with
 | error e=>exact hx pins σ H s e s' I hq
 | ok fl =>
  cases fl with
  | ret u=>exact I.after hq
  | next=>exact False.elim hq
  | brk=>exact False.elim hq
  | cont=>exact False.elim hq
theorem pe_call (F:FnOk X.prog X.w X.K X.mg X.base CX k f fd ps sp) (hr:Room k X.A) (hg:Gl X x) (hm:X.mg x=some (.ref f)) (hk:W.keepIn X.K (.ref f)=true) (hb:Binds X.K fd ps ds) (hd:Vals dvs ds) (hx:Passes CX X E)
  (ha:PA X (e :: es) t) (hdb:(x == ("__debug__":Str))=false:=by decide) (he:starEach (e :: es) X.env=(false,eval e X.env):: starEach es X.env:=by rfl) (hpl:(backTo pos (starEach es X.env)).any (·.1)=false:=by rfl):
  PE X (.Call (.Name x p) (e :: es) [] pos) (tCall sp dvs E t):=by
 intro pins s σ H Q I h
 refine wpAny_Call_Name_kw (ld_glob I hg hm ?_ hdb)
 refine W.callWith_K (h₀:=X.base) I.ok.mod.kin hk (thn (ha pos pins s σ H _ I h) fun us s1 ⟨vs,H1,I1,r,q⟩=>⟨I1.kIn,?_⟩) he hpl
 exact run_fn F hr hb hd hx I1 r q
theorem pe_meth {pl:Sem Bool}(he:PE X o ta) (c:Cls X.K C) (hm:Meth X.K C m f) (F:FnOk X.prog X.w X.K X.mg X.base CX k f fd ps sp) (hr:Room k X.A) (hb:Binds X.K fd ps ds) (hd:Vals dvs ds) (hx:Passes CX X E) (ha:PA X (e :: es) t)
  (hst:starEach (e :: es) X.env=(false,eval e X.env):: starEach es X.env:=by rfl) (hpl:(backTo pos (starEach es X.env)).any (·.1)=false:=by rfl)
  (ht:eval (.Call (.Attribute o m apos) (e :: es) [] pos) X.env=(do
   let ov ← eval o X.env
   standAt apos.atName
   let (f,first) ← holding [ov] (getMethod ov m pl)
   callWith pos f first (backTo pos (starEach (e :: es) X.env)) (backToKw pos (keywordEach [] X.env))):=by rfl):
  PE X (.Call (.Attribute o m apos) (e :: es) [] pos) (tMeth C m sp dvs E ta t):=by
 intro pins s σ H Q I h
 refine W.methodCall_KW (pl:=pl) (thn (he pins s σ H _ I h) fun u s1 ⟨x,H1,I1,rx,a,dx,fs,ex,ea,l,q⟩=>?_) ht
 subst ex
 obtain rfl:u=Value.ref a:=rx
 refine getmeth_ok I1 ea c hm l ?_
 refine W.callWith_K (first:=[.ref a]) (h₀:=X.base) I.ok.mod.kin hm.kp (thn (ha pos pins s1 σ H1 _ I1 q) fun us s2 ⟨vs,H2,I2,r,q2⟩=>⟨I2.kIn,?_⟩) hst hpl
 exact run_fn (us:=.ref a :: us) (vs:=.ref a :: vs) F hr hb hd hx I2 (.cons rfl r) q2
theorem pe_meth0 {pl:Sem Bool}(he:PE X o ta) (c:Cls X.K C) (hm:Meth X.K C m f) (F:FnOk X.prog X.w X.K X.mg X.base CX k f fd ps sp) (hr:Room k X.A) (hb:Binds X.K fd ps ds) (hd:Vals dvs ds) (hx:Passes CX X E)
  (ht:eval (.Call (.Attribute o m apos) [] [] pos) X.env=(do
   let ov ← eval o X.env
   standAt apos.atName
   let (f,first) ← holding [ov] (getMethod ov m pl)
   callWith pos f first (backTo pos (starEach [] X.env)) (backToKw pos (keywordEach [] X.env))):=by rfl):
  PE X (.Call (.Attribute o m apos) [] [] pos) (tMeth C m sp dvs E ta tNil):=by
 intro pins s σ H Q I h
 refine W.methodCall_KW (pl:=pl) (thn (he pins s σ H _ I h) fun u s1 ⟨x,H1,I1,rx,a,dx,fs,ex,ea,l,q⟩=>?_) ht
 subst ex
 obtain rfl:u=Value.ref a:=rx
 refine getmeth_ok I1 ea c hm l ?_
 exact W.callWith_K0 (first:=[.ref a]) I1.kIn hm.kp (run_fn (us:=[.ref a]) (vs:=[.ref a]) F hr hb hd hx I1 (.cons rfl .nil) q)
structure Mk (K:W.Frag) (C f:Addr):Prop where
 makes:W.makesIn K C=true
 init:W.findIn K (.ref C) "__init__"=some (some (.ref f))
 fn:W.isFn K (.ref f)=true
 kp:W.keepIn K (.ref C)=true
theorem run_make {pins:List (Addr×Obj)}{σ:St}{H:Hp}{s:Shared}{Q:VK}{us:List Value}{vs:List V}(M:Mk X.K C f) (F:FnOk X.prog X.w X.K X.mg X.base CX k f fd ps sp) (hr:Room (k + 1) X.A) (hb:Binds X.K fd ps ds) (hd:Vals dvs ds)
  (hx:Passes CX X E) (I:Inv X pins σ H s) (r:Vals vs us)
  (h:∀ x dx,H x=none→H dx=none→dx≠x→sp (.ref x :: (vs++dvs)) (upd (upd H dx (.own x)) x (.ins C dx [])) (fun v H2=>v=.non∧Q (.ref x) H2) E):
  wpAny (model X.prog X.w) X.A (call (.ref C) us) (EP X pins σ Q) X.xe s:=by
 have hq:=h (s.heap.objs.size + 1) s.heap.objs.size (I.hok.fresh (Nat.le_succ _)) (I.hok.fresh (Nat.le_refl _)) (Nat.ne_of_lt (Nat.lt_succ_self _))
 have I2:=Inv.made (C:=C) I
 have r2:Vals (V.ref (s.heap.objs.size + 1):: (vs++dvs)) (Value.ref (s.heap.objs.size + 1):: (us++ds)):=.cons rfl (r.append hd)
 have hl:(Value.ref (s.heap.objs.size + 1):: us++ds).length=ps.length:=by
  have e:=r2.length
  rw [F.len _ _ _ _ hq] at e
  exact e.symm
 refine wpAny_call (make_map (f:=f) I.kIn M.makes M.init (beq_iff_eq.mp M.fn) (codeAny_mono (F.run _ X.stack _ _ ⟨Value.ref (s.heap.objs.size + 1):: us,[]⟩ (Value.ref (s.heap.objs.size + 1):: (us++ds)) _ _ E (hr.make C us [])
  (I2.env0.make C us []) (hb _ (Value.ref (s.heap.objs.size + 1):: us) I2.kIn hl) r2 hq) fun r s' hq'=>?_))
 cases r with
 | error e=>exact hx pins σ _ _ e s' I2 hq'
 | ok fl =>
  cases fl with
  | ret u =>
   obtain ⟨v,H',I3,rv,ev,q3⟩:=I2.after hq'
   subst ev
   exact ⟨rv,⟨V.ref (s.heap.objs.size + 1),H',I3,rfl,q3⟩⟩
  | next=>exact False.elim hq'
  | brk=>exact False.elim hq'
  | cont=>exact False.elim hq'
theorem pe_make (M:Mk X.K C f) (F:FnOk X.prog X.w X.K X.mg X.base CX k f fd ps sp) (hr:Room (k + 1) X.A) (hg:Gl X x) (hm:X.mg x=some (.ref C)) (hb:Binds X.K fd ps ds) (hd:Vals dvs ds) (hx:Passes CX X E)
  (ha:PA X (e :: es) t) (hdb:(x == ("__debug__":Str))=false:=by decide) (he:starEach (e :: es) X.env=(false,eval e X.env):: starEach es X.env:=by rfl) (hpl:(backTo pos (starEach es X.env)).any (·.1)=false:=by rfl):
  PE X (.Call (.Name x p) (e :: es) [] pos) (tMake C sp dvs E t):=by
 intro pins s σ H Q I h
 refine wpAny_Call_Name_kw (ld_glob I hg hm ?_ hdb)
 refine W.callWith_K (h₀:=X.base) I.ok.mod.kin M.kp (thn (ha pos pins s σ H _ I h) fun us s1 ⟨vs,H1,I1,r,q⟩=>⟨I1.kIn,?_⟩) he hpl
 exact run_make M F hr hb hd hx I1 r q
end
section
variable {X:Cx} {CX:CXT} {k:Nat} {f C:Addr} {fd:FuncData} {ps ks:List Str} {sp:Sp} {E:XK} {x m:Str} {p pos apos kpos:Pos} {e o:Expr} {es:List Expr} {kws:List Keyword} {te ta:TE} {t tk:TA} {nm:Option Str}
structure KBinds (K:W.Frag) (fd:FuncData) (ps ks:List Str) (g:List Value→List Value→List Value) (gV:List V→List V→List V):Prop where
 to:∀ (s:Shared) (us ws:List Value),K.In s.heap→(g us ws).length=ps.length→BindsTo s fd ⟨us,ks.zip ws⟩ (ps.zip (g us ws))
 rel:∀ {vs:List V} {us:List Value} {zs:List V} {ws:List Value},Vals vs us→Vals zs ws→Vals (gV vs zs) (g us ws)
variable {g:List Value→List Value→List Value} {gV:List V→List V→List V}
end
structure FnScope (N P:List Str) (sc:Scope):Prop where
 kind:sc.kind=.function
 co:sc.isCoroutine=false
 gen:sc.isGenerator=false
 nd:N.Nodup
 pre:N.take P.length=P
 par:∀ x∈P,sc.names.lookup x=some .local∨sc.names.lookup x=some .cell
 nofree:∀ y∈sc.names,y.2≠.free
theorem bindL_out {kindOf:Str→Option NameKind}{x:Str}:∀ {binds:List (Str×Value)}{m:Str→Option Value},(∀ v,(x,v)∉binds)→bindL kindOf binds m x=m x
 | [],_,_=>rfl
 | (n,v):: r,m,h=>by
  unfold bindL
  rw [bindL_out fun w hw=>h w (List.mem_cons_of_mem _ hw)]
  split
  ·have:x≠n:=by rintro rfl;exact h v List.mem_cons_self
   simp [this]
  ·rfl
theorem bindC_out {kindOf:Str→Option NameKind}{x:Str}:∀ {binds:List (Str×Value)}{m:Str→Option Value},(∀ v,(x,v)∉binds)→bindC kindOf binds m x=m x
 | [],_,_=>rfl
 | (n,v):: r,m,h=>by
  unfold bindC
  rw [bindC_out fun w hw=>h w (List.mem_cons_of_mem _ hw)]
  split
  ·rfl
  ·have:x≠n:=by rintro rfl;exact h v List.mem_cons_self
   simp [this]
theorem bindL_get {kindOf:Str→Option NameKind}{x:Str}{v:Value}:∀ {P:List Str}{vs:List Value}{i:Nat}{m:Str→Option Value},P.Nodup→P[i]?=some x→vs[i]?=some v→kindOf x=some .local →
  bindL kindOf (P.zip vs) m x=some v
 | [],_,_,_,_,h,_,_=>by simp at h
 | _ :: _,[],_,_,_,_,h,_=>by simp at h
 | p :: P,w :: vs,0,m,nd,h1,h2,hk=>by
  simp at h1 h2;subst h1;subst h2
  show bindL kindOf ((p,w):: P.zip vs) m p=_
  unfold bindL
  rw [bindL_out fun v hv=>(List.nodup_cons.mp nd).1 (List.of_mem_zip hv).1,if_pos hk]
  simp
 | p :: P,w :: vs,i + 1,m,nd,h1,h2,hk=>by
  show bindL kindOf ((p,w):: P.zip vs) m x=_
  unfold bindL
  exact bindL_get (i:=i) (List.nodup_cons.mp nd).2 (by simpa using h1) (by simpa using h2) hk
theorem bindC_get {kindOf:Str→Option NameKind}{x:Str}{v:Value}:∀ {P:List Str}{vs:List Value}{i:Nat}{m:Str→Option Value},P.Nodup→P[i]?=some x→vs[i]?=some v→kindOf x≠some .local →
  bindC kindOf (P.zip vs) m x=some v
 | [],_,_,_,_,h,_,_=>by simp at h
 | _ :: _,[],_,_,_,_,h,_=>by simp at h
 | p :: P,w :: vs,0,m,nd,h1,h2,hk=>by
  simp at h1 h2;subst h1;subst h2
  show bindC kindOf ((p,w):: P.zip vs) m p=_
  unfold bindC
  rw [bindC_out fun v hv=>(List.nodup_cons.mp nd).1 (List.of_mem_zip hv).1,if_neg hk]
  simp
 | p :: P,w :: vs,i + 1,m,nd,h1,h2,hk=>by
  show bindC kindOf ((p,w):: P.zip vs) m x=_
  unfold bindC
  exact bindC_get (i:=i) (List.nodup_cons.mp nd).2 (by simpa using h1) (by simpa using h2) hk
def start (N:List Str) (vs:List V):St:=vs.map some++List.replicate (N.length - vs.length) none
def cxOf (CX:CXT) (P:Program) (w:World) (K:W.Frag) (mg:Str→Option Value) (base:Heap) (N:List Str) (qual:Str) (scope:Scope) (f:Addr) (cd:Value) (A:Around) (outer:List Env) (s:Shared) (H:Hp) (E:XK):Cx where
 prog:=P
 w:=w
 K:=K
 mg:=mg
 base:=base
 A:=A.deeper (envOfC qual scope s.heap.objs.size f cd)
 N:=N
 s₀:=s
 H₀:=H
 env:=envOfC qual scope s.heap.objs.size f cd
 outer:=outer
 stack:=envOfC qual scope s.heap.objs.size f cd :: outer
 ex:=[]
 calm:=true
 fn:=fun _=>true
 pn:=[]
 xe:=fun e s'=>wpAny (model P w) (A.deeper (envOfC qual scope s.heap.objs.size f cd)) (leaving (envOfC qual scope s.heap.objs.size f cd) e) (fun _ s''=>CX outer H s E e s'') (fun e' s''=>CX outer H s E e' s'') s'
theorem cell_has {sc:Scope}{n:Nat}{x:Str}(h:sc.names.lookup x=some .cell):∃ c,(cellsFrom n sc.names []).lookup x=some c:=by
 have q:=W.cellsFrom_some sc.names n [] (.inl h)
 exact Option.isSome_iff_exists.mp q
theorem inv_start {CX:CXT}{P:Program}{w:World}{K:W.Frag}{mg:Str→Option Value}{base:Heap}{N ps:List Str}{qual:Str}{scope:Scope}{f:Addr}{cd:Value}{A:Around}{outer:List Env}{s s1:Shared}{H:Hp}{E:XK}{us:List Value}{vs:List V}
  (S:FnScope N ps scope) (hd:A.handled=none) (e0:Env0 P w K mg base A outer s H) (hl:vs.length=ps.length) (r:Vals vs us)
  (x:InCallC s s.heap.objs.size (bindL (envOfC qual scope s.heap.objs.size f cd).kindOf (ps.zip us) fun _=>none) (cellsFrom (s.heap.objs.size + 1) scope.names []) (bindC (envOfC qual scope s.heap.objs.size f cd).kindOf (ps.zip us) fun _=>none) s1):
  Inv (cxOf CX P w K mg base N qual scope f cd A outer s H E) [] (start N vs) H s1:=by
 have hpl:ps.length≤N.length:=by have:=congrArg List.length S.pre;rw [List.length_take] at this;omega
 obtain ⟨h1,tk,rfl,hk⟩:=x.done
 have noA:∀ b:Addr,b∉(cxOf CX P w K mg base N qual scope f cd A outer s H E).ex:=fun b z=>absurd (show b∈([]:List Addr) from z) (by simp)
 refine ⟨⟨e0.mod,S.kind,rfl,rfl,Nat.le_refl _,fun y z c h1 h2=>?_,fun y hy=>?_,fun y c _ h=>?_,fun _=>hd,Around.frames_deeper e0.frames,.inr ⟨rfl,rfl⟩,fun b z=>absurd z (noA b),e0.bs,e0.bsz,fun b _ _=>noA b,fun b z=>absurd z (noA b),e0.funs,e0.frf⟩,
  rfl,e0.bare,Un.kept hk,⟨_,x.toInCall.ns,fun i y v h1 h2 h3=>?_⟩,fun y c h=>⟨_,x.cell y c h⟩,e0.hok.fresh (Nat.le_refl _),fun y c h=>?_,fun p hp=>absurd (show p∈([]:List (Addr×Obj)) from hp) (by simp),e0.hok.kept hk,?_⟩
 ·exact name_of_addr x.apart (PySem.mem_of_lookup h1) (PySem.mem_of_lookup h2)
 ·have hy:scope.names.lookup y=some .cell∨scope.names.lookup y=some .free:=hy
  rcases hy with hy | hy
  ·exact cell_has hy
  ·exact absurd rfl (S.nofree _ (PySem.mem_of_lookup hy))
 ·exact Nat.le_of_lt (x.above y c (PySem.mem_of_lookup h))
 ·have hi:i<vs.length:=by
   unfold start at h2
   by_cases hi:i<vs.length
   ·exact hi
   ·rw [List.getElem?_append_right (by simpa using hi)] at h2
    rw [List.getElem?_replicate] at h2
    split at h2 <;> cases h2
  have ha:vs[i]?=some v:=by
   unfold start at h2
   rw [List.getElem?_append_left (by simpa using hi),List.getElem?_map] at h2
   cases e:vs[i]? with
   | none=>rw [e] at h2;cases h2
   | some a=>rw [e] at h2;cases h2;rfl
  obtain ⟨u,hu,rv⟩:=r.get ha
  have hp:ps[i]?=some y:=by
   rw [← S.pre,List.getElem?_take_of_lt (by omega)];exact h1
  have ndP:ps.Nodup:=by rw [← S.pre];exact S.nd.sublist (List.take_sublist _ _)
  refine ⟨u,rv,?_⟩
  rcases S.par y (List.mem_of_getElem? hp) with k | k
  ·exact .inl ⟨k,bindL_get ndP hp hu k⟩
  ·obtain ⟨c,e⟩:=cell_has (n:=s.heap.objs.size + 1) k
   refine .inr ⟨.inl k,c,e,?_⟩
   have q:=x.cell y c e
   rw [bindC_get ndP hp hu (by show scope.names.lookup y≠_;rw [k];decide)] at q
   exact q
 ·exact e0.hok.fresh (Nat.le_of_lt (x.above y c (PySem.mem_of_lookup h)))
 ·unfold start
  show _=N.length
  rw [List.length_append,List.length_map,List.length_replicate]
  omega
theorem fn_of {CX:CXT}{P:Program}{w:World}{K:W.Frag}{mg:Str→Option Value}{base:Heap}{k:Nat}{f:Addr}{name qual:Str}{params:Arguments}{body:List Stmt}{scope:Scope}{dV kV doc pm cdv ct oc:Value}{an od:Option Addr}
  {osl:Array (Option Value)} {N ps:List Str} {sp:Sp} (lk:K.lookup f=some ⟨oc,od,.func (W.fnOf name qual params body scope dV kV doc pm an cdv ct),osl⟩) (hcd:W.codeIn K cdv qual=true) (S:FnScope N ps scope)
  (len:∀ vs H Q E,sp vs H Q E→vs.length=ps.length)
  (hbody:∀ (A:Around) (outer:List Env) (s:Shared) (H:Hp) (vs:List V) (Q:VK) (E:XK),Room k (A.deeper (envOfC qual scope s.heap.objs.size f cdv))→sp vs H Q E →
   ∃ t,PSs (cxOf CX P w K mg base N qual scope f cdv A outer s H E) body t∧t { nx:=fun _ H'=>Q .non H',rt:=Q } (start N vs) H):
  FnOk P w K mg base CX (k + 1) f (W.fnOf name qual params body scope dV kV doc pm an cdv ct) ps sp:=by
 refine ⟨len,fun A outer s H args us vs Q E hr e0 hb r hsp=>?_⟩
 have hl:=len _ _ _ _ hsp
 have KX:K.In s.heap:=e0.mod.kin.keeps fun b o e=>(e0.bs b o e).1
 have lim:s.heap.NoLimit:=e0.mod.nolimit.keeps fun b o e=>(e0.bs b o e).1
 have hkind:∀ y∈ps.zip us,scope.names.lookup y.1=some .local∨(scope.names.lookup y.1=some .cell∧((cellsFrom (s.heap.objs.size + 1) scope.names []).lookup y.1).isSome=true):=fun ⟨n,v⟩ hy=>by
  rcases S.par n (List.of_mem_zip hy).1 with q | q
  ·exact .inl q
  ·exact .inr ⟨q,W.cellsFrom_some _ _ _ (.inl q)⟩
 refine codeAny_call_function hr.depth (KX _ _ lk) rfl S.co S.gen rfl (W.codeRec_of KX hcd) (hb _ _ _ _ ?_)
 refine wpAny_newFunctionEnv_cells S.kind hkind fun env he s1 x=>?_
 subst he
 refine ⟨lim.keeps x.toInCall.keep,codeAny_func ?_⟩
 obtain ⟨t,ht,hq⟩:=hbody A outer s H vs Q E (hr.deeper _) hsp
 have I:Inv (cxOf CX P w K mg base N qual scope f cdv A outer s H E) [] (start N vs) H s1:=inv_start S hr.hd e0 hl r x
 refine wpAny_mono (ht [] s1 (start N vs) H _ I hq) (fun fl s' hs=>?_) fun e s' hs=>hs
 have fin:∀ {σ':St} {H':Hp} {v:V} {u:Value},Inv (cxOf CX P w K mg base N qual scope f cdv A outer s H E) [] σ' H' s'→RelV v u→Q v H'→CE outer P w H s Q u s' :=
  fun {σ' H' v u} J rv q=>⟨v,H',J.os,J.bare,J.base,J.hok,rv,q⟩
 cases fl with
 | ret u =>
  obtain ⟨v,σ',H',J,rv,q⟩:=hs
  exact fin J rv q
 | next =>
  obtain ⟨σ',H',J,q⟩:=hs
  exact fin (v:=V.non) (u:=Value.none) J rfl q
 | brk =>
  obtain ⟨_,_,_,q⟩:=hs
  exact False.elim q
 | cont =>
  obtain ⟨_,_,_,q⟩:=hs
  exact False.elim q
end L2
namespace L2
open PySem PySem.Spec PyProof.Rows
section
variable {X:Cx} {x:Str} {p pos:Pos} {e:Expr} {es:List Expr} {t:TA} {id T:String} {r:List V→Hp→VK→Prop}
def tCB (r:List V→Hp→VK→Prop) (t:TA):TE:=fun σ H Q=>t σ H fun vs H1=>r vs H1 Q
theorem pe_callB (hc:CallR X (.builtin id) r) (hg:Gl X x) (hm:X.mg x=none) (hv:bootBuiltins x=some (.builtin id)) (ha:PA X (e :: es) t) (hn:x≠"__name__":=by decide) (hdb:(x == ("__debug__":Str))=false:=by decide)
  (he:starEach (e :: es) X.env=(false,eval e X.env):: starEach es X.env:=by rfl) (hpl:(backTo pos (starEach es X.env)).any (·.1)=false:=by rfl):PE X (.Call (.Name x p) (e :: es) [] pos) (tCB r t):=by
 intro pins s σ H Q I h
 refine wpAny_Call_Name_kw (ld_blt I hg hm hv ?_ hn hdb)
 exact PyProof.Rows.callWith_builtin1 (thn (ha pos pins s σ H _ I h) fun us s1 ⟨vs,H1,I1,r1,q1⟩=>hc pins s1 σ H1 vs us Q I1 r1 q1) he hpl
theorem pe_callTy (hc:CallR X (.type T) r) (hg:Gl X x) (hm:X.mg x=none) (hv:bootBuiltins x=some (.type T)) (ha:PA X (e :: es) t) (hn:x≠"__name__":=by decide) (hdb:(x == ("__debug__":Str))=false:=by decide)
  (he:starEach (e :: es) X.env=(false,eval e X.env):: starEach es X.env:=by rfl) (hpl:(backTo pos (starEach es X.env)).any (·.1)=false:=by rfl):PE X (.Call (.Name x p) (e :: es) [] pos) (tCB r t):=by
 intro pins s σ H Q I h
 refine wpAny_Call_Name_kw (ld_blt I hg hm hv ?_ hn hdb)
 exact PyProof.Rows.callWith_type1 (thn (ha pos pins s σ H _ I h) fun us s1 ⟨vs,H1,I1,r1,q1⟩=>hc pins s1 σ H1 vs us Q I1 r1 q1) he hpl
end
end L2
namespace HT
open PySem PyProof.Rows
section
open PySem.SeqAt
open PySem.AutoSeq1 (wpAny_loadPart')
open PySem.MeetsSeq PySem.MeetsSeq2 PySem.MeetsSeq3
end
section
variable {prog:Program} {w:World} {A:Around} {E:Value→Shared→Prop} {s:Shared}
theorem cat_tup {t b:Addr}{vs ws:List Value}{Q:Value→Shared→Prop}(ht:IsTup s.heap t vs.toArray) (hb:IsTup s.heap b ws.toArray) (hv:vs≠[])
  (h1:ws=[]→Q (.ref t) s) (h2:ws≠[]→Q (.ref s.heap.objs.size) { s with heap:=s.heap.push { cls:=.type "tuple",data:=.seq (vs++ws).toArray } })
  (hsz:vs.length + ws.length≤sizeLine):wpAny (model prog w) A (binaryOp .Add (.ref t) (.ref b)) Q E s:=by
 obtain ⟨⟨cls,dd,data,sl⟩,ho,hc,n,hd⟩:=id ht
 obtain ⟨⟨cls2,dd2,data2,sl2⟩,ho2,hc2,n2,hd2⟩:=id hb
 simp only at hc hd hc2 hd2
 subst hc hd hc2 hd2
 have e:vs.toArray++ws.toArray=(vs++ws).toArray:=by simp
 by_cases hw:ws=[]
 ·exact concat_meets ⟨_,ho,rfl⟩ ⟨_,ho2,rfl⟩ noFill_tuple_add seq_tuple_add PySem.F.slot_tuple_add PySem.F.entry_tuple_add (PySem.F.args_tuple_add_2 _ _)
   (tuple_addW1 t b vs.toArray ws.toArray n n2 dd dd2 sl sl2 (by simpa using hv) (by simp [hw])) ⟨ho,ho2,h1 hw⟩
 ·refine concat_meets ⟨_,ho,rfl⟩ ⟨_,ho2,rfl⟩ noFill_tuple_add seq_tuple_add PySem.F.slot_tuple_add PySem.F.entry_tuple_add (PySem.F.args_tuple_add_2 _ _)
   (tuple_addW2 t b vs.toArray ws.toArray n n2 dd dd2 sl sl2 (by simpa using hv) (by simpa using hw) (by rw [List.size_toArray,List.size_toArray];exact hsz)) ⟨ho,ho2,?_⟩
  rw [e]
  exact h2 hw
def sIx (n d:Nat):Option Int→Nat
 | none=>d
 | some v=>if v<0 then (v + (n:Int)).toNat else min v.toNat n
theorem sIx_none (n d:Nat):sIx n d none=d:=rfl
theorem sIx_nat (n d k:Nat):sIx n d (some (k:Int))=min k n:=by
 show (if (k:Int)<0 then ((k:Int) + (n:Int)).toNat else min (k:Int).toNat n)=min k n
 rw [if_neg (by omega),Int.toNat_natCast]
end
end HT
namespace L2
open PySem PySem.Spec PyProof.Rows
abbrev TO:=St→Hp→(Option Int→Hp→Prop)→Prop
def PO (X:Cx) (e:Option Expr) (t:TO):Prop :=
 ∀ (pins:List (Addr×Obj)) (s:Shared) (σ:St) (H:Hp) (Q:Option Int→Hp→Prop),Inv X pins σ H s→t σ H Q →
  wpAny (model X.prog X.w) X.A (evalPart e X.env) (fun u s'=>∃ o H',Inv X pins σ H' s'∧IsPart u o∧Q o H') X.xe s
def tNoPart:TO:=fun _ H Q=>Q none H
def tPart (t:TE):TO:=fun σ H Q=>t σ H fun x H1=>∃ i,x=.int i∧Q (some i) H1
section
variable {X:Cx} {e:Expr} {te:TE} {lo hi:Option Expr} {tl th:TO} {pos p2:Pos}
theorem po_none:PO X none tNoPart:=by
 intro pins s σ H Q I h
 rw [evalPart_none]
 exact wpAny_pure ⟨none,H,I,.none,h⟩
theorem po_some (h:PE X e te):PO X (some e) (tPart te):=by
 intro pins s σ H Q I hw
 rw [evalPart_some]
 refine thn (h pins s σ H _ I hw) fun u s1 ⟨x,H1,I1,r1,q1⟩=>?_
 obtain ⟨i,rfl,q⟩:=q1
 obtain ⟨t,rfl⟩:=r1
 exact ⟨some i,H1,I1,.int i t,q⟩
def SlR (X:Cx) (r:V→Option Int→Option Int→Hp→VK→Prop):Prop :=
 ∀ (pins:List (Addr×Obj)) (s:Shared) (σ:St) (H:Hp) (x:V) (v vl vu:Value) (lo hi:Option Int) (sl:Addr) (Q:VK),Inv X pins σ H s→RelV x v→s.heap.IsSliceOf sl vl vu .none→IsPart vl lo→IsPart vu hi→r x lo hi H Q →
  ∃ T id,typeLookup (.type T) "__getitem__"=pure (some (.builtin id))∧s.TypeIs v T∧wpAny (model X.prog X.w) X.A (getItem v (.ref sl)) (EP X pins σ Q) X.xe s
def tSl (r:V→Option Int→Option Int→Hp→VK→Prop) (te:TE) (tl th:TO):TE:=fun σ H Q=>te σ H fun x H1=>tl σ H1 fun l H2=>th σ H2 fun u H3=>r x l u H3 Q
theorem pe_slice {r:V→Option Int→Option Int→Hp→VK→Prop}(hr:SlR X r) (he:PE X e te) (hl:PO X lo tl) (hu:PO X hi th):PE X (.Subscript e (.Slice lo hi none p2) pos) (tSl r te tl th):=by
 intro pins s σ H Q I h
 refine Subscript_ (thn (he pins s σ H _ I h) fun v s1 ⟨x,H1,I1,r1,q1⟩=>?_)
 refine wpAny_Slice (thn (hl pins s1 σ H1 _ I1 q1) fun vl s2 ⟨l,H2,I2,pl,q2⟩=>thn (hu pins s2 σ H2 _ I2 q2) fun vu s3 ⟨u,H3,I3,pu,q3⟩=>?_)
 rw [evalPart_none]
 refine wpAny_pure ?_
 have I4:Inv X pins σ H3 { s3 with heap:=s3.heap.push { cls:=.type "slice",data:=.fields #[vl,vu,.none] } }:=I3.kept (t':=s3.toks) fun b ob q=>Heap.get?_push_of_some _ q
 obtain ⟨T,id,hT,ht,hg⟩:=hr pins { s3 with heap:=s3.heap.push { cls:=.type "slice",data:=.fields #[vl,vu,.none] } } σ H3 x v vl vu l u s3.heap.objs.size Q I4 r1 (Heap.IsSliceOf.new ..) pl pu q3
 show wpAny (model X.prog X.w) X.A (subscriptTail e (.Slice lo hi none p2) v (.ref s3.heap.objs.size)) (EP X pins σ Q) X.xe { s3 with heap:=s3.heap.push { cls:=.type "slice",data:=.fields #[vl,vu,.none] } }
 exact tail_any (ops:=[.ref s3.heap.objs.size,v]) ht hT hg (by with_unfolding_all rfl)
def cutV (xs:List V) (lo hi:Option Int):List V:=(xs.drop (HT.sIx xs.length 0 lo)).take (HT.sIx xs.length xs.length hi - HT.sIx xs.length 0 lo)
theorem cutV_length (xs:List V) (lo hi:Option Int):(cutV xs lo hi).length≤xs.length:=by
 unfold cutV
 rw [List.length_take,List.length_drop]
 omega
def rCatT (K:W.Frag):R2:=fun x y H Q=>∃ a b xs ys,x=.ref a∧y=.ref b∧SqT K H a xs∧SqT K H b ys∧xs≠[]∧xs.length + ys.length≤sizeLine ∧
 (ys=[]→Q (.ref a) H)∧(ys≠[]→∀ p,H p=none→Q (.ref p) (upd H p (.tup (xs++ys))))
theorem Vals.nil_iff {xs:List V}{us:List Value}(r:Vals xs us):us=[]↔xs=[]:=by
 cases r with
 | nil=>simp
 | cons _ _=>simp
theorem op_catT:OpR X (binaryOp .Add) (rCatT X.K):=by
 intro pins s σ H x y v u Q I rx ry h
 obtain ⟨a,b,xs,ys,rfl,rfl,ha,hb,hx,hz,q1,q2⟩:=h
 cases rx
 cases ry
 obtain ⟨its,r1,p1,_⟩:=I.tuple ha
 obtain ⟨its2,r2,p2,_⟩:=I.tuple hb
 refine HT.cat_tup p1 p2 (fun z=>hx (r1.nil_iff.mp z)) (fun z=>⟨.ref a,H,I,rfl,q1 (r2.nil_iff.mp z)⟩) (fun z=>?_) (by rw [← r1.length,← r2.length];exact hz)
 refine ⟨.ref s.heap.objs.size,_,I.laid (t':=s.toks) (o:=.tup (xs++ys)) (fun b ob q=>Heap.get?_push_of_some _ q) (Nat.le_refl _) ?_,rfl,q2 (fun w=>z (r2.nil_iff.mpr w)) _ (I.hok.fresh (Nat.le_refl _))⟩
 exact ⟨by rw [List.length_append];exact hz,_,r1.append r2,IsTup.new _ _⟩
end
end L2
namespace L2
open PySem PySem.Spec PyProof.Rows
def ixN (n:Nat) (i:Int):Option Nat:=if 0≤i then (if i<n then some i.toNat else none) else if -(n:Int)≤i then some (i + n).toNat else none
def atI {α:Type} (xs:List α) (i:Int):Option α:=(ixN xs.length i).bind fun j=>xs[j]?
theorem ixN_seq {n:Nat}{i:Int}{j:Nat}(h:ixN n i=some j):seqIndex? i n=some j∧j<n∧-(n:Int)≤i∧i<n:=by
 unfold ixN at h
 by_cases h0:0≤i
 ·rw [if_pos h0] at h
  by_cases h1:i<n
  ·rw [if_pos h1] at h
   have e:i.toNat=j:=Option.some.inj h
   exact ⟨by rw [seqIndex_of h0 h1,e],by omega,by omega,h1⟩
  ·rw [if_neg h1] at h;cases h
 ·rw [if_neg h0] at h
  by_cases h1:-(n:Int)≤i
  ·rw [if_pos h1] at h
   have e:(i + n).toNat=j:=Option.some.inj h
   exact ⟨by rw [seqIndex_neg (by omega) h1,e],by omega,h1,by omega⟩
  ·rw [if_neg h1] at h;cases h
theorem atI_get {α:Type}{xs:List α}{i:Int}{v:α}(h:atI xs i=some v):∃ j,seqIndex? i xs.length=some j∧xs[j]?=some v∧j<xs.length∧-(xs.length:Int)≤i∧i<xs.length:=by
 unfold atI at h
 cases e:ixN xs.length i with
 | none=>rw [e] at h;cases h
 | some j =>
  rw [e] at h
  obtain ⟨h1,h2,h3,h4⟩:=ixN_seq e
  exact ⟨j,h1,h,h2,h3,h4⟩
theorem atI_nat {α:Type}{xs:List α}{j:Nat}{v:α}(h:xs[j]?=some v):atI xs (j:Int)=some v:=by
 have hj:j<xs.length:=(List.getElem?_eq_some_iff.mp h).1
 have e:ixN xs.length (j:Int)=some j:=by
  unfold ixN
  rw [if_pos (by omega),if_pos (by omega)];simp
 unfold atI;rw [e];exact h
def PlainIx (b:Expr):Prop:=∀ o i,subscripted b false o i=operate [o,i] (getItem o i)
def IxR (X:Cx) (r:R2):Prop :=
 ∀ (value slice:Expr) (pins:List (Addr×Obj)) (s:Shared) (σ:St) (H:Hp) (x y:V) (v u:Value) (Q:VK),Inv X pins σ H s→RelV x v→RelV y u→r x y H Q →
  subscripted slice false v u=operate [v,u] (getItem v u)→wpAny (model X.prog X.w) X.A (subscriptTail value slice v u) (EP X pins σ Q) X.xe s
def MtR (X:Cx) (id:String) (r:V→List V→Hp→VK→Prop):Prop :=
 ∀ (pins:List (Addr×Obj)) (s:Shared) (σ:St) (H:Hp) (x:V) (xs:List V) (v:Value) (us:List Value) (Q:VK),Inv X pins σ H s→RelV x v→Vals xs us→r x xs H Q →
  wpAny (model X.prog X.w) X.A (call (.builtin id) (v :: us)) (EP X pins σ Q) X.xe s
section
variable {X:Cx} {a b:Expr} {ta tb:TE} {pos:Pos}
theorem pe_ix {r:R2}(hr:IxR X r) (ha:PE X a ta) (hb:PE X b tb) (hs:PlainIx b):PE X (.Subscript a b pos) (tOp r ta tb):=by
 intro pins s σ H Q I h
 exact Subscript_ (binT ha hb I h fun v u s2 x y H2 I2 rx ry q=>hr a b pins s2 σ H2 x y v u Q I2 rx ry q (hs _ _))
def rIxL (K:W.Frag):R2:=fun x y H Q=>∃ p xs i v,x=.ref p∧y=.int i∧SqL K H p xs∧atI xs i=some v∧Q v H
def rIxT (K:W.Frag):R2:=fun x y H Q=>∃ p xs i v,x=.ref p∧y=.int i∧SqT K H p xs∧atI xs i=some v∧Q v H
def rIxS:R2:=fun x y H Q=>∃ z i c,x=.str z∧y=.int i∧z.length≤sizeLine∧atI z.cps.toList i=some c∧Q (.str ⟨#[c]⟩) H
theorem ix_list:IxR X (rIxL X.K):=by
 intro value slice pins s σ H x y v u Q I rx ry h hs
 obtain ⟨p,xs,i,z,rfl,rfl,hq,he,q⟩:=h
 cases rx
 obtain ⟨t,rfl⟩:=ry
 obtain ⟨its,r,pl,hz⟩:=I.list hq
 obtain ⟨j,h1,h2,h3,h4,h5⟩:=atI_get he
 obtain ⟨w,ew,rw'⟩:=r.get h2
 have hl:=r.length
 have hn:=line63
 have fin:EP X pins σ Q w s:=⟨z,H,I,rw',q⟩
 by_cases h0:0≤i
 ·have hj:i.toNat=j:=by
   rw [seqIndex_of h0 h5] at h1
   exact Option.some.inj h1
  exact item_listR pl.isList h0 (by omega) (by rw [hj];simpa using ew) fin hs
 ·have hj:(i + (its.toArray.size:Int)).toNat=j:=by
   rw [seqIndex_neg (by omega) h4] at h1
   rw [List.size_toArray,← hl]
   exact Option.some.inj h1
  exact subscriptTail_builtinR (x:=w) pl.isList.typeIs slot_list_getitem.lookup
   (wpAny_getItem_list_neg (Q:=fun r s'=>r=w∧EP X pins σ Q r s') pl.isList (by omega) (by rw [List.size_toArray] <;> omega) (by omega) (by rw [hj];simpa using ew) ⟨rfl,fin⟩) hs
theorem ix_tup:IxR X (rIxT X.K):=by
 intro value slice pins s σ H x y v u Q I rx ry h hs
 obtain ⟨p,xs,i,z,rfl,rfl,hq,he,q⟩:=h
 cases rx
 obtain ⟨t,rfl⟩:=ry
 obtain ⟨its,r,pl,hz⟩:=I.tuple hq
 obtain ⟨j,h1,h2,h3,h4,h5⟩:=atI_get he
 obtain ⟨w,ew,rw'⟩:=r.get h2
 have hl:=r.length
 have hn:=line63
 have fin:EP X pins σ Q w s:=⟨z,H,I,rw',q⟩
 exact subscriptTail_builtinR (x:=w) pl.typeIs slot_tuple_getitem.lookup
  (getItem_tuple (j:=j) (Q:=fun r s'=>r=w∧EP X pins σ Q r s') pl (by omega) (by omega) (by rw [List.size_toArray,← hl];exact h1) (by simpa using ew) ⟨rfl,fin⟩) hs
theorem ix_str:IxR X rIxS:=by
 intro value slice pins s σ H x y v u Q I rx ry h hs
 obtain ⟨z,i,c,rfl,rfl,hz,he,q⟩:=h
 obtain ⟨t,rfl⟩:=rx
 obtain ⟨t',rfl⟩:=ry
 obtain ⟨j,h1,h2,h3,h4,h5⟩:=atI_get he
 have hl:z.cps.toList.length=z.length:=by simp [Str.length]
 rw [hl] at h1 h4 h5
 have hn:=line63
 exact tail_any (typeIs_str s z t) slot_str_getitem.lookup (getItem_str (c:=c) (by
  have e1:decide (i < -(2 ^ 63:Int))=false:=decide_eq_false (by omega)
  have e2:decide (i ≥ 2 ^ 63)=false:=decide_eq_false (by omega)
  rw [e1,e2,Bool.or_false]) (by rw [h1];simpa using h2) ⟨.str ⟨#[c]⟩,H,I.tok _,⟨_,rfl⟩,q⟩) hs
theorem mapSeq_set (its:List Value) (n j:Nat) (u:Value):Obj.mapSeq (·.setIfInBounds j u) { cls:=.type "list",data:=.seq its.toArray n }={ cls:=.type "list",data:=.seq (its.set j u).toArray n }:=by
 simp [Obj.mapSeq]
theorem Inv.lst {pins:List (Addr×Obj)}{σ:St}{H:Hp}{s:Shared}{p:Addr}{xs:List V}(I:Inv X pins σ H s) (h:H p=some (.lst xs)):
  ∃ (its:List Value) (n:Nat),Vals xs its∧s.heap.get? p=some { cls:=.type "list",data:=.seq its.toArray n }∧xs.length≤sizeLine:=by
 obtain ⟨z,its,n,r,e⟩:=I.hok p _ h
 exact ⟨its,n,r,e,z⟩
theorem Inv.lstUpd {pins:List (Addr×Obj)}{σ:St}{H:Hp}{s:Shared}{p:Addr}{xs ys:List V}{its its':List Value}{n n':Nat}{f:Obj→Obj}(I:Inv X pins σ H s) (h:H p=some (.lst xs))
  (ho:s.heap.get? p=some { cls:=.type "list",data:=.seq its.toArray n }) (hf:f { cls:=.type "list",data:=.seq its.toArray n }={ cls:=.type "list",data:=.seq its'.toArray n' }) (r:Vals ys its') (hz:ys.length≤sizeLine) (t:Nat):
  Inv X pins σ (upd H p (.lst ys)) { s with heap:=s.heap.update p f,toks:=t }:=by
 have e:(s.heap.update p f).get? p=some { cls:=.type "list",data:=.seq its'.toArray n' }:=by
  rw [Heap.get?_update_self f ho (by rw [hf] <;> rfl),hf]
 refine I.write (x:=p) (e:=p) (by rw [h];trivial) (.inl rfl) (fun b u hb q=>(Heap.get?_update_other _ _ (Ne.symm hb)).trans q) ⟨_,e⟩ ?_
 exact ⟨hz,its',n',r,e⟩
def rSetL:V→V→V→Hp→(Hp→Prop)→Prop:=fun o i v H Q=>∃ p xs k j,o=.ref p∧i=.int k∧H p=some (.lst xs)∧ixN xs.length k=some j∧Q (upd H p (.lst (xs.set j v)))
theorem set_list:PSet X rSetL:=by
 intro pins s σ H o i v ov iv u Q I ro ri rv h
 obtain ⟨p,xs,k,j,rfl,rfl,hp,hj,q⟩:=h
 cases ro
 obtain ⟨t,rfl⟩:=ri
 obtain ⟨its,n,r,ho,hz⟩:=I.lst hp
 obtain ⟨h1,h2,h3,h4⟩:=ixN_seq hj
 have hl:=r.length
 have hn:=line63
 have I':Inv X pins σ (upd H p (.lst (xs.set j v))) { s with heap:=s.heap.update p (Obj.mapSeq (·.setIfInBounds j u)) } :=
  I.lstUpd hp ho (mapSeq_set its n j u) (r.set rv j) (by rw [List.length_set];exact hz) s.toks
 by_cases h0:0≤k
 ·have hk:k.toNat=j:=by
   rw [seqIndex_of h0 h4] at h1
   exact Option.some.inj h1
  exact W.ki_setAt ho h0 (by omega) (by rw [List.size_toArray,← hl];exact h4) (by rw [hk];exact ⟨_,I',q⟩)
 ·have hk:(k + (its.toArray.size:Int)).toNat=j:=by
   rw [seqIndex_neg (by omega) h3] at h1
   rw [List.size_toArray,← hl]
   exact Option.some.inj h1
  exact W.ki_setBack ho (by omega) (by rw [List.size_toArray,← hl];exact h3) (by omega) (by rw [hk];exact ⟨_,I',q⟩)
theorem slice_bounds (lo hi:Option Int) (n:Nat):(sliceBounds lo hi none n).1=((HT.sIx n 0 lo:Nat):Int)∧(sliceBounds lo hi none n).2.1=((HT.sIx n n hi:Nat):Int)∧(sliceBounds lo hi none n).2.2=1:=by
 refine ⟨?_,?_,rfl⟩
 ·cases lo with
  | none=>simp [sliceBounds,HT.sIx]
  | some i =>
   simp only [sliceBounds,HT.sIx,Option.getD_none,show (1:Int) > 0 by decide,if_true]
   by_cases h:i<0
   ·simp only [h,if_true] <;> omega
   ·simp only [h,if_false] <;> omega
 ·cases hi with
  | none=>simp [sliceBounds,HT.sIx]
  | some i =>
   simp only [sliceBounds,HT.sIx,Option.getD_none,show (1:Int) > 0 by decide,if_true]
   by_cases h:i<0
   ·simp only [h,if_true] <;> omega
   ·simp only [h,if_false] <;> omega
theorem slicePick_cut (its:List Value) (lo hi:Option Int):slicePick its.toArray lo hi none=((its.drop (HT.sIx its.length 0 lo)).take (HT.sIx its.length its.length hi - HT.sIx its.length 0 lo)).toArray:=by
 obtain ⟨h1,h2,h3⟩:=slice_bounds lo hi its.toArray.size
 unfold slicePick
 rw [h1,h2,h3]
 simp only [sliceRange_one,pick_run,List.size_toArray] <;> rfl
def rSlL (K:W.Frag):V→Option Int→Option Int→Hp→VK→Prop:=fun x lo hi H Q=>∃ a xs,x=.ref a∧SqL K H a xs∧∀ p,H p=none→Q (.ref p) (upd H p (.lst (cutV xs lo hi)))
theorem sl_list:SlR X (rSlL X.K):=by
 intro pins s σ H x v vl vu lo hi sl Q I rx hs pl pu h
 obtain ⟨a,xs,rfl,hx,q⟩:=h
 cases rx
 obtain ⟨its,r,ht,hz⟩:=I.list hx
 have hlen:=r.length
 refine ⟨"list",_,slot_list_getitem.lookup,ht.isList.typeIs,?_⟩
 refine wpAny_getItem_list_slice ht.isList hs pl pu .none (by simp) ?_ (by rw [List.size_toArray] <;> omega)
 rw [slicePick_cut,← hlen]
 refine ⟨.ref s.heap.objs.size,_,I.laid (t':=s.toks) (o:=.lst (cutV xs lo hi)) (fun b ob q=>Heap.get?_push_of_some _ q) (Nat.le_refl _) ?_,rfl,q _ (I.hok.fresh (Nat.le_refl _))⟩
 exact ⟨Nat.le_trans (cutV_length xs lo hi) hz,_,0,(r.drop (HT.sIx xs.length 0 lo)).take (HT.sIx xs.length xs.length hi - HT.sIx xs.length 0 lo),Heap.get?_push_size _ rfl⟩
def flatV:V→Bool
 | .non=>true
 | .bl _=>true
 | .int _=>true
 | .str _=>true
 | _=>false
def eqV:V→V→Bool
 | .non,.non=>true
 | .bl a,.bl b=>a == b
 | .bl a,.int b=>(if a then 1 else 0) == b
 | .int a,.bl b=>a == (if b then 1 else 0)
 | .int a,.int b=>a == b
 | .str a,.str b=>a == b
 | _,_=>false
theorem eqAt_V {A:Around}{s:Shared}{y x:V}{u v:Value}(ry:RelV y u) (rx:RelV x v) (fy:flatV y=true) (fx:flatV x=true):SeqAt.EqAt A s u v (eqV y x):=by
 cases y with
 | non =>
  cases ry
  cases x with
  | non=>cases rx;exact SeqAt.EqAt.same _
  | bl b=>cases rx;exact SeqAt.EqAt.none_bool b
  | int b=>obtain ⟨t,rfl⟩:=rx;exact SeqAt.EqAt.none_int b t
  | str b=>obtain ⟨t,rfl⟩:=rx;exact SeqAt.EqAt.none_str b t
  | _=>exact absurd (show false=true from fx) Bool.false_ne_true
 | bl a =>
  cases ry
  cases x with
  | non=>cases rx;exact SeqAt.EqAt.bool_none a
  | bl b=>cases rx;exact SeqAt.EqAt.bool_bool a b
  | int b=>obtain ⟨t,rfl⟩:=rx;exact SeqAt.EqAt.bool_int a b t
  | str b=>obtain ⟨t,rfl⟩:=rx;exact SeqAt.EqAt.bool_str a b t
  | _=>exact absurd (show false=true from fx) Bool.false_ne_true
 | int a =>
  obtain ⟨t',rfl⟩:=ry
  cases x with
  | non=>cases rx;exact SeqAt.EqAt.int_none a t'
  | bl b=>cases rx;exact SeqAt.EqAt.int_bool a t' b
  | int b=>obtain ⟨t,rfl⟩:=rx;exact SeqAt.EqAt.int_int a t' b t
  | str b=>obtain ⟨t,rfl⟩:=rx;exact SeqAt.EqAt.int_str a t' b t
  | _=>exact absurd (show false=true from fx) Bool.false_ne_true
 | str a =>
  obtain ⟨t',rfl⟩:=ry
  cases x with
  | non=>cases rx;exact SeqAt.EqAt.str_none a t'
  | bl b=>cases rx;exact SeqAt.EqAt.str_bool a t' b
  | int b=>obtain ⟨t,rfl⟩:=rx;exact SeqAt.EqAt.str_int a t' b t
  | str b=>obtain ⟨t,rfl⟩:=rx;exact SeqAt.EqAt.str_str a t' b t
  | _=>exact absurd (show false=true from fx) Bool.false_ne_true
 | _=>exact absurd (show false=true from fy) Bool.false_ne_true
def eqU (x:V) (u:Value):Bool:=match u with
 | .none=>eqV .non x
 | .bool b=>eqV (.bl b) x
 | .int i _=>eqV (.int i) x
 | .str z _=>eqV (.str z) x
 | _=>false
theorem eqU_of {x y:V}{u:Value}(r:RelV y u) (f:flatV y=true):eqU x u=eqV y x:=by
 cases y with
 | non=>cases r;rfl
 | bl b=>cases r;rfl
 | int i=>obtain ⟨t,rfl⟩:=r;rfl
 | str z=>obtain ⟨t,rfl⟩:=r;rfl
 | _=>exact absurd (show false=true from f) Bool.false_ne_true
theorem any_eqU {x:V}:∀ {xs:List V}{us:List Value},Vals xs us→xs.all flatV=true→us.any (eqU x)=xs.any fun y=>eqV y x
 | _,_,.nil,_=>rfl
 | y :: xs,u :: us,.cons r t,f=>by
  rw [List.all_cons,Bool.and_eq_true] at f
  rw [List.any_cons,List.any_cons,eqU_of r f.1,any_eqU t f.2]
theorem mem_eqAt {A:Around}{s:Shared}{x:V}{v:Value}(rx:RelV x v) (fx:flatV x=true):∀ {xs:List V}{us:List Value},Vals xs us→xs.all flatV=true→∀ u∈us,SeqAt.EqAt A s u v (eqU x u)
 | _,_,.nil,_=>fun u hu=>by cases hu
 | y :: xs,u :: us,.cons r t,f=>fun u' hu=>by
  rw [List.all_cons,Bool.and_eq_true] at f
  rcases List.mem_cons.mp hu with rfl | hu
  ·rw [eqU_of r f.1];exact eqAt_V r rx f.1 fx
  ·exact mem_eqAt rx fx t f.2 u' hu
def inV (x:V) (xs:List V):Bool:=xs.any fun y=>eqV y x
def rIn (K:W.Frag) (neg:Bool):R2:=fun x y H Q=>∃ p xs,y=.ref p∧(SqL K H p xs∨SqT K H p xs)∧flatV x=true∧xs.all flatV=true∧Q (.bl (if neg then !inV x xs else inV x xs)) H
theorem op_in_seq:OpR X (compareOp .In) (rIn X.K false):=by
 intro pins s σ H x y v u Q I rx ry h
 obtain ⟨p,xs,rfl,hq,fx,fs,q⟩:=h
 cases ry
 rcases hq with hq | hq
 ·obtain ⟨its,r,pl,hz⟩:=I.list hq
  refine SeqAt.in_listAt (eqU x) pl.isList (fun w hw=>mem_eqAt rx fx r fs w (by simpa using hw)) ⟨.bl _,H,I,rfl,?_⟩
  rw [show its.toArray.any (eqU x)=its.any (eqU x) by simp,any_eqU r fs]
  exact q
 ·obtain ⟨its,r,pl,hz⟩:=I.tuple hq
  refine SeqAt.in_tupleAt (eqU x) pl (fun w hw=>mem_eqAt rx fx r fs w (by simpa using hw)) ⟨.bl _,H,I,rfl,?_⟩
  rw [show its.toArray.any (eqU x)=its.any (eqU x) by simp,any_eqU r fs]
  exact q
theorem op_notIn_seq:OpR X (compareOp .NotIn) (rIn X.K true):=by
 intro pins s σ H x y v u Q I rx ry h
 obtain ⟨p,xs,rfl,hq,fx,fs,q⟩:=h
 cases ry
 rcases hq with hq | hq
 ·obtain ⟨its,r,pl,hz⟩:=I.list hq
  refine SeqAt.notIn_listAt (eqU x) pl.isList (fun w hw=>mem_eqAt rx fx r fs w (by simpa using hw)) ⟨.bl _,H,I,rfl,?_⟩
  rw [show its.toArray.any (eqU x)=its.any (eqU x) by simp,any_eqU r fs]
  exact q
 ·obtain ⟨its,r,pl,hz⟩:=I.tuple hq
  refine SeqAt.notIn_tupleAt (eqU x) pl (fun w hw=>mem_eqAt rx fx r fs w (by simpa using hw)) ⟨.bl _,H,I,rfl,?_⟩
  rw [show its.toArray.any (eqU x)=its.any (eqU x) by simp,any_eqU r fs]
  exact q
theorem call_len_seq:CallR X (.builtin "len") (fun xs H Q=>∃ p ys,xs=[.ref p]∧(SqL X.K H p ys∨SqT X.K H p ys)∧Q (.int ys.length) H):=by
 intro pins s σ H xs us Q I r h
 obtain ⟨p,ys,rfl,hq,q⟩:=h
 obtain ⟨u,rfl,rx⟩:=vals1 r
 cases rx
 have hn:=line63
 rcases hq with hq | hq
 ·obtain ⟨its,r',pl,hz⟩:=I.list hq
  have hlen:=r'.length
  exact Calls.call_len_list pl.isList (by simp only [List.size_toArray] <;> omega) ⟨.int ys.length,H,I.tok _,⟨s.toks + 1,by rw [List.size_toArray,hlen]⟩,q⟩
 ·obtain ⟨its,r',pl,hz⟩:=I.tuple hq
  have hlen:=r'.length
  exact len_tuple pl (by simp only [List.size_toArray] <;> omega) ⟨.int ys.length,H,I.tok _,⟨s.toks + 1,by rw [List.size_toArray,hlen]⟩,q⟩
theorem call_list_of:CallR X (.type "list") (fun xs H Q=>∃ p ys,xs=[.ref p]∧(SqL X.K H p ys∨SqT X.K H p ys)∧∀ l,H l=none→Q (.ref l) (upd H l (.lst ys))):=by
 intro pins s σ H xs us Q I r h
 obtain ⟨p,ys,rfl,hq,q⟩:=h
 obtain ⟨u,rfl,rx⟩:=vals1 r
 cases rx
 have fin:∀ (its:List Value),Vals ys its→ys.length≤sizeLine→∀ (h':Heap) (c':Nat),(∀ b o',s.heap.get? b=some o'→h'.get? b=some o') →
   h'.get? s.heap.objs.size=some { cls:=.type "list",dict:=none,data:=.seq its.toArray c',slots:=#[] }→EP X pins σ Q (.ref s.heap.objs.size) { s with heap:=h' }:=fun its r' hz h' c' kp e =>
  ⟨.ref s.heap.objs.size,_,I.laid (t':=s.toks) kp (Nat.le_refl _) (show ObjOk X.prog X.w _ h' _ (.lst ys) from ⟨hz,its,c',r',e⟩),rfl,q _ (I.hok.fresh (Nat.le_refl _))⟩
 rcases hq with hq | hq
 ·obtain ⟨its,r',pl,hz⟩:=I.list hq
  have hlen:=r'.length
  obtain ⟨o,ho,hc,n,hd⟩:=pl.isList
  exact call_list_seq p (.inl rfl) ho hc hd (fun h' c' kp e=>fin its r' hz h' c' kp e) (by simp only [List.size_toArray] <;> omega)
 ·obtain ⟨its,r',pl,hz⟩:=I.tuple hq
  have hlen:=r'.length
  obtain ⟨o,ho,hc,n,hd⟩:=pl
  exact call_list_seq p (.inr rfl) ho hc hd (fun h' c' kp e=>fin its r' hz h' c' kp e) (by simp only [List.size_toArray] <;> omega)
theorem call_tuple_of:CallR X (.type "tuple") (fun xs H Q=>∃ p ys,xs=[.ref p]∧((SqL X.K H p ys∧∀ l,H l=none→Q (.ref l) (upd H l (.tup ys)))∨(SqT X.K H p ys∧Q (.ref p) H))):=by
 intro pins s σ H xs us Q I r h
 obtain ⟨p,ys,rfl,h⟩:=h
 obtain ⟨u,rfl,rx⟩:=vals1 r
 cases rx
 rcases h with ⟨hq,q⟩ | ⟨hq,q⟩
 ·obtain ⟨its,r',pl,hz⟩:=I.list hq
  have hlen:=r'.length
  refine call_tuple_list pl.isList (fun h' kp=>?_) (by simp only [List.size_toArray] <;> omega)
  have I1:Inv X pins σ H { s with heap:=h' }:=I.kept (t':=s.toks) kp
  have I2:Inv X pins σ (upd H h'.objs.size (.tup ys)) { s with heap:=h'.push { cls:=.type "tuple",data:=.seq its.toArray } } :=
   I1.laid (t':=s.toks) (fun b o e=>Heap.get?_push_of_some _ e) (Nat.le_refl _) (show ObjOk X.prog X.w _ _ _ (.tup ys) from ⟨hz,its,r',IsTup.new _ _⟩)
  exact ⟨.ref h'.objs.size,_,I2,rfl,q _ (I1.hok.fresh (Nat.le_refl _))⟩
 ·obtain ⟨its,r',pl,hz⟩:=I.tuple hq
  exact call_tuple_same pl ⟨.ref p,H,I,rfl,q⟩
def tyV (K:W.Frag) (T:String) (x:V) (H:Hp):Prop:=match x with
 | .str _=>T="str"
 | .int _=>T="int"
 | .ref p=>(T="list"∧∃ xs,SqL K H p xs)∨(T="tuple"∧∃ o,K.lookup p=some o∧o.cls=.type "tuple"∧o.dict=none) ∨
   (T="dict"∧((∃ kvs,H p=some (.dK kvs))∨∃ kvs,H p=some (.dT kvs)))∨(T="set"∧∃ S n,H p=some (.set S n))
 | _=>False
theorem tyV_is {pins:List (Addr×Obj)}{σ:St}{H:Hp}{s:Shared}{T:String}{x:V}{v:Value}(I:Inv X pins σ H s) (r:RelV x v) (ty:tyV X.K T x H):
  s.TypeIs v T∧∀ a,v=.ref a→∃ ob,s.heap.get? a=some ob∧ob.dict=none:=by
 cases x with
 | str z =>
  obtain ⟨t,rfl⟩:=r
  cases (show T="str" from ty)
  exact ⟨typeIs_str s z t,fun _ e=>nomatch e⟩
 | int i =>
  obtain ⟨t,rfl⟩:=r
  cases (show T="int" from ty)
  exact ⟨typeIs_int s i t,fun _ e=>nomatch e⟩
 | ref p =>
  cases r
  rcases ty with ⟨rfl,xs,hq⟩ | ⟨rfl,o,hk,hc,hd⟩ | ⟨rfl,hk⟩ | ⟨rfl,S,n,hk⟩
  ·obtain ⟨its,_,pl,_⟩:=I.list hq
   refine ⟨pl.isList.typeIs,fun a e=>?_⟩
   cases e
   obtain ⟨o,n,e,c,hd,_⟩:=pl
   exact ⟨o,e,hd⟩
  ·refine ⟨⟨o,I.kIn p o hk,hc⟩,fun a e=>?_⟩
   cases e
   exact ⟨o,I.kIn _ o hk,hd⟩
  ·have z:∃ o,s.heap.get? p=some o∧o.ExactDict:=by
    rcases hk with ⟨kvs,hk⟩ | ⟨kvs,hk⟩
    ·obtain ⟨_,_,_,_,o,_,_,e,ex,_⟩:=I.hok p _ hk
     exact ⟨o,e,ex⟩
    ·obtain ⟨_,_,_,_,o,_,_,e,ex,_⟩:=I.hok p _ hk
     exact ⟨o,e,ex⟩
   obtain ⟨o,e,ex⟩:=z
   refine ⟨⟨o,e,ex.1⟩,fun a e2=>?_⟩
   cases e2
   exact ⟨o,e,ex.2.1⟩
  ·obtain ⟨o,_,_,_,e,ex,_⟩:=I.hok p _ hk
   refine ⟨⟨o,e,ex.1⟩,fun a e2=>?_⟩
   cases e2
   exact ⟨o,e,ex.2.1⟩
 | _=>exact False.elim ty
def tBM0 (K:W.Frag) (T:String) (r:V→List V→Hp→VK→Prop) (to:TE):TE:=fun σ H Q=>to σ H fun x H1=>tyV K T x H1∧r x [] H1 Q
def tBM (K:W.Frag) (T:String) (r:V→List V→Hp→VK→Prop) (to:TE) (t:TA):TE:=fun σ H Q=>to σ H fun x H1=>tyV K T x H1∧t σ H1 fun xs H2=>r x xs H2 Q
variable {o e:Expr} {es:List Expr} {to:TE} {t:TA} {name:Str} {apos cpos:Pos} {T id:String} {r:V→List V→Hp→VK→Prop}
theorem pe_bm0 (pa:PlainAttrs T) (slot:Slot T name id) (hty:typeOf (.builtin id)=pure (.type "method_descriptor")) (hm:MtR X id r) (ho:PE X o to)
  (hbase:attributeBase o name X.env (eval o X.env)=eval o X.env:=by rfl) (hline:(apos.endLine == cpos.line)=true:=by rfl):PE X (.Call (.Attribute o name apos) [] [] cpos) (tBM0 X.K T r to):=by
 intro pins s σ H Q I h
 refine wpAny_Call_method0_late hbase hline (thn (ho pins s σ H _ I h) fun v s1 ⟨x,H1,I1,r1,ty,q1⟩=>?_)
 obtain ⟨h1,h2⟩:=tyV_is I1 r1 ty
 exact ⟨T,id,pa,slot,hty,h1,h2,Calls.callWith_builtin rfl (PySem.evalArgs_none (hm pins s1 σ H1 x [] v [] Q I1 r1 .nil q1))⟩
theorem pe_bm (pa:PlainAttrs T) (slot:Slot T name id) (hty:typeOf (.builtin id)=pure (.type "method_descriptor")) (hm:MtR X id r) (ho:PE X o to) (ha:PA X (e :: es) t)
  (hbase:attributeBase o name X.env (eval o X.env)=eval o X.env:=by rfl)
  (hfew:((backTo cpos (starEach (e :: es) X.env)).all (fun x=>!x.1)&&(backToKw cpos (keywordEach [] X.env)).all (fun x=>x.1.isSome)
   && decide ((e :: es).length + ([]:List Keyword).length + (if ([]:List Keyword).isEmpty then 0 else 1)<30))=true:=by rfl)
  (hline:(apos.endLine == cpos.line)=true:=by rfl) (hs:starEach (e :: es) X.env=(false,eval e X.env):: starEach es X.env:=by rfl) (hplain:(backTo cpos (starEach es X.env)).any (·.1)=false:=by rfl):
  PE X (.Call (.Attribute o name apos) (e :: es) [] cpos) (tBM X.K T r to t):=by
 intro pins s σ H Q I h
 refine wpAny_Call_method_late hbase hfew hline rfl (thn (ho pins s σ H _ I h) fun v s1 ⟨x,H1,I1,r1,ty,q1⟩=>?_)
 obtain ⟨h1,h2⟩:=tyV_is I1 r1 ty
 refine ⟨T,id,pa,slot,hty,h1,h2,?_⟩
 have hA:=ha cpos pins s1 σ H1 _ I1 q1
 rw [hs] at hA ⊢
 refine Calls.callWith_builtin (by show (false || (backTo cpos (starEach es X.env)).any (·.1))=false;rw [hplain] <;> rfl) (Calls.evalArgs_plain ?_)
 exact thn hA fun us s2 ⟨vs,H2,I2,r2,q2⟩=>hm pins s2 σ H2 x vs v us Q I2 r1 r2 q2
end
end L2
namespace L2
open PySem PySem.Spec PyProof.Rows
def MtM (X:Cx) (id:String) (r:V→List V→Hp→VK→Prop):Prop :=
 ∀ (pins:List (Addr×Obj)) (s:Shared) (σ:St) (H:Hp) (x:V) (xs:List V) (v:Value) (us:List Value) (Q:VK),Inv X pins σ H s→RelV x v→Vals xs us→r x xs H Q →
  wpAny (model X.prog X.w) X.A (call (.builtin id) (v :: us)) (EP X pins σ Q) X.xe s
theorem Vals.one:∀ {x:V}{us:List Value},Vals [x] us→∃ u,us=[u]∧RelV x u
 | _,_,.cons r .nil=>⟨_,rfl,r⟩
theorem Vals.zero:∀ {us:List Value},Vals [] us→us=[]
 | _,.nil=>rfl
theorem Vals.dropLast {xs:List V}{us:List Value}(h:Vals xs us):Vals xs.dropLast us.dropLast:=by
 induction h with
 | nil=>exact .nil
 | cons r t ih =>
  cases t with
  | nil=>exact .nil
  | cons q t'=>exact .cons r ih
theorem Vals.eraseIdx:∀ {xs:List V}{us:List Value}(i:Nat),Vals xs us→Vals (xs.eraseIdx i) (us.eraseIdx i)
 | _,_,_,.nil=>.nil
 | _,_,0,.cons _ t=>t
 | _,_,i + 1,.cons r t=>.cons r (Vals.eraseIdx i t)
theorem erase_last {α:Type}(l:List α):l.eraseIdx (l.length - 1)=l.dropLast:=by
 induction l with
 | nil=>rfl
 | cons a r ih =>
  cases r with
  | nil=>rfl
  | cons b r =>
   have e:(a :: b :: r).length - 1=((b :: r).length - 1) + 1:=by
    have h1:(a :: b :: r).length=r.length + 2:=rfl
    have h2:(b :: r).length=r.length + 1:=rfl
    omega
   rw [e,List.eraseIdx_cons_succ,ih]
   all_goals rfl
theorem len_erase {α:Type}:∀ (l:List α) (i:Nat),(l.eraseIdx i).length≤l.length
 | [],_=>Nat.le_refl _
 | _ :: _,0=>Nat.le_succ _
 | _ :: r,i + 1=>Nat.succ_le_succ (len_erase r i)
section
variable {X:Cx} {pins:List (Addr×Obj)} {σ:St} {H:Hp} {s:Shared} {l b:Addr} {xs ys zs:List V}
theorem Inv.lset {its its':List Value}{n:Nat}{f:Array Value→Array Value}{t':Nat}(I:Inv X pins σ H s) (hH:H l=some (.lst xs))
  (e:s.heap.get? l=some { cls:=.type "list",data:=.seq its.toArray n }) (hf:f its.toArray=its'.toArray) (hv:Vals ys its') (hz:ys.length≤sizeLine):
  Inv X pins σ (upd H l (.lst ys)) { s with heap:=s.heap.update l (Obj.mapSeq f),toks:=t' }:=by
 have q:=PySem.IsL.update e f
 rw [hf] at q
 refine I.write (x:=l) (e:=l) (by rw [hH];exact trivial) (.inl rfl) (fun b' u hb hu=>(Heap.get?_update_other s.heap (Obj.mapSeq f) (Ne.symm hb)).trans hu) ⟨_,q⟩ ?_
 exact ⟨hz,its',_,hv,q⟩
theorem Inv.lnew {its:List Value}{t':Nat}(I:Inv X pins σ H s) (hv:Vals ys its) (hz:ys.length≤sizeLine):
  Inv X pins σ (upd H s.heap.objs.size (.lst ys)) { s with heap:=s.heap.push { cls:=.type "list",data:=.seq its.toArray },toks:=t' } :=
 I.laid (fun _ _ q=>Heap.get?_push_of_some _ q) (Nat.le_refl _) ⟨hz,its,0,hv,Heap.get?_push_size _ rfl⟩
theorem Inv.fresh (I:Inv X pins σ H s):H s.heap.objs.size=none:=I.hok.fresh (Nat.le_refl _)
theorem Inv.lstM (I:Inv X pins σ H s) (hH:H l=some (.lst xs)):xs.length≤sizeLine∧∃ (its:List Value) (n:Nat),Vals xs its∧xs.length=its.length∧s.heap.get? l=some { cls:=.type "list",data:=.seq its.toArray n }:=by
 obtain ⟨z,its,n,r,e⟩:=I.hok l _ hH
 exact ⟨z,its,n,r,r.length,e⟩
end
section
variable {X:Cx}
def rAppend:V→List V→Hp→VK→Prop:=fun x vs H Q=>∃ l xs y,x=.ref l∧vs=[y]∧H l=some (.lst xs)∧xs.length<sizeLine∧Q .non (upd H l (.lst (xs++[y])))
theorem mt_append:MtM X "list.append" rAppend:=by
 intro pins s σ H x vs v us Q I rx rv h
 obtain ⟨l,xs,y,rfl,rfl,hH,hz,q⟩:=h
 cases rx
 obtain ⟨u,rfl,ru⟩:=rv.one
 obtain ⟨z,its,n,r,hl,e⟩:=I.lstM hH
 refine call_meets F.slot_list_append ⟨_,e,rfl⟩ F.entry_list_append (F.args_list_append_2 _ _) (PySem.list_append l its.toArray n u (by rw [List.size_toArray];omega)) ⟨e,?_⟩
 refine ⟨.non,_,I.lset (its':=its++[u]) hH e (by simp) (r.append (.cons ru .nil)) ?_,rfl,q⟩
 rw [List.length_append,List.length_singleton]
 omega
def rPop:V→List V→Hp→VK→Prop:=fun x vs H Q=>∃ l xs y,x=.ref l∧vs=[]∧H l=some (.lst xs)∧xs[xs.length - 1]?=some y∧Q y (upd H l (.lst xs.dropLast))
theorem mt_pop:MtM X "list.pop" rPop:=by
 intro pins s σ H x vs v us Q I rx rv h
 obtain ⟨l,xs,y,rfl,rfl,hH,hy,q⟩:=h
 cases rx
 have hus:=rv.zero
 subst hus
 obtain ⟨z,its,n,r,hl,e⟩:=I.lstM hH
 obtain ⟨u,hu,ru⟩:=r.get hy
 have hy':its.toArray[its.toArray.size - 1]?=some u:=by
  show its.toArray[its.length - 1]?=some u
  rw [← Array.getElem?_toList,← hl]
  exact hu
 refine call_meets F.slot_list_pop ⟨_,e,rfl⟩ F.entry_list_pop (F.args_list_pop_1 _) (MeetsSeq.list_pop_last l its.toArray n u hy' (by rw [List.size_toArray];omega)) ⟨e,?_⟩
 refine ⟨y,_,I.lset (its':=its.dropLast) hH e ?_ r.dropLast ?_,ru,q⟩
 ·show its.toArray.eraseIdxIfInBounds (its.toArray.size - 1)=its.dropLast.toArray
  rw [List.size_toArray,List.eraseIdxIfInBounds_toArray,erase_last]
 ·rw [List.length_dropLast]
  omega
def rPopAt:V→List V→Hp→VK→Prop:=fun x vs H Q=>∃ l xs i k y,x=.ref l∧vs=[.int i]∧H l=some (.lst xs)∧-(2 ^ 63)≤i∧i<2 ^ 63∧seqIndex? i xs.length=some k∧xs[k]?=some y∧Q y (upd H l (.lst (xs.eraseIdx k)))
theorem mt_popAt:MtM X "list.pop" rPopAt:=by
 intro pins s σ H x vs v us Q I rx rv h
 obtain ⟨l,xs,i,k,y,rfl,rfl,hH,h1,h2,hk,hy,q⟩:=h
 cases rx
 obtain ⟨u,rfl,ru⟩:=rv.one
 obtain ⟨t,rfl⟩:=ru
 obtain ⟨z,its,n,r,hl,e⟩:=I.lstM hH
 obtain ⟨w,hw,rw'⟩:=r.get hy
 refine call_meets F.slot_list_pop ⟨_,e,rfl⟩ F.entry_list_pop (F.args_list_pop_2 _ _)
  (MeetsSeq.list_pop_at l its.toArray n i t k w (fitsIndex_both h1 h2) (by rw [List.size_toArray,← hl];exact hk) (by rw [← Array.getElem?_toList];exact hw) (by rw [List.size_toArray];omega)) ⟨e,?_⟩
 refine ⟨y,_,I.lset (its':=its.eraseIdx k) hH e ?_ (r.eraseIdx k) ?_,rw',q⟩
 ·show its.toArray.eraseIdxIfInBounds k=(its.eraseIdx k).toArray
  rw [List.eraseIdxIfInBounds_toArray]
 ·have:=len_erase xs k
  omega
def rCat:R2:=fun x y H Q=>∃ l b xs zs,x=.ref l∧y=.ref b∧H l=some (.lst xs)∧H b=some (.lst zs)∧xs.length + zs.length≤sizeLine∧∀ p,H p=none→Q (.ref p) (upd H p (.lst (xs++zs)))
theorem op_cat:OpR X (binaryOp .Add) rCat:=by
 intro pins s σ H x y v u Q I rx ry h
 obtain ⟨l,b,xs,zs,rfl,rfl,hH,hB,hz,q⟩:=h
 cases rx
 cases ry
 obtain ⟨z,its,n,r,hl,e⟩:=I.lstM hH
 obtain ⟨z2,its2,n2,r2,hl2,e2⟩:=I.lstM hB
 refine PySem.P.add_list e e2 ?_ (by rw [List.size_toArray,List.size_toArray];omega)
 have ea:its.toArray++its2.toArray=(its++its2).toArray:=by simp
 rw [ea]
 exact ⟨.ref _,_,I.lnew (t':=s.toks) (r.append r2) (by rw [List.length_append];omega),rfl,q _ I.fresh⟩
end
section
variable {prog:Program} {w:World} {A:Around} {E:Value→Shared→Prop} {s:Shared}
end
section
variable {X:Cx}
end
end L2
namespace L2
open PySem PySem.Spec PyProof.Rows
section
variable {κ:Type} [DecidableEq κ]
def valV (kvs:List (κ×V)) (k:κ):Option V:=(kvs.find? fun kv=>decide (kv.1=k)).map (·.2)
def putK (kvs:List (κ×V)) (k:κ) (v:V):List (κ×V):=
 if (kvs.any fun kv=>decide (kv.1=k))=true then kvs.map (fun kv=>if kv.1=k then (kv.1,v) else kv) else kvs++[(k,v)]
theorem valV_pos {p:κ×V}{r:List (κ×V)}{k:κ}(e:p.1=k):valV (p :: r) k=some p.2:=by simp [valV,List.find?_cons,e]
theorem valV_neg {p:κ×V}{r:List (κ×V)}{k:κ}(e:¬ p.1=k):valV (p :: r) k=valV r k:=by simp [valV,List.find?_cons,e]
theorem valV_any (k:κ):∀ kvs:List (κ×V),(kvs.any fun kv=>decide (kv.1=k))=(valV kvs k).isSome
 | []=>rfl
 | p :: r=>by
  rw [List.any_cons]
  by_cases e:p.1=k
  ·simp only [valV_pos e,decide_eq_true e,Bool.true_or,Option.isSome_some]
  ·rw [valV_neg e,decide_eq_false e,Bool.false_or];exact valV_any k r
theorem valV_map (k j:κ) (y:V):∀ kvs:List (κ×V),valV (kvs.map fun kv=>if kv.1=k then (kv.1,y) else kv) j=(valV kvs j).map fun x=>if j=k then y else x
 | []=>rfl
 | p :: r=>by
  have ih:=valV_map k j y r
  rw [List.map_cons]
  by_cases h:p.1=k
  ·rw [if_pos h]
   by_cases e:p.1=j
   ·rw [valV_pos (p:=(p.1,y)) e,valV_pos e,Option.map_some,if_pos (e.symm.trans h)]
   ·rw [valV_neg (p:=(p.1,y)) e,valV_neg e,ih]
  ·rw [if_neg h]
   by_cases e:p.1=j
   ·rw [valV_pos (p:=p) e,valV_pos e,Option.map_some,if_neg (fun z=>h (e.trans z))]
   ·rw [valV_neg (p:=p) e,valV_neg e,ih]
theorem valV_snoc (k j:κ) (y:V):∀ kvs:List (κ×V),valV kvs k=none→valV (kvs++[(k,y)]) j=if j=k then some y else valV kvs j
 | [],_=>by
  by_cases e:k=j
  ·rw [if_pos e.symm];exact valV_pos (p:=(k,y)) e
  ·rw [if_neg (fun z=>e z.symm)];exact valV_neg (p:=(k,y)) e
 | p :: r,hn=>by
  rw [List.cons_append]
  have hk:¬ p.1=k:=fun z=>by rw [valV_pos z] at hn;cases hn
  rw [valV_neg hk] at hn
  have ih:=valV_snoc k j y r hn
  by_cases e:p.1=j
  ·rw [valV_pos e,valV_pos e,if_neg (fun z=>hk (e.trans z))]
  ·rw [valV_neg e,valV_neg e,ih]
theorem valV_put (kvs:List (κ×V)) (k j:κ) (y:V):valV (putK kvs k y) j=if j=k then some y else valV kvs j:=by
 unfold putK
 by_cases a:(kvs.any fun kv=>decide (kv.1=k))=true
 ·rw [if_pos a,valV_map]
  rw [valV_any] at a
  by_cases e:j=k
  ·obtain ⟨x,hx⟩:=Option.isSome_iff_exists.mp a
   rw [if_pos e,e,hx,Option.map_some,if_pos rfl]
  ·rw [if_neg e]
   cases valV kvs j with
   | none=>rfl
   | some x=>rw [Option.map_some,if_neg e]
 ·rw [if_neg a]
  refine valV_snoc k j y kvs ?_
  rw [valV_any] at a
  cases q:valV kvs k with
  | none=>rfl
  | some x=>rw [q] at a;exact (a rfl).elim
theorem length_putK (kvs:List (κ×V)) (k:κ) (v:V):(putK kvs k v).length≤kvs.length + 1:=by
 unfold putK
 split
 ·rw [List.length_map];omega
 ·rw [List.length_append,List.length_cons,List.length_nil];omega
theorem putK_new {kvs:List (κ×V)}{k:κ}(v:V) (h:valV kvs k=none):putK kvs k v=kvs++[(k,v)]:=by
 unfold putK
 rw [valV_any,h]
 exact if_neg (by decide)
theorem RelO.isSome_eq {o:Option V}{u:Option Value}(r:RelO o u):o.isSome=u.isSome:=by
 cases o with
 | none=>cases u with
  | none=>rfl
  | some _=>exact (show False from r).elim
 | some _=>cases u with
  | none=>exact (show False from r).elim
  | some _=>rfl
theorem KV.val {kvs:List (κ×V)}{vs:List (κ×Value)}(r:KV kvs vs) (k:κ):RelO (valV kvs k) (valueAt vs k):=by
 unfold KV at r
 induction r with
 | nil=>exact True.intro
 | @cons p q ps qs h t ih =>
  obtain ⟨h1,h2⟩:=h
  by_cases e:p.1=k
  ·have e':q.1=k:=h1.symm.trans e
   have b:valueAt (q :: qs) k=some q.2:=by simp [valueAt,List.find?_cons,e']
   rw [valV_pos e,b];exact h2
  ·have e':¬ q.1=k:=fun z=>e (h1.trans z)
   have b:valueAt (q :: qs) k=valueAt qs k:=by simp [valueAt,List.find?_cons,e']
   rw [valV_neg e,b];exact ih
theorem KV.any {kvs:List (κ×V)}{vs:List (κ×Value)}(r:KV kvs vs) (k:κ):(kvs.any fun kv=>decide (kv.1=k))=vs.any fun kv=>decide (kv.1=k):=by
 unfold KV at r
 induction r with
 | nil=>rfl
 | cons h t ih=>rw [List.any_cons,List.any_cons,ih,h.1]
theorem KV.repl {kvs:List (κ×V)}{vs:List (κ×Value)}(r:KV kvs vs) (k:κ) {y:V}{u:Value}(ry:RelV y u):
  KV (kvs.map fun kv=>if kv.1=k then (kv.1,y) else kv) (vs.map fun kv=>if kv.1=k then (kv.1,u) else kv):=by
 unfold KV at r ⊢
 induction r with
 | nil=>exact .nil
 | @cons p q ps qs h t ih =>
  rw [List.map_cons,List.map_cons]
  refine .cons ?_ ih
  obtain ⟨h1,h2⟩:=h
  by_cases e:p.1=k
  ·rw [if_pos e,if_pos (h1.symm.trans e)];exact ⟨h1,ry⟩
  ·rw [if_neg e,if_neg (fun z=>e (h1.trans z))];exact ⟨h1,h2⟩
theorem KV.put {kvs:List (κ×V)}{vs:List (κ×Value)}(r:KV kvs vs) (k:κ) {y:V}{u:Value}(ry:RelV y u):KV (putK kvs k y) (stored vs k u):=by
 unfold putK stored
 rw [r.any k]
 by_cases e:(vs.any fun kv=>decide (kv.1=k))=true
 ·rw [if_pos e,if_pos e];exact r.repl k ry
 ·rw [if_neg e,if_neg e];exact Paired.snoc r ⟨rfl,ry⟩
theorem KV.length {kvs:List (κ×V)}{vs:List (κ×Value)}(r:KV kvs vs):kvs.length=vs.length:=Paired.length r
end
theorem kV_is {P:Program}{w:World}{k:Key}{u:Value}(r:RelV (kV k) u):(mixKind P w).is k u=true:=by
 cases k with
 | inl i=>obtain ⟨t,e⟩:=(show ∃ t,u=Value.int i t from r);subst e;exact mixKind_int P w i t
 | inr x=>obtain ⟨t,e⟩:=(show ∃ t,u=Value.str x t from r);subst e;exact mixKind_str P w x t
theorem items_are {P:Program}{w:World}:∀ {ks:List Key}{us:List Value},Vals (ks.map kV) us→ItemsAre (mixKind P w) ks us
 | [],_,r=>by rw [List.map_nil] at r;cases r;exact .nil
 | k :: ks,_,r=>by
  rw [List.map_cons] at r
  cases r with
  | cons h t=>exact .cons (kV_is h) (items_are t)
abbrev KT (H:Hp):List (List Key×V)→List (List Key×Addr×Value)→Prop:=Paired fun p q=>p.1=q.1∧H q.2.1=some (.tup (p.1.map kV))∧RelV p.2 q.2.2
theorem KT.val {H:Hp}{kvs:List (List Key×V)}{xs:List (List Key×Addr×Value)}(r:KT H kvs xs) (k:List Key):RelO (valV kvs k) ((atKey xs k).map (·.2)):=by
 induction r with
 | nil=>exact True.intro
 | @cons p q ps qs h t ih =>
  obtain ⟨h1,_,h2⟩:=h
  by_cases e:p.1=k
  ·have e':q.1=k:=h1.symm.trans e
   have b:atKey (q :: qs) k=some q.2:=by simp [atKey,List.find?_cons,e']
   rw [valV_pos e,b];exact h2
  ·have e':¬ q.1=k:=fun z=>e (h1.trans z)
   have b:atKey (q :: qs) k=atKey qs k:=by simp [atKey,List.find?_cons,e']
   rw [valV_neg e,b];exact ih
theorem KT.repl {H:Hp}{kvs:List (List Key×V)}{xs:List (List Key×Addr×Value)}(r:KT H kvs xs) (k:List Key) {y:V}{u:Value}(ry:RelV y u):
  KT H (kvs.map fun kv=>if kv.1=k then (kv.1,y) else kv) (xs.map (putAt k u)):=by
 induction r with
 | nil=>exact .nil
 | @cons p q ps qs h t ih =>
  rw [List.map_cons,List.map_cons]
  refine .cons ?_ ih
  obtain ⟨h1,h2,h3⟩:=h
  unfold putAt
  by_cases e:p.1=k
  ·rw [if_pos e,if_pos (h1.symm.trans e)];exact ⟨h1,h2,ry⟩
  ·rw [if_neg e,if_neg (fun z=>e (h1.trans z))];exact ⟨h1,h2,h3⟩
theorem KT.put {H:Hp}{kvs:List (List Key×V)}{xs:List (List Key×Addr×Value)}(r:KT H kvs xs) (k:List Key) {b:Addr}{y:V}{u:Value}(hb:H b=some (.tup (k.map kV))) (ry:RelV y u):
  KT H (putK kvs k y) (storedH xs k b u):=by
 have e:(kvs.any fun kv=>decide (kv.1=k))=(atKey xs k).isSome:=by
  rw [valV_any,(r.val k).isSome_eq,Option.isSome_map]
 unfold putK storedH
 rw [e]
 by_cases q:(atKey xs k).isSome=true
 ·rw [if_pos q,if_pos q];exact r.repl k ry
 ·rw [if_neg q,if_neg q];exact Paired.snoc r ⟨rfl,hb,ry⟩
theorem KT.keeps {H H':Hp}{kvs:List (List Key×V)}{xs:List (List Key×Addr×Value)}(r:KT H kvs xs) (ht:∀ b ys,H b=some (.tup ys)→H' b=some (.tup ys)):KT H' kvs xs :=
 Paired.mapP r fun _ _ z=>⟨z.1,ht _ _ z.2.1,z.2.2⟩
section
variable {P:Program} {w:World} {H:Hp} {h:Heap} {a:Addr}
theorem rd_of {u:HO}(ok:HOk P w H h) (e:Rd H a u):ObjOk P w H h a u:=e.ok ok
theorem dk_rd {kvs:List (Key×V)}(ok:HOk P w H h) (e:Rd H a (.dK kvs)):kvs.length≤sizeLine∧(a == sysModules)=false∧∃ vs,KV kvs vs∧h.DictOf (mixKind P w) a vs :=
 show ObjOk P w H h a (.dK kvs) from rd_of ok e
theorem dk_of {kvs:List (Key×V)}(ok:HOk P w H h) (e:H a=some (.dK kvs)):kvs.length≤sizeLine∧(a == sysModules)=false∧∃ vs,KV kvs vs∧h.DictOf (mixKind P w) a vs:=dk_rd ok (.inl e)
theorem key_of {ks:List Key}(ok:HOk P w H h) (e:H a=some (.tup (ks.map kV))):(tupleKind (mixKind P w)).is h ks a:=by
 obtain ⟨_,its,r,o,h1,h2,n,h3⟩:=(show ObjOk P w H h a (.tup (ks.map kV)) from ok a _ e)
 exact ⟨o,its.toArray,n,h1,h2,h3,by simpa using items_are r⟩
theorem dt_rd {kvs:List (List Key×V)}(ok:HOk P w H h) (e:Rd H a (.dT kvs)):kvs.length≤sizeLine∧(a == sysModules)=false ∧
  ∃ xs,KT H kvs xs∧h.DictOfH (tupleKind (mixKind P w)) a xs:=by
 obtain ⟨z,y,xs,r,o,es,ep,h1,h2,h3,h4,h5⟩:=(show ObjOk P w H h a (.dT kvs) from rd_of ok e)
 refine ⟨z,y,xs,r,o,es,ep,h1,h2,h3,h4,fun x hx=>?_,h5⟩
 have all:∀ {l:List (List Key×V)} {m:List (List Key×Addr×Value)},KT H l m→∀ x∈m,(tupleKind (mixKind P w)).is h x.1 x.2.1:=by
  intro l m q
  induction q with
  | nil=>intro x hx;exact nomatch hx
  | @cons p q ps qs hq t ih =>
   intro x hx
   rcases List.mem_cons.mp hx with e | hx
   ·subst e
    exact key_of ok (by rw [← hq.1];exact hq.2.1)
   ·exact ih x hx
 exact all r x hx
theorem dt_of {kvs:List (List Key×V)}(ok:HOk P w H h) (e:H a=some (.dT kvs)):kvs.length≤sizeLine∧(a == sysModules)=false ∧
  ∃ xs,KT H kvs xs∧h.DictOfH (tupleKind (mixKind P w)) a xs:=dt_rd ok (.inl e)
end
def DGet (H:Hp) (a:Addr) (y:V) (r:Option V):Prop :=
 (∃ kvs k,Rd H a (.dK kvs)∧y=kV k∧r=valV kvs k)∨∃ kvs k b,Rd H a (.dT kvs)∧y=.ref b∧H b=some (.tup (k.map kV))∧r=valV kvs k
def DPut (H:Hp) (a:Addr) (y v:V) (H':Hp):Prop :=
 (∃ kvs k,H a=some (.dK kvs)∧y=kV k∧kvs.length<sizeLine∧H'=upd H a (.dK (putK kvs k v))) ∨
 ∃ kvs k b,H a=some (.dT kvs)∧y=.ref b∧H b=some (.tup (k.map kV))∧kvs.length<sizeLine∧H'=upd H a (.dT (putK kvs k v))
theorem DGet.k {H:Hp}{a:Addr}{kvs:List (Key×V)}{k:Key}(e:H a=some (.dK kvs)):DGet H a (kV k) (valV kvs k):=.inl ⟨kvs,k,.inl e,rfl,rfl⟩
theorem DGet.t {H:Hp}{a b:Addr}{kvs:List (List Key×V)}{k:List Key}(e:H a=some (.dT kvs)) (eb:H b=some (.tup (k.map kV))):DGet H a (.ref b) (valV kvs k):=.inr ⟨kvs,k,b,.inl e,rfl,eb,rfl⟩
theorem DPut.k {H:Hp}{a:Addr}{kvs:List (Key×V)}{k:Key}{v:V}(e:H a=some (.dK kvs)) (hl:kvs.length<sizeLine):DPut H a (kV k) v (upd H a (.dK (putK kvs k v))):=.inl ⟨kvs,k,e,rfl,hl,rfl⟩
theorem DPut.t {H:Hp}{a b:Addr}{kvs:List (List Key×V)}{k:List Key}{v:V}(e:H a=some (.dT kvs)) (eb:H b=some (.tup (k.map kV))) (hl:kvs.length<sizeLine):
  DPut H a (.ref b) v (upd H a (.dT (putK kvs k v))):=.inr ⟨kvs,k,b,e,rfl,eb,hl,rfl⟩
section
variable {X:Cx} {pins:List (Addr×Obj)} {σ:St} {H:Hp} {s:Shared} {a:Addr} {y v:V} {u r:Value} {o:Option V} {A:Around} {E:Value→Shared→Prop}
theorem Inv.big (I:Inv X pins σ H s):sysModules<s.heap.objs.size:=by
 have h:mainGlobals<s.heap.objs.size:=(I.mod.glob.keeps I.bk).lt
 exact Nat.lt_trans (by decide) h
theorem d_getItem {Q:Value→Shared→Prop}(hu:A.units + 1<cLine) (I:Inv X pins σ H s) (g:DGet H a y (some v)) (ry:RelV y u) (h:∀ w' s',Inv X pins σ H s'→RelV v w'→Q w' s'):
  wpAny (model X.prog X.w) A (getItem (.ref a) u) Q E s:=by
 rcases g with ⟨kvs,k,e,ey,l⟩ | ⟨kvs,k,b,e,ey,eb,l⟩
 ·subst ey
  obtain ⟨z,hd,vs,rel,dd⟩:=dk_rd I.hok e
  obtain ⟨w',hw,rw'⟩:=RelO.some_of (v:=v) (o:=valueAt vs k) (by rw [l];exact rel.val k)
  exact wpAny_getItem_of (kV_is ry) dd.mapOf hw (h w' _ (I.tok _) rw')
 ·subst ey
  cases (show u=Value.ref b from ry)
  obtain ⟨z,hd,xs,rel,dd⟩:=dt_rd I.hok e
  obtain ⟨w',hw,rw'⟩:=RelO.some_of (v:=v) (o:=(atKey xs k).map (·.2)) (by rw [l];exact rel.val k)
  obtain ⟨p,hp,hp2⟩:=Option.map_eq_some_iff.mp hw
  refine wpAny_getItem_heap (tupleKind_room_in1 hu) (key_of I.hok eb) dd hp ?_
  rw [hp2]
  exact h w' _ (I.tok _) rw'
theorem d_in {Q:Value→Shared→Prop}(hu:A.units + 1<cLine) (I:Inv X pins σ H s) (g:DGet H a y o) (ry:RelV y u) (h:∀ s',Inv X pins σ H s'→Q (.bool o.isSome) s'):
  wpAny (model X.prog X.w) A (compareOp .In u (.ref a)) Q E s:=by
 rcases g with ⟨kvs,k,e,ey,l⟩ | ⟨kvs,k,b,e,ey,eb,l⟩
 ·subst ey
  obtain ⟨z,hd,vs,rel,dd⟩:=dk_rd I.hok e
  refine wpAny_in_of (kV_is ry) hd dd.mapOf ?_
  rw [← (rel.val k).isSome_eq,← l]
  exact h _ (I.tok _)
 ·subst ey
  cases (show u=Value.ref b from ry)
  obtain ⟨z,hd,xs,rel,dd⟩:=dt_rd I.hok e
  refine wpAny_in_heap (tupleKind_room_in1 hu) (key_of I.hok eb) hd dd ?_
  have q:=(rel.val k).isSome_eq
  rw [Option.isSome_map] at q
  rw [← q,← l]
  exact h _ (I.tok _)
theorem d_notIn {Q:Value→Shared→Prop}(hu:A.units + 1<cLine) (I:Inv X pins σ H s) (g:DGet H a y o) (ry:RelV y u) (h:∀ s',Inv X pins σ H s'→Q (.bool (!o.isSome)) s'):
  wpAny (model X.prog X.w) A (compareOp .NotIn u (.ref a)) Q E s:=by
 rcases g with ⟨kvs,k,e,ey,l⟩ | ⟨kvs,k,b,e,ey,eb,l⟩
 ·subst ey
  obtain ⟨z,hd,vs,rel,dd⟩:=dk_rd I.hok e
  refine wpAny_notIn_of (kV_is ry) hd dd.mapOf ?_
  rw [← (rel.val k).isSome_eq,← l]
  exact h _ (I.tok _)
 ·subst ey
  cases (show u=Value.ref b from ry)
  obtain ⟨z,hd,xs,rel,dd⟩:=dt_rd I.hok e
  refine wpAny_notIn_heap (tupleKind_room_in1 hu) (key_of I.hok eb) hd dd ?_
  have q:=(rel.val k).isSome_eq
  rw [Option.isSome_map] at q
  rw [← q,← l]
  exact h _ (I.tok _)
theorem d_write {h':Heap}{t':Nat}{ob:HO}(I:Inv X pins σ H s) (mu:Mut (H a)) (hs:Heap.SameBut a s.heap h') (he:∃ q,h'.get? a=some q) (new:ObjOk X.prog X.w (upd H a ob) h' a ob):
  Inv X pins σ (upd H a ob) { s with heap:=h',toks:=t' } :=
 I.write (x:=a) (e:=a) mu (.inl rfl) (fun b q hb z=>(hs.2 b hb).trans z) he new
theorem dk_new {P:Program}{w:World}{H':Hp}{h':Heap}{kvs:List (Key×V)}{vs:List (Key×Value)}(z:kvs.length≤sizeLine) (hd:(a == sysModules)=false) (rel:KV kvs vs) (dd:h'.DictOf (mixKind P w) a vs):
  ObjOk P w H' h' a (.dK kvs):=⟨z,hd,vs,rel,dd⟩
theorem d_setItem {H':Hp}{Q:Unit→Shared→Prop}(hu:A.units + 1<cLine) (I:Inv X pins σ H s) (g:DPut H a y v H') (ry:RelV y u) (rv:RelV v r) (h:∀ s',Inv X pins σ H' s'→Q () s'):
  wpAny (model X.prog X.w) A (setItem (.ref a) u r) Q E s:=by
 rcases g with ⟨kvs,k,e,ey,l,eH⟩ | ⟨kvs,k,b,e,ey,eb,l,eH⟩
 ·subst ey eH
  obtain ⟨z,hd,vs,rel,dd⟩:=dk_of I.hok e
  have hz:vs.length≤sizeLine:=by rw [← rel.length];exact z
  have hl:(putK kvs k v).length≤sizeLine:=by have:=length_putK kvs k v;omega
  refine wpAny_setItem_pairs (hsz:=hz) (kV_is ry) dd fun h' dd' hs=>h _ ?_
  have he:∃ q,h'.get? a=some q:=let ⟨q,_,_,hq,_⟩:=dd';⟨q,hq⟩
  exact d_write I (by rw [e];exact True.intro) hs he (dk_new hl hd (rel.put k rv) dd')
 ·subst ey eH
  cases (show u=Value.ref b from ry)
  obtain ⟨z,hd,xs,rel,dd⟩:=dt_of I.hok e
  have hz:xs.length≤sizeLine:=by rw [← Paired.length rel];exact z
  have hl:(putK kvs k v).length≤sizeLine:=by have:=length_putK kvs k v;omega
  refine wpAny_setItem_heap (hsz:=hz) (tupleKind_room_in1 hu) (key_of I.hok eb) dd fun h' dd' hs=>h _ ?_
  obtain ⟨q,es,ep,hq,h2,h3,h4,_,h5⟩:=dd'
  refine d_write I (by rw [e];exact True.intro) hs ⟨q,hq⟩ ⟨hl,hd,_,(rel.put k eb rv).keeps fun c ys ec=>?_,q,es,ep,hq,h2,h3,h4,h5⟩
  rw [upd_ne (ne_of ec e (fun z=>nomatch z))]
  exact ec
end
section
variable {X:Cx} {pins:List (Addr×Obj)} {σ:St} {H:Hp} {s:Shared} {a:Addr} {kvs:List (Key×V)} {k:Key} {u:Value} {A:Around} {E:Value→Shared→Prop}
end
def NoSl (i:Expr):Prop:=∀ ov iv,subscripted i false ov iv=operate [ov,iv] (getItem ov iv)
theorem subD_of {prog:Program}{w:World}{A:Around}{E:Value→Shared→Prop}{s:Shared}{env:Env}{value slice:Expr}{pos:Pos}{T id:String}{Q:Value→Shared→Prop}
  (hl:typeLookup (.type T) "__getitem__"=pure (some (.builtin id))) (hs:NoSl slice)
  (h:wpAny (model prog w) A (eval value env) (fun o s₁=>wpAny (model prog w) A (eval slice env) (fun i s₂=>s₂.TypeIs o T∧wpAny (model prog w) A (getItem o i) Q E s₂) E s₁) E s):
  wpAny (model prog w) A (eval (.Subscript value slice pos) env) Q E s:=by
 refine Subscript_ (wpAny_mono h (fun o s₁ h₁=>wpAny_mono h₁ (fun i s₂ h₂=>?_) fun _ _ x=>x) fun _ _ x=>x)
 obtain ⟨hT,h₂⟩:=h₂
 unfold subscriptTail
 refine wpAny_bind ?_
 rw [getitemInPython_of_ne hT.not_modules]
 refine wpAny_bind (wpAny_specialOf hT hl ?_)
 have fin:wpAny (model prog w) A (subscripted slice false o i) (fun r s₃=>wpAny (model prog w) A (letTemporaryGo value o r>>=fun _=>pure r) Q E s₃) E s₂:=by
  rw [hs o i]
  exact wpAny_operating (wpAny_mono h₂ (fun r s₃ h₃=>wpAny_bind (wpAny_letTemporaryGo (wpAny_pure h₃))) fun _ _ x=>x)
 first
  | exact wpAny_pure (wpAny_bind fin)
  | exact wpAny_bind (wpAny_pure (wpAny_bind fin))
  | exact wpAny_bind fin
theorem dict_typeIs {X:Cx}{pins:List (Addr×Obj)}{σ:St}{H:Hp}{s:Shared}{a:Addr}{y:V}{o:Option V}(I:Inv X pins σ H s) (g:DGet H a y o):s.TypeIs (.ref a) "dict":=by
 rcases g with ⟨kvs,k,e,_,_⟩ | ⟨kvs,k,b,e,_,_,_⟩
 ·obtain ⟨_,_,vs,_,dd⟩:=dk_rd I.hok e
  exact dd.typeIs
 ·obtain ⟨_,_,xs,_,dd⟩:=dt_rd I.hok e
  exact dd.typeIs
def tDGet (td ty:TE):TE:=fun σ H Q=>td σ H fun x H1=>ty σ H1 fun y H2=>∃ a v,x=.ref a∧DGet H2 a y (some v)∧Q v H2
def tDIn (ty td:TE):TE:=fun σ H Q=>ty σ H fun y H1=>td σ H1 fun x H2=>∃ a o,x=.ref a∧DGet H2 a y o∧Q (.bl o.isSome) H2
def tDNotIn (ty td:TE):TE:=fun σ H Q=>ty σ H fun y H1=>td σ H1 fun x H2=>∃ a o,x=.ref a∧DGet H2 a y o∧Q (.bl (!o.isSome)) H2
def sDPut (td ty tv:TE):TS:=fun D σ H=>tv σ H fun v H1=>td σ H1 fun x H2=>ty σ H2 fun y H3=>∃ a H4,x=.ref a∧DPut H3 a y v H4∧D.nx σ H4
section
variable {X:Cx} {o i e value:Expr} {pos pos' tpos:Pos} {td ty tv:TE}
theorem pe_dget (hu:X.A.units + 1<cLine) (ho:PE X o td) (hi:PE X i ty) (hs:NoSl i):PE X (.Subscript o i pos) (tDGet td ty):=by
 intro pins s σ H Q I h
 refine subD_of PySem.F.slot_dict_getitem.lookup hs (thn (ho pins s σ H _ I h) fun u s1 ⟨x,H1,I1,rx,q1⟩=>thn (hi pins s1 σ H1 _ I1 q1) fun iv s2 ⟨y,H2,I2,ry,a,v,ex,g,q2⟩=>?_)
 subst ex
 obtain rfl:u=Value.ref a:=rx
 exact ⟨dict_typeIs I2 g,d_getItem hu I2 g ry fun w' s3 I3 rw'=>⟨v,H2,I3,rw',q2⟩⟩
theorem pc_din (hu:X.A.units + 1<cLine) (hi:PE X i ty) (ho:PE X o td):PC X .In i o (tDIn ty td):=by
 intro pins s σ H Q I h
 refine thn (hi pins s σ H _ I h) fun iv s1 ⟨y,H1,I1,ry,q1⟩=>thn (ho pins s1 σ H1 _ I1 q1) fun u s2 ⟨x,H2,I2,rx,a,ov,ex,g,q2⟩=>?_
 subst ex
 obtain rfl:u=Value.ref a:=rx
 exact d_in hu I2 g ry fun s3 I3=>⟨.bl ov.isSome,H2,I3,rfl,q2⟩
theorem pc_dnotin (hu:X.A.units + 1<cLine) (hi:PE X i ty) (ho:PE X o td):PC X .NotIn i o (tDNotIn ty td):=by
 intro pins s σ H Q I h
 refine thn (hi pins s σ H _ I h) fun iv s1 ⟨y,H1,I1,ry,q1⟩=>thn (ho pins s1 σ H1 _ I1 q1) fun u s2 ⟨x,H2,I2,rx,a,ov,ex,g,q2⟩=>?_
 subst ex
 obtain rfl:u=Value.ref a:=rx
 exact d_notIn hu I2 g ry fun s3 I3=>⟨.bl (!ov.isSome),H2,I3,rfl,q2⟩
theorem ps_dput (hu:X.A.units + 1<cLine) (ho:PE X o td) (hi:PE X i ty) (hv:PE X value tv) (hs:swapsWith value (some (.Subscript o i pos')) pos.line X.env=pure false):
  PS X (.Assign [.Subscript o i pos'] value pos) (sDPut td ty tv):=by
 intro pins s σ H D I h
 refine wpAny_Assign_Subscript (thn (hv pins s σ H _ I h) fun r s1 ⟨v,H1,I1,rv,q1⟩=>thn (ho pins s1 σ H1 _ I1 q1) fun u s2 ⟨x,H2,I2,rx,q2⟩=>thn (hi pins s2 σ H2 _ I2 q2) fun iv s3 ⟨y,H3,I3,ry,a,H4,ex,g,q3⟩=>?_) hs
 subst ex
 obtain rfl:u=Value.ref a:=rx
 exact d_setItem hu I3 g ry rv fun s4 I4=>⟨σ,H4,I4,q3⟩
end
theorem dk_empty {P:Program}{w:World}{H:Hp}(h:Heap) (hb:sysModules<h.objs.size):ObjOk P w H (h.push { cls:=.type "dict",data:=.dict #[] }) h.objs.size (.dK []):=
 ⟨Nat.zero_le _,beq_eq_false_iff_ne.mpr (Ne.symm (Nat.ne_of_lt hb)),[],.nil,Heap.DictOf.new h⟩
theorem dt_empty {P:Program}{w:World}{H:Hp}(h:Heap) (hb:sysModules<h.objs.size):ObjOk P w H (h.push { cls:=.type "dict",data:=.dict #[] }) h.objs.size (.dT []):=
 ⟨Nat.zero_le _,beq_eq_false_iff_ne.mpr (Ne.symm (Nat.ne_of_lt hb)),[],.nil,_,#[],0,Heap.get?_push_size _ rfl,⟨rfl,rfl,rfl⟩,rfl,rfl,List.nodup_nil⟩
def tDNewK:TE:=fun _ H Q=>∀ p,H p=none→Q (.ref p) (upd H p (.dK []))
def tDNewT:TE:=fun _ H Q=>∀ p,H p=none→Q (.ref p) (upd H p (.dT []))
section
variable {X:Cx} {pos:Pos}
theorem pe_dnewK:PE X (.Dict [] [] pos) tDNewK:=fun pins s σ H Q I h =>
 wpAny_Dict_empty ⟨.ref s.heap.objs.size,_,I.laid (a:=s.heap.objs.size) (o:=.dK []) (t':=s.toks) (fun _ _ q=>Heap.get?_push_of_some _ q) (Nat.le_refl _) (dk_empty s.heap I.big),rfl,h _ (I.hok.fresh (Nat.le_refl _))⟩
theorem pe_dnewT:PE X (.Dict [] [] pos) tDNewT:=fun pins s σ H Q I h =>
 wpAny_Dict_empty ⟨.ref s.heap.objs.size,_,I.laid (a:=s.heap.objs.size) (o:=.dT []) (t':=s.toks) (fun _ _ q=>Heap.get?_push_of_some _ q) (Nat.le_refl _) (dt_empty s.heap I.big),rfl,h _ (I.hok.fresh (Nat.le_refl _))⟩
end
def tPairs:List (TE×TE)→St→Hp→(List (V×V)→Hp→Prop)→Prop
 | [],_,H,Q=>Q [] H
 | (tk,tv):: r,σ,H,Q=>tk σ H fun x H1=>tv σ H1 fun y H2=>tPairs r σ H2 fun ps H3=>Q ((x,y):: ps) H3
abbrev VV:List (V×V)→List (Value×Value)→Prop:=Paired fun p q=>RelV p.1 q.1∧RelV p.2 q.2
def PPs (X:Cx) (pos:Pos) (keys:List (Option Expr)) (values:List Expr) (trs:List (TE×TE)):Prop :=
 ∀ (pins:List (Addr×Obj)) (s:Shared) (σ:St) (H:Hp) (Q:List (V×V)→Hp→Prop),Inv X pins σ H s→tPairs trs σ H Q →
  wpAny (model X.prog X.w) X.A (evalPairs (pairTrees keys values X.env pos)) (fun vs s'=>∃ ps H',Inv X pins σ H' s'∧VV ps vs∧Q ps H') X.xe s
theorem pps_nil {X:Cx}{pos:Pos}:PPs X pos [] [] []:=fun pins s σ H Q I h=>pairTrees_nil_walk ⟨[],H,I,.nil,h⟩
theorem pps_cons {X:Cx}{pos:Pos}{k v:Expr}{ks:List (Option Expr)}{vs:List Expr}{tk tv:TE}{trs:List (TE×TE)}(hk:PE X k tk) (hv:PE X v tv) (hr:PPs X pos ks vs trs):
  PPs X pos (some k :: ks) (v :: vs) ((tk,tv):: trs):=fun pins s σ H Q I h =>
 pairTrees_cons_walk (thn (hk pins s σ H _ I h) fun u s1 ⟨x,H1,I1,rx,q1⟩=>thn (hv pins s1 σ H1 _ I1 q1) fun w2 s2 ⟨y,H2,I2,ry,q2⟩ =>
  thn (hr pins s2 σ H2 _ I2 q2) fun ws s3 ⟨ps,H3,I3,rel,q3⟩=>⟨(x,y):: ps,H3,I3,.cons ⟨rx,ry⟩ rel,q3⟩)
def mergeK (kvs more:List (Key×V)):List (Key×V):=more.foldl (fun acc kv=>putK acc kv.1 kv.2) kvs
theorem KV.merge:∀ {more:List (Key×V)}{rs:List (Key×Value)}{kvs:List (Key×V)}{vs:List (Key×Value)},KV more rs→KV kvs vs→KV (mergeK kvs more) (merged vs rs):=by
 intro more rs kvs vs r
 unfold KV at r
 induction r generalizing kvs vs with
 | nil=>intro q;exact q
 | @cons p q ps qs h t ih =>
  intro r0
  have e:KV (putK kvs p.1 p.2) (stored vs q.1 q.2):=by
   have:=r0.put p.1 h.2
   rw [← h.1];exact this
  exact ih e
theorem length_mergeK:∀ (more kvs:List (Key×V)),(mergeK kvs more).length≤kvs.length + more.length
 | [],kvs=>by show kvs.length≤kvs.length + 0;omega
 | p :: r,kvs=>by
  have h1:=length_mergeK r (putK kvs p.1 p.2)
  have h2:=length_putK kvs p.1 p.2
  show (mergeK (putK kvs p.1 p.2) r).length≤_
  rw [List.length_cons];omega
theorem carries_of {P:Program}{w:World}:∀ {kvs:List (Key×V)}{ws:List (Value×Value)},VV (kvs.map fun kv=>(kV kv.1,kv.2)) ws→∃ rs,Carries (mixKind P w) ws rs∧KV kvs rs
 | [],_,r=>by rw [List.map_nil] at r;cases r;exact ⟨[],True.intro,.nil⟩
 | p :: kvs,_,r=>by
  rw [List.map_cons] at r
  cases r with
  | @cons a b as bs h t =>
   obtain ⟨rs,c,q⟩:=carries_of (P:=P) (w:=w) t
   obtain ⟨b1,b2⟩:=b
   exact ⟨(p.1,b2):: rs,⟨kV_is h.1,rfl,c⟩,.cons ⟨rfl,h.2⟩ q⟩
def tDisp (trs:List (TE×TE)):TE:=fun σ H Q=>∀ p,H p=none→tPairs trs σ (upd H p (.dK [])) fun ps H2=>H2 p=some (.dK [])∧∃ kvs:List (Key×V),ps=kvs.map (fun kv=>(kV kv.1,kv.2))∧kvs.length≤15∧Q (.ref p) (upd H2 p (.dK (mergeK [] kvs)))
theorem pe_disp {X:Cx}{pos:Pos}{keys:List (Option Expr)}{values:List Expr}{trs:List (TE×TE)}(h:PPs X pos keys values trs) (hall:keys.all (·.isSome)=true) (hl:keys.length=values.length) (h0:keys≠[])
  (h15:keys.length≤15):PE X (.Dict keys values pos) (tDisp trs):=by
 intro pins s σ H Q I q
 have hn:=I.hok.fresh (Nat.le_refl s.heap.objs.size)
 have I1:=I.laid (a:=s.heap.objs.size) (o:=.dK []) (h':=s.heap.push { cls:=.type "dict",data:=.dict #[] }) (t':=s.toks) (fun _ _ q=>Heap.get?_push_of_some _ q) (Nat.le_refl _) (dk_empty s.heap I.big)
 refine wpAny_Dict_walk (knd:=mixKind X.prog X.w) hall hl h0 h15 (thn (h pins _ σ _ _ I1 (q _ hn)) fun ws s2 ⟨ps,H2,I2,rel,e,kvs,ep,lk,q2⟩=>?_)
 subst ep
 obtain ⟨rs,c,rk⟩:=carries_of (P:=X.prog) (w:=X.w) rel
 obtain ⟨z,hd,vs0,r0,dd⟩:=dk_of I2.hok e
 cases r0
 refine ⟨rs,c,dd,fun h' dd' hs=>⟨.ref s.heap.objs.size,_,?_,rfl,q2⟩⟩
 have hz:(mergeK [] kvs).length≤sizeLine:=by
  have h1:=length_mergeK kvs []
  rw [List.length_nil] at h1
  rw [sizeLine_eq];omega
 have he:∃ q,h'.get? s.heap.objs.size=some q:=let ⟨q,_,_,hq,_⟩:=dd';⟨q,hq⟩
 exact d_write I2 (by rw [e];exact True.intro) hs he (dk_new hz hd (rk.merge .nil) dd')
structure M1 (X:Cx) (o:Expr) (m:Str) (apos:Pos) (e:Expr) (cpos:Pos):Prop where
 base:attributeBase o m X.env (eval o X.env)=eval o X.env
 few:((backTo cpos (starEach [e] X.env)).all (fun x=>!x.1)&&(backToKw cpos (keywordEach [] X.env)).all (fun x=>x.1.isSome)
  && decide (([e]:List Expr).length + ([]:List Keyword).length + (if ([]:List Keyword).isEmpty then 0 else 1)<30))=true
 line:(apos.endLine == cpos.line)=true
 trees:backTo cpos (starEach [e] X.env)=[(false,eval e X.env)]
structure M2 (X:Cx) (o:Expr) (m:Str) (apos:Pos) (e f:Expr) (cpos:Pos):Prop where
 base:attributeBase o m X.env (eval o X.env)=eval o X.env
 few:((backTo cpos (starEach [e,f] X.env)).all (fun x=>!x.1)&&(backToKw cpos (keywordEach [] X.env)).all (fun x=>x.1.isSome)
  && decide (([e,f]:List Expr).length + ([]:List Keyword).length + (if ([]:List Keyword).isEmpty then 0 else 1)<30))=true
 line:(apos.endLine == cpos.line)=true
 trees:backTo cpos (starEach [e,f] X.env)=[(false,eval e X.env),(false,eval f X.env)]
def IsD (H:Hp) (a:Addr):Prop:=(∃ kvs,Rd H a (.dK kvs))∨∃ kvs,Rd H a (.dT kvs)
theorem isD_at {X:Cx}{pins:List (Addr×Obj)}{σ:St}{H:Hp}{s:Shared}{a:Addr}(I:Inv X pins σ H s) (d:IsD H a):
  s.TypeIs (.ref a) "dict"∧(∀ b,Value.ref a=.ref b→∃ ob,s.heap.get? b=some ob∧ob.dict=none)∧(a == sysModules)=false:=by
 rcases d with ⟨kvs,e⟩ | ⟨kvs,e⟩
 ·obtain ⟨_,hd,vs,_,dd⟩:=dk_rd I.hok e
  refine ⟨dd.typeIs,fun b q=>?_,hd⟩
  cases q
  obtain ⟨ob,_,_,h1,h2,_⟩:=dd
  exact ⟨ob,h1,h2.2.1⟩
 ·obtain ⟨_,hd,xs,_,dd⟩:=dt_rd I.hok e
  refine ⟨dd.typeIs,fun b q=>?_,hd⟩
  cases q
  obtain ⟨ob,_,_,h1,h2,_⟩:=dd
  exact ⟨ob,h1,h2.2.1⟩
section
variable {X:Cx} {pins:List (Addr×Obj)} {σ:St} {H:Hp} {s:Shared} {a:Addr} {y d:V} {u r:Value} {o:Option V} {A:Around} {E:Value→Shared→Prop}
end
section
variable {X:Cx} {o e f:Expr} {apos cpos:Pos} {td ty tx:TE}
end
section
variable {X:Cx} {pins:List (Addr×Obj)} {σ:St} {H:Hp} {s:Shared} {a:Addr} {kvs:List (Key×V)} {A:Around} {E:Value→Shared→Prop}
end
section
variable {X:Cx} {pins:List (Addr×Obj)} {σ:St} {H:Hp} {s:Shared} {a:Addr} {y:V} {u:Value} {A:Around} {E:Value→Shared→Prop}
end
end L2
namespace Att
open PySem PySem.W PySem.Calls PyProof.Rows
theorem ints_of_wellAll {P:Params}{h:Heap}:∀ (ns:List Int) (vs:List Value),WellAll P h vs (ns.map WData.int)→IntsAre vs ns:=by
 intro ns
 induction ns with
 | nil =>
  intro vs w
  rw [List.map_nil] at w
  cases w
  exact .nil
 | cons n ns ih =>
  intro vs w
  rw [List.map_cons] at w
  cases w with
  | cons a b =>
   cases a
   exact .cons _ _ (ih _ b)
theorem script_of {l:OpenLaw}{n:Nat}(hn:l.most=some n) {P:Params}{h:Heap}{args:List WData}{vals:List Value}
  (hpre:l.row.toRowW.claim.pre args=true) (hwl:WellAll P h vals args):
  ∃ a vs ns,vals=[Value.ref a]∧args=[WData.list (ns.map WData.int)]∧h.get? a=some { cls:=.type "list",data:=.seq vs.toArray }∧IntsAre vs ns∧ns.length≤n:=by
 have hsh:WShape.hasAll [] args [.list .int]=true:=(pre_splitW hpre).1
 have hc:l.pre.holds [] { args:=args }=true:=(pre_splitW hpre).2
 obtain ⟨d,r,rfl,h1,h2⟩:=hasAllW_cons hsh
 obtain rfl:=hasAllW_nil h2
 obtain ⟨xs,rfl,h3⟩:=hasW_list h1
 obtain ⟨ns,rfl⟩:=items_int h3
 have hlen:ns.length≤n:=by
  unfold OpenLaw.pre at hc
  have h4:(WTm.not (.lt (.lit (.int (n:Int))) (.len (.arg 0)))).holds [] { args:=[.list (ns.map .int)] }=true:=by
   have h4:=(holds_andW hc).1
   rw [hn] at h4
   exact h4
  have h5:=condW_of h4 (w_not (w_lt w_lit (w_len_list (w_arg rfl))))
  rw [List.length_map] at h5
  refine Nat.le_of_not_lt fun q=>?_
  have q':(n:Int)<((ns.length:Nat):Int):=by omega
  first
   | (rw [decide_eq_true q'] at h5;exact absurd h5 (by decide))
   | (simp at h5;omega)
 cases hwl with
 | cons w1 w2 =>
  cases w2
  cases w1 with
  | list ho hall=>exact ⟨_,_,ns,rfl,rfl,ho,ints_of_wellAll ns _ hall,hlen⟩
theorem post_true (l:OpenLaw) (args:List WData):l.row.toRowW.claim.post args (.bool true) args=true :=
 postW_of (r:=l.row.toRowW) (X:=(true == true))
  (show WShape.has [] (.bool true) .bool=true by first | rfl | decide | simp [WShape.has,WShape.arms,WShape.armsAll])
  (show (WTm.eq .res (.lit (.bool true))).value [] { args:=args,res:=some (.bool true),after:=args }=some (.bool (true == true)) from w_eq_bool (w_res rfl) w_lit) rfl
theorem attach_call {l:OpenLaw}{n:Nat}{q:Program}{loose:List Str}{XP:(Str→Option Value)→Heap→Prop}{YP:World→Heap→Prop}{d:DefRec}
  (hn:l.most=some n) (hdf:d.params.defaults=[])
  (call:∀ (w:World) (s₀ s₁:Shared) (mg mb:Str→Option Value) (fa:Addr) (o:Obj) (pm cd doc:Value) (a:Addr) (vs:List Value) (ns:List Int),
   Ground q loose [] XP w s₀ mg mb s₁.heap→YP w s₁.heap →
   s₁.heap.get? fa=some o→o.data=.func (docDef d.name d.params d.body d.scope pm cd doc)→s₁.heap.CodeRec cd d.name→mg d.name=some (.ref fa) →
   s₁.heap.get? a=some { cls:=.type "list",data:=.seq vs.toArray }→IntsAre vs ns→ns.length≤n→s₁.gens=#[] →
   codeAny (model l.prog w) callerA (.call (.ref fa) ⟨[.ref a],[]⟩) (fun r s'=>r=.ok (.ret (.bool true))∧OldK s₁.heap s'.heap∧s'.os=s₁.os∧AllBare s'.gens) s₁):
  WalkO q loose XP YP l.row.toRowW d [] (fun f vs=>PySem.call f vs):=by
 intro w s₀ s₁ mg mb G Y fa o pm cd doc dV kV ho hd hcd hD hmg hg args vals as hpre hlay hrd hwl hlo
 obtain rfl:dV=.none:=Dflts.none hD hdf
 obtain rfl:kV=.none:=Dflts.noKw hD
 obtain ⟨a,vs,ns,rfl,rfl,hobj,hints,hlen⟩:=script_of hn hpre hwl
 refine enter_call (codeAny_mono (call w s₀ s₁ mg mb fa o pm cd doc a vs ns G Y ho (fd_plain hd) hcd hmg hobj hints hlen hg) fun r s' hq=>?_)
 obtain ⟨rfl,h2,h3,h4⟩:=hq
 exact ⟨.inl ⟨.bool true,.bool true,[],rfl,fun _=>rfl,.bool true,post_true l _,fun _=>⟨List.Pairwise.nil,fun _ hm=>(nomatch hm)⟩⟩,h2,h3,h4⟩
section
variable {prog:Program} {w:World} {A:Around} {E:Value→Shared→Prop} {s:Shared} {K:Frag}
end
end Att
namespace L2
open PySem PySem.Spec PyProof.Rows
theorem vals_ints:∀ {vs:List Value}{ns:List Int},IntsAre vs ns→Vals (ns.map V.int) vs
 | _,_,.nil=>.nil
 | _,_,.cons n t h=>.cons ⟨t,rfl⟩ (vals_ints h)
def Only (H:Hp):Prop:=∀ b,H b=none∨∃ o xs,H b=some (.frz o (.lst xs))
theorem law_call {P:Program}{w:World}{K:W.Frag}{mg mb:Str→Option Value}{CX:CXT}{k:Nat}{fa a:Addr}{fd:FuncData}{x:Str}{sp:Sp}{s₁:Shared}{vs:List Value}{ns:List Int}
  (KX:K.In s₁.heap) (hns:s₁.heap.Ns mainGlobals mg) (hb:s₁.heap.Ns builtinsNs mb) (hbb:∀ x:Str,x≠"__name__"→mb x=bootBuiltins x) (hlim:s₁.heap.NoLimit) (hg:s₁.gens=#[])
  (ha:s₁.heap.get? a=some { cls:=.type "list",data:=.seq vs.toArray }) (hi:IntsAre vs ns) (hl:ns.length≤sizeLine) (hr:Room k callerA)
  (F:∀ base:Heap,K.In base→base.Ns mainGlobals mg→FnOk P w K mg base CX k fa fd [x] sp) (hbind:∀ (s:Shared) (u:Value),BindsTo s fd ⟨[u],[]⟩ [(x,u)])
  (hsp:∀ H:Hp,Only H→SqL K H a (ns.map V.int)→sp [.ref a] H (fun v _=>v=.bl true) fun _ _ _=>False)
  (hCX:∀ H e s',CX [] H s₁ (fun _ _ _=>False) e s'→False):
  codeAny (model P w) callerA (.call (.ref fa) ⟨[.ref a],[]⟩) (fun r s'=>r=.ok (.ret (.bool true))∧OldK s₁.heap s'.heap∧s'.os=s₁.os∧AllBare s'.gens) s₁:=by
 have rv:=vals_ints hi
 have lenV:=hi.length
 have core:∀ H:Hp,Only H→SqL K H a (ns.map V.int)→HOk P w H s₁.heap→(∀ b,H b≠none→b=a)→(H a≠none→K.lookup a=none) →
   codeAny (model P w) callerA (.call (.ref fa) ⟨[.ref a],[]⟩) (fun r s'=>r=.ok (.ret (.bool true))∧OldK s₁.heap s'.heap∧s'.os=s₁.os∧AllBare s'.gens) s₁:=by
  intro H hO hS hok hA hK
  have base_of:∀ {b:Addr} {o:Obj},s₁.heap.get? b=some o→H b=none→(hidT s₁.heap H).get? b=some o:=fun e n=>hidT_get e n
  have noA:∀ {b:Addr} {o:Obj} {es:Array DictEntry} {ep:Nat},s₁.heap.get? b=some o→o.data=.dict es ep→H b=none:=fun {b o es ep} e d=>by
   cases q:H b with
   | none=>rfl
   | some u =>
    have e':b=a:=hA b (by rw [q];simp)
    subst e'
    rw [ha] at e;cases e
    have d':Data.seq vs.toArray _=Data.dict es ep:=d
    cases d'
  have nsK:∀ {b:Addr} {m:Str→Option Value},s₁.heap.Ns b m→(hidT s₁.heap H).Ns b m:=fun {b m} ⟨o,es,ep,e,d,r⟩=>⟨o,es,ep,base_of e (noA e d),d,r⟩
  have hKb:K.In (hidT s₁.heap H):=fun b o e=>base_of (KX b o e) (by
   cases q:H b with
   | none=>rfl
   | some u =>
    have e':b=a:=hA b (by rw [q];simp)
    subst e'
    rw [hK (by rw [q];simp)] at e;cases e)
  have hM:Mod K mg (hidT s₁.heap H):=⟨hKb,nsK hns,⟨mb,nsK hb,hbb⟩,let ⟨mc,h1,h2⟩:=hlim;⟨mc,nsK h1,h2⟩⟩
  have e0:Env0 P w K mg (hidT s₁.heap H) callerA [] s₁ H:=⟨rfl,hM,fun b o e=>of_hidT e,Nat.le_of_eq (hidT_size _ _),trivial,fun b hb=>absurd (show b∈([]:List Addr) from hb) (by simp),hok,.of_eq hg⟩
  refine codeAny_mono ((F _ hKb (nsK hns)).run callerA [] s₁ H ⟨[.ref a],[]⟩ [.ref a] [.ref a] _ _ hr e0 (hbind s₁ (.ref a)) (.cons rfl .nil) (hsp H hO hS)) fun r s' h=>?_
  cases r with
  | error e=>exact (hCX H e s' h).elim
  | ok fl =>
   cases fl with
   | next=>exact False.elim h
   | brk=>exact False.elim h
   | cont=>exact False.elim h
   | ret u =>
    obtain ⟨v,H',os,bare,un,hok',r',q⟩:=h
    have q':v=.bl true:=q
    subst q'
    obtain rfl:u=Value.bool true:=r'
    refine ⟨rfl,OldK.of_keep fun b o e=>?_,os,bare⟩
    cases q:H b with
    | none=>exact un.keep b o e q (by intro z;exact absurd (show b∈([]:List Addr) from z) (by simp)) (by simp)
    | some u =>
     rcases hO b with z | ⟨ob,xs,z⟩
     ·rw [q] at z;cases z
     ·have z2:=un.frzs b ob _ z
      obtain ⟨e1,_⟩:=hok b _ z
      obtain ⟨e2,_⟩:=hok' b _ z2
      rw [e] at e1;cases e1
      exact e2
 cases hk:K.lookup a with
 | some o =>
  have e:=KX a o hk
  rw [ha] at e
  cases e
  refine core (fun _=>none) (fun _=>.inl rfl) (.inr ⟨_,vs.toArray,_,hk,rfl,rfl,rfl,by rw [List.size_toArray,lenV];exact hl,by simpa using rv⟩) (fun b u z=>by have z':(none:Option HO)=some u:=z;cases z') (fun b z=>absurd rfl z) fun z=>absurd rfl z
 | none =>
  refine core (fun b=>if b=a then some (.frz { cls:=.type "list",data:=.seq vs.toArray } (.lst (ns.map V.int))) else none) (fun b=>?_) (.inl (.inr ⟨{ cls:=.type "list",data:=.seq vs.toArray },if_pos rfl⟩)) (fun b u z=>?_) (fun b z=>?_) fun _=>hk
  ·by_cases hb:b=a
   ·exact .inr ⟨_,_,if_pos hb⟩
   ·exact .inl (if_neg hb)
  ·by_cases hb:b=a
   ·have z':=(if_pos hb).symm.trans z
    cases z'
    subst hb
    exact ⟨ha,by rw [List.length_map];exact hl,vs,_,rv,ha⟩
   ·have z':=(if_neg hb).symm.trans z
    cases z'
  ·by_cases hb:b=a
   ·exact hb
   ·exact absurd (if_neg hb) z
end L2
namespace L2
open PySem PySem.Spec PyProof.Rows
theorem walk_of {l:W.OpenLaw}{n k:Nat}{q:Program}{loose:List Str}{XP:(Str→Option Value)→Heap→Prop}{YP:World→Heap→Prop}{d:DefRec}{K:Params→W.Frag}{CX:World→CXT}{sp:World→Sp}{x:Str}
  (hn:l.most=some n) (hn2:n≤sizeLine) (hdf:d.params.defaults=[]) (hr:Room k callerA)
  (hY:∀ (w:World) (h:Heap),YP w h→(K w.params).In h)
  (F:∀ (w:World) (mg:Str→Option Value) (fa:Addr) (h:Heap),(K w.params).In h→h.Ns mainGlobals mg→mg d.name=some (.ref fa) →
   ∃ fd:FuncData,(∀ (s:Shared) (u:Value),BindsTo s fd ⟨[u],[]⟩ [(x,u)]) ∧
    ∀ base:Heap,(K w.params).In base→base.Ns mainGlobals mg→FnOk l.prog w (K w.params) mg base (CX w) k fa fd [x] (sp w))
  (hsp:∀ (w:World) (H:Hp) (a:Addr) (ns:List Int),ns.length≤n→Only H→SqL (K w.params) H a (ns.map V.int)→sp w [.ref a] H (fun v _=>v=.bl true) fun _ _ _=>False)
  (hCX:∀ (w:World) (H:Hp) (s:Shared) (e:Value) (s':Shared),CX w [] H s (fun _ _ _=>False) e s'→False):
  W.WalkO q loose XP YP l.row.toRowW d [] (fun f vs=>PySem.call f vs):=by
 refine Att.attach_call hn hdf fun w s₀ s₁ mg mb fa o pm cd doc a vs ns G Y ho hd hcd hmg hobj hints hlen hg=>?_
 have KX:=hY w _ Y
 obtain ⟨fd,hb,hF⟩:=F w mg fa _ KX G.T.g hmg
 exact law_call KX G.T.g G.T.b G.T.builtins G.T.nolimit hg hobj hints (Nat.le_trans hlen hn2) hr hF hb (fun H hO hS=>hsp w H a ns hlen hO hS) fun H e s'=>hCX w H s₁ e s'
end L2
namespace L2
open PySem PySem.Spec PyProof.Rows
def inClass (s:Stmt) (j:Nat):Stmt:=match s with
 | .ClassDef _ _ _ body _ _ _ _ _ _ _=>body.getD j (.Pass ⟨0,0,0,0⟩)
 | _=>.Pass ⟨0,0,0,0⟩
def defArgs (s:Stmt):Arguments:=match s with
 | .FunctionDef _ a _ _ _ _ _ _ _ _=>a
 | _=>{ posonlyargs:=[],args:=[],vararg:=none,kwonlyargs:=[],kw_defaults:=[],kwarg:=none,defaults:=[] }
def defBody (s:Stmt):List Stmt:=match s with
 | .FunctionDef _ _ b _ _ _ _ _ _ _=>b
 | _=>[]
def defScope (s:Stmt):Scope:=match s with
 | .FunctionDef _ _ _ _ _ _ sc _ _ _=>sc
 | _=>{ kind:=.function,names:=[],isGenerator:=false,isCoroutine:=false }
abbrev CX0:CXT:=fun _ _ _ _ _ _=>False
abbrev E0:XK:=fun _ _ _=>False
theorem pass0 {X:Cx}:Passes CX0 X E0:=fun _ _ _ _ _ _ _ h=>h.elim
structure Fun (K:W.Frag) (x qual:Str) (st:Stmt) (f:Addr) (fd:FuncData):Prop where
 ex:∃ (oc:Value) (od:Option Addr) (kV doc pm:Value) (an:Option Addr) (cdv ct:Value) (osl:Array (Option Value)),
  fd=W.fnOf x qual (defArgs st) (defBody st) (defScope st) .none kV doc pm an cdv ct∧K.lookup f=some ⟨oc,od,.func fd,osl⟩∧W.codeIn K cdv qual=true
 kp:W.keepIn K (.ref f)=true
section
variable {P:Program} {w:World} {K:W.Frag} {mg:Str→Option Value} {base:Heap}
theorem Fun.ok {x qual:Str}{st:Stmt}{f:Addr}{fd:FuncData}{N ps:List Str}{k:Nat}{sp:Sp}(F:Fun K x qual st f fd) (S:FnScope N ps (defScope st)) (len:∀ vs H Q E,sp vs H Q E→vs.length=ps.length)
  (hbody:∀ (cdv:Value) (A:Around) (outer:List Env) (s:Shared) (H:Hp) (vs:List V) (Q:VK) (E:XK),Room k (A.deeper (envOfC qual (defScope st) s.heap.objs.size f cdv))→sp vs H Q E →
   ∃ t,PSs (cxOf CX0 P w K mg base N qual (defScope st) f cdv A outer s H E).nox (defBody st) t∧t { nx:=fun _ H'=>Q .non H',rt:=Q } (start N vs) H):FnOk P w K mg base CX0 (k + 1) f fd ps sp:=by
 obtain ⟨oc,od,kV,doc,pm,an,cdv,ct,osl,rfl,lk,hcd⟩:=F.ex
 refine fn_of lk hcd S len fun A outer s H vs Q E hr hsp=>?_
 obtain ⟨t,h,q⟩:=hbody cdv A outer s H vs Q E hr hsp
 exact ⟨t,h.nox,q⟩
theorem Fun.binds {x qual:Str}{st:Stmt}{f:Addr}{fd:FuncData}{ps:List Str}(F:Fun K x qual st f fd)
  (h:∀ (kV doc pm:Value) (an:Option Addr) (cdv ct:Value) (us:List Value),us.length=ps.length→bindArgs (W.fnOf x qual (defArgs st) (defBody st) (defScope st) .none kV doc pm an cdv ct) ⟨us,[]⟩=pure (ps.zip us)):Binds K fd ps []:=by
 obtain ⟨oc,od,kV,doc,pm,an,cdv,ct,osl,rfl,lk,hcd⟩:=F.ex
 exact .all (h kV doc pm an cdv ct)
theorem fun_mk {x qual:Str}{st:Stmt}{f:Addr}{oc:Value}{od an:Option Addr}{osl:Array (Option Value)}{kV doc pm cdv ct:Value}(l:K.lookup f=some ⟨oc,od,.func (W.fnOf x qual (defArgs st) (defBody st) (defScope st) .none kV doc pm an cdv ct),osl⟩)
  (c:W.codeIn K cdv qual=true) (k:W.keepIn K (.ref f)=true):Fun K x qual st f (W.fnOf x qual (defArgs st) (defBody st) (defScope st) .none kV doc pm an cdv ct):=⟨⟨oc,od,kV,doc,pm,an,cdv,ct,osl,rfl,l,c⟩,k⟩
end
theorem hu_of {A:Around}{k:Nat}(hr:Room k A):A.units + 1<cLine:=Nat.lt_of_le_of_lt (Nat.add_le_add_left (by decide:1≤64) _) hr.units
section
variable {X:Cx}
theorem pv (i:Nat) {x:Str}{pos:Pos}(hN:X.N[i]?=some x:=by rfl) (hv:Vis X.env.scope x:=by first | exact Or.inl rfl | exact Or.inr (Or.inl rfl) | exact Or.inr (Or.inr rfl)) (hd:(x == ("__debug__":Str))=false:=by decide)
  (hcd:(x == ("__classdict__":Str))=false:=by decide):PE X (.Name x pos) (tVar i):=pe_var hN hv hd hcd
end
theorem iteF {A B:Prop}(h:B):if false=true then A else B:=by
 rw [if_neg Bool.false_ne_true]
 exact h
theorem iteT {A B:Prop}(h:A):if true=true then A else B:=by
 rw [if_pos rfl]
 exact h
theorem ite2 {c A B:Prop} [Decidable c] (h1:c→A) (h2:¬ c→B):if c then A else B:=by
 by_cases h:c
 ·rw [if_pos h]
  exact h1 h
 ·rw [if_neg h]
  exact h2 h
def Same (H H':Hp):Prop:=∀ b o,H b=some o→H' b=some o
theorem Same.refl (H:Hp):Same H H:=fun _ _ h=>h
theorem Same.trans {H H1 H2:Hp}(a:Same H H1) (b:Same H1 H2):Same H H2:=fun c o h=>b c o (a c o h)
theorem Same.free {H H':Hp}(e:Same H H') {l:Addr}(h:H' l=Option.none):H l=Option.none:=by
 cases q:H l with
 | none=>rfl
 | some o =>
  rw [e l o q] at h
  cases h
theorem Same.seq {K:W.Frag}{H H':Hp}{a:Addr}{xs:List V}(e:Same H H') (h:SqL K H a xs):SqL K H' a xs:=by
 rcases h with (h | ⟨o,h⟩) | h
 ·exact .inl (.inl (e _ _ h))
 ·exact .inl (.inr ⟨o,e _ _ h⟩)
 ·exact .inr h
end L2
namespace L2
open PySem PySem.Spec PyProof.Rows
section
variable {X:Cx}
end
section
variable {κ:Type} [DecidableEq κ]
theorem valV_not {kvs:List (κ×V)}{k:κ}(h:valV kvs k=none):¬ k∈kvs.map (·.1):=by
 intro m
 obtain ⟨p,hp,e⟩:=List.mem_map.mp m
 have q:(kvs.any fun kv=>decide (kv.1=k))=true:=List.any_eq_true.mpr ⟨p,hp,decide_eq_true e⟩
 rw [valV_any,h] at q
 exact absurd q (by simp)
theorem valV_in {kvs:List (κ×V)}{k:κ}{v:V}(h:valV kvs k=some v):k∈kvs.map (·.1):=by
 have q:(kvs.any fun kv=>decide (kv.1=k))=true:=by
  rw [valV_any,h]
  all_goals rfl
 obtain ⟨p,hp,e⟩:=List.any_eq_true.mp q
 exact List.mem_map.mpr ⟨p,hp,of_decide_eq_true e⟩
end
end L2
set_option maxHeartbeats 4000000
namespace HT
open PySem PyProof.Rows
open PySem.SeqAt
open PySem.AutoSeq1 (wpAny_loadPart')
open PySem.MeetsSeq PySem.MeetsSeq2 PySem.MeetsSeq3
section
variable {prog:Program} {w:World} {A:Around} {E:Value→Shared→Prop} {s:Shared}
end
end HT
namespace L2
open PySem PySem.Spec PyProof.Rows
structure Runs (J:It) (xs:List V) (Ok:Hp→Prop):Prop where
 go:∀ (i:Nat) (x:V) (H:Hp),Ok H→xs[i]?=some x→J.go i H
 yld:∀ (i:Nat) (x:V) (H:Hp) (y:V) (H':Hp),Ok H→xs[i]?=some x→J.yld i H y H'→y=x∧H'=H
 stop:∀ (H:Hp),Ok H→J.stop xs.length H
theorem runs_list {K:W.Frag}{a:Addr}{xs:List V}:Runs (Itl K a) xs (fun H=>SqL K H a xs) where
 go:=fun i x H ok hx=>⟨xs,x,ok,hx⟩
 yld:=fun i x H y H' ok hx h=>by
  obtain ⟨e,h⟩:=h
  have q:=h xs ok
  rw [hx] at q
  exact ⟨(Option.some.inj q).symm,e⟩
 stop:=fun H ok=>⟨xs,ok,Nat.le_refl _⟩
theorem runs_tup {K:W.Frag}{a:Addr}{xs:List V}:Runs (Itt K a) xs (fun H=>SqT K H a xs) where
 go:=fun i x H ok hx=>⟨xs,x,ok,hx⟩
 yld:=fun i x H y H' ok hx h=>by
  obtain ⟨e,h⟩:=h
  have q:=h xs ok
  rw [hx] at q
  exact ⟨(Option.some.inj q).symm,e⟩
 stop:=fun H ok=>⟨xs,ok,Nat.le_refl _⟩
def rangeV (lo:Int) (n:Nat):List V:=(List.range n).map fun (k:Nat)=>V.int (lo + (k:Int))
theorem rangeV_len (lo:Int) (n:Nat):(rangeV lo n).length=n:=by unfold rangeV;rw [List.length_map,List.length_range]
theorem rangeV_get {lo:Int}{n i:Nat}{x:V}(h:(rangeV lo n)[i]?=some x):i<n∧x=V.int (lo + (i:Int)):=by
 have hi:i<n:=by
  have:=(List.getElem?_eq_some_iff.mp h).1
  rwa [rangeV_len] at this
 refine ⟨hi,?_⟩
 unfold rangeV at h
 rw [List.getElem?_map,List.getElem?_range hi] at h
 exact (Option.some.inj h).symm
theorem runs_range {lo:Int}{n:Nat}:Runs (Itr lo n) (rangeV lo n) (fun _=>True) where
 go:=fun i x H _ hx=>(rangeV_get hx).1
 yld:=fun i x H y H' _ hx h=>by
  obtain ⟨e,h⟩:=h
  exact ⟨h.trans (rangeV_get hx).2.symm,e⟩
 stop:=fun H _=>by
  show n≤(rangeV lo n).length
  rw [rangeV_len]
  exact Nat.le_refl _
theorem for_runs {J:It}{xs:List V}{Ok:Hp→Prop}(R:Runs J xs Ok) {g:TG}{tb:TS}{D:Ends}{σ:St}{H:Hp}(Pv:Nat→St→Hp→Prop) (h0:Pv 0 σ H) (hl:∀ i σ H,i≤xs.length→Pv i σ H→Ok H)
  (hs:∀ i x σ H,xs[i]?=some x→Pv i σ H→g x σ H fun σ2 H2=>tb { D with nx:=Pv (i + 1),ct:=Pv (i + 1),bk:=D.nx } σ2 H2) (hd:∀ σ H,Pv xs.length σ H→D.nx σ H):
  ∃ W:Nat→Nat→St→Hp→Prop,(∃ m,W 0 m σ H)∧∀ i m σ H,W i m σ H →
   (J.stop i H∧D.nx σ H)∨(J.go i H∧∃ N:St→Hp→Prop,(∀ σ' H',N σ' H'→∃ m',m'<m∧W (i + 1) m' σ' H')∧∀ x H',J.yld i H x H'→g x σ H' fun σ2 H2=>tb { D with nx:=N,ct:=N,bk:=D.nx } σ2 H2):=by
 refine ⟨fun i m σ H=>m=xs.length - i∧i≤xs.length∧Pv i σ H,⟨xs.length,by simp,Nat.zero_le _,h0⟩,?_⟩
 rintro i m σ H ⟨rfl,hi,p⟩
 have q:=hl i σ H hi p
 by_cases hlt:i<xs.length
 ·have hx:xs[i]?=some xs[i]:=by simp [hlt]
  refine .inr ⟨R.go i _ H q hx,Pv (i + 1),fun σ' H' p'=>⟨xs.length - (i + 1),by omega,rfl,hlt,p'⟩,fun x H' y=>?_⟩
  obtain ⟨e1,e2⟩:=R.yld i _ H x H' q hx y
  rw [e2]
  exact hs i x σ H (by rw [e1];exact hx) p
 ·have e:i=xs.length:=by omega
  subst e
  exact .inl ⟨R.stop H q,hd σ H p⟩
def Its (x:Str):It:=⟨fun i _=>i<x.cps.size,fun i H v H'=>H'=H∧∃ c,x.cps[i]?=some c∧v=.str ⟨#[c]⟩,fun i _=>x.cps.size≤i⟩
def signsV (x:Str):List V:=x.cps.toList.map fun c=>V.str ⟨#[c]⟩
theorem runs_str {x:Str}:Runs (Its x) (signsV x) (fun _=>True) where
 go:=fun i y H _ hx=>by
  have:=(List.getElem?_eq_some_iff.mp hx).1
  unfold signsV at this
  rw [List.length_map] at this
  show i<x.cps.size
  simpa using this
 yld:=fun i y H z H' _ hx h=>by
  obtain ⟨e,c,hc,hz⟩:=h
  refine ⟨?_,e⟩
  unfold signsV at hx
  rw [List.getElem?_map,Array.getElem?_toList,hc] at hx
  rw [hz]
  exact Option.some.inj hx
 stop:=fun H _=>by
  show x.cps.size≤(signsV x).length
  unfold signsV
  simp
theorem turn_str {P:Program}{w:World}{K:W.Frag}{tg:Expr}(x:Str) (t:Tok) (it:Addr) (ty:String) (hty:ty="str_ascii_iterator"∨ty="str_iterator"):
  Turn P w K tg (Its x) [it] it (fun i h=>h.IsStrIter it ty x t i) where
 mem:=by simp
 obj:=fun i h st b hb=>by
  have e:b=it:=by simpa using hb
  subst e
  obtain ⟨o,e,c,d⟩:=st
  exact ⟨o,e,fun v z=>by rw [d] at z;cases z⟩
 keep:=fun i h h' st k=>by
  obtain ⟨o,ho,r⟩:=st
  exact ⟨o,k it (by simp) o ho,r⟩
 item:=by
  intro X hP hw hK hc i pins s σ H E I hf st hg
  subst hP hw hK
  obtain ⟨f0,f1,f2,f3,f4,f5⟩:=hf it (by simp)
  have hi:i<x.cps.size:=hg
  have hx:x.cps[i]?=some x.cps[i]:=by simp [hi]
  have fin:∀ h':Heap,h'.IsStrIter it ty x t (i + 1)→Heap.SameBut it s.heap h'→∃ u,some (Value.str ⟨#[x.cps[i]]⟩ s.toks)=some u ∧
    wpAny (model X.prog X.w) X.A (letOwnedTupleGo tg (.ref it) u) (fun _ s2=>∃ y H',Inv X pins σ H' s2∧RelV y u∧(Its x).yld i H y H'∧s2.heap.IsStrIter it ty x t (i + 1)∧∀ b∈[it],H' b=none) E { s with heap:=h',toks:=s.toks + 1 }:=fun h' st' sb=>by
   have I1:Inv X pins σ H { s with heap:=h',toks:=s.toks + 1 }:=I.turned (fun b o hb e=>(sb.2 b hb).trans e) f0 f1 f3 f4 f5
   obtain ⟨o,e,c,d⟩:=id st'
   refine ⟨_,rfl,go_of (s:={ s with heap:=h',toks:=s.toks + 1 }) e c d ?_ ⟨.str ⟨#[x.cps[i]]⟩,H,I1,⟨_,rfl⟩,⟨rfl,_,hx,rfl⟩,st',fun b hb=>(hf b hb).1⟩⟩
   rcases hty with rfl | rfl <;> decide
  rcases hty with rfl | rfl
  ·exact wpAny_pyNext_ascii_item st hx fun h' st' sb=>fin h' st' sb
  ·exact wpAny_pyNext_wide_item st hx fun h' st' sb=>fin h' st' sb
 done:=by
  intro X hP hw hK hc i pins s σ H E I hf st hg
  subst hP hw hK
  obtain ⟨f0,f1,f2,f3,f4,f5⟩:=hf it (by simp)
  have hi:x.cps.size≤i:=hg
  have hx:x.cps[i]?=none:=by simp [hi]
  rcases hty with rfl | rfl
  ·exact wpAny_pyNext_ascii_end (I.ok.hd hc) st hx fun h' eb=>⟨rfl,I.turned (t':=s.toks) (fun b o hb e=>eb b o hb e) f0 f1 f3 f4 f5⟩
  ·exact wpAny_pyNext_wide_end (I.ok.hd hc) st hx fun h' eb=>⟨rfl,I.turned (t':=s.toks) (fun b o hb e=>eb b o hb e) f0 f1 f3 f4 f5⟩
 self:=fun _ _ _ _ _ st h=>by
  rcases hty with rfl | rfl
  ·exact wpAny_pyIter_striter_ascii st h
  ·exact wpAny_pyIter_striter_wide st h
section
variable {X:Cx} {tg:Expr}
def iStr (tl:TE):TI:=fun σ H R=>tl σ H fun x H1=>∃ z,x=.str z∧R (Its z) H1
theorem pi_str {l:Expr}{tl:TE}(hl:PE X l tl):PI X tg l (iStr tl):=by
 intro pins s σ H R I h
 refine thn (hl pins s σ H _ I h) fun v s1 ⟨x,H1,I1,r1,q1⟩=>?_
 obtain ⟨z,e,q⟩:=q1
 subst e
 obtain ⟨t,rfl⟩:=r1
 have fp:∀ b∈[s1.heap.objs.size],FpOk X pins H1 b:=fun b hb=>by
  have e:b=s1.heap.objs.size:=by simpa using hb
  subst e
  exact I1.fpOk (Nat.le_refl _) (I1.hok.fresh (Nat.le_refl _))
 cases ha:z.cps.all (·<128) with
 | false =>
  refine wpAny_pyIter_wide ha ?_
  exact ⟨s1.heap.objs.size,[s1.heap.objs.size],_,_,H1,rfl,I1.kept (t':=s1.toks) fun b o e=>Heap.get?_push_of_some _ e,turn_str z t _ "str_iterator" (.inr rfl),⟨_,Heap.get?_push_size _ rfl,rfl,rfl⟩,fp,q⟩
 | true =>
  refine wpAny_pyIter_ascii ha ?_
  exact ⟨s1.heap.objs.size,[s1.heap.objs.size],_,_,H1,rfl,I1.kept (t':=s1.toks) fun b o e=>Heap.get?_push_of_some _ e,turn_str z t _ "str_ascii_iterator" (.inl rfl),⟨_,Heap.get?_push_size _ rfl,rfl,rfl⟩,fp,q⟩
end
def clOf (env:Env):List (Str×NameKind)→List (Str×Addr)→List (Str×Addr)
 | [],acc=>acc
 | (n,k):: r,acc=>if (k == NameKind.free)=true then clOf env r ((n,(env.cells.lookup n).getD 0):: acc) else clOf env r acc
theorem cellOf_some {env:Env}{n:Str}{c:Addr}(h:env.cells.lookup n=some c):cellOf env n=pure c:=by
 unfold cellOf
 rw [h]
theorem closureFor_of {scope:Scope}{env:Env}(h:∀ y∈scope.names,y.2=.free→∃ c,env.cells.lookup y.1=some c):closureFor scope env=pure (clOf env scope.names []):=by
 have key:∀ (l:List (Str×NameKind)) (acc:List (Str×Addr)),(∀ y∈l,y.2=.free→∃ c,env.cells.lookup y.1=some c) →
   (forIn l acc fun (x:Str×NameKind) (r:List (Str×Addr))=>(match x with
    | (name,kind)=>if (kind == NameKind.free)=true then (do let a ← cellOf env name;pure (ForInStep.yield ((name,a):: r))) else pure (ForInStep.yield r):Sem (ForInStep (List (Str×Addr)))))=pure (clOf env l acc):=by
  intro l
  induction l with
  | nil=>intro acc _;rfl
  | cons y r ih =>
   intro acc hy
   obtain ⟨n,k⟩:=y
   have ih':=fun acc=>ih acc fun z hz=>hy z (List.mem_cons_of_mem _ hz)
   rw [List.forIn_cons]
   by_cases hk:(k == NameKind.free)=true
   ·obtain ⟨c,hc⟩:=hy (n,k) List.mem_cons_self (by simpa using hk)
    have hc:env.cells.lookup n=some c:=hc
    simp only [hk,if_true,cellOf_some hc]
    unfold clOf
    rw [if_pos hk,hc]
    exact ih' _
   ·simp only [hk]
    unfold clOf
    rw [if_neg hk]
    exact ih' _
 unfold closureFor
 have q:=key scope.names [] h
 show ((forIn scope.names [] _:Sem (List (Str×Addr)))>>=fun r=>pure r)=_
 first
  | (rw [show (forIn scope.names [] _:Sem (List (Str×Addr)))=_ from q];rfl)
  | (refine (congrArg (fun m=>m>>=fun r=>pure r) q).trans ?_;rfl)
theorem clOf_lookup {env:Env}:∀ (l:List (Str×NameKind)) (acc:List (Str×Addr)) (x:Str) (c:Addr),(∀ y∈l,y.2=.free→∃ c,env.cells.lookup y.1=some c) →
  (∀ x c,acc.lookup x=some c→env.cells.lookup x=some c)→(clOf env l acc).lookup x=some c→env.cells.lookup x=some c
 | [],acc,x,c,_,ha,h=>ha x c h
 | (n,k):: r,acc,x,c,hy,ha,h=>by
  have hr:∀ y∈r,y.2=.free→∃ c,env.cells.lookup y.1=some c:=fun y hy'=>hy y (List.mem_cons_of_mem _ hy')
  unfold clOf at h
  by_cases hk:(k == NameKind.free)=true
  ·rw [if_pos hk] at h
   refine clOf_lookup r _ x c hr (fun z d hz=>?_) h
   obtain ⟨c',hc'⟩:=hy (n,k) List.mem_cons_self (by simpa using hk)
   have hc':env.cells.lookup n=some c':=hc'
   rw [List.lookup_cons] at hz
   by_cases e:(z == n)=true
   ·simp only [e] at hz
    have e':z=n:=by simpa using e
    rw [e',hc']
    rw [hc'] at hz
    exact hz
   ·have e':(z == n)=false:=by simpa using e
    simp only [e'] at hz
    exact ha z d hz
  ·rw [if_neg hk] at h
   exact clOf_lookup r acc x c hr ha h
theorem clOf_keeps {env:Env}:∀ (l:List (Str×NameKind)) (acc:List (Str×Addr)) (x:Str),(acc.lookup x).isSome=true→((clOf env l acc).lookup x).isSome=true
 | [],acc,x,h=>h
 | (n,k):: r,acc,x,h=>by
  unfold clOf
  by_cases hk:(k == NameKind.free)=true
  ·rw [if_pos hk]
   refine clOf_keeps r _ x ?_
   rw [List.lookup_cons]
   cases e:(x == n) with
   | true=>rfl
   | false=>exact h
  ·rw [if_neg hk]
   exact clOf_keeps r acc x h
theorem clOf_has {env:Env}:∀ (l:List (Str×NameKind)) (acc:List (Str×Addr)) (x:Str),(x,NameKind.free)∈l→((clOf env l acc).lookup x).isSome=true
 | [],acc,x,h=>nomatch h
 | (n,k):: r,acc,x,h=>by
  unfold clOf
  rcases List.mem_cons.mp h with e | h
  ·injection e with e1 e2
   subst e1
   subst e2
   rw [if_pos (by decide)]
   refine clOf_keeps r _ x ?_
   rw [List.lookup_cons]
   simp
  ·by_cases hk:(k == NameKind.free)=true
   ·rw [if_pos hk]
    exact clOf_has r _ x h
   ·rw [if_neg hk]
    exact clOf_has r _ x h
theorem lookup_relabel_free {env:Env}:∀ {names:List (Str×NameKind)}{x:Str},names.lookup x=some .free →
  (names.map fun (n,k)=>if (k == NameKind.free&&env.scope.kind == .function&&env.kindOf n == some .cell) then (n,NameKind.cell) else (n,k)).lookup x=some .cell ∨
  (names.map fun (n,k)=>if (k == NameKind.free&&env.scope.kind == .function&&env.kindOf n == some .cell) then (n,NameKind.cell) else (n,k)).lookup x=some .free
 | [],_,h=>by simp at h
 | (n,k):: r,x,h=>by
  have ih:=@lookup_relabel_free env r x
  rw [List.map_cons]
  show List.lookup x ((if (k == NameKind.free&&env.scope.kind == .function&&env.kindOf n == some .cell)=true then (n,NameKind.cell) else (n,k)):: _)=_∨List.lookup x ((if (k == NameKind.free&&env.scope.kind == .function&&env.kindOf n == some .cell)=true then (n,NameKind.cell) else (n,k)):: _)=_
  cases hx:x == n with
  | true =>
   simp only [List.lookup_cons,hx] at h
   cases h
   by_cases hc:(NameKind.free == NameKind.free&&env.scope.kind == .function&&env.kindOf n == some .cell)=true
   ·rw [if_pos hc];simp only [List.lookup_cons,hx];exact .inl trivial
   ·rw [if_neg hc];simp only [List.lookup_cons,hx];exact .inr trivial
  | false =>
   simp only [List.lookup_cons,hx] at h
   by_cases hc:(k == NameKind.free&&env.scope.kind == .function&&env.kindOf n == some .cell)=true
   ·rw [if_pos hc];simp only [List.lookup_cons,hx];exact ih h
   ·rw [if_neg hc];simp only [List.lookup_cons,hx];exact ih h
end L2
namespace L2
open PySem PySem.Spec PyProof.Rows
theorem lookup_relabel_inv {env:Env}:∀ {names:List (Str×NameKind)}{x:Str},
  ((names.map fun (n,k)=>if (k == NameKind.free&&env.scope.kind == .function&&env.kindOf n == some .cell) then (n,NameKind.cell) else (n,k)).lookup x=some .cell ∨
  (names.map fun (n,k)=>if (k == NameKind.free&&env.scope.kind == .function&&env.kindOf n == some .cell) then (n,NameKind.cell) else (n,k)).lookup x=some .free) →
  names.lookup x=some .free∨names.lookup x=some .cell
 | [],_,h=>by simp at h
 | (n,k):: r,x,h=>by
  have ih:=@lookup_relabel_inv env r x
  rw [List.map_cons] at h
  change List.lookup x ((if (k == NameKind.free&&env.scope.kind == .function&&env.kindOf n == some .cell)=true then (n,NameKind.cell) else (n,k)):: _)=_∨List.lookup x ((if (k == NameKind.free&&env.scope.kind == .function&&env.kindOf n == some .cell)=true then (n,NameKind.cell) else (n,k)):: _)=_ at h
  cases hx:x == n with
  | true =>
   simp only [List.lookup_cons,hx]
   by_cases hc:(k == NameKind.free&&env.scope.kind == .function&&env.kindOf n == some .cell)=true
   ·left
    have:(k == NameKind.free)=true:=by
     cases hk:(k == NameKind.free) with
     | true=>rfl
     | false=>rw [hk] at hc;simp at hc
    have:k=NameKind.free:=by simpa using this
    rw [this]
   ·rw [if_neg hc] at h
    simp only [List.lookup_cons,hx] at h
    rcases h with h | h
    ·exact .inr h
    ·exact .inl h
  | false =>
   simp only [List.lookup_cons,hx]
   apply ih
   by_cases hc:(k == NameKind.free&&env.scope.kind == .function&&env.kindOf n == some .cell)=true
   ·rw [if_pos hc] at h;simp only [List.lookup_cons,hx] at h;exact h
   ·rw [if_neg hc] at h;simp only [List.lookup_cons,hx] at h;exact h
abbrev cxComp (X:Cx) (scope:Scope) (N:List Str) (C:Addr) (s:Shared) (H:Hp) (fp:List Addr):Cx :=
 { X with N:=N,s₀:=s,H₀:=H,env:=compEnvC scope (clOf X.env scope.names []) C X.env,outer:=X.stack,ex:=fp,fn:=fun _=>false,pn:=[],xe:=fun _ _=>False }
def sgC (n:Nat) (js:List Nat) (σ:St):St:=List.replicate n none++js.map fun j=>(σ[j]?).join
theorem sgC_len (n:Nat) (js:List Nat) (σ:St):(sgC n js σ).length=n + js.length:=by unfold sgC;simp
structure CompOk (X:Cx) (scope:Scope) (own frees:List Str) (js:List Nat):Prop where
 calm:X.calm=true
 kind:scope.kind=.function
 nocell:∀ y∈scope.names,y.2≠.cell
 locals:∀ y∈scope.names,y.2=.local→scope.names.lookup y.1=some .local
 fr:∀ y∈scope.names,y.2=.free→X.env.scope.names.lookup y.1=some .cell∨X.env.scope.names.lookup y.1=some .free
 fre:∀ x∈frees,scope.names.lookup x=some .free
 slots:js.map (fun j=>X.N[j]?)=frees.map some
def PTs (X:Cx) (ifs:List Expr) (t:TT):Prop :=
 ∀ (pins:List (Addr×Obj)) (s:Shared) (σ:St) (H:Hp) (Q:Bool→Hp→Prop),Inv X pins σ H s→t σ H Q →
  wpAny (model X.prog X.w) X.A (forIn ifs true fun c r=>if r=true then do let ok ← isTrue c X.env (eval c X.env);pure (ForInStep.yield ok) else pure (ForInStep.yield r)) (TP X pins σ Q) X.xe s
def tTrue:TT:=fun _ H Q=>Q true H
theorem pts_nil {X:Cx}:PTs X [] tTrue:=fun _ _ _ H _ I h=>wpAny_tests_nil ⟨H,I,h⟩
theorem pts_one {X:Cx}{c:Expr}{t:TT}(h:PT X c t):PTs X [c] t:=fun pins s σ H Q I q=>wpAny_tests_one (h pins s σ H Q I q)
def compBody (n:Nat) (js:List Nat) (g:TG) (tt:TT) (te:TE) (σ:St) (Q:VK) (J:It) (H1:Hp):Prop:=∀ D,H1 D=none →
 ∃ W:Nat→Nat→List V→St→Hp→Prop,(∃ m,W 0 m [] (sgC n js σ) (upd H1 D (.lst [])))∧∀ i m ys σ' H',W i m ys σ' H' →
  (J.stop i H'∧Q (.ref D) H') ∨
  (J.go i H'∧ys.length<sizeLine∧∃ N:List V→St→Hp→Prop,(∀ ys3 σ3 H3,N ys3 σ3 H3→∃ m',m'<m∧W (i + 1) m' ys3 σ3 H3)∧∀ x H2,J.yld i H' x H2→g x σ' H2 fun σ3 H3=>tt σ3 H3 fun b H4 =>
   if b=true then te σ3 H4 fun v H5=>H5 D=some (.lst ys)∧N (ys++[v]) σ3 (upd H5 D (.lst (ys++[v])))
   else N ys σ3 H4)
section
variable {prog:Program} {w:World} {A:Around} {E:Value→Shared→Prop} {R:Result→Shared→Prop} {s:Shared}
theorem compLoop_any {elt target iter:Expr}{ifs:List Expr}{scope:Scope}{pos:Pos}{it acc:Value}{env:Env}(I:Nat→Shared→Prop)
  (turn:∀ n s,I n s→∀ E:Value→Shared→Prop,wpAny (model prog w) A (pyNext it) (fun r s₁=>match r with
   | none=>R (.ok .next) s₁
   | some v=>wpAny (model prog w) A (letOwnedTupleGo target it v) (fun _ s₁'=>wpAny (model prog w) A (assign target env v) (fun _ s₂ =>
     wpAny (model prog w) A (forIn ifs true fun c r=>if r=true then do let ok ← isTrue c env (eval c env);pure (ForInStep.yield ok) else pure (ForInStep.yield r)) (fun ok s₃ =>
      if ok=true then wpAny (model prog w) A (eval elt env) (fun x s₄ =>
       wpAny (model prog w) A (call (.builtin "list.append") [acc,x]) (fun _ s₅=>∃ m,m<n∧I m s₅) E s₄) E s₃
      else ∃ m,m<n∧I m s₃) E s₂) E s₁') E s₁) E s)
  (n:Nat) (h:I n s):
  codeAny (model prog w) A (.compLoop (.ListComp elt [⟨target,iter,ifs,0⟩] scope pos) 0 it acc env) R s:=by
 refine codeAny_loop rfl I (fun n s hI=>?_) n h
 show wpAny _ A ((compTurn (.ListComp elt [⟨target,iter,ifs,0⟩] scope pos) 0 it acc env).onRaise (fun x=>do noteFrame x env;theTreesLotGoes x)) _ _ s
 refine wpAny_noted ?_
 rw [compTurn_list]
 refine wpAny_bind (wpAny_standAt (wpAny_bind (wpAny_mono (turn n s hI _) (fun r s₁ h₁=>?_) fun _ _ h'=>h')))
 cases r with
 | none=>exact wpAny_pure h₁
 | some v =>
  refine wpAny_bind (wpAny_mono h₁ (fun _ s₁' h₁'=>?_) fun _ _ h'=>h')
  refine wpAny_bind (wpAny_mono h₁' (fun _ s₂ h₂=>wpAny_bind (wpAny_mono h₂ (fun ok s₃ h₃=>?_) fun _ _ h'=>h')) fun _ _ h'=>h')
  cases ok with
  | false=>exact wpAny_pure ⟨rfl,h₃⟩
  | true =>
   exact wpAny_bind (wpAny_bind (wpAny_mono h₃ (fun x s₄ h₄=>wpAny_bind (wpAny_mono h₄ (fun _ s₅ h₅=>wpAny_pure (wpAny_pure ⟨rfl,h₅⟩)) fun _ _ h'=>h')) fun _ _ h'=>h'))
end
section
variable {X:Cx} {pins:List (Addr×Obj)} {σ:St} {scope:Scope} {own frees:List Str} {js:List Nat}
theorem CompOk.cells (c:CompOk X scope own frees js) (ok:X.Ok):∀ y∈scope.names,y.2=.free→∃ a,X.env.cells.lookup y.1=some a:=fun y hy e=>by
 rcases c.fr y hy e with h | h
 ·exact ok.has y.1 (.inl h)
 ·exact ok.has y.1 (.inr h)
theorem CompOk.cl (c:CompOk X scope own frees js) (ok:X.Ok) {x:Str}{a:Addr}(h:(clOf X.env scope.names []).lookup x=some a):X.env.cells.lookup x=some a :=
 clOf_lookup scope.names [] x a (c.cells ok) (fun _ _ z=>by simp at z) h
theorem CompOk.has (c:CompOk X scope own frees js) {x:Str}(h:scope.names.lookup x=some .free):∃ a,(clOf X.env scope.names []).lookup x=some a :=
 Option.isSome_iff_exists.mp (clOf_has scope.names [] x (PySem.mem_of_lookup h))
theorem CompOk.ok {s2:Shared}{H2:Hp}{fp:List Addr}{C:Addr}(c:CompOk X scope own frees js) (I:Inv X pins σ H2 s2) (f2:∀ b∈fp,FpOk X pins H2 b) (hlt:∀ b∈fp,b<s2.heap.objs.size) (hC:s2.heap.objs.size≤C) (N:List Str):
  (cxComp X scope N C s2 H2 fp).Ok where
 mod:=I.ok.mod
 kind:=c.kind
 glob:=I.ok.glob
 blt:=I.ok.blt
 above:=hC
 inj:=fun x y a h1 h2=>I.ok.inj x y a (c.cl I.ok h1) (c.cl I.ok h2)
 has:=fun x h=>by
  have h':scope.names.lookup x=some .free∨scope.names.lookup x=some .cell:=lookup_relabel_inv (env:=X.env) h
  rcases h' with h' | h'
  ·exact c.has h'
  ·exact absurd rfl (c.nocell _ (PySem.mem_of_lookup h'))
 cab:=fun x a h=>absurd (show false=true from h) Bool.false_ne_true
 hd:=fun h=>I.ok.hd h
 frames:=I.ok.frames
 stk:=.inl rfl
 exf:=fun b hb=>⟨Nat.ne_of_lt (Nat.lt_of_lt_of_le (hlt b hb) hC),fun x a h=>(f2 b hb).2.2.2.2.1 x a (c.cl I.ok h)⟩
 bs:=I.bs
 bsz:=Nat.le_trans I.ok.bsz I.sz
 noex:=fun b o e hb=>by
  rcases (f2 b hb).2.2.2.1 with z | z
  ·exact I.ok.noex b o e z
  ·exact absurd (Nat.lt_of_lt_of_le (Heap.lt_size e) (Nat.le_trans I.ok.bsz z)) (Nat.lt_irrefl _)
 exfs:=fun b hb z=>by
  rcases List.mem_cons.mp (I.stkSub b z) with e | e
  ·exact (f2 b hb).2.1 e
  ·exact (f2 b hb).2.2.1 e
 funs:=I.stack
 frf:=I.stkFree
theorem comp_block {s2:Shared}{tg iter elt:Expr}{ifs:List Expr}{pos:Pos}{g:TG}{tt:TT}{te:TE}{Q:VK}{RR:Value→Addr→Result→Shared→Prop}{itv:Value}{E:Value→Shared→Prop}
  (c:CompOk X scope own frees js)
  (hg:∀ C s H fp,PG (cxComp X scope (own++frees) C s H fp) tg g) (ht:∀ C s H fp,PTs (cxComp X scope (own++frees) C s H fp) ifs tt) (he:∀ C s H fp,PE (cxComp X scope (own++frees) C s H fp) elt te)
  (h:PIE X pins σ tg (compBody own.length js g tt te σ Q) itv s2)
  (hR:∀ D C H' s',Inv X pins σ H' s'→FpOk X pins H' C→(∃ m,s'.heap.Ns C m)→Q (.ref D) H'→RR (.ref D) C (.ok .next) s'):
  wpAny (model X.prog X.w) X.A (newList []) (fun acc s₃=>wpAny (model X.prog X.w) X.A (newFunctionEnv scope X.env.globals (clOf X.env scope.names []) [] X.env.qual none .none (some X.env)) (fun cenv s₄ =>
   codeAny (model X.prog X.w) X.A (.compStart (.ListComp elt [⟨tg,iter,ifs,0⟩] scope pos) 0 itv acc { cenv with scope:=relabel scope X.env }) (RR acc cenv.locals) s₄) E s₃) E s2:=by
 obtain ⟨it,fp,tn,J,H2,e,I2,T,st2,f2,hq⟩:=h
 subst e
 refine wpAny_newObj_type (wpAny_newFunctionEnv c.nocell (by intro y hy;simp at hy) (fun h₁ hns₁ hsb₁=>?_) c.kind)
 dsimp only at hns₁ hsb₁ ⊢
 generalize hH2:s2.heap.push { cls:=.type "list",dict:=none,data:=.seq ([]:List Value).toArray }=G2 at hns₁ hsb₁ ⊢
 have hC:G2.objs.size=s2.heap.objs.size + 1:=by rw [← hH2,Heap.size_push]
 have hDC:s2.heap.objs.size≠G2.objs.size:=by rw [hC];exact Nat.ne_of_lt (Nat.lt_succ_self _)
 have hCle:s2.heap.objs.size≤G2.objs.size:=by rw [hC];exact Nat.le_succ _
 have old:∀ b o,s2.heap.get? b=some o→h₁.get? b=some o:=fun b o e=>by
  have hb:=Heap.lt_size e
  exact hsb₁.extBut b o (by rw [hC];exact Nat.ne_of_lt (Nat.lt_succ_of_lt hb)) (Heap.get?_push_of_some _ (hH2 ▸ Heap.get?_push_of_some _ e))
 have hD:H2 s2.heap.objs.size=none:=I2.hok.fresh (Nat.le_refl _)
 have hlt:∀ b∈fp,b<s2.heap.objs.size:=fun b hb=>by
  obtain ⟨o,e,_⟩:=T.obj _ _ st2 b hb
  exact Heap.lt_size e
 have hacc:h₁.get? s2.heap.objs.size=some { cls:=.type "list",data:=.seq ([]:List Value).toArray }:=hsb₁.extBut _ _ hDC (Heap.get?_push_of_some _ (hH2 ▸ Heap.get?_push_size _ rfl))
 obtain ⟨W,⟨m0,w0⟩,turn⟩:=hq _ hD
 have I0:∀ tk,Inv (cxComp X scope (own++frees) G2.objs.size s2 H2 fp) [] (sgC own.length js σ) (upd H2 s2.heap.objs.size (.lst [])) { s2 with heap:=h₁,toks:=tk }:=fun tk=>by
  refine ⟨c.ok I2 f2 hlt hCle _,rfl,I2.bare,Un.laid old (Nat.le_refl _) hD,⟨_,hns₁,fun i x v h1 h2 h3=>?_⟩,fun x a h=>?_,?_,fun x a h=>?_,fun p hp=>absurd (show p∈([]:List (Addr×Obj)) from hp) (by simp),I2.hok.laid old (Nat.le_refl _) ⟨Nat.zero_le _,[],0,.nil,hacc⟩,?_⟩
  ·have hi:own.length≤i:=by
    by_cases hi:i<own.length
    ·unfold sgC at h2
     rw [List.getElem?_append_left (by simpa using hi),List.getElem?_replicate] at h2
     rw [if_pos hi] at h2
     cases h2
    ·omega
   have hx:frees[i - own.length]?=some x:=by
    have h1':(own++frees)[i]?=some x:=h1
    rwa [List.getElem?_append_right hi] at h1'
   have h2':(js.map fun j=>(σ[j]?).join)[i - own.length]?=some (some v):=by
    unfold sgC at h2
    rw [List.getElem?_append_right (by simpa using hi)] at h2
    simpa using h2
   rw [List.getElem?_map] at h2'
   obtain ⟨j,hj,hjv⟩:=Option.map_eq_some_iff.mp h2'
   have hs:=congrArg (fun l=>l[i - own.length]?) c.slots
   rw [List.getElem?_map,List.getElem?_map,hj,hx] at hs
   have hNj:X.N[j]?=some x:=Option.some.inj hs
   have hσ:σ[j]?=some (some v):=by
    cases q:σ[j]? with
    | none=>rw [q] at hjv;cases hjv
    | some o =>
     rw [q] at hjv
     have:o=some v:=hjv
     rw [this]
   have hfree:=c.fre x (List.mem_of_getElem? hx)
   have hXk:=c.fr (x,.free) (PySem.mem_of_lookup hfree) rfl
   obtain ⟨m,hn,hl⟩:=I2.loc
   have vis:Vis X.env.scope x:=by rcases hXk with k | k;exact .inr (.inl k);exact .inr (.inr k)
   obtain ⟨u,r,l⟩:=hl j x v hNj hσ vis
   refine ⟨u,r,.inr ⟨lookup_relabel_free (env:=X.env) hfree,?_⟩⟩
   rcases l with ⟨hk,_⟩ | ⟨_,a,ha,hcell⟩
   ·rcases hXk with k | k
    ·have hk:X.env.scope.names.lookup x=some .local:=hk
     rw [show X.env.scope.names.lookup x=some .cell from k] at hk;cases hk
    ·have hk:X.env.scope.names.lookup x=some .local:=hk
     rw [show X.env.scope.names.lookup x=some .free from k] at hk;cases hk
   ·obtain ⟨a',ha'⟩:=c.has hfree
    have e:=c.cl I2.ok ha'
    rw [ha] at e
    cases e
    obtain ⟨o,ho,hd⟩:=hcell
    exact ⟨a,ha',o,old a o ho,hd⟩
  ·obtain ⟨v,o,ho,hd⟩:=I2.cell x a (c.cl I2.ok h)
   exact ⟨v,o,old a o ho,hd⟩
  ·show upd H2 s2.heap.objs.size (.lst []) G2.objs.size=none
   rw [upd_ne (Ne.symm hDC)]
   exact I2.hok.fresh hCle
  ·obtain ⟨v,o,ho,hd⟩:=I2.cell x a (c.cl I2.ok h)
   rw [upd_ne (Nat.ne_of_lt (Heap.lt_size ho))]
   exact I2.freeC x a (c.cl I2.ok h)
  ·rw [sgC_len,List.length_append]
   have:=congrArg List.length c.slots
   rw [List.length_map,List.length_map] at this
   omega
 have stat:∀ {H':Hp},(∀ b∈fp,H' b=none)→∀ b∈fp,FpOk (cxComp X scope (own++frees) G2.objs.size s2 H2 fp) [] H' b:=fun {H'} hn b hb=>by
  obtain ⟨f0,f1,f3,f4,f5,f6⟩:=f2 b hb
  refine ⟨hn b hb,Nat.ne_of_lt (Nat.lt_of_lt_of_le (hlt b hb) hCle),fun z=>?_,.inl hb,fun x a h=>f5 x a (c.cl I2.ok h),fun p hp=>absurd (show p∈([]:List (Addr×Obj)) from hp) (by simp)⟩
  rcases List.mem_cons.mp (I2.stkSub b z) with e | e
  ·exact f1 e
  ·exact f3 e
 have loop:∀ s₃:Shared,s₃={ s2 with heap:=h₁,toks:=s2.toks + ([]:List (Str×Value)).length } →
   codeAny (model X.prog X.w) X.A (.compLoop (.ListComp elt [⟨tg,iter,ifs,0⟩] scope pos) 0 (.ref it) (.ref s2.heap.objs.size) (compEnvC scope (clOf X.env scope.names []) G2.objs.size X.env))
    (RR (.ref s2.heap.objs.size) G2.objs.size) s₃:=by
  rintro s₃ rfl
  refine compLoop_any (fun n s'=>∃ i ys σ' H',Inv (cxComp X scope (own++frees) G2.objs.size s2 H2 fp) [] σ' H' s'∧tn i s'.heap∧(∀ b∈fp,H' b=none)∧W i n ys σ' H') ?_ m0
   ⟨0,[],_,_,I0 _,T.keep _ _ _ st2 fun b _ o e=>old b o e,fun b hb=>by rw [upd_ne (Nat.ne_of_lt (hlt b hb))];exact (f2 b hb).1,w0⟩
  rintro n s3 ⟨i,ys,σ3,H3,I3,st3,fr3,w3⟩ E'
  rcases turn i n ys σ3 H3 w3 with ⟨stop,qn⟩ | ⟨go,hz,N,hN,step⟩
  ·refine thn (T.done (cxComp X scope (own++frees) G2.objs.size s2 H2 fp) rfl rfl rfl c.calm i [] s3 σ3 H3 E' I3 (stat fr3) st3 stop) fun r s4 ⟨hr,I4⟩=>?_
   subst hr
   have back:Inv X pins σ H3 s4:=I2.call' (ch:=fp) I4.os I4.base I4.hok I4.bare fun b hb=>⟨(f2 b hb).2.2.2.1,(f2 b hb).2.1,(f2 b hb).2.2.2.2.1,(f2 b hb).2.2.2.2.2⟩
   exact hR _ _ H3 s4 back (I2.fpOk hCle I4.free) ⟨_,I4.loc.choose_spec.1⟩ qn
  ·refine thn (T.item (cxComp X scope (own++frees) G2.objs.size s2 H2 fp) rfl rfl rfl c.calm i [] s3 σ3 H3 E' I3 (stat fr3) st3 go) fun r s4 ⟨u,hr,h4⟩=>?_
   subst hr
   refine thn h4 fun _ s5 ⟨x,H5,I5,r5,y5,st5,fr5⟩=>?_
   have I5':=I5.pinned (stat fr5) (T.obj _ _ st5)
   have nof:∀ (e:Value) (s':Shared),(cxComp X scope (own++frees) G2.objs.size s2 H2 fp).xe e s'→E' e s':=fun _ _ z=>False.elim z
   refine wpAny_mono (hg _ _ _ _ _ s5 σ3 H5 x u _ I5' r5 (step x H5 y5)) (fun _ s6 ⟨σ6,H6,I6,q6⟩=>?_) nof
   refine wpAny_mono (ht _ _ _ _ _ s6 σ6 H6 _ I6 q6) (fun b s7 ⟨H7,I7,q7⟩=>?_) nof
   have again:∀ {σ7:St} {H7:Hp} {s7:Shared} {ys':List V},Inv (cxComp X scope (own++frees) G2.objs.size s2 H2 fp) ([]++pinsAt fp s5.heap) σ7 H7 s7→N ys' σ7 H7 →
     ∃ m,m<n∧∃ i ys σ' H',Inv (cxComp X scope (own++frees) G2.objs.size s2 H2 fp) [] σ' H' s7∧tn i s7.heap∧(∀ b∈fp,H' b=none)∧W i m ys σ' H':=fun {σ7 H7 s7 ys'} I7 n7=>by
    obtain ⟨m',hm,w7⟩:=hN _ _ _ n7
    refine ⟨m',hm,i + 1,ys',σ7,H7,I7.unpinned,T.keep _ _ _ st5 fun b hb o e=>(I7.pin (b,o) (List.mem_append_right _ (List.mem_append_right _ (mem_pinsAt hb e)))).1,fun b hb=>?_,w7⟩
    obtain ⟨o,e,d⟩:=T.obj _ _ st5 b hb
    exact (I7.pin (b,o) (List.mem_append_right _ (List.mem_append_right _ (mem_pinsAt hb e)))).2.1
   cases b with
   | false =>
    rw [if_neg Bool.false_ne_true] at q7 ⊢
    exact again I7 q7
   | true =>
    rw [if_pos rfl] at q7 ⊢
    refine wpAny_mono (he _ _ _ _ _ s7 σ6 H7 _ I7 q7) (fun v s8 ⟨y,H8,I8,r8,hD8,w8⟩=>?_) nof
    refine wpAny_mono (mt_append (X:=cxComp X scope (own++frees) G2.objs.size s2 H2 fp) _ s8 σ6 H8 (.ref s2.heap.objs.size) [y] (.ref s2.heap.objs.size) [v] (fun _ H9=>H9=upd H8 s2.heap.objs.size (.lst (ys++[y]))) I8 rfl (.cons r8 .nil) ⟨_,ys,y,rfl,rfl,hD8,hz,rfl⟩) (fun z s9 ⟨_,H9,I9,_,e9⟩=>?_) nof
    subst e9
    exact again I9 w8
 exact codeAny_compStart_list (loop _ rfl) (T.self X.A 0 _ _ _ (T.keep _ _ _ st2 fun b _ o e=>old b o e) (loop _ rfl))
end
section
variable {X:Cx} {scope:Scope} {own frees:List Str} {js:List Nat} {tg iter elt:Expr} {ifs:List Expr} {wi:TI} {g:TG} {tt:TT} {te:TE} {pos:Pos}
def tComp (n:Nat) (js:List Nat) (wi:TI) (g:TG) (tt:TT) (te:TE):TE:=fun σ H Q=>wi σ H (compBody n js g tt te σ Q)
theorem pe_comp (own frees:List Str) (js:List Nat) (hc:X.Ok→CompOk X scope own frees js) (hi:PI X tg iter wi)
  (hg:∀ C s H fp,PG (cxComp X scope (own++frees) C s H fp) tg g) (ht:∀ C s H fp,PTs (cxComp X scope (own++frees) C s H fp) ifs tt) (he:∀ C s H fp,PE (cxComp X scope (own++frees) C s H fp) elt te)
  (hs:∀ x,foldedSetIterable iter X.env x=pure x:=by intro _;rfl):
  PE X (.ListComp elt [⟨tg,iter,ifs,0⟩] scope pos) (tComp own.length js wi g tt te):=by
 intro pins s σ H Q I h
 have c:=hc I.ok
 rw [eval_ListComp]
 refine wpAny_comprehension_free (use:=none) rfl hs (closureFor_of (c.cells I.ok)) c.kind c.locals (thn (hi pins s σ H _ I h) fun xv s₁ h₁=>thn h₁ fun it s₂ h₂=>?_)
 refine comp_block (RR:=fun acc C=>compPost (model X.prog X.w) X.A X.xe none (EP X pins σ Q) acc C) c hg ht he h₂ fun D C H' s' J F n q=>?_
 obtain ⟨m,hn⟩:=n
 obtain ⟨f0,f1,f2,f3,f4,f5⟩:=F
 exact ⟨m,hn,fun h' hs'=>⟨.ref D,H',J.turned (t':=s'.toks) (fun b o hb e=>hs'.extBut b o hb e) f0 f1 f3 f4 f5,rfl,q⟩⟩
def tSetComp (k n:Nat) (js:List Nat) (wi:TI) (g:TG) (tt:TT) (te:TE):TS:=fun D σ H=>wi σ H (compBody n js g tt te σ fun v H1=>D.nx (σ.set k (some v)) H1)
theorem ps_setComp {k:Nat}{y:Str}{py spos:Pos} (own frees:List Str) (js:List Nat) (hN:X.N.Nodup) (hk:X.N[k]?=some y) (hy:X.env.scope.names.lookup y=some .local) (hc:X.Ok→CompOk X scope own frees js) (hi:PI X tg iter wi)
  (hg:∀ C s H fp,PG (cxComp X scope (own++frees) C s H fp) tg g) (ht:∀ C s H fp,PTs (cxComp X scope (own++frees) C s H fp) ifs tt) (he:∀ C s H fp,PE (cxComp X scope (own++frees) C s H fp) elt te)
  (hsw:swapsWith (.ListComp elt [⟨tg,iter,ifs,0⟩] scope pos) (some (.Name y py)) spos.line X.env=pure true:=by rfl)
  (hs:∀ x,foldedSetIterable iter X.env x=pure x:=by intro _;rfl):
  PS X (.Assign [.Name y py] (.ListComp elt [⟨tg,iter,ifs,0⟩] scope pos) spos) (tSetComp k own.length js wi g tt te):=by
 intro pins s σ H D I h
 have c:=hc I.ok
 rw [exec_Assign_Name_used _ _ _ _ hsw]
 refine wpAny_bind (wpAny_standAt (wpAny_bind ?_))
 show wpAny _ X.A (do let _ ← comprehension (.ListComp elt [⟨tg,iter,ifs,0⟩] scope pos) scope X.env _ (newList []) false (eval iter X.env) (some (assign (.Name y py) X.env))) _ _ s
 refine wpAny_bind (wpAny_mono (wpAny_comprehension_free (use:=some (assign (.Name y py) X.env)) (Q:=fun _ s'=>SP X pins D .next s') rfl hs (closureFor_of (c.cells I.ok)) c.kind c.locals
  (thn (hi pins s σ H _ I h) fun xv s₁ h₁=>thn h₁ fun it s₂ h₂=>?_)) (fun _ s' hq=>wpAny_pure (wpAny_pure hq)) fun _ _ e=>e)
 refine comp_block (RR:=fun acc C=>compPost (model X.prog X.w) X.A X.xe (some (assign (.Name y py) X.env)) (fun _ s'=>SP X pins D .next s') acc C) c hg ht he h₂ fun A' C H' s' J F n q=>?_
 obtain ⟨m,hn⟩:=n
 obtain ⟨f0,f1,f2,f3,f4,f5⟩:=F
 show wpAny _ X.A (assign (.Name y py) X.env (.ref A')) _ _ _
 refine wpAny_assign_Name (store_ok2 J hN hk (.inl hy) (v:=.ref A') rfl (fun s'' J' ⟨a,sb,ha⟩=>?_) (.inr hy))
 have hne:a≠C:=by
  rcases ha with e | e
  ·rw [e];exact Ne.symm f1
  ·exact f4 y a e
 refine ⟨m,hn.sameBut sb (Ne.symm hne),fun h' hs'=>⟨_,H',J'.turned (t':=s''.toks) (fun b o hb e=>hs'.extBut b o hb e) f0 f1 f3 f4 f5,q⟩⟩
end
theorem comp_runs {J:It}{xs:List V}{Ok:Hp→Prop}(R:Runs J xs Ok) {n:Nat}{js:List Nat}{g:TG}{tt:TT}{te:TE}{σ:St}{Q:VK}{H1:Hp}(hz:xs.length≤sizeLine)
  (Pv:Addr→Nat→List V→St→Hp→Prop) (h0:∀ D,H1 D=none→Pv D 0 [] (sgC n js σ) (upd H1 D (.lst [])))
  (hok:∀ D i ys σ' H,i≤xs.length→Pv D i ys σ' H→Ok H∧ys.length≤i)
  (hs:∀ D i x ys σ' H,H1 D=none→xs[i]?=some x→Pv D i ys σ' H→g x σ' H fun σ3 H3=>tt σ3 H3 fun b H4 =>
   if b=true then te σ3 H4 fun v H5=>H5 D=some (.lst ys)∧Pv D (i + 1) (ys++[v]) σ3 (upd H5 D (.lst (ys++[v]))) else Pv D (i + 1) ys σ3 H4)
  (hd:∀ D ys σ' H,H1 D=none→Pv D xs.length ys σ' H→Q (.ref D) H):
  compBody n js g tt te σ Q J H1:=by
 intro D hD
 refine ⟨fun i m ys σ' H=>m=xs.length - i∧i≤xs.length∧Pv D i ys σ' H,⟨xs.length,by simp,Nat.zero_le _,h0 D hD⟩,?_⟩
 rintro i m ys σ' H ⟨rfl,hi,p⟩
 obtain ⟨q,hy⟩:=hok D i ys σ' H hi p
 by_cases hlt:i<xs.length
 ·have hx:xs[i]?=some xs[i]:=by simp [hlt]
  refine .inr ⟨R.go i _ H q hx,by omega,Pv D (i + 1),fun ys3 σ3 H3 p3=>⟨xs.length - (i + 1),by omega,rfl,hlt,p3⟩,fun x H' y=>?_⟩
  obtain ⟨e1,e2⟩:=R.yld i _ H x H' q hx y
  rw [e2]
  exact hs D i x ys σ' H hD (by rw [e1];exact hx) p
 ·have e:i=xs.length:=by omega
  subst e
  exact .inl ⟨R.stop H q,hd D ys σ' H hD p⟩
theorem comp_pure {J:It}{xs:List V}{Ok:Hp→Prop}(R:Runs J xs Ok) {js:List Nat}{tt:TT}{te:TE}{σ:St}{Q:VK}{H1:Hp}(hz:xs.length≤sizeLine) (p:V→Bool) (f:V→V)
  (hok:∀ D ys,H1 D=none→Ok (upd H1 D (.lst ys)))
  (ht:∀ D ys x (R:Bool→Hp→Prop),H1 D=none→x∈xs→R (p x) (upd H1 D (.lst ys))→tt (some x :: js.map fun j=>(σ[j]?).join) (upd H1 D (.lst ys)) R)
  (he:∀ D ys x (R:V→Hp→Prop),H1 D=none→x∈xs→p x=true→R (f x) (upd H1 D (.lst ys))→te (some x :: js.map fun j=>(σ[j]?).join) (upd H1 D (.lst ys)) R)
  (hd:∀ D,H1 D=none→Q (.ref D) (upd H1 D (.lst ((xs.filter p).map f)))):
  compBody 1 js (gName 0) tt te σ Q J H1:=by
 refine comp_runs R hz (fun D i ys σ' H=>H1 D=none∧ys=((xs.take i).filter p).map f∧(∃ o,σ'=o :: js.map fun j=>(σ[j]?).join)∧H=upd H1 D (.lst ys)) ?_ ?_ ?_ ?_
 ·intro D hD
  exact ⟨hD,by simp,⟨none,rfl⟩,rfl⟩
 ·rintro D i ys σ' H hi ⟨hD,e,_,rfl⟩
  refine ⟨hok D ys hD,?_⟩
  rw [e,List.length_map]
  exact Nat.le_trans (List.length_filter_le _ _) (by rw [List.length_take];omega)
 ·rintro D i x ys σ' H hD hx ⟨_,e,⟨o,rfl⟩,rfl⟩
  show tt (some x :: js.map fun j=>(σ[j]?).join) (upd H1 D (.lst ys)) _
  have hm:x∈xs:=List.mem_of_getElem? hx
  refine ht D ys x _ hD hm ?_
  cases hp:p x with
  | true =>
   rw [if_pos rfl]
   refine he D ys x _ hD hm hp ⟨uS,hD,?_,⟨_,rfl⟩,upd_upd⟩
   rw [take_succ_filter p xs i x hx,hp,List.map_append,e]
   rfl
  | false =>
   rw [if_neg Bool.false_ne_true]
   refine ⟨hD,?_,⟨_,rfl⟩,rfl⟩
   rw [take_succ_filter p xs i x hx,hp,List.map_append,e]
   simp
 ·rintro D ys σ' H hD ⟨_,e,_,rfl⟩
  rw [List.take_length] at e
  rw [e]
  exact hd D hD
end L2
namespace L2
open PySem PySem.Spec PyProof.Rows
section
variable {X:Cx}
theorem bools_get {bs:List Bool}{its:List Value}(r:Vals (bs.map V.bl) its):∀ (i:Nat) (v:Value),its[i]?=some v→v=Value.bool (bs.getD i false):=fun i v h=>by
 have hl:=r.length
 rw [List.length_map] at hl
 have hi:i<its.length:=(List.getElem?_eq_some_iff.mp h).1
 have hb:(bs.map V.bl)[i]?=some (V.bl (bs.getD i false)):=by
  rw [List.getElem?_map,List.getD_eq_getElem?_getD]
  have:i<bs.length:=by omega
  simp [this]
 obtain ⟨u,hu,ru⟩:=r.get hb
 rw [h] at hu
 cases hu
 exact ru
theorem range_all {bs:List Bool}:(List.range bs.length).all (fun i=>bs.getD i false)=bs.all id:=by
 rw [Bool.eq_iff_iff]
 simp only [List.all_eq_true,List.mem_range,id]
 constructor
 ·intro h b hb
  obtain ⟨i,hi,e⟩:=List.mem_iff_getElem.mp hb
  have:=h i hi
  rw [List.getD_eq_getElem?_getD] at this
  simpa [hi,e] using this
 ·intro h i hi
  rw [List.getD_eq_getElem?_getD]
  simp only [List.getElem?_eq_getElem hi,Option.getD_some]
  exact h _ (List.getElem_mem hi)
def rAll (K:W.Frag) (f:List Bool→Bool):List V→Hp→VK→Prop:=fun xs H Q=>∃ a bs,xs=[.ref a]∧SqL K H a (bs.map V.bl)∧Q (.bl (f bs)) H
theorem call_all (hc:X.calm=true):CallR X (.builtin "all") (rAll X.K fun bs=>bs.all id):=by
 intro pins s σ H xs us Q I r h
 obtain ⟨a,bs,rfl,ha,q⟩:=h
 obtain ⟨u,rfl,ru⟩:=vals1 r
 cases ru
 obtain ⟨its,rv,p,hz⟩:=I.list ha
 have hl:=rv.length
 rw [List.length_map] at hl
 refine call_all_walk (wpAny_pyIter_list p.isList ?_)
 have hne:a≠s.heap.objs.size:=by
  obtain ⟨o,ho,_⟩:=p.isList
  exact Nat.ne_of_lt (Heap.lt_size ho)
 refine ⟨s.heap.objs.size,_,_,_,_,_,fun i=>bs.getD i false,rfl,Walks.list (A:=X.A.in1) (I.ok.hd hc) s.heap.objs.size a hne its.toArray,⟨⟨_,Heap.get?_push_size _ rfl,rfl,rfl⟩,?_⟩,?_,?_⟩
 ·obtain ⟨o,ho,r'⟩:=p.isList
  exact ⟨o,Heap.get?_push_of_some _ ho,r'⟩
 ·intro i v s' Q' E' hv hq
  have e:=bools_get rv i v (by simpa using hv)
  subst e
  exact wpAny_truthy_bool hq
 ·intro h' tk hk
  refine ⟨.bl (bs.all id),H,I.kept fun b o e=>hk b o ?_ (Heap.get?_push_of_some _ e),?_,q⟩
  ·have hb:=Heap.lt_size e
   intro z
   have z':b=s.heap.objs.size:=by simpa using z
   exact Nat.ne_of_lt hb z'
  ·have:its.toArray.size=bs.length:=by simp [hl]
   rw [this,range_all]
   rfl
def CMulB (i j:Int):Prop:=Builtin.Int.intBits i≤2 ^ 20∧Builtin.Int.intBits j≤2 ^ 20
theorem op_mulB:OpR X (binaryOp .Mult) (rI CMulB fun i j=>.int (i * j)):=opI fun _ _ _ _ _ _ _ hc q=>mul_int q (IntMulOk.of_bits hc.1 hc.2)
def CDivB (i j:Int):Prop:=0<j∧j<4611686018427387904
theorem op_fdivB:OpR X (binaryOp .FloorDiv) (rI CDivB fun i j=>.int (i / j)):=opI fun i j _ _ _ _ _ hc q=>by
 have h1:(0:Int)<j:=hc.1
 have h2:j<4611686018427387904:=hc.2
 refine floordiv_int (by omega) (by rw [Int.fdiv_eq_ediv_of_nonneg i (by omega)];exact q) (.inl (PyProof.noPylong_of_log2 ?_))
 have h3:j.natAbs.log2<62:=(Nat.log2_lt (by omega)).mpr (by omega)
 omega
def rSlS:V→Option Int→Option Int→Hp→VK→Prop:=fun x lo hi H Q=>∃ z,x=.str z∧z.length≤sizeLine∧Q (.str (Txt.slice z lo hi)) H
theorem sl_str:SlR X rSlS:=by
 intro pins s σ H x v vl vu lo hi sl Q I rx hs pl pu h
 obtain ⟨z,rfl,hz,q⟩:=h
 obtain ⟨t,rfl⟩:=rx
 refine ⟨"str",_,F.slot_str_getitem.lookup,typeIs_str _ _ _,?_⟩
 have fin:∀ t' k,EP X pins σ Q (.str (Txt.slice z lo hi) t') { s with toks:=k }:=fun t' k=>⟨.str _,H,I.tok _,⟨_,rfl⟩,q⟩
 have hsz:=Nat.le_trans (Txt.slice_le z lo hi) hz
 obtain ⟨o,h1,h2,h3⟩:=hs
 cases pl with
 | none =>
  cases pu with
  | none=>exact wpAny_getItem_str_slice (l:=none) (u:=none) (st:=none) ⟨o,h1,h2,h3⟩ rfl (post_val_or_str ⟨hsz,fin⟩)
  | int j uj=>exact wpAny_getItem_str_slice (l:=none) (u:=some (j,uj)) (st:=none) ⟨o,h1,h2,h3⟩ rfl (post_val_or_str ⟨hsz,fin⟩)
 | int i ui =>
  cases pu with
  | none=>exact wpAny_getItem_str_slice (l:=some (i,ui)) (u:=none) (st:=none) ⟨o,h1,h2,h3⟩ rfl (post_val_or_str ⟨hsz,fin⟩)
  | int j uj=>exact wpAny_getItem_str_slice (l:=some (i,ui)) (u:=some (j,uj)) (st:=none) ⟨o,h1,h2,h3⟩ rfl (post_val_or_str ⟨hsz,fin⟩)
end
def compT (osc:Scope) (on:List Str) (scope:Scope) (frees:List Str) (js:List Nat):Bool :=
 (scope.kind == .function)&&scope.names.all (fun y=>y.2 != .cell)&&scope.names.all (fun y=>y.2 != .local || scope.names.lookup y.1 == some .local) &&
 scope.names.all (fun y=>y.2 != .free || (osc.names.lookup y.1 == some .cell || osc.names.lookup y.1 == some .free))&&frees.all (fun x=>scope.names.lookup x == some .free)&&decide (js.map (fun j=>on[j]?)=frees.map some)
theorem compT_ok {X:Cx}{osc scope:Scope}{on own frees:List Str}{js:List Nat}(h:compT osc on scope frees js=true) (h1:X.env.scope=osc) (h2:X.N=on) (h3:X.calm=true):CompOk X scope own frees js:=by
 subst h1
 subst h2
 unfold compT at h
 simp only [Bool.and_eq_true,List.all_eq_true,decide_eq_true_eq,Bool.or_eq_true,bne_iff_ne,beq_iff_eq,ne_eq] at h
 obtain ⟨⟨⟨⟨⟨a,b⟩,c⟩,d⟩,e⟩,f⟩:=h
 exact ⟨h3,a,b,fun y hy z=>(c y hy).resolve_left (fun q=>q z),fun y hy z=>(d y hy).resolve_left (fun q=>q z),e,f⟩
def tCut (t u:TS):TS:=fun D σ H=>∃ M:St→Hp→Prop,t { D with nx:=M } σ H∧∀ σ' H',M σ' H'→u D σ' H'
theorem pss_cut {X:Cx}{st:Stmt}{rest:List Stmt}{t u:TS} (h1:PS X st t) (h2:PSs X rest u):PSs X (st :: rest) (tCut t u):=by
 intro pins s σ H D I h
 obtain ⟨M,h,hM⟩:=h
 refine wpAny_execs_cons (thn (h1 pins s σ H { D with nx:=M } I h) fun f s1 q=>?_)
 cases f with
 | next =>
  obtain ⟨σ',H',I',q⟩:=q
  exact h2 pins s1 σ' H' D I' (hM _ _ q)
 | ret v=>exact q
 | brk=>exact q
 | cont=>exact q
structure Def (K:W.Frag) (mg:Str→Option Value) (x:Str) (st:Stmt) (ps:List Str) (f:Addr) (fd:FuncData):Prop where
 fn:Fun K x x st f fd
 b:Binds K fd ps []
 m:mg x=some (.ref f)
theorem pe_callD {X:Cx}{k:Nat}{f:Addr}{fd:FuncData}{ps:List Str}{sp:Sp}{x:Str}{st:Stmt}{p pos:Pos}{e:Expr}{es:List Expr}{t:TA}(d:Def X.K X.mg x st ps f fd) (F:FnOk X.prog X.w X.K X.mg X.base CX0 k f fd ps sp) (hr:Room k X.A)
  (ha:PA X (e :: es) t) (hg:Gl X x:=by rfl) (hdb:(x == ("__debug__":Str))=false:=by decide) (he:starEach (e :: es) X.env=(false,eval e X.env):: starEach es X.env:=by rfl) (hpl:(backTo pos (starEach es X.env)).any (·.1)=false:=by rfl):
  PE X (.Call (.Name x p) (e :: es) [] pos) (tCall sp [] E0 t):=pe_call F hr hg d.m d.fn.kp d.b .nil pass0 ha hdb he hpl
theorem sL {n:Nat}(h:n≤100000):n≤sizeLine:=by rw [sizeLine_eq];omega
end L2
namespace L2
open PySem PySem.Spec PyProof.Rows PySem.W
mutual
inductive Rep (K:W.Frag) (H:Hp):V→Dat→Prop
 | none:Rep K H .non .none
 | bool (b:Bool):Rep K H (.bl b) (.bool b)
 | int (i:Int):Rep K H (.int i) (.int i)
 | str (x:Str):Rep K H (.str x) (.str x)
 | tuple {a:Addr} {xs:List V} {ds:List Dat}:SqT K H a xs→Reps K H xs ds→Rep K H (.ref a) (.tuple ds)
 | list {a:Addr} {xs:List V} {ds:List Dat}:SqL K H a xs→Reps K H xs ds→Rep K H (.ref a) (.list ds)
inductive Reps (K:W.Frag) (H:Hp):List V→List Dat→Prop
 | nil:Reps K H [] []
 | cons {v:V} {vs:List V} {d:Dat} {ds:List Dat}:Rep K H v d→Reps K H vs ds→Reps K H (v :: vs) (d :: ds)
end
theorem Same.tup {K:W.Frag}{H H':Hp}{a:Addr}{xs:List V}(e:Same H H') (h:SqT K H a xs):SqT K H' a xs:=by
 rcases h with (h | ⟨o,h⟩) | h
 ·exact .inl (.inl (e _ _ h))
 ·exact .inl (.inr ⟨o,e _ _ h⟩)
 ·exact .inr h
mutual
theorem Rep.mono {K:W.Frag}{H H':Hp}(e:Same H H'):∀ {v:V}{d:Dat},Rep K H v d→Rep K H' v d
 | _,_,.none=>.none
 | _,_,.bool b=>.bool b
 | _,_,.int i=>.int i
 | _,_,.str x=>.str x
 | _,_,.tuple h r=>.tuple (e.tup h) (Reps.mono e r)
 | _,_,.list h r=>.list (e.seq h) (Reps.mono e r)
theorem Reps.mono {K:W.Frag}{H H':Hp}(e:Same H H'):∀ {vs:List V}{ds:List Dat},Reps K H vs ds→Reps K H' vs ds
 | _,_,.nil=>.nil
 | _,_,.cons h r=>.cons (Rep.mono e h) (Reps.mono e r)
end
section
variable {X:Cx} {pins:List (Addr×Obj)} {σ:St} {H:Hp} {s:Shared}
mutual
theorem Rep.reads (I:Inv X pins σ H s):∀ {v:V}{d:Dat}{u:Value},Rep X.K H v d→RelV v u→∃ as,Reads s.heap u (kqdP d) as
 | _,_,_,.none,r=>by cases (show _=Value.none from r);rw [kqdP];exact ⟨_,Reads.none⟩
 | _,_,_,.bool b,r=>by cases (show _=Value.bool b from r);rw [kqdP];exact ⟨_,Reads.bool b⟩
 | _,_,_,.int i,r=>by obtain ⟨t,e⟩:=(show ∃ t,_=Value.int i t from r);cases e;rw [kqdP];exact ⟨_,Reads.int i t⟩
 | _,_,_,.str x,r=>by obtain ⟨t,e⟩:=(show ∃ t,_=Value.str x t from r);cases e;rw [kqdP];exact ⟨_,Reads.str x t⟩
 | _,_,_,.tuple (a:=a) h q,r=>by
  cases (show _=Value.ref a from r)
  obtain ⟨its,rv,⟨o,e,c,n,d⟩,_⟩:=I.tuple h
  obtain ⟨as,p⟩:=Reps.reads I q rv
  rw [kqdP]
  exact ⟨as,reads_tuple_at e c d (by simpa using p)⟩
 | _,_,_,.list (a:=a) h q,r=>by
  cases (show _=Value.ref a from r)
  obtain ⟨its,rv,⟨o,n,e,c,_,d⟩,_⟩:=I.list h
  obtain ⟨as,p⟩:=Reps.reads I q rv
  rw [kqdP]
  exact ⟨_,reads_list_at e c d (by simpa using p)⟩
theorem Reps.reads (I:Inv X pins σ H s):∀ {vs:List V}{ds:List Dat}{us:List Value},Reps X.K H vs ds→Vals vs us→∃ as,ReadsAll s.heap us (kqdPs ds) as
 | _,_,_,.nil,r=>by cases r;rw [kqdPs];exact ⟨_,ReadsAll.nil⟩
 | _,_,_,.cons h q,r=>by
  cases r with
  | cons r1 r2 =>
   obtain ⟨as,p⟩:=Rep.reads I h r1
   obtain ⟨bs,t⟩:=Reps.reads I q r2
   rw [kqdPs]
   exact ⟨_,ReadsAll.cons p t⟩
end
end
noncomputable def dEq (d e:Dat):Bool:=@decide (d=e) (Classical.propDecidable _)
theorem dEq_self (d:Dat):dEq d d=true:=by unfold dEq;exact @decide_eq_true _ (Classical.propDecidable _) rfl
theorem dEq_pos {d e:Dat}(h:d=e):dEq d e=true:=by rw [h];exact dEq_self e
theorem dEq_neg {d e:Dat}(h:d≠e):dEq d e=false:=by unfold dEq;exact @decide_eq_false _ (Classical.propDecidable _) h
theorem eqv_dEq {d e:Dat}{n k:Nat} (h1:kqdOk n d=true) (h2:kqdOk k e=true):PyData.eqv (kqdP d) (kqdP e)=dEq d e:=by
 have q:=kqd_eqv n d e k h1 h2
 by_cases h:d=e
 ·rw [dEq_pos h];exact q.mpr h
 ·rw [dEq_neg h];exact Bool.eq_false_iff.mpr fun x=>h (q.mp x)
theorem shaped_of {d:Dat}(h:kqdOk 9 d=true):SeqAt.shaped (kqdP d)=true:=by
 have l:=kqd_lay 9 d h
 unfold SeqAt.shaped
 rw [l.1,Bool.true_and]
 exact decide_eq_true (Nat.le_trans l.2 (by decide))
section
variable {X:Cx}
noncomputable def rEqD (K:W.Frag) (f:Bool→Bool):R2:=fun x y H Q=>∃ d e,Rep K H x d∧Rep K H y e∧kqdOk 9 d=true∧kqdOk 9 e=true∧Q (.bl (f (dEq d e))) H
theorem op_eqD (hu:X.A.units + 64<cLine):OpR X (compareOp .Eq) (rEqD X.K id):=by
 intro pins s σ H x y v u Q I rx ry h
 obtain ⟨d,e,h1,h2,k1,k2,q⟩:=h
 obtain ⟨as,ra⟩:=h1.reads I rx
 obtain ⟨bs,rb⟩:=h2.reads I ry
 exact eq_dataH ra rb (shaped_of k1) (shaped_of k2) hu (fin_bl I q (by rw [eqv_dEq k1 k2];rfl))
theorem op_neD (hu:X.A.units + 64<cLine):OpR X (compareOp .NotEq) (rEqD X.K Bool.not):=by
 intro pins s σ H x y v u Q I rx ry h
 obtain ⟨d,e,h1,h2,k1,k2,q⟩:=h
 obtain ⟨as,ra⟩:=h1.reads I rx
 obtain ⟨bs,rb⟩:=h2.reads I ry
 exact ne_dataH ra rb (shaped_of k1) (shaped_of k2) hu (fin_bl I q (by rw [eqv_dEq k1 k2]))
end
end L2
namespace L2
open PySem PySem.Spec PyProof.Rows
section
variable {X:Cx} {pins:List (Addr×Obj)} {σ:St} {H H':Hp} {s:Shared} {a:Addr} {kvs:List (Key×V)} {o:Obj}
theorem Inv.reH (I:Inv X pins σ H s) (base:Un X.fs X.ex X.H₀ H' X.s₀.heap s.heap) (hn:∀ b,H b=none→H' b=none) (hok:HOk X.prog X.w H' s.heap):Inv X pins σ H' s :=
 ⟨I.ok,I.os,I.bare,base,I.loc,I.cell,hn _ I.free,fun x c e=>hn _ (I.freeC x c e),fun p hp=>by
  obtain ⟨e,n,r⟩:=I.pin p hp
  exact ⟨e,hn _ n,r⟩,hok,I.len⟩
theorem Inv.reAt {u u':HO}(I:Inv X pins σ H s) (h:H a=some u) (nt:∀ xs,u≠.tup xs) (no:∀ y,u≠.own y) (nb:∀ ps,u≠.tbl ps) (nf:∀ o v,X.H₀ a≠some (.frz o v))
  (ok:ObjOk X.prog X.w H s.heap a u→ObjOk X.prog X.w (upd H a u') s.heap a u'):Inv X pins σ (upd H a u') s:=by
 have hn:∀ b,H b=none→upd H a u' b=none:=fun b e=>by
  rw [upd_ne]
  ·exact e
  ·rintro rfl;rw [h] at e;cases e
 refine I.reH ⟨I.base.keep,I.base.slot,fun b ob e n hx=>hn b (I.base.free b ob e n hx),I.base.there,fun b xs e=>?_,fun b ob v e=>?_,fun b ps e=>?_⟩ hn ?_
 ·have q:=I.base.tups b xs e
  rw [upd_ne]
  ·exact q
  ·rintro rfl;rw [h] at q;exact nt xs (Option.some.inj q)
 ·have q:=I.base.frzs b ob v e
  rw [upd_ne]
  ·exact q
  ·rintro rfl;exact nf ob v e
 ·obtain ⟨m,q⟩:=I.base.tbls b ps e
  refine ⟨m,?_⟩
  rw [upd_ne]
  ·exact q
  ·rintro rfl;rw [h] at q;exact nb _ (Option.some.inj q)
 ·intro b v e
  by_cases hb:b=a
  ·subst hb
   rw [uS] at e
   cases e
   exact ok (I.hok b u h)
  ·rw [upd_ne hb] at e
   refine (I.hok b v e).stay (fun _ _ _ q=>q) (fun c q=>?_) fun c xs q=>?_
   ·rw [upd_ne]
    ·exact q
    ·rintro rfl;rw [h] at q;exact no _ (Option.some.inj q)
   ·rw [upd_ne]
    ·exact q
    ·rintro rfl;rw [h] at q;exact nt _ (Option.some.inj q)
theorem Inv.freeze (I:Inv X pins σ H s) (h:H a=some (.dK kvs)) (ho:s.heap.get? a=some o):Inv X pins σ (upd H a (.frz o (.dK kvs))) s∧∀ o' v,X.H₀ a≠some (.frz o' v):=by
 have nf:∀ o' v,X.H₀ a≠some (.frz o' v):=fun o' v e=>by
  have q:=I.base.frzs a o' v e
  rw [h] at q
  cases q
 refine ⟨I.reAt h (fun _ z=>nomatch z) (fun _ z=>nomatch z) (fun _ z=>nomatch z) nf fun k=>⟨ho,k.stay (fun _ _ _ q=>q) (fun c q=>?_) fun c xs q=>?_⟩,nf⟩
 ·rw [upd_ne]
  ·exact q
  ·rintro rfl;rw [h] at q;cases q
 ·rw [upd_ne]
  ·exact q
  ·rintro rfl;rw [h] at q;cases q
theorem relKey {P:Program}{w:World}{k:Key}{u:Value}(h:(mixKind P w).is k u=true):RelV (kV k) u:=by
 rcases keyIs_shape (show keyIs k u=true from h) with ⟨i,t,rfl,rfl⟩ | ⟨x,t,rfl,rfl⟩
 ·exact ⟨t,rfl⟩
 ·exact ⟨t,rfl⟩
end
def Itk (a:Addr) (o:Obj) (kvs:List (Key×V)):It :=
 ⟨fun i H=>i<kvs.length∧H a=some (.frz o (.dK kvs)),fun i H v H'=>H'=H∧∃ p,kvs[i]?=some p∧v=kV p.1,fun i H=>kvs.length≤i∧H a=some (.frz o (.dK kvs))⟩
def Itv (a:Addr) (o:Obj) (kvs:List (Key×V)):It :=
 ⟨fun i H=>i<kvs.length∧H a=some (.frz o (.dK kvs)),fun i H v H'=>H'=H∧∃ p,kvs[i]?=some p∧v=p.2,fun i H=>kvs.length≤i∧H a=some (.frz o (.dK kvs))⟩
theorem KV.get {κ:Type}:∀ {kvs:List (κ×V)}{vs:List (κ×Value)},KV kvs vs→∀ {i:Nat}{p:κ×V},kvs[i]?=some p→∃ u,vs[i]?=some (p.1,u)∧RelV p.2 u
 | _,_,.nil,i,p,h=>by simp at h
 | _,_,.cons r t,0,p,h=>by
  simp at h
  subst h
  exact ⟨_,by simp [r.1],r.2⟩
 | _,_,.cons r t,i + 1,p,h=>by
  obtain ⟨u,h1,h2⟩:=KV.get t (i:=i) (p:=p) (by simpa using h)
  exact ⟨u,by simpa using h1,h2⟩
theorem frz_dict {P:Program}{w:World}{H:Hp}{h:Heap}{a:Addr}{o:Obj}{kvs:List (Key×V)}{es:Array DictEntry}{ep:Nat}(ok:ObjOk P w H h a (.frz o (.dK kvs))) (hd:o.data=.dict es ep):
  (a == sysModules)=false∧∃ vs,KV kvs vs∧h.DictAt (mixKind P w) a vs ep:=by
 obtain ⟨ho,z,hs,vs,r,o',es',ep',h1,h2,h3,h4,h5,h6⟩:=ok
 rw [ho] at h1
 cases h1
 rw [hd] at h3
 cases h3
 exact ⟨hs,vs,r,o,es,ho,h2,hd,h4,h5,h6⟩
theorem turn_keys {P:Program}{w:World}{K:W.Frag}{tg:Expr} (a it:Addr) (o:Obj) (kvs:List (Key×V)) (es:Array DictEntry) (ep:Nat) (hd:o.data=.dict es ep):
  Turn P w K tg (Itk a o kvs) [it] it (fun i h=>h.IsKeyIter it a i kvs.length ep) where
 mem:=by simp
 obj:=fun i h st b hb=>by
  have e:b=it:=by simpa using hb
  subst e
  obtain ⟨o,e,c,d⟩:=st
  exact ⟨o,e,fun v z=>by rw [d] at z;cases z⟩
 keep:=fun i h h' st k=>by
  obtain ⟨o,ho,r⟩:=st
  exact ⟨o,k it (by simp) o ho,r⟩
 item:=by
  intro X hP hw hK hc i pins s σ H E I hf st hg
  subst hP hw hK
  obtain ⟨f0,f1,f2,f3,f4,f5⟩:=hf it (by simp)
  obtain ⟨hi,ha⟩:=hg
  obtain ⟨_,vs,r,dd⟩:=frz_dict (I.hok a _ ha) hd
  obtain ⟨p,hp⟩:∃ p,kvs[i]?=some p:=⟨kvs[i],by simp [hi]⟩
  obtain ⟨u,hu,ru⟩:=r.get hp
  have hl:kvs.length=vs.length:=Paired.length r
  rw [hl] at st
  refine wpAny_pyNext_dict_item st dd hu fun key h' hk st' sb=>?_
  have I1:Inv X pins σ H { s with heap:=h' }:=I.turned (t':=s.toks) (fun b o hb e=>(sb.2 b hb).trans e) f0 f1 f3 f4 f5
  obtain ⟨o',e,c,d⟩:=id st'
  rw [← hl] at st'
  exact ⟨key,rfl,go_of (s:={ s with heap:=h' }) e c d (by decide) ⟨kV p.1,H,I1,relKey hk,⟨rfl,p,hp,rfl⟩,st',fun b hb=>(hf b hb).1⟩⟩
 done:=by
  intro X hP hw hK hc i pins s σ H E I hf st hg
  subst hP hw hK
  obtain ⟨f0,f1,f2,f3,f4,f5⟩:=hf it (by simp)
  obtain ⟨hi,ha⟩:=hg
  obtain ⟨_,vs,r,dd⟩:=frz_dict (I.hok a _ ha) hd
  have hl:kvs.length=vs.length:=Paired.length r
  rw [hl] at st
  exact wpAny_pyNext_dict_end (I.ok.hd hc) st dd (by simp;omega) fun h' eb=>⟨rfl,I.turned (t':=s.toks) (fun b o hb e=>eb b o hb e) f0 f1 f3 f4 f5⟩
 self:=fun _ _ _ _ _ st h=>wpAny_pyIter_keyiter st h
theorem turn_vals {P:Program}{w:World}{K:W.Frag}{tg:Expr} (a it:Addr) (o:Obj) (kvs:List (Key×V)) (es:Array DictEntry) (ep:Nat) (hd:o.data=.dict es ep):
  Turn P w K tg (Itv a o kvs) [it] it (fun i h=>h.IsValIter it a i kvs.length ep) where
 mem:=by simp
 obj:=fun i h st b hb=>by
  have e:b=it:=by simpa using hb
  subst e
  obtain ⟨o,e,c,d⟩:=st
  exact ⟨o,e,fun v z=>by rw [d] at z;cases z⟩
 keep:=fun i h h' st k=>by
  obtain ⟨o,ho,r⟩:=st
  exact ⟨o,k it (by simp) o ho,r⟩
 item:=by
  intro X hP hw hK hc i pins s σ H E I hf st hg
  subst hP hw hK
  obtain ⟨f0,f1,f2,f3,f4,f5⟩:=hf it (by simp)
  obtain ⟨hi,ha⟩:=hg
  obtain ⟨_,vs,r,dd⟩:=frz_dict (I.hok a _ ha) hd
  obtain ⟨p,hp⟩:∃ p,kvs[i]?=some p:=⟨kvs[i],by simp [hi]⟩
  obtain ⟨u,hu,ru⟩:=r.get hp
  have hl:kvs.length=vs.length:=Paired.length r
  rw [hl] at st
  refine wpAny_pyNext_values_item st dd hu fun h' st' sb=>?_
  have I1:Inv X pins σ H { s with heap:=h' }:=I.turned (t':=s.toks) (fun b o hb e=>(sb.2 b hb).trans e) f0 f1 f3 f4 f5
  obtain ⟨o',e,c,d⟩:=id st'
  rw [← hl] at st'
  exact ⟨u,rfl,go_of (s:={ s with heap:=h' }) e c d (by decide) ⟨p.2,H,I1,ru,⟨rfl,p,hp,rfl⟩,st',fun b hb=>(hf b hb).1⟩⟩
 done:=by
  intro X hP hw hK hc i pins s σ H E I hf st hg
  subst hP hw hK
  obtain ⟨f0,f1,f2,f3,f4,f5⟩:=hf it (by simp)
  obtain ⟨hi,ha⟩:=hg
  obtain ⟨_,vs,r,dd⟩:=frz_dict (I.hok a _ ha) hd
  have hl:kvs.length=vs.length:=Paired.length r
  rw [hl] at st
  exact wpAny_pyNext_values_end (I.ok.hd hc) st dd (by simp;omega) fun h' eb=>⟨rfl,I.turned (t':=s.toks) (fun b o hb e=>eb b o hb e) f0 f1 f3 f4 f5⟩
 self:=fun _ _ _ _ _ st h=>wpAny_pyIter_valiter st h
def tFrz (t:TS):TS:=fun D σ H=>∃ a kvs,H a=some (.dK kvs)∧∀ o,t D σ (upd H a (.frz o (.dK kvs)))
theorem pss_frz {X:Cx}{sts:List Stmt}{t:TS}(h:PSs X sts t):PSs X sts (tFrz t):=by
 intro pins s σ H D I q
 obtain ⟨a,kvs,ha,q⟩:=q
 obtain ⟨o,ho⟩:∃ o,s.heap.get? a=some o:=by
  obtain ⟨_,_,vs,_,o,_,_,e,_⟩:=I.hok a _ ha
  exact ⟨o,e⟩
 exact h pins s σ _ D (I.freeze ha ho).1 (q o)
theorem frz_data {P:Program}{w:World}{H:Hp}{h:Heap}{a:Addr}{o:Obj}{kvs:List (Key×V)}(ok:ObjOk P w H h a (.frz o (.dK kvs))):∃ es ep,o.data=.dict es ep:=by
 obtain ⟨ho,z,hs,vs,r,o',es',ep',h1,h2,h3,_⟩:=ok
 rw [ho] at h1
 cases h1
 exact ⟨es',ep',h3⟩
theorem runs_keys {a:Addr}{o:Obj}{kvs:List (Key×V)}:Runs (Itk a o kvs) (kvs.map fun p=>kV p.1) (fun H=>H a=some (.frz o (.dK kvs))) where
 go:=fun i x H ok hx=>by
  have:=(List.getElem?_eq_some_iff.mp hx).1
  rw [List.length_map] at this
  exact ⟨this,ok⟩
 yld:=fun i x H y H' ok hx h=>by
  obtain ⟨e,p,hp,hy⟩:=h
  rw [List.getElem?_map,hp] at hx
  exact ⟨hy.trans (Option.some.inj hx),e⟩
 stop:=fun H ok=>⟨by rw [List.length_map];exact Nat.le_refl _,ok⟩
theorem runs_vals {a:Addr}{o:Obj}{kvs:List (Key×V)}:Runs (Itv a o kvs) (kvs.map fun p=>p.2) (fun H=>H a=some (.frz o (.dK kvs))) where
 go:=fun i x H ok hx=>by
  have:=(List.getElem?_eq_some_iff.mp hx).1
  rw [List.length_map] at this
  exact ⟨this,ok⟩
 yld:=fun i x H y H' ok hx h=>by
  obtain ⟨e,p,hp,hy⟩:=h
  rw [List.getElem?_map,hp] at hx
  exact ⟨hy.trans (Option.some.inj hx),e⟩
 stop:=fun H ok=>⟨by rw [List.length_map];exact Nat.le_refl _,ok⟩
section
variable {X:Cx} {tg:Expr}
def iKeys (tl:TE):TI:=fun σ H R=>tl σ H fun x H1=>∃ a o kvs,x=.ref a∧H1 a=some (.frz o (.dK kvs))∧R (Itk a o kvs) H1
theorem pi_keys {l:Expr}{tl:TE}(hl:PE X l tl):PI X tg l (iKeys tl):=by
 intro pins s σ H R I h
 refine thn (hl pins s σ H _ I h) fun v s1 ⟨x,H1,I1,r1,q1⟩=>?_
 obtain ⟨a,o,kvs,e,ha,q⟩:=q1
 subst e
 cases r1
 obtain ⟨es,ep,hd⟩:=frz_data (I1.hok a _ ha)
 obtain ⟨hs,vs,r,dd⟩:=frz_dict (I1.hok a _ ha) hd
 have hl:kvs.length=vs.length:=Paired.length r
 refine wpAny_pyIter_dict hs dd ?_
 refine ⟨s1.heap.objs.size,[s1.heap.objs.size],_,_,H1,rfl,I1.kept (t':=s1.toks) fun b o e=>Heap.get?_push_of_some _ e,turn_keys a _ o kvs es ep hd,⟨_,Heap.get?_push_size _ rfl,rfl,by rw [hl];rfl⟩,fun b hb=>?_,q⟩
 have e:b=s1.heap.objs.size:=by simpa using hb
 subst e
 exact I1.fpOk (Nat.le_refl _) (I1.hok.fresh (Nat.le_refl _))
end
end L2
namespace L2
open PySem PySem.Spec PyProof.Rows
theorem small_line' {n:Nat}(h:n≤10000000):n≤sizeLine:=by rw [sizeLine_eq];omega
theorem vals_of:∀ {xs:List V}{us:List Value},xs.length=us.length→(∀ (i:Nat) (v:V) (u:Value),xs[i]?=some v→us[i]?=some u→RelV v u)→Vals xs us
 | [],[],_,_=>.nil
 | [],_ :: _,h,_=>by simp at h
 | _ :: _,[],h,_=>by simp at h
 | x :: xs,u :: us,h,k=>.cons (k 0 x u rfl rfl) (vals_of (by simpa using h) fun i v w hv hw=>k (i + 1) v w (by simpa using hv) (by simpa using hw))
theorem comp_rel {J:It}{xs:List V}{Ok:Hp→Prop}(R:Runs J xs Ok) {js:List Nat}{tt:TT}{te:TE}{σ:St}{Q:VK}{H1:Hp}(hz:xs.length≤sizeLine) (p:V→Bool) (F:Addr→V→V→Hp→Prop)
  (hF:∀ D x v H H',(∀ b o,b≠D→H b=some o→H' b=some o)→F D x v H→F D x v H')
  (hok:∀ H,Same H1 H→Ok H)
  (ht:∀ x H (R:Bool→Hp→Prop),Same H1 H→x∈xs→(∀ H',Same H H'→R (p x) H')→tt (some x :: js.map fun j=>(σ[j]?).join) H R)
  (he:∀ D x H (R:V→Hp→Prop),Same H1 H→(∃ ys,H D=some (.lst ys))→H1 D=none→x∈xs→p x=true→(∀ v H',Same H H'→F D x v H'→R v H')→te (some x :: js.map fun j=>(σ[j]?).join) H R)
  (hd:∀ D H' ys,H1 D=none→Same H1 H'→H' D=some (.lst ys)→Paired (fun x v=>F D x v H') (xs.filter p) ys→Q (.ref D) H'):
  compBody 1 js (gName 0) tt te σ Q J H1:=by
 refine comp_runs R hz (fun D i ys σ' H=>H1 D=none∧Same H1 H∧H D=some (.lst ys)∧Paired (fun x v=>F D x v H) ((xs.take i).filter p) ys∧∃ o,σ'=o :: js.map fun j=>(σ[j]?).join) ?_ ?_ ?_ ?_
 ·intro D hD
  exact ⟨hD,fun b o e=>by rw [upd_ne (nNo e hD)];exact e,uS,by simpa using Paired.nil,none,rfl⟩
 ·rintro D i ys σ' H hi ⟨hD,hs,hl,hp,_⟩
  refine ⟨hok H hs,?_⟩
  rw [← hp.length]
  exact Nat.le_trans (List.length_filter_le _ _) (by rw [List.length_take];omega)
 ·rintro D i x ys σ' H hD hx ⟨_,hs,hl,hp,o,rfl⟩
  show tt (some x :: js.map fun j=>(σ[j]?).join) H _
  have hm:x∈xs:=List.mem_of_getElem? hx
  refine ht x H _ hs hm fun H4 s4=>?_
  have hs4:Same H1 H4:=hs.trans s4
  have mono:∀ {H H':Hp},(∀ b o,b≠D→H b=some o→H' b=some o)→Paired (fun x v=>F D x v H) ((xs.take i).filter p) ys→Paired (fun x v=>F D x v H') ((xs.take i).filter p) ys:=fun h q=>Paired.mapP q fun a b z=>hF D a b _ _ h z
  cases hpx:p x with
  | true =>
   rw [if_pos rfl]
   refine he D x H4 _ hs4 ⟨_,s4 _ _ hl⟩ hD hm hpx fun v H5 s5 f5=>⟨s5 _ _ (s4 _ _ hl),hD,fun b o e=>?_,uS,?_,_,rfl⟩
   ·rw [upd_ne (nNo e hD)]
    exact s5 _ _ (hs4 _ _ e)
   ·rw [take_succ_filter p xs i x hx,hpx,if_pos rfl]
    refine Paired.snoc (mono (fun b o hb e=>by rw [upd_ne hb];exact s5 _ _ (s4 _ _ e)) hp) (hF D _ _ _ _ (fun b o hb e=>by rw [upd_ne hb];exact e) f5)
  | false =>
   rw [if_neg Bool.false_ne_true]
   refine ⟨hD,hs4,s4 _ _ hl,?_,_,rfl⟩
   rw [take_succ_filter p xs i x hx,hpx,if_neg Bool.false_ne_true,List.append_nil]
   exact mono (fun b o _ e=>s4 _ _ e) hp
 ·rintro D ys σ' H hD ⟨_,hs,hl,hp,_⟩
  rw [List.take_length] at hp
  exact hd D H ys hD hs hl hp
section
variable {X:Cx}
def rInsert:V→List V→Hp→VK→Prop:=fun x vs H Q=>∃ l xs i y,x=.ref l∧vs=[.int i,y]∧H l=some (.lst xs)∧0≤i∧i≤xs.length∧xs.length<sizeLine∧Q .non (upd H l (.lst (xs.take i.toNat++y :: xs.drop i.toNat)))
theorem mt_insert:MtM X "list.insert" rInsert:=by
 intro pins s σ H x vs v us Q I rx rv h
 obtain ⟨l,xs,i,y,rfl,rfl,hH,h0,h1,hz,q⟩:=h
 cases rx
 obtain ⟨u,w',rfl,⟨t,rfl⟩,ru⟩:=vals2 rv
 obtain ⟨z,its,n,r,hl,e⟩:=I.lstM hH
 have hs:sizeLine=16777216:=sizeLine_eq
 have hc:¬ (!Builtin.List.listFitsIndex i)=true:=by
  have:Builtin.List.listFitsIndex i=true:=by
   unfold Builtin.List.listFitsIndex
   simp
   omega
  rw [this]
  decide
 refine call_meets F.slot_list_insert ⟨_,e,rfl⟩ F.entry_list_insert (F.args_list_insert_3 _ _ _) (PySem.AutoSeq1.list_insert_list_int_val_1 l its.toArray n i t w' hc (by rw [List.size_toArray];omega)) ⟨e,?_⟩
 have hk:(if i<0 then (i + (its.toArray.size:Int)).toNat else min i.toNat its.toArray.size)=i.toNat:=by
  rw [if_neg (by omega),List.size_toArray]
  omega
 refine ⟨.non,_,I.lset (its':=its.take i.toNat++w' :: its.drop i.toNat) hH e ?_ ?_ ?_,rfl,q⟩
 ·show (its.toArray.extract 0 (if i<0 then (i + (its.toArray.size:Int)).toNat else min i.toNat its.toArray.size)).push w'++its.toArray.extract (if i<0 then (i + (its.toArray.size:Int)).toNat else min i.toNat its.toArray.size)=_
  rw [hk]
  apply Array.ext'
  simp
  exact List.take_of_length_le (by rw [List.length_drop];exact Nat.le_refl _)
 ·exact (r.take _).append (.cons ru (r.drop _))
 ·rw [List.length_append,List.length_cons,List.length_take,List.length_drop]
  omega
theorem pe_listRange {a:Expr}{ta:TE}{p1 p2 pos1 pos2:Pos}(hc:X.calm=true) (ha:PE X a ta) (hg1:Gl X "list") (hm1:X.mg "list"=none) (hg2:Gl X "range") (hm2:X.mg "range"=none)
  (hs:starEach [a] X.env=[(false,eval a X.env)]:=by rfl)
  (hs2:starEach [.Call (.Name "range" p2) [a] [] pos2] X.env=[(false,eval (.Call (.Name "range" p2) [a] [] pos2) X.env)]:=by rfl):
  PE X (.Call (.Name "list" p1) [.Call (.Name "range" p2) [a] [] pos2] [] pos1) (fun σ H Q=>tCons ta tNil σ H fun vs H1=>∃ j:Int,vs=[.int j]∧0≤j∧j≤1000000∧∀ l,H1 l=none→Q (.ref l) (upd H1 l (.lst (rangeV 0 j.toNat)))):=by
 intro pins s σ H Q I h
 refine wpAny_Call_Name_kw (ld_blt I hg1 hm1 PyProof.Rows.boot_list ?_ (by decide) (by decide))
 refine PyProof.Rows.callWith_type1 ?_ hs2 rfl
 refine Calls.spliced_cons ?_
 refine wpAny_Call_Name_kw (ld_blt I hg2 hm2 boot_range ?_ (by decide) (by decide))
 refine PyProof.Rows.callWith_type1 ?_ hs rfl
 have pa:PA X [a] (tCons ta tNil):=pC ha pa_nil hs
 refine thn (pa pos2 pins s σ H (fun vs H1=>∃ j:Int,vs=[.int j]∧0≤j∧j≤1000000∧∀ l,H1 l=none→Q (.ref l) (upd H1 l (.lst (rangeV 0 j.toNat)))) I h) fun us s1 ⟨vs,H1,I1,r1,q1⟩=>?_
 obtain ⟨j,e,h0,h1,q⟩:=q1
 subst e
 obtain ⟨u,rfl,t,rfl⟩:=vals1 r1
 refine call_range_1 (Calls.spliced_nil ?_)
 have I2:Inv X pins σ H1 { s1 with heap:=s1.heap.push { cls:=.type "range",data:=.fields #[.int 0 s1.toks,.int j t,.int 1 (s1.toks + 1)] },toks:=s1.toks + 1 + 1 }:=I1.kept fun b o e=>Heap.get?_push_of_some _ e
 refine call_list_range (n:=j.toNat) (I1.ok.hd hc) (IsRange.new ..) (small_one (by decide) (by decide) (by omega) (by omega)) (by rw [rangeSize_one];split <;> omega) (by omega) fun h' tk acc' c' hk hS' hacc=>?_
 obtain ⟨a1,a2⟩:=hacc
 have hnew:H1 (s1.heap.push { cls:=.type "range",data:=.fields #[.int 0 s1.toks,.int j t,.int 1 (s1.toks + 1)] }).objs.size=none:=I2.hok.fresh (Nat.le_refl _)
 refine ⟨.ref _,_,I2.laid (o:=.lst (rangeV 0 j.toNat)) hk (Nat.le_refl _) ⟨?_,acc'.toList,c',?_,by simpa using hS'⟩,rfl,q _ hnew⟩
 ·rw [rangeV_len]
  exact small_line' (by omega)
 ·have len:(rangeV 0 j.toNat).length=acc'.toList.length:=by rw [rangeV_len,Array.length_toList,a1]
  exact vals_of len fun i v u hv hu=>by
   obtain ⟨hi,e⟩:=rangeV_get hv
   obtain ⟨t',e'⟩:=a2 i u (by rw [← Array.getElem?_toList];exact hu)
   rw [e,e']
   exact ⟨t',by rw [Int.mul_one]⟩
end
end L2
namespace Graph
variable {α:Type} [DecidableEq α]
inductive Reach (ups:α→List α):α→α→Prop
 | refl (a:α):Reach ups a a
 | step {a b c:α}:b∈ups a→Reach ups b c→Reach ups a c
theorem Reach.trans {ups:α→List α}{a b c:α}(h:Reach ups a b) (k:Reach ups b c):Reach ups a c:=by
 induction h with
 | refl=>exact k
 | step m _ ih=>exact .step m (ih k)
theorem Reach.one {ups:α→List α}{a b:α}(h:b∈ups a):Reach ups a b:=.step h (.refl b)
theorem Reach.snoc {ups:α→List α}{a b c:α}(h:Reach ups a b) (k:c∈ups b):Reach ups a c:=h.trans (.one k)
def kept (ups:α→List α) (left:List α):List α:=left.filter fun w=>(ups w).any fun u=>decide (u∈left)
theorem kept_sub {ups:α→List α}{left:List α}{w:α}(h:w∈kept ups left):w∈left:=(List.mem_filter.mp h).1
theorem kept_le (ups:α→List α) (left:List α):(kept ups left).length≤left.length:=List.length_filter_le _ _
theorem filter_all {p:α→Bool}:∀ {l:List α},(l.filter p).length=l.length→l.filter p=l
 | [],_=>rfl
 | a :: r,h=>by
  have hle:=List.length_filter_le p r
  rw [List.filter_cons] at h ⊢
  cases hp:p a with
  | true =>
   rw [hp,if_pos rfl,List.length_cons,List.length_cons] at h
   rw [if_pos rfl,filter_all (by omega)]
  | false =>
   rw [hp,if_neg Bool.false_ne_true,List.length_cons] at h
   omega
theorem min_rank (rk:α→Nat):∀ (l:List α),l≠[]→∃ m,m∈l∧∀ x∈l,rk m≤rk x
 | [],h=>absurd rfl h
 | a :: r,_=>by
  by_cases hr:r=[]
  ·subst hr
   exact ⟨a,by simp,fun x hx=>by simp at hx;subst hx;exact Nat.le_refl _⟩
  ·obtain ⟨m,hm,hx⟩:=min_rank rk r hr
   by_cases hc:rk a≤rk m
   ·refine ⟨a,by simp,fun x hx'=>?_⟩
    rcases List.mem_cons.mp hx' with e | e
    ·subst e;exact Nat.le_refl _
    ·exact Nat.le_trans hc (hx x e)
   ·refine ⟨m,List.mem_cons_of_mem _ hm,fun x hx'=>?_⟩
    rcases List.mem_cons.mp hx' with e | e
    ·subst e;omega
    ·exact hx x e
theorem kept_nil {ups:α→List α}{left:List α}{rk:α→Nat}(hr:∀ a∈left,∀ b∈ups a,rk b<rk a) (h:(kept ups left).length=left.length):left=[]:=by
 refine Classical.byContradiction fun hne=>?_
 obtain ⟨m,hm,hx⟩:=min_rank rk left hne
 have e:kept ups left=left:=filter_all h
 rw [← e] at hm
 obtain ⟨h1,h2⟩:=List.mem_filter.mp hm
 obtain ⟨u,hu,hd⟩:=List.any_eq_true.mp h2
 have hl:u∈left:=of_decide_eq_true hd
 have a:=hr m h1 u hu
 have b:=hx u hl
 omega
theorem nodup_le:∀ {l k:List α},l.Nodup→(∀ x∈l,x∈k)→l.length≤k.length
 | [],k,_,_=>Nat.zero_le _
 | a :: r,k,hn,hs=>by
  obtain ⟨h1,h2⟩:=List.nodup_cons.mp hn
  have ha:a∈k:=hs a (by simp)
  have:=nodup_le (k:=k.erase a) h2 fun x hx=>(List.mem_erase_of_ne (fun (e:x=a)=>h1 (by rw [← e];exact hx))).mpr (hs x (List.mem_cons_of_mem _ hx))
  rw [List.length_erase_of_mem ha] at this
  have hpos:0<k.length:=List.length_pos_of_mem ha
  rw [List.length_cons]
  omega
theorem closed_reach {ups:α→List α}{S:α→Prop}(hc:∀ x,S x→∀ y∈ups x,S y) {a b:α}(h:Reach ups a b) (ha:S a):S b:=by
 induction h with
 | refl=>exact ha
 | step m _ ih=>exact ih (hc _ ha _ m)
end Graph
namespace Md
open PySem L2
abbrev letters:Str:="abcdefghijklmnopqrstuvwxyz"
def isLow (c:Nat):Bool:=decide (97≤c∧c≤122)
def isWord (x:Str):Bool:=decide (1≤x.length∧x.length≤8)&&x.cps.toList.all isLow
theorem letters_eq:letters.cps.toList=[97,98,99,100,101,102,103,104,105,106,107,108,109,110,111,112,113,114,115,116,117,118,119,120,121,122]:=by decide +kernel
theorem letters_at {i:Nat}(h:i<26):letters.cps.toList[i]?=some (97 + i):=by
 rw [letters_eq]
 have:∀ i:_root_.Fin 26,([97,98,99,100,101,102,103,104,105,106,107,108,109,110,111,112,113,114,115,116,117,118,119,120,121,122]:List Nat)[i.1]?=some (97 + i.1):=by decide
 exact this ⟨i,h⟩
theorem letters_rng:letters.cps.toList=(List.range 26).map (97 + ·):=by rw [letters_eq];rfl
theorem low_in (c:Nat):(!(Builtin.Str.occurrences letters ⟨#[c]⟩ 0 letters.length 1).isEmpty)=isLow c:=by
 rw [StrLaws.found_one,letters_rng]
 unfold isLow
 rw [decide_eq_decide,List.mem_map]
 constructor
 ·rintro ⟨a,ha,rfl⟩
  have:=List.mem_range.mp ha
  omega
 ·intro h
  exact ⟨c - 97,List.mem_range.mpr (by omega),by omega⟩
theorem str_len (x:Str):x.cps.toList.length=x.length:=by simp [Str.length]
theorem len_one (c:Nat):(⟨#[c]⟩:Str).length=1:=rfl
theorem len_app (x y:Str):(x++y).length=x.length + y.length:=by
 show (x.cps++y.cps).size=_
 rw [Array.size_append]
 rfl
theorem app_list (x y:Str):(x++y).cps.toList=x.cps.toList++y.cps.toList:=by
 show (x.cps++y.cps).toList=_
 rw [Array.toList_append]
theorem str_ext {x y:Str}(h:x.cps.toList=y.cps.toList):x=y:=by
 cases x;cases y
 congr 1
 exact Array.ext' h
def inLet:V→V
 | .str y=>.bl (!(Builtin.Str.occurrences letters y 0 letters.length 1).isEmpty)
 | _=>.non
theorem signs_low (x:Str):((signsV x).filter fun _=>true).map inLet=(x.cps.toList.map isLow).map V.bl:=by
 rw [List.filter_eq_self.mpr fun _ _=>rfl]
 unfold signsV
 rw [List.map_map,List.map_map]
 refine List.map_congr_left fun c _=>?_
 show V.bl _=V.bl _
 rw [low_in]
theorem isWord_iff (x:Str):isWord x=true↔(1≤x.cps.toList.length∧x.cps.toList.length≤8)∧∀ c∈x.cps.toList,isLow c=true:=by
 unfold isWord
 rw [Bool.and_eq_true,decide_eq_true_eq,List.all_eq_true,str_len]
theorem word_len {x:Str}(h:isWord x=true):1≤x.length∧x.length≤8:=by
 have:=((isWord_iff x).mp h).1
 rwa [str_len] at this
theorem word_ok {x:Str}(h:isWord x=true):PyData.strOk x=true:=by
 unfold PyData.strOk
 rw [Array.all_eq_true']
 intro c hc
 have:=((isWord_iff x).mp h).2 c (by simpa using hc)
 have:=of_decide_eq_true this
 exact decide_eq_true (by omega)
def lettersF (n:Nat):List Nat:=(97 + n % 26):: (if h:n / 26=0 then [] else lettersF (n / 26))
termination_by n
decreasing_by omega
theorem lettersF_eq (n:Nat):lettersF n=(97 + n % 26):: (if n / 26=0 then [] else lettersF (n / 26)):=by
 rw [lettersF]
 by_cases h:n / 26=0
 ·rw [dif_pos h,if_pos h]
 ·rw [dif_neg h,if_neg h]
theorem lettersF_len:∀ (k n:Nat),n<26 ^ (k + 1)→(lettersF n).length≤k + 1
 | 0,n,h=>by
  rw [lettersF_eq,if_pos (by have:n<26:=h;omega)]
  exact Nat.le_refl _
 | k + 1,n,h=>by
  rw [lettersF_eq]
  by_cases h0:n / 26=0
  ·rw [if_pos h0];simp
  ·rw [if_neg h0,List.length_cons]
   have:=lettersF_len k (n / 26) (Nat.div_lt_of_lt_mul (by rw [Nat.pow_succ] at h;omega))
   omega
theorem lettersF_low (n:Nat):∀ c∈lettersF n,isLow c=true:=by
 induction n using Nat.strongRecOn with
 | ind n ih =>
  rw [lettersF_eq]
  intro c hc
  rcases List.mem_cons.mp hc with e | hc
  ·rw [e]
   exact decide_eq_true (by omega)
  ·by_cases h0:n / 26=0
   ·rw [if_pos h0] at hc;cases hc
   ·rw [if_neg h0] at hc
    exact ih (n / 26) (by omega) c hc
def valF:List Nat→Nat
 | []=>0
 | c :: r=>(c - 97) + 26 * valF r
theorem lettersF_val (n:Nat):valF (lettersF n)=n:=by
 induction n using Nat.strongRecOn with
 | ind n ih =>
  rw [lettersF_eq]
  unfold valF
  by_cases h0:n / 26=0
  ·rw [if_pos h0]
   unfold valF
   omega
  ·rw [if_neg h0,ih (n / 26) (by omega)]
   omega
def lettersS (n:Nat):Str:=⟨(lettersF n).toArray⟩
theorem lettersS_list (n:Nat):(lettersS n).cps.toList=lettersF n:=by simp [lettersS]
theorem lettersS_inj {a b:Nat}(h:lettersS a=lettersS b):a=b:=by
 have:=congrArg (fun s:Str=>valF s.cps.toList) h
 simpa [lettersS_list,lettersF_val] using this
theorem lettersF_pos (n:Nat):1≤(lettersF n).length:=by rw [lettersF_eq];simp
theorem lettersS_word {n:Nat}(h:n<26 ^ 8):isWord (lettersS n)=true:=by
 rw [isWord_iff,lettersS_list]
 exact ⟨⟨lettersF_pos n,lettersF_len 7 n h⟩,lettersF_low n⟩
theorem idx_take (j:Int) (n:Nat) (h:0≤j):Builtin.Str.strSliceIndices none (some j) 1 n=List.range (min j.toNat n):=by
 unfold Builtin.Str.strSliceIndices sliceRange
 have h1:¬ j<0:=by omega
 simp only [show (1:Int) > 0 by decide,if_true,if_neg h1]
 have e:(max (0:Int) (min j (n:Int)))=((min j.toNat n:Nat):Int):=by omega
 rw [e]
 have e2:(if (0:Int)<((min j.toNat n:Nat):Int) then (((min j.toNat n:Nat):Int) - 0 + 1 - 1) / 1 else 0)=((min j.toNat n:Nat):Int):=by
  split
  ·rw [Int.ediv_one];omega
  ·omega
 rw [e2,Int.toNat_natCast]
 have:∀ l:List Nat,l.map (fun (k:Nat)=>((0:Int) + 1 * (k:Int)).toNat)=l:=fun l=>by
  conv=>rhs;rw [← List.map_id l]
  refine List.map_congr_left fun k _=>?_
  show _=k
  omega
 exact this _
theorem filter_range (l:List Nat):∀ m,m≤l.length→(List.range m).filterMap (fun i=>l.toArray[i]?)=l.take m
 | 0,_=>by simp
 | m + 1,h=>by
  rw [List.range_succ,List.filterMap_append,filter_range l m (by omega),List.take_add_one]
  have:m<l.length:=h
  simp [this]
theorem slice_take (x:Str) (j:Int) (h:0≤j):(Txt.slice x none (some j)).cps.toList=x.cps.toList.take j.toNat:=by
 unfold Txt.slice
 rw [idx_take j x.length h]
 have hl:=str_len x
 split
 ·rename_i hc
  have:min j.toNat x.length=x.length:=by simpa using hc
  rw [List.take_of_length_le (by omega)]
 ·have q:=filter_range x.cps.toList (min j.toNat x.length) (by omega)
  have e:x.cps.toList.toArray=x.cps:=by simp
  rw [e] at q
  show ((List.range (min j.toNat x.length)).filterMap (x.cps[·]?)).toArray.toList=_
  rw [List.toList_toArray,q]
  by_cases hj:j.toNat≤x.length
  ·rw [Nat.min_eq_left hj]
  ·rw [Nat.min_eq_right (by omega),List.take_of_length_le (by omega),List.take_of_length_le (by omega)]
def PotO (o:HO):Prop:=∃ r b:Int,o=.lst [.int r,.int b]∧0≤r∧r<10 ^ 256∧0≤b∧b<2147483647
structure Drawn (p:Addr) (H H':Hp):Prop where
 keep:∀ b o,b≠p→H b=some o→H' b=some o
 pot:∃ o,H' p=some o∧PotO o
theorem Drawn.refl {p:Addr}{H:Hp}(h:∃ o,H p=some o∧PotO o):Drawn p H H:=⟨fun _ _ _ e=>e,h⟩
theorem Drawn.trans {p:Addr}{H H1 H2:Hp}(a:Drawn p H H1) (b:Drawn p H1 H2):Drawn p H H2:=⟨fun c o hc e=>b.keep c o hc (a.keep c o hc e),b.pot⟩
theorem Drawn.upd {p:Addr}{H:Hp}{o:HO}(h:PotO o):Drawn p H (L2.upd H p o):=⟨fun b u hb e=>by rw [upd_ne hb];exact e,_,uS,h⟩
theorem Drawn.new {p q:Addr}{H H':Hp}{o:HO}(d:Drawn p H H') (hq:H' q=none):Drawn p H (L2.upd H' q o):=
 ⟨fun b u hb e=>by rw [upd_ne (nNo (d.keep b u hb e) hq)];exact d.keep b u hb e,by
  obtain ⟨u,h1,h2⟩:=d.pot
  exact ⟨u,by rw [upd_ne (nNo h1 hq)];exact h1,h2⟩⟩
theorem Drawn.same {p:Addr}{H H1 H2:Hp}(d:Drawn p H H1) (s:Same H1 H2):Drawn p H H2 :=
 ⟨fun b u hb e=>s _ _ (d.keep b u hb e),by obtain ⟨u,h1,h2⟩:=d.pot;exact ⟨u,s _ _ h1,h2⟩⟩
theorem Drawn.sub {p q:Addr}{H H1 H2:Hp}{o':HO}(d:Drawn p H H1) (k:∀ b o,b≠q→H1 b=some o→H2 b=some o) (hq:H q=none) (hp:p≠q):Drawn p H H2 :=
 ⟨fun b u hb e=>k _ _ (nNo e hq) (d.keep b u hb e),by obtain ⟨u,h1,h2⟩:=d.pot;exact ⟨u,k _ _ hp h1,h2⟩⟩
theorem _root_.L2.SqL.mono_new {K:W.Frag}{H:Hp}{a q:Addr}{xs:List V}{o:HO}(h:SqL K H a xs) (hq:H q=none):SqL K (L2.upd H q o) a xs :=
 Same.seq (fun b u e=>by rw [upd_ne (nNo e hq)];exact e) h
theorem small_lt {n:Nat}(h:n≤100000):n<sizeLine:=by rw [sizeLine_eq];omega
def strsOf:List Expr→Option (List Str)
 | []=>some []
 | .Constant (.str x) _ _ :: r=>(strsOf r).map (x :: ·)
 | _=>none
theorem pa_strsOf {X:Cx}:∀ {es:List Expr}{ws:List Str},strsOf es=some ws→PA X es (fun _ H Q=>Q (ws.map V.str) H):=by
 intro es
 induction es with
 | nil =>
  intro ws h
  have e:ws=[]:=(Option.some.inj h).symm
  subst e
  exact pa_nil
 | cons e r ih =>
  intro ws h
  cases e with
  | Constant c j p =>
   cases c with
   | str x =>
    have h':(strsOf r).map (x :: ·)=some ws:=h
    obtain ⟨vs,h1,h2⟩:=Option.map_eq_some_iff.mp h'
    subst h2
    exact pC pe_str (ih h1) rfl
   | _=>exact nomatch (show (none:Option (List Str))=some ws from h)
  | _=>exact nomatch (show (none:Option (List Str))=some ws from h)
theorem in_strs (x:Str):∀ ws:List Str,inV (.str x) (ws.map V.str)=decide (x∈ws)
 | []=>rfl
 | w :: r=>by
  have ih:=in_strs x r
  unfold inV at ih ⊢
  rw [List.map_cons,List.any_cons,ih]
  show ((w == x) || decide (x∈r))=decide (x∈w :: r)
  rw [Bool.eq_iff_iff]
  simp only [Bool.or_eq_true,beq_iff_eq,decide_eq_true_eq,List.mem_cons]
  constructor
  ·rintro (h | h)
   ·exact .inl h.symm
   ·exact .inr h
  ·rintro (h | h)
   ·exact .inl h.symm
   ·exact .inr h
theorem flat_strs (ws:List Str):(ws.map V.str).all flatV=true:=by
 rw [List.all_eq_true]
 intro v hv
 obtain ⟨w,_,e⟩:=List.mem_map.mp hv
 rw [← e]
 rfl
theorem reps_strs {K:W.Frag}{H:Hp}:∀ ws:List Str,Reps K H (ws.map V.str) (ws.map W.Dat.str)
 | []=>.nil
 | w :: r=>.cons (.str w) (reps_strs r)
end Md
namespace Md
open PySem L2
abbrev Row:=Str×List Str
def RowV (H:Hp) (r:Str×List Str) (v:V):Prop:=∃ t u,v=.ref t∧H t=some (.tup [.str r.1,.ref u])∧H u=some (.tup (r.2.map V.str))
def RowsAt (H:Hp) (l:Addr) (rows:List (Str×List Str)):Prop:=∃ vs,H l=some (.lst vs)∧Paired (RowV H) rows vs
structure Good (rows:List (Str×List Str)):Prop where
 ne:1≤rows.length
 le:rows.length≤24
 word:∀ r∈rows,isWord r.1=true
 nd:(rows.map (·.1)).Nodup
 few:∀ r∈rows,r.2.length≤8
 known:∀ r∈rows,∀ u∈r.2,u∈rows.map (·.1)
 upnd:∀ r∈rows,r.2.Nodup
 rank:∃ rk:Str→Nat,∀ r∈rows,∀ u∈r.2,rk u<rk r.1
def rowsOf (ws:List Str) (uf:List (List Nat)) (os:List Nat):List (Str×List Str):=os.map fun j=>(ws.getD j "",(uf.getD j []).map fun i=>ws.getD i "")
theorem good_of {ws:List Str}{uf:List (List Nat)}{os:List Nat}{m:Nat} (hm0:1≤m) (hm:m≤24) (hw:∀ x∈ws,isWord x=true) (hn:ws.Nodup) (hl:ws.length=m) (hu:∀ (k:Nat) (js:List Nat),uf[k]?=some js→(∀ j∈js,j<k)∧js.Nodup∧js.length≤8) (hul:uf.length=m)
  (on:os.Nodup) (om:∀ j,j∈os↔j<m) (ol:os.length=m):Good (rowsOf ws uf os):=by
 have at_:∀ {j:Nat},j<m→ws.getD j ""∈ws∧ws[j]?=some (ws.getD j ""):=fun {j} h=>by
  have hj:j<ws.length:=by omega
  rw [List.getD_eq_getElem?_getD,List.getElem?_eq_getElem hj]
  exact ⟨List.getElem_mem hj,rfl⟩
 have inj:∀ {i j:Nat},i<m→j<m→ws.getD i ""=ws.getD j ""→i=j:=fun {i j} hi hj e=>by
  have a:=(at_ hi).2
  have b:=(at_ hj).2
  rw [e] at a
  exact nodup_ix hn a b
 have ups:∀ {j:Nat},j<m→∃ js,uf.getD j []=js∧(∀ i∈js,i<j)∧js.Nodup∧js.length≤8:=fun {j} h=>by
  have hj:j<uf.length:=by omega
  have e:uf[j]?=some (uf.getD j []):=by rw [List.getD_eq_getElem?_getD,List.getElem?_eq_getElem hj];rfl
  exact ⟨_,rfl,hu j _ e⟩
 have mem:∀ {r:Str×List Str},r∈rowsOf ws uf os→∃ j,j<m∧r=(ws.getD j "",(uf.getD j []).map fun i=>ws.getD i ""):=fun {r} h=>by
  obtain ⟨j,hj,e⟩:=List.mem_map.mp h
  exact ⟨j,(om j).mp hj,e.symm⟩
 have words:(rowsOf ws uf os).map (·.1)=os.map fun j=>ws.getD j "":=by
  unfold rowsOf
  rw [List.map_map]
  rfl
 refine ⟨by unfold rowsOf;rw [List.length_map];omega,by unfold rowsOf;rw [List.length_map];omega,fun r hr=>?_,?_,fun r hr=>?_,fun r hr u hu'=>?_,fun r hr=>?_,fun x=>ws.idxOf x,fun r hr u hu'=>?_⟩
 ·obtain ⟨j,hj,rfl⟩:=mem hr
  exact hw _ (at_ hj).1
 ·rw [words,List.nodup_iff_pairwise_ne,List.pairwise_map]
  refine (List.nodup_iff_pairwise_ne.mp on).imp_of_mem fun {a b} ha hb h e=>h (inj ((om a).mp ha) ((om b).mp hb) e)
 ·obtain ⟨j,hj,rfl⟩:=mem hr
  obtain ⟨js,e,_,_,h8⟩:=ups hj
  show ((uf.getD j []).map fun i=>ws.getD i "").length≤8
  rw [List.length_map,e]
  exact h8
 ·obtain ⟨j,hj,rfl⟩:=mem hr
  obtain ⟨i,hi,e⟩:=List.mem_map.mp hu'
  obtain ⟨js,e',hb,_⟩:=ups hj
  rw [e'] at hi
  have hij:=hb i hi
  rw [words]
  exact List.mem_map.mpr ⟨i,(om i).mpr (by omega),e⟩
 ·obtain ⟨j,hj,rfl⟩:=mem hr
  obtain ⟨js,e',hb,hnd,_⟩:=ups hj
  show ((uf.getD j []).map fun i=>ws.getD i "").Nodup
  rw [e',List.nodup_iff_pairwise_ne,List.pairwise_map]
  refine (List.nodup_iff_pairwise_ne.mp hnd).imp_of_mem fun {a b} ha hb' h e=>h (inj (by have:=hb a ha;omega) (by have:=hb b hb';omega) e)
 ·obtain ⟨j,hj,rfl⟩:=mem hr
  obtain ⟨i,hi,e⟩:=List.mem_map.mp hu'
  obtain ⟨js,e',hb,_⟩:=ups hj
  rw [e'] at hi
  have hij:=hb i hi
  have ix:∀ {j:Nat},j<m→ws.idxOf (ws.getD j "")=j:=fun {j} h=>by
   have a:=(at_ h).1
   have lt:ws.idxOf (ws.getD j "")<ws.length:=List.idxOf_lt_length_iff.mpr a
   have g:ws[ws.idxOf (ws.getD j "")]?=some (ws.getD j ""):=by rw [List.getElem?_eq_getElem lt,List.getElem_idxOf lt]
   exact nodup_ix hn g (at_ h).2
  show ws.idxOf u<ws.idxOf (ws.getD j "")
  rw [← e,ix hj,ix (by omega)]
  exact hij
end Md
namespace L2
open PySem PySem.Spec PyProof.Rows
section
variable {X:Cx} {tg:Expr}
def SqB (K:W.Frag) (b:Bool) (H:Hp) (a:Addr) (xs:List V):Prop:=if b=true then SqL K H a xs else SqT K H a xs
theorem SqB.mono {K:W.Frag}{b:Bool}{H H':Hp}{a:Addr}{xs:List V}(h:SqB K b H a xs) (s:Same H H'):SqB K b H' a xs:=by
 cases b with
 | true=>exact s.seq (show SqL K H a xs from h)
 | false=>exact s.tup (show SqT K H a xs from h)
def Itq (K:W.Frag) (b:Bool) (a:Addr) (xs:List V):It:=⟨fun i H=>i<xs.length∧SqB K b H a xs,fun i H x H'=>H'=H∧xs[i]?=some x,fun i H=>xs.length≤i∧SqB K b H a xs⟩
theorem runs_seq {K:W.Frag}{b:Bool}{a:Addr}{xs:List V}:Runs (Itq K b a xs) xs (fun H=>SqB K b H a xs) where
 go:=fun i x H ok hx=>⟨(List.getElem?_eq_some_iff.mp hx).1,ok⟩
 yld:=fun i x H y H' ok hx h=>by
  obtain ⟨e,h⟩:=h
  rw [hx] at h
  exact ⟨(Option.some.inj h).symm,e⟩
 stop:=fun H ok=>⟨Nat.le_refl _,ok⟩
theorem Turn.imp {P:Program}{w:World}{K:W.Frag}{tg:Expr}{J J':It}{fp:List Addr}{it:Addr}{tn:Nat→Heap→Prop}(T:Turn P w K tg J fp it tn) (hgo:∀ i H,J'.go i H→J.go i H)
  (hy:∀ i H x H',J'.go i H→J.yld i H x H'→J'.yld i H x H') (hs:∀ i H,J'.stop i H→J.stop i H):Turn P w K tg J' fp it tn where
 mem:=T.mem
 obj:=T.obj
 keep:=T.keep
 item:=fun X h1 h2 h3 h4 i pins s σ H E I hf st g=>thn (T.item X h1 h2 h3 h4 i pins s σ H E I hf st (hgo i H g)) fun r s1 ⟨u,e,h⟩=>⟨u,e,thn h fun _ s2 ⟨x,H',I',r',y,t,f⟩=>⟨x,H',I',r',hy i H x H' g y,t,f⟩⟩
 done:=fun X h1 h2 h3 h4 i pins s σ H E I hf st g=>T.done X h1 h2 h3 h4 i pins s σ H E I hf st (hs i H g)
 self:=T.self
def iSeq (K:W.Frag) (tl:TE):TI:=fun σ H R=>tl σ H fun x H1=>∃ b a xs,x=.ref a∧SqB K b H1 a xs∧R (Itq K b a xs) H1
theorem pi_seq {l:Expr}{tl:TE}(hl:PE X l tl):PI X tg l (iSeq X.K tl):=by
 intro pins s σ H R I h
 refine thn (hl pins s σ H _ I h) fun v s1 ⟨x,H1,I1,r1,q1⟩=>?_
 obtain ⟨b,a,xs,e,hq,q⟩:=q1
 subst e
 cases r1
 have fp:∀ b∈[s1.heap.objs.size],FpOk X pins H1 b:=fun b hb=>by
  have e:b=s1.heap.objs.size:=by simpa using hb
  subst e
  exact I1.fpOk (Nat.le_refl _) (I1.hok.fresh (Nat.le_refl _))
 have get:∀ {i:Nat} {ys:List V},i<ys.length→∃ y,ys[i]?=some y:=fun {i ys} h=>⟨ys[i],by simp [h]⟩
 cases b with
 | true =>
  have hq:SqL X.K H1 a xs:=hq
  obtain ⟨its,rv,p,hz⟩:=I1.list hq
  refine wpAny_pyIter_list p.isList ?_
  refine ⟨s1.heap.objs.size,[s1.heap.objs.size],_,Itq X.K true a xs,H1,rfl,I1.kept (t':=s1.toks) fun b o e=>Heap.get?_push_of_some _ e,(turn_list a _).imp (fun i H g=>?_) (fun i H x H' g y=>⟨y.1,y.2 xs g.2⟩) (fun i H g=>⟨xs,g.2,g.1⟩),⟨_,Heap.get?_push_size _ rfl,rfl,rfl⟩,fp,q⟩
  obtain ⟨y,hy⟩:=get g.1
  exact ⟨xs,y,g.2,hy⟩
 | false =>
  have hq:SqT X.K H1 a xs:=hq
  obtain ⟨its,rv,p,hz⟩:=I1.tuple hq
  refine wpAny_pyIter_tuple (show s1.heap.IsTuple a its.toArray from p) ?_
  refine ⟨s1.heap.objs.size,[s1.heap.objs.size],_,Itq X.K false a xs,H1,rfl,I1.kept (t':=s1.toks) fun b o e=>Heap.get?_push_of_some _ e,(turn_tuple a _).imp (fun i H g=>?_) (fun i H x H' g y=>⟨y.1,y.2 xs g.2⟩) (fun i H g=>⟨xs,g.2,g.1⟩),⟨_,Heap.get?_push_size _ rfl,rfl,rfl⟩,fp,q⟩
  obtain ⟨y,hy⟩:=get g.1
  exact ⟨xs,y,g.2,hy⟩
def iVals (to:TE):TI:=fun σ H R=>to σ H fun x H1=>∃ a ob kvs,x=.ref a∧H1 a=some (.frz ob (.dK kvs))∧R (Itv a ob kvs) H1
theorem pi_vals {o:Expr}{to:TE}{apos cpos:Pos}(ho:PE X o to) (hbase:attributeBase o "values" X.env (eval o X.env)=eval o X.env:=by rfl) (hline:(apos.endLine == cpos.line)=true:=by rfl):
  PI X tg (.Call (.Attribute o "values" apos) [] [] cpos) (iVals to):=by
 intro pins s σ H R I h
 refine wpAny_Call_method0_late hbase hline (thn (ho pins s σ H _ I h) fun v s1 ⟨x,H1,I1,r1,q1⟩=>?_)
 obtain ⟨a,ob,kvs,e,ha,q⟩:=q1
 subst e
 obtain rfl:v=Value.ref a:=r1
 obtain ⟨t1,t2,t3⟩:=isD_at I1 (.inl ⟨kvs,.inr ⟨ob,ha⟩⟩)
 obtain ⟨es,ep,hd⟩:=frz_data (I1.hok a _ ha)
 obtain ⟨hs,vs,r,dd⟩:=frz_dict (I1.hok a _ ha) hd
 have hl:kvs.length=vs.length:=Paired.length r
 refine ⟨"dict","dict.values",PySem.F.plainAttrs_dict,PySem.F.slot_dict_values,PySem.F.type_dict_values,t1,t2,Calls.callWith_builtin rfl (PySem.evalArgs_none ?_)⟩
 refine call_meetsIn PySem.F.slot_dict_values t1 PySem.F.entry_dict_values (PySem.F.args_dict_values_1 _) (meets_dict_values (mixKind X.prog X.w) a t3) ⟨⟨vs,dd.dictOf⟩,?_⟩
 have I2:Inv X pins σ H1 { s1 with heap:=s1.heap.push { cls:=.type "dict_values",data:=.fields #[.ref a] } }:=I1.kept (t':=s1.toks) fun b o e=>Heap.get?_push_of_some _ e
 refine wpAny_pyIter_values (kvs:=vs) (ep:=ep) (knd:=mixKind X.prog X.w) ⟨_,Heap.get?_push_size _ rfl,rfl,rfl⟩ (dd.at' fun o e=>Heap.get?_push_of_some _ e) ?_
 refine ⟨_,[_],_,_,H1,rfl,I2.kept (t':=s1.toks) fun b o e=>Heap.get?_push_of_some _ e,turn_vals a _ ob kvs es ep hd,⟨_,Heap.get?_push_size _ rfl,rfl,by rw [hl];rfl⟩,fun b hb=>?_,q⟩
 have e:b=_:=List.mem_singleton.mp hb
 subst e
 exact I2.fpOk (Nat.le_refl _) (I2.hok.fresh (Nat.le_refl _))
theorem call_list_keys (hc:X.calm=true):CallR X (.type "list") (fun xs H Q=>∃ a kvs,xs=[.ref a]∧Rd H a (.dK kvs)∧∀ l,H l=none→Q (.ref l) (upd H l (.lst (kvs.map fun p=>kV p.1)))):=by
 intro pins s σ H xs us Q I r h
 obtain ⟨a,kvs,rfl,ha,q⟩:=h
 obtain ⟨u,rfl,ru⟩:=vals1 r
 cases ru
 obtain ⟨hz,hs,vs,rv,o,es,ep,h1,h2,h3,h4,h5,h6⟩:=dk_rd I.hok ha
 have hl:kvs.length=vs.length:=Paired.length rv
 have dd:s.heap.DictAt (mixKind X.prog X.w) a vs ep:=⟨o,es,h1,h2,h3,h4,h5,h6⟩
 refine W.kdl_call (W.kdl_dict (knd:=mixKind X.prog X.w) (kvs:=vs) (ep:=ep) hs) (I.ok.hd hc) dd (by rw [← hl];exact hz) fun h' tk acc' c' hk hS' hacc=>?_
 obtain ⟨a1,a2⟩:=hacc
 refine ⟨.ref _,_,I.laid (o:=.lst (kvs.map fun p=>kV p.1)) hk (Nat.le_refl _) ⟨by rw [List.length_map];exact hz,acc'.toList,c',?_,by simpa using hS'⟩,rfl,q _ (I.hok.fresh (Nat.le_refl _))⟩
 refine vals_of (by have z:acc'.toList.length=acc'.size:=Array.length_toList;rw [List.length_map];omega) fun i v u hv hu=>?_
 rw [List.getElem?_map] at hv
 obtain ⟨p,hp,e⟩:=Option.map_eq_some_iff.mp hv
 obtain ⟨w',hw,_⟩:=rv.get hp
 obtain ⟨k,x,hk1,hk2⟩:=a2 i u (by rw [← Array.getElem?_toList];exact hu)
 rw [hw] at hk1
 injection hk1 with hk1
 injection hk1 with hk1 _
 rw [← e,hk1]
 exact relKey hk2
theorem DGet.f {H:Hp}{a:Addr}{o:Obj}{kvs:List (Key×V)}{k:Key}(e:H a=some (.frz o (.dK kvs))):DGet H a (kV k) (valV kvs k):=.inl ⟨kvs,k,.inr ⟨o,e⟩,rfl,rfl⟩
end
end L2
namespace Md
open PySem L2
def UpsG (K:W.Frag) (H:Hp) (u:Addr) (us:List Str):Prop:=H u=some (.tup (us.map V.str))∨SqL K H u (us.map V.str)
theorem UpsG.sq {K:W.Frag}{H:Hp}{u:Addr}{us:List Str}(h:UpsG K H u us):∃ b,SqB K b H u (us.map V.str):=by
 rcases h with h | h
 ·exact ⟨false,SqT.of h⟩
 ·exact ⟨true,h⟩
def RowG (K:W.Frag) (H:Hp) (r:Str×List Str) (v:V):Prop:=∃ t u,v=.ref t∧SqT K H t [.str r.1,.ref u]∧UpsG K H u r.2
def RowsG (K:W.Frag) (H:Hp) (l:Addr) (rows:List (Str×List Str)):Prop:=∃ b vs,SqB K b H l vs∧Paired (RowG K H) rows vs
theorem UpsG.mono {K:W.Frag}{H H':Hp}{u:Addr}{us:List Str}(h:UpsG K H u us) (s:Same H H'):UpsG K H' u us:=h.elim (fun x=>.inl (s _ _ x)) fun x=>.inr (s.seq x)
theorem RowG.mono {K:W.Frag}{H H':Hp}{r:Str×List Str}{v:V}(h:RowG K H r v) (s:Same H H'):RowG K H' r v:=let ⟨t,u,e,a,b⟩:=h;⟨t,u,e,s.tup a,b.mono s⟩
theorem RowsG.mono {K:W.Frag}{H H':Hp}{l:Addr}{rows:List (Str×List Str)}(h:RowsG K H l rows) (s:Same H H'):RowsG K H' l rows:=let ⟨b,vs,a,p⟩:=h;⟨b,vs,a.mono s,Paired.mapP p fun _ _ z=>z.mono s⟩
theorem paired_at {α β:Type}{F:α→β→Prop}:∀ {l:List α}{k:List β},Paired F l k→∀ {i:Nat}{b:β},k[i]?=some b→∃ a,l[i]?=some a∧F a b
 | _,_,.nil,i,b,h=>by simp at h
 | _,_,.cons r t,0,b,h=>by simp at h;subst h;exact ⟨_,rfl,r⟩
 | _,_,.cons r t,i + 1,b,h=>by
  obtain ⟨a,h1,h2⟩:=paired_at t (i:=i) (b:=b) (by simpa using h)
  exact ⟨a,by simpa using h1,h2⟩
theorem valV_none {kvs:List (Key×V)}{k:Key}(h:k∉kvs.map (·.1)):valV kvs k=none:=by
 cases e:valV kvs k with
 | none=>rfl
 | some v=>exact absurd (valV_in e) h
theorem putK_keys {kvs:List (Key×V)}{k:Key}{v:V}(h:k∉kvs.map (·.1)):(putK kvs k v).map (·.1)=kvs.map (·.1)++[k]:=by
 rw [putK_new v (valV_none h),List.map_append]
 rfl
theorem taken_not {rows:List (Str×List Str)}{i:Nat}{r:Str×List Str}(nd:(rows.map (·.1)).Nodup) (h:rows[i]?=some r):(Sum.inr r.1:Key)∉(rows.take i).map fun r=>(Sum.inr r.1:Key):=by
 intro m
 obtain ⟨q,hq,e⟩:=List.mem_map.mp m
 have e:q.1=r.1:=by injection e
 obtain ⟨j,hj,ej⟩:=List.mem_iff_getElem.mp hq
 rw [List.length_take] at hj
 have hj2:rows[j]?=some q:=by
  rw [List.getElem_take] at ej
  rw [List.getElem?_eq_getElem (by omega),ej]
 have a:(rows.map (·.1))[j]?=some r.1:=by rw [List.getElem?_map,hj2,← e];rfl
 have b:(rows.map (·.1))[i]?=some r.1:=by rw [List.getElem?_map,h];rfl
 have:=nodup_ix nd a b
 omega
def UpsD (H:Hp) (rows:List (Str×List Str)) (kvs:List (Key×V)):Prop:=Paired (fun r (p:Key×V)=>p.1=Sum.inr r.1∧∃ t,p.2=.ref t∧H t=some (.tup (r.2.map V.str))) rows kvs
theorem UpsD.mono {H H':Hp}{rows:List (Str×List Str)}{kvs:List (Key×V)}(h:UpsD H rows kvs) (s:∀ b xs,H b=some (.tup xs)→H' b=some (.tup xs)):UpsD H' rows kvs :=
 Paired.mapP h fun _ _ z=>⟨z.1,let ⟨t,e,x⟩:=z.2;⟨t,e,s _ _ x⟩⟩
theorem UpsD.keys:∀ {H:Hp}{rows:List (Str×List Str)}{kvs:List (Key×V)},UpsD H rows kvs→kvs.map (·.1)=rows.map fun r=>(Sum.inr r.1:Key)
 | _,_,_,.nil=>rfl
 | _,_,_,.cons r t=>by rw [List.map_cons,List.map_cons,r.1,UpsD.keys t]
def upsOf (rows:List (Str×List Str)) (x:Str):List Str:=(rows.lookup x).getD []
theorem upsOf_at {rows:List (Str×List Str)}(nd:(rows.map (·.1)).Nodup) {r:Str×List Str}(h:r∈rows):upsOf rows r.1=r.2:=by
 unfold upsOf
 induction rows with
 | nil=>cases h
 | cons q rs ih =>
  have nd':(q.1 :: rs.map (·.1)).Nodup:=nd
  obtain ⟨n1,n2⟩:=List.nodup_cons.mp nd'
  obtain ⟨a,b⟩:=q
  rw [List.lookup_cons]
  rcases List.mem_cons.mp h with e | h
  ·subst e
   simp
  ·have ne:(r.1 == a)=false:=by
    rw [beq_eq_false_iff_ne]
    intro e
    exact n1 (List.mem_map.mpr ⟨r,h,e⟩)
   rw [ne]
   exact ih n2 h
theorem UpsD.val:∀ {H:Hp}{rows:List (Str×List Str)}{kvs:List (Key×V)},UpsD H rows kvs→(rows.map (·.1)).Nodup→∀ {r:Str×List Str},r∈rows→∃ t,valV kvs (Sum.inr r.1)=some (.ref t)∧H t=some (.tup (r.2.map V.str))
 | _,_,_,.nil,_,r,h=>nomatch h
 | _,q :: rs,p :: ps,.cons z t,nd,r,h=>by
  have nd':(q.1 :: rs.map (·.1)).Nodup:=nd
  obtain ⟨n1,n2⟩:=List.nodup_cons.mp nd'
  obtain ⟨z1,u,z2,z3⟩:=z
  rcases List.mem_cons.mp h with e | h
  ·subst e
   exact ⟨u,by rw [valV_pos z1,z2],z3⟩
  ·have ne:¬ p.1=(Sum.inr r.1:Key):=fun e=>n1 (by
    rw [z1] at e
    have e':q.1=r.1:=by injection e
    rw [e']
    exact List.mem_map.mpr ⟨r,h,rfl⟩)
   obtain ⟨u',h1,h2⟩:=UpsD.val t n2 h
   exact ⟨u',by rw [valV_neg ne];exact h1,h2⟩
theorem keysV {H:Hp}{rows:List (Str×List Str)}{kvs:List (Key×V)}(h:UpsD H rows kvs):(kvs.map fun p=>kV p.1)=(rows.map (·.1)).map V.str:=by
 have e:(kvs.map fun p=>kV p.1)=(kvs.map (·.1)).map kV:=by rw [List.map_map];rfl
 rw [e,h.keys,List.map_map,List.map_map]
 rfl
end Md
namespace L2
open PySem PySem.Spec PyProof.Rows
section
variable {X:Cx} {pins:List (Addr×Obj)} {σ:St} {H H':Hp} {s:Shared} {h':Heap}
theorem Inv.laidMany {t':Nat}(I:Inv X pins σ H s) (k:∀ b u,s.heap.get? b=some u→h'.get? b=some u) (agree:∀ b,b<s.heap.objs.size→H' b=H b)
  (hok:∀ b o,s.heap.objs.size≤b→H' b=some o→ObjOk X.prog X.w H' h' b o):Inv X pins σ H' { s with heap:=h',toks:=t' }:=by
 have low:∀ {b:Addr} {o:HO},H b=some o→H' b=some o:=fun {b o} e=>by rw [agree b (I.hok.lt e)];exact e
 refine I.un ⟨fun b o e _ _ _=>k b o e,fun b o e _ _ _=>⟨o.slots,k b o e⟩,fun b o e n _=>by rw [agree b (Heap.lt_size e)];exact n,fun b o e _=>⟨o,k b o e⟩,fun b xs e=>low e,fun b o u e=>low e,fun b ps e=>⟨#[],by rw [low e];simp⟩⟩ fun b o e=>?_
 by_cases hb:b<s.heap.objs.size
 ·have e':=e
  rw [agree b hb] at e'
  exact (I.hok b o e').stay (fun c v _ q=>k c v q) (fun c q=>low q) fun c xs q=>low q
 ·exact hok b o (Nat.le_of_not_lt hb) e
theorem lookup_zip {α β:Type} [BEq α] [LawfulBEq α]:∀ {as:List α}{ks:List β}{a:α}{i:Nat}{k:β},as.Nodup→as[i]?=some a→ks[i]?=some k→(as.zip ks).lookup a=some k
 | [],_,_,_,_,_,h,_=>by simp at h
 | _ :: _,[],_,_,_,_,_,h=>by simp at h
 | x :: as,y :: ks,a,0,k,_,h1,h2=>by
  simp at h1 h2
  subst h1;subst h2
  simp
 | x :: as,y :: ks,a,i + 1,k,nd,h1,h2=>by
  obtain ⟨n1,n2⟩:=List.nodup_cons.mp nd
  have h1':as[i]?=some a:=by simpa using h1
  have ne:(a == x)=false:=by
   rw [beq_eq_false_iff_ne]
   intro e
   exact n1 (e ▸ List.mem_of_getElem? h1')
  rw [List.zip_cons_cons,List.lookup_cons,ne]
  exact lookup_zip n2 h1' (by simpa using h2)
theorem lookup_zip_mem {α β:Type} [BEq α] [LawfulBEq α]:∀ {as:List α}{ks:List β}{a:α}{k:β},(as.zip ks).lookup a=some k→∃ i:Nat,as[i]?=some a∧ks[i]?=some k
 | [],_,_,_,h=>by simp at h
 | _ :: _,[],_,_,h=>by simp at h
 | x :: as,y :: ks,a,k,h=>by
  rw [List.zip_cons_cons,List.lookup_cons] at h
  cases e:(a == x) with
  | true =>
   rw [e] at h
   have e':a=x:=by simpa using e
   subst e'
   exact ⟨0,rfl,h⟩
  | false =>
   rw [e] at h
   obtain ⟨i,h1,h2⟩:=lookup_zip_mem h
   exact ⟨i + 1,by simpa using h1,by simpa using h2⟩
theorem paired_idx {α β:Type}{F:α→β→Prop}:∀ {l:List α}{k:List β},l.length=k.length→(∀ (i:Nat) (a:α) (b:β),l[i]?=some a→k[i]?=some b→F a b)→Paired F l k
 | [],[],_,_=>.nil
 | [],_ :: _,h,_=>by simp at h
 | _ :: _,[],h,_=>by simp at h
 | a :: l,b :: k,h,f=>.cons (f 0 a b rfl rfl) (paired_idx (by simpa using h) fun i x y hx hy=>f (i + 1) x y (by simpa using hx) (by simpa using hy))
theorem pe_listItems {o:Expr}{to:TE}{p1 apos cpos pos1:Pos}(hc:X.calm=true) (ho:PE X o to) (hg1:Gl X "list") (hm1:X.mg "list"=none)
  (hbase:attributeBase o "items" X.env (eval o X.env)=eval o X.env:=by rfl) (hline:(apos.endLine == cpos.line)=true:=by rfl)
  (hs2:starEach [.Call (.Attribute o "items" apos) [] [] cpos] X.env=[(false,eval (.Call (.Attribute o "items" apos) [] [] cpos) X.env)]:=by rfl):
  PE X (.Call (.Name "list" p1) [.Call (.Attribute o "items" apos) [] [] cpos] [] pos1) (fun σ H Q=>to σ H fun x H1=>∃ a kvs,x=.ref a∧Rd H1 a (.dK kvs) ∧
   ∀ l H' vs,H1 l=none→Same H1 H'→H' l=some (.lst vs)→Paired (fun (kv:Key×V) v=>∃ t,v=.ref t∧H' t=some (.tup [kV kv.1,kv.2])) kvs vs→Q (.ref l) H'):=by
 intro pins s σ H Q I h
 refine wpAny_Call_Name_kw (ld_blt I hg1 hm1 PyProof.Rows.boot_list ?_ (by decide) (by decide))
 refine PyProof.Rows.callWith_type1 ?_ hs2 rfl
 refine Calls.spliced_cons ?_
 refine wpAny_Call_method0_late hbase hline (thn (ho pins s σ H _ I h) fun v s1 ⟨x,H1,I1,r1,q1⟩=>?_)
 obtain ⟨a,kvs,e,ha,q⟩:=q1
 subst e
 obtain rfl:v=Value.ref a:=r1
 obtain ⟨t1,t2,t3⟩:=isD_at I1 (.inl ⟨kvs,ha⟩)
 obtain ⟨hz,hs,us,rv,ob,es,ep,h1,h2,h3,h4,h5,h6⟩:=dk_rd I1.hok ha
 have hl:kvs.length=us.length:=Paired.length rv
 have dd:s1.heap.DictAt (mixKind X.prog X.w) a us ep:=⟨ob,es,h1,h2,h3,h4,h5,h6⟩
 refine ⟨"dict","dict.items",PySem.F.plainAttrs_dict,PySem.F.slot_dict_items,PySem.F.type_dict_items,t1,t2,Calls.callWith_builtin rfl (PySem.evalArgs_none ?_)⟩
 refine call_meetsIn PySem.F.slot_dict_items t1 PySem.F.entry_dict_items (PySem.F.args_dict_items_1 _) (meets_dict_items (mixKind X.prog X.w) a t3) ⟨⟨us,dd.dictOf⟩,Calls.spliced_nil ?_⟩
 have I2:Inv X pins σ H1 { s1 with heap:=s1.heap.push { cls:=.type "dict_items",data:=.fields #[.ref a] } }:=I1.kept (t':=s1.toks) fun b o e=>Heap.get?_push_of_some _ e
 refine W.kdx_call (knd:=mixKind X.prog X.w) (kvs:=us) (ep:=ep) (d:=a) (I1.ok.hd hc) ⟨_,Heap.get?_push_size _ rfl,rfl,rfl⟩ (dd.at' fun o e=>Heap.get?_push_of_some _ e) (by rw [← hl];exact hz) fun h' tk acc c as hk hS' hal hG hacc=>?_
 generalize hsz:(s1.heap.push { cls:=.type "dict_items",data:=.fields #[.ref a] }).objs.size=L at hS' hG
 have ndas:as.Nodup:=List.nodup_iff_pairwise_ne.mpr (hG.rise.imp fun h=>Nat.ne_of_lt h)
 have hH':∀ b,b<L→(fun b=>if b=L then some (HO.lst (as.map V.ref)) else match (as.zip kvs).lookup b with | some kv=>some (HO.tup [kV kv.1,kv.2]) | none=>H1 b:Hp) b=H1 b:=fun b hb=>by
  show (if b=L then _ else _)=_
  rw [if_neg (Nat.ne_of_lt hb)]
  cases e:(as.zip kvs).lookup b with
  | none=>rfl
  | some kv =>
   obtain ⟨i,h1,_⟩:=lookup_zip_mem e
   have:=hG.above b (List.mem_of_getElem? h1)
   exact absurd (Nat.lt_trans hb this) (Nat.lt_irrefl _)
 have at_:∀ (i:Nat) (b:Addr),as[i]?=some b→∃ kv:Key×V,kvs[i]?=some kv∧(fun b=>if b=L then some (HO.lst (as.map V.ref)) else match (as.zip kvs).lookup b with | some kv=>some (HO.tup [kV kv.1,kv.2]) | none=>H1 b:Hp) b=some (.tup [kV kv.1,kv.2]):=fun i b hi=>by
  have hlt:i<kvs.length:=by
   have:=(List.getElem?_eq_some_iff.mp hi).1
   omega
  refine ⟨kvs[i],by simp [hlt],?_⟩
  show (if b=L then _ else _)=_
  rw [if_neg (Nat.ne_of_gt (hG.above b (List.mem_of_getElem? hi))),lookup_zip ndas hi (show kvs[i]?=some kvs[i] by simp [hlt])]
 have I3:Inv X pins σ (fun b=>if b=L then some (HO.lst (as.map V.ref)) else match (as.zip kvs).lookup b with | some kv=>some (HO.tup [kV kv.1,kv.2]) | none=>H1 b:Hp) { s1 with heap:=h',toks:=tk }:=by
  refine I2.laidMany (t':=tk) hk (fun b hb=>hH' b (by rw [← hsz];exact hb)) fun b o hb e=>?_
  have e:(if b=L then some (HO.lst (as.map V.ref)) else match (as.zip kvs).lookup b with | some kv=>some (HO.tup [kV kv.1,kv.2]) | none=>H1 b)=some o:=e
  by_cases hbL:b=L
  ·rw [if_pos hbL] at e
   cases e
   refine ⟨by rw [List.length_map,hal,← hl];exact hz,acc.toList,c,?_,by rw [hbL];simpa using hS'⟩
   rw [hacc]
   exact vals_of (by simp) fun i v u hv hu=>by
    rw [List.getElem?_map] at hv hu
    obtain ⟨y,hy,ey⟩:=Option.map_eq_some_iff.mp hv
    rw [hy] at hu
    rw [← ey]
    exact (Option.some.inj hu).symm
  ·rw [if_neg hbL] at e
   cases el:(as.zip kvs).lookup b with
   | none =>
    rw [el] at e
    have:=I2.hok.lt e
    exact absurd (Nat.lt_of_lt_of_le this hb) (Nat.lt_irrefl _)
   | some kv =>
    rw [el] at e
    cases e
    obtain ⟨i,hi1,hi2⟩:=lookup_zip_mem el
    obtain ⟨key,k,x,hu,hkey,hget⟩:=hG.pairs i b hi1
    obtain ⟨u,hu2,ru⟩:=rv.get hi2
    rw [hu] at hu2
    injection hu2 with hu2
    injection hu2 with hu3 hu4
    subst hu3 hu4
    exact ⟨sL (by show 2≤100000;decide),[key,x],.cons (relKey hkey) (.cons ru .nil),⟨_,hget,rfl,_,rfl⟩⟩
 refine ⟨.ref L,_,I3,rfl,q L _ (as.map V.ref) ?_ (fun b o e=>?_) ?_ ?_⟩
 ·rw [← hsz];exact I2.hok.fresh (Nat.le_refl _)
 ·exact (hH' b (by rw [← hsz];exact I2.hok.lt e)).trans e
 ·show (if L=L then _ else _)=_
  rw [if_pos rfl]
 ·refine paired_idx (by rw [List.length_map,hal,hl]) fun i kv v h1 h2=>?_
  rw [List.getElem?_map] at h2
  obtain ⟨b,hb,eb⟩:=Option.map_eq_some_iff.mp h2
  obtain ⟨kv',hk1,hk2⟩:=at_ i b hb
  rw [h1] at hk1
  cases hk1
  exact ⟨b,eb.symm,hk2⟩
end
end L2
namespace L2
open PySem PySem.Spec PyProof.Rows
section
variable {X:Cx}
def rCatA (K:W.Frag):R2:=fun x y H Q=>∃ a b xs ys,x=.ref a∧y=.ref b∧SqT K H a xs∧SqT K H b ys∧xs.length + ys.length≤sizeLine ∧
 (xs=[]→Q (.ref b) H)∧(xs≠[]→ys=[]→Q (.ref a) H)∧(xs≠[]→ys≠[]→∀ p,H p=none→Q (.ref p) (upd H p (.tup (xs++ys))))
theorem op_catA:OpR X (binaryOp .Add) (rCatA X.K):=by
 intro pins s σ H x y v u Q I rx ry h
 obtain ⟨a,b,xs,ys,rfl,rfl,ha,hb,hz,q0,q1,q2⟩:=h
 by_cases hx:xs=[]
 ·cases rx
  cases ry
  obtain ⟨its,r1,p1,_⟩:=I.tuple ha
  obtain ⟨its2,r2,p2,_⟩:=I.tuple hb
  have e:its=[]:=r1.nil_iff.mpr hx
  obtain ⟨⟨cls,dd,data,sl⟩,ho,hc,n,hd⟩:=id p1
  obtain ⟨⟨cls2,dd2,data2,sl2⟩,ho2,hc2,n2,hd2⟩:=id p2
  simp only at hc hd hc2 hd2
  subst hc hd hc2 hd2
  exact concat_meets ⟨_,ho,rfl⟩ ⟨_,ho2,rfl⟩ noFill_tuple_add seq_tuple_add PySem.F.slot_tuple_add PySem.F.entry_tuple_add (PySem.F.args_tuple_add_2 _ _)
   (tuple_addW0 a b its.toArray its2.toArray n n2 dd dd2 sl sl2 (by simp [e])) ⟨ho,ho2,⟨.ref b,H,I,rfl,q0 hx⟩⟩
 ·exact op_catT pins s σ H _ _ v u Q I rx ry ⟨a,b,xs,ys,rfl,rfl,ha,hb,hx,hz,q1 hx,q2 hx⟩
end
section
variable {X:Cx} {pins:List (Addr×Obj)} {σ:St} {H:Hp} {s:Shared} {h':Heap}
theorem Inv.turnedNew {t':Nat}{it a:Addr}{o:HO}(I:Inv X pins σ H s) (k:∀ b u,b≠it→s.heap.get? b=some u→h'.get? b=some u) (hn:H it=none) (hL:it≠X.env.locals)
  (h1:it∈X.ex∨X.s₀.heap.objs.size≤it) (h2:∀ x c,X.env.cells.lookup x=some c→c≠it) (h3:∀ p∈X.pn++pins,p.1≠it) (ha:s.heap.objs.size≤a) (new:ObjOk X.prog X.w (upd H a o) h' a o):
  Inv X pins σ (upd H a o) { s with heap:=h',toks:=t' }:=by
 have nit:∀ b u,H b=some u→b≠it:=fun b u e z=>by rw [z,hn] at e;cases e
 have na:∀ b u,H b=some u→b≠a:=fun b u e=>Nat.ne_of_lt (Nat.lt_of_lt_of_le (I.hok.lt e) ha)
 have low:∀ {b u},H b=some u→(upd H a o) b=some u:=fun {b u} e=>by rw [upd_ne (na b u e)];exact e
 refine I.step (g':=s.gens) (d':=s.drawn) (ch:=[it]) (fun b hb=>?_) (fun b u _ _ hc e _=>k b u (fun z=>hc (by simp [z])) e) (fun b u _ _ hc e _=>⟨u.slots,k b u (fun z=>hc (by simp [z])) e⟩)
  (fun b u _ e n=>by rw [upd_ne (Nat.ne_of_lt (Nat.lt_of_lt_of_le (Heap.lt_size e) ha))];exact n)
  (fun b u hc e=>⟨u,k b u (fun z=>hc (by simp [z])) e⟩) (fun _ _ e=>low e) (fun _ _ _ e=>low e) (fun b ps e=>⟨#[],by rw [low e];simp⟩) (fun m hm=>?_) (fun b u e=>?_) I.bare
 ·have e:b=it:=by simpa using hb
  subst e
  exact ⟨h1,hL,h2,h3⟩
 ·obtain ⟨o',es,ep,ho,r⟩:=hm
  exact ⟨o',es,ep,k _ o' (Ne.symm hL) ho,r⟩
 ·by_cases hb:b=a
  ·subst hb
   rw [uS] at e
   cases e
   exact new
  ·rw [upd_ne hb] at e
   refine (I.hok b u e).stay (fun c v hc q=>k c v ?_ q) (fun _ q=>low q) fun _ _ q=>low q
   rcases hc with z | z
   ·rw [z];exact nit b u e
   ·exact nit c _ z
end
def Iti (a:Addr) (o:Obj) (kvs:List (Key×V)):It :=
 ⟨fun i H=>i<kvs.length∧H a=some (.frz o (.dK kvs)),fun i H v H'=>∃ t p,kvs[i]?=some p∧H t=none∧v=.ref t∧H'=upd H t (.tup [kV p.1,p.2]),fun i H=>kvs.length≤i∧H a=some (.frz o (.dK kvs))⟩
theorem turn_items {P:Program}{w:World}{K:W.Frag}{elts:List Expr}{x1}{pos:Pos} (a it:Addr) (o:Obj) (kvs:List (Key×V)) (es:Array DictEntry) (ep:Nat) (hd:o.data=.dict es ep):
  Turn P w K (.Tuple elts x1 pos) (Iti a o kvs) [it] it (fun i h=>∃ ok ov,IsItemIter h it a i kvs.length ep ok ov) where
 mem:=by simp
 obj:=fun i h st b hb=>by
  have e:b=it:=by simpa using hb
  subst e
  obtain ⟨ok,ov,st⟩:=st
  exact ⟨_,st,fun v z=>by cases z⟩
 keep:=fun i h h' st k=>by
  obtain ⟨ok,ov,st⟩:=st
  exact ⟨ok,ov,k it (by simp) _ st⟩
 item:=by
  intro X hP hw hK hc i pins s σ H E I hf st hg
  subst hP hw hK
  obtain ⟨f0,f1,f2,f3,f4,f5⟩:=hf it (by simp)
  obtain ⟨hi,ha⟩:=hg
  obtain ⟨ok,ov,st⟩:=st
  obtain ⟨_,vs,r,dd⟩:=frz_dict (I.hok a _ ha) hd
  obtain ⟨p,hp⟩:∃ p,kvs[i]?=some p:=⟨kvs[i],by simp [hi]⟩
  obtain ⟨u,hu,ru⟩:=r.get hp
  have hl:kvs.length=vs.length:=Paired.length r
  rw [hl] at st
  refine wpAny_pyNext_items_item st dd hu fun key h' hk st' ht hz keep=>?_
  refine ⟨_,rfl,?_⟩
  refine wpAny_letOwnedTupleGo_items (s:={ s with heap:=h' }) st' fun h'' st'' sb=>?_
  have itlt:it<s.heap.objs.size:=Heap.lt_size st
  have tne:s.heap.objs.size≠it:=Nat.ne_of_gt itlt
  have ht2:h''.get? s.heap.objs.size=some { cls:=.type "tuple",data:=.seq #[key,u] }:=sb.extBut _ _ tne ht
  have I1:Inv X pins σ (upd H s.heap.objs.size (.tup [kV p.1,p.2])) { s with heap:=h'' }:=I.turnedNew (t':=s.toks) (fun b o hb e=>sb.extBut b o hb (keep b o hb e)) f0 f1 f3 f4 f5 (Nat.le_refl _)
   ⟨sL (by show 2≤100000;decide),[key,u],.cons (relKey hk) (.cons ru .nil),⟨_,ht2,rfl,_,rfl⟩⟩
  refine ⟨.ref s.heap.objs.size,_,I1,rfl,⟨s.heap.objs.size,p,hp,I.hok.fresh (Nat.le_refl _),rfl,rfl⟩,⟨_,_,by rw [hl];exact st''⟩,fun b hb=>?_⟩
  have e:b=it:=by simpa using hb
  subst e
  rw [upd_ne (Ne.symm tne)]
  exact (hf b (by simp)).1
 done:=by
  intro X hP hw hK hc i pins s σ H E I hf st hg
  subst hP hw hK
  obtain ⟨f0,f1,f2,f3,f4,f5⟩:=hf it (by simp)
  obtain ⟨hi,ha⟩:=hg
  obtain ⟨ok,ov,st⟩:=st
  obtain ⟨_,vs,r,dd⟩:=frz_dict (I.hok a _ ha) hd
  have hl:kvs.length=vs.length:=Paired.length r
  rw [hl] at st
  exact wpAny_pyNext_items_end (I.ok.hd hc) st dd (by simp;omega) fun h' eb=>⟨rfl,I.turned (t':=s.toks) (fun b o hb e=>eb b o hb e) f0 f1 f3 f4 f5⟩
 self:=fun A i s Q E st h=>by
  obtain ⟨ok,ov,st⟩:=st
  exact W.kcp_self st h
end L2
namespace L2
open PySem PySem.Spec PyProof.Rows
section
variable {X:Cx}
def iItems (to:TE):TI:=fun σ H R=>to σ H fun x H1=>∃ a ob kvs,x=.ref a∧H1 a=some (.frz ob (.dK kvs))∧R (Iti a ob kvs) H1
theorem pi_items {elts:List Expr}{x1}{tpos:Pos}{o:Expr}{to:TE}{apos cpos:Pos}(ho:PE X o to) (hbase:attributeBase o "items" X.env (eval o X.env)=eval o X.env:=by rfl) (hline:(apos.endLine == cpos.line)=true:=by rfl):
  PI X (.Tuple elts x1 tpos) (.Call (.Attribute o "items" apos) [] [] cpos) (iItems to):=by
 intro pins s σ H R I h
 refine wpAny_Call_method0_late hbase hline (thn (ho pins s σ H _ I h) fun v s1 ⟨x,H1,I1,r1,q1⟩=>?_)
 obtain ⟨a,ob,kvs,e,ha,q⟩:=q1
 subst e
 obtain rfl:v=Value.ref a:=r1
 obtain ⟨t1,t2,t3⟩:=isD_at I1 (.inl ⟨kvs,.inr ⟨ob,ha⟩⟩)
 obtain ⟨es,ep,hd⟩:=frz_data (I1.hok a _ ha)
 obtain ⟨hs,vs,r,dd⟩:=frz_dict (I1.hok a _ ha) hd
 have hl:kvs.length=vs.length:=Paired.length r
 refine ⟨"dict","dict.items",PySem.F.plainAttrs_dict,PySem.F.slot_dict_items,PySem.F.type_dict_items,t1,t2,Calls.callWith_builtin rfl (PySem.evalArgs_none ?_)⟩
 refine call_meetsIn PySem.F.slot_dict_items t1 PySem.F.entry_dict_items (PySem.F.args_dict_items_1 _) (meets_dict_items (mixKind X.prog X.w) a t3) ⟨⟨vs,dd.dictOf⟩,?_⟩
 have I2:Inv X pins σ H1 { s1 with heap:=s1.heap.push { cls:=.type "dict_items",data:=.fields #[.ref a] } }:=I1.kept (t':=s1.toks) fun b o e=>Heap.get?_push_of_some _ e
 refine wpAny_pyIter_items (kvs:=vs) (ep:=ep) (knd:=mixKind X.prog X.w) ⟨_,Heap.get?_push_size _ rfl,rfl,rfl⟩ (dd.at' fun o e=>Heap.get?_push_of_some _ e) ?_
 refine ⟨_,[_],_,_,H1,rfl,I2.kept (t':=s1.toks) fun b o e=>Heap.get?_push_of_some _ e,turn_items a _ ob kvs es ep hd,⟨.none,.none,?_⟩,fun b hb=>?_,q⟩
 ·rw [hl]
  exact Heap.get?_push_size _ rfl
 ·have e:b=_:=List.mem_singleton.mp hb
  subst e
  exact I2.fpOk (Nat.le_refl _) (I2.hok.fresh (Nat.le_refl _))
end
theorem for_items {a:Addr}{o:Obj}{kvs:List (Key×V)}{g:TG}{tb:TS}{D:Ends}{σ:St}{H:Hp}(Pv:Nat→St→Hp→Prop) (h0:Pv 0 σ H) (hl:∀ i σ H,i≤kvs.length→Pv i σ H→H a=some (.frz o (.dK kvs)))
  (hs:∀ i p t σ H,kvs[i]?=some p→Pv i σ H→H t=none→g (.ref t) σ (upd H t (.tup [kV p.1,p.2])) fun σ2 H2=>tb { D with nx:=Pv (i + 1),ct:=Pv (i + 1),bk:=D.nx } σ2 H2) (hd:∀ σ H,Pv kvs.length σ H→D.nx σ H):
  ∃ W:Nat→Nat→St→Hp→Prop,(∃ m,W 0 m σ H)∧∀ i m σ H,W i m σ H →
   ((Iti a o kvs).stop i H∧D.nx σ H)∨((Iti a o kvs).go i H∧∃ N:St→Hp→Prop,(∀ σ' H',N σ' H'→∃ m',m'<m∧W (i + 1) m' σ' H')∧∀ x H',(Iti a o kvs).yld i H x H'→g x σ H' fun σ2 H2=>tb { D with nx:=N,ct:=N,bk:=D.nx } σ2 H2):=by
 refine ⟨fun i m σ H=>m=kvs.length - i∧i≤kvs.length∧Pv i σ H,⟨kvs.length,by simp,Nat.zero_le _,h0⟩,?_⟩
 rintro i m σ H ⟨rfl,hi,p⟩
 have q:=hl i σ H hi p
 by_cases hlt:i<kvs.length
 ·refine .inr ⟨⟨hlt,q⟩,Pv (i + 1),fun σ' H' p'=>⟨kvs.length - (i + 1),by omega,rfl,hlt,p'⟩,fun x H' y=>?_⟩
  obtain ⟨t,pr,hp,ht,rfl,rfl⟩:=y
  exact hs i pr t σ H hp p ht
 ·have e:i=kvs.length:=by omega
  subst e
  exact .inl ⟨⟨Nat.le_refl _,q⟩,hd σ H p⟩
end L2
namespace L2
open PySem PySem.Spec PyProof.Rows
section
variable {X:Cx}
end
end L2
namespace L2
open PySem PySem.Spec PyProof.Rows
section
variable {prog:Program} {w:World} {A:Around} {E:Value→Shared→Prop} {s:Shared}
theorem nextTup_some {p t:Addr}{k:Nat}{us:Array Value}{u:Value}{Q:Value→Shared→Prop}(hp:s.heap.IsTupleIter p t k) (ht:s.heap.IsTuple t us) (hu:us[k]?=some u)
  (q:∀ g,g.IsTupleIter p t (k + 1)→Heap.SameBut p s.heap g→Q u { s with heap:=g }):wpAny (model prog w) A (Builtin.SmallTypes.nextOf (.ref p)) Q E s:=by
 obtain ⟨ob,h1,h2,h3⟩:=id hp
 obtain ⟨ot,h4,_,nt,h5⟩:=ht
 unfold Builtin.SmallTypes.nextOf
 refine wpAny_bind (wpAny_callSpecial?_slot (name:=Str.ofString "__next__") hp.typeIs PySem.F.slot_tuple_iterator_next (wpAny_call_entry PySem.F.slot_tuple_iterator_next hp.typeIs PySem.F.entry_tuple_iterator_next ?_ (PySem.F.args_tuple_iterator_next_1 _)))
 show wpAny _ _ (field (.ref p) 0>>=_) _ _ s
 refine wpAny_bind (wpAny_field h1 h3 (x:=.ref t) rfl ?_)
 show wpAny _ _ (if (Value.ref t == Value.none)=true then _ else _) _ _ s
 rw [if_neg (show ¬ ((Value.ref t == Value.none)=true) from Bool.false_ne_true)]
 show wpAny _ _ (field (.ref p) 1>>=_) _ _ s
 refine wpAny_bind (wpAny_field h1 h3 (x:=.int k 0) rfl ?_)
 show wpAny _ _ (seqItems? (.ref t)>>=_) _ _ s
 refine wpAny_bind (wpAny_seqItems h4 h5 ?_)
 simp only [Int.toNat_natCast,hu]
 refine wpAny_bind (wpAny_setField h1 h3 (by simp) (wpAny_pure ⟨u,rfl,wpAny_pure (q _ ?_ (Heap.SameBut.update ..))⟩))
 exact ⟨_,Heap.get?_update_self _ h1 (Obj.isFreed_of_fields (Obj.data_mapFields h3 _)),(Obj.cls_mapFields ..).trans h2,by rw [Obj.data_mapFields h3];simp [rawInt]⟩
theorem nextTup_none {p t:Addr}{k:Nat}{us:Array Value}{Q:Value→Shared→Prop}(hh:A.handled=none) (hp:s.heap.IsTupleIter p t k) (ht:s.heap.IsTuple t us) (hu:us[k]?=none)
  (q:∀ g e,Heap.ExtBut p s.heap g→(∃ o,g.get? e=some o∧o.cls=.type "StopIteration")→E (.ref e) { s with heap:=g }):wpAny (model prog w) A (Builtin.SmallTypes.nextOf (.ref p)) Q E s:=by
 obtain ⟨ob,h1,h2,h3⟩:=id hp
 obtain ⟨ot,h4,_,nt,h5⟩:=ht
 unfold Builtin.SmallTypes.nextOf
 refine wpAny_bind (wpAny_callSpecial?_slot (name:=Str.ofString "__next__") hp.typeIs PySem.F.slot_tuple_iterator_next (wpAny_call_entry PySem.F.slot_tuple_iterator_next hp.typeIs PySem.F.entry_tuple_iterator_next ?_ (PySem.F.args_tuple_iterator_next_1 _)))
 show wpAny _ _ (field (.ref p) 0>>=_) _ _ s
 refine wpAny_bind (wpAny_field h1 h3 (x:=.ref t) rfl ?_)
 show wpAny _ _ (if (Value.ref t == Value.none)=true then _ else _) _ _ s
 rw [if_neg (show ¬ ((Value.ref t == Value.none)=true) from Bool.false_ne_true)]
 show wpAny _ _ (field (.ref p) 1>>=_) _ _ s
 refine wpAny_bind (wpAny_field h1 h3 (x:=.int k 0) rfl ?_)
 show wpAny _ _ (seqItems? (.ref t)>>=_) _ _ s
 refine wpAny_bind (wpAny_seqItems h4 h5 ?_)
 simp only [Int.toNat_natCast,hu]
 refine wpAny_bind (wpAny_rule (wpAny_bind (wpAny_setField h1 h3 (by simp) ?_)))
 show wpAny _ _ (newExc (.type "StopIteration") []>>=_) _ _ _
 refine wpAny_bind ?_
 simp only [newExc,newTuple]
 refine wpAny_bind (wpAny_newObj_type ?_ (by size_fits))
 refine wpAny_bind (m:=firstArgMember _ _) (wpAny_of_eq (a:=Value.none) (by first | rfl | (simp only [firstArgMember];rfl)) ?_)
 refine wpAny_newObj_type ?_ (by size_fits)
 simp only [raiseNew]
 refine wpAny_bind (wpAny_handled ?_)
 first | rw [show A.in1.handled=none from hh] | rw [hh]
 refine wpAny_bind (wpAny_pure (wpAny_throw ?_))
 exact q _ _ (((Heap.SameBut.update ..).extBut.push _).push _) ⟨_,Heap.get?_push_size _ rfl,rfl⟩
structure ZAt (h:Heap) (z ti to i1 i2 l1 l2:Addr) (k:Nat) (f:Value):Prop where
 z:IsZip h z ti to f
 ti:IsPair h ti (.ref i1) (.ref i2)
 to:∃ a b,IsPair h to a b
 i1:h.IsTupleIter i1 l1 k
 i2:h.IsTupleIter i2 l2 k
end
end L2
namespace L2
open PySem PySem.Spec PyProof.Rows
def Itp (ps:List (V×V)) (Ok:Hp→Prop):It :=
 ⟨fun i H=>i<ps.length∧Ok H,fun i H v H'=>∃ t p,ps[i]?=some p∧H t=none∧v=.ref t∧H'=upd H t (.tup [p.1,p.2]),fun i H=>ps.length≤i∧Ok H⟩
section
variable {prog:Program} {w:World} {A:Around} {E:Value→Shared→Prop} {s:Shared}
abbrev zg1 (h:Heap) (l1:Addr):Heap:=h.push { cls:=.type "tuple_iterator",data:=.fields #[.ref l1,.int 0 0] }
end
theorem zipV_get {xs ys:List V}{i:Nat}{p:V×V}(h:(xs.zip ys)[i]?=some p):xs[i]?=some p.1∧ys[i]?=some p.2:=by
 rw [List.getElem?_zip_eq_some] at h
 exact h
theorem Inv.turnedNewL {X:Cx}{pins:List (Addr×Obj)}{σ:St}{H:Hp}{s:Shared}{h':Heap}{t':Nat}{its:List Addr}{a:Addr}{o:HO}(I:Inv X pins σ H s) (k:∀ b u,b∉its→s.heap.get? b=some u→h'.get? b=some u)
  (f:∀ b∈its,FpOk X pins H b) (ha:s.heap.objs.size≤a) (new:ObjOk X.prog X.w (upd H a o) h' a o):Inv X pins σ (upd H a o) { s with heap:=h',toks:=t' }:=by
 have nit:∀ b u,H b=some u→b∉its:=fun b u e z=>by have:=(f b z).1;rw [this] at e;cases e
 have na:∀ b u,H b=some u→b≠a:=fun b u e=>Nat.ne_of_lt (Nat.lt_of_lt_of_le (I.hok.lt e) ha)
 have low:∀ {b u},H b=some u→(upd H a o) b=some u:=fun {b u} e=>by rw [upd_ne (na b u e)];exact e
 refine I.step (g':=s.gens) (d':=s.drawn) (ch:=its) (fun b hb=>?_) (fun b u _ _ hc e _=>k b u hc e) (fun b u _ _ hc e _=>⟨u.slots,k b u hc e⟩)
  (fun b u _ e n=>by rw [upd_ne (Nat.ne_of_lt (Nat.lt_of_lt_of_le (Heap.lt_size e) ha))];exact n)
  (fun b u hc e=>⟨u,k b u hc e⟩) (fun _ _ e=>low e) (fun _ _ _ e=>low e) (fun b ps e=>⟨#[],by rw [low e];simp⟩) (fun m hm=>?_) (fun b u e=>?_) I.bare
 ·obtain ⟨f0,f1,f2,f3,f4,f5⟩:=f b hb
  exact ⟨f3,f1,f4,f5⟩
 ·obtain ⟨o',es,ep,ho,r⟩:=hm
  exact ⟨o',es,ep,k _ o' (fun z=>(f _ z).2.1 rfl) ho,r⟩
 ·by_cases hb:b=a
  ·subst hb
   rw [uS] at e
   cases e
   exact new
  ·rw [upd_ne hb] at e
   refine (I.hok b u e).stay (fun c v hc q=>k c v ?_ q) (fun _ q=>low q) fun _ _ q=>low q
   rcases hc with z | z
   ·rw [z];exact nit b u e
   ·exact nit c _ z
theorem Inv.turnedL {X:Cx}{pins:List (Addr×Obj)}{σ:St}{H:Hp}{s:Shared}{h':Heap}{t':Nat}{its:List Addr}(I:Inv X pins σ H s) (k:∀ b u,b∉its→s.heap.get? b=some u→h'.get? b=some u)
  (f:∀ b∈its,FpOk X pins H b):Inv X pins σ H { s with heap:=h',toks:=t' }:=by
 have nit:∀ b u,H b=some u→b∉its:=fun b u e z=>by have:=(f b z).1;rw [this] at e;cases e
 refine I.step (g':=s.gens) (d':=s.drawn) (ch:=its) (fun b hb=>?_) (fun b u _ _ hc e _=>k b u hc e) (fun b u _ _ hc e _=>⟨u.slots,k b u hc e⟩)
  (fun b u _ e n=>n) (fun b u hc e=>⟨u,k b u hc e⟩) (fun _ _ e=>e) (fun _ _ _ e=>e) (fun b ps e=>⟨#[],by rw [e];simp⟩) (fun m hm=>?_) (fun b u e=>?_) I.bare
 ·obtain ⟨f0,f1,f2,f3,f4,f5⟩:=f b hb
  exact ⟨f3,f1,f4,f5⟩
 ·obtain ⟨o',es,ep,ho,r⟩:=hm
  exact ⟨o',es,ep,k _ o' (fun z=>(f _ z).2.1 rfl) ho,r⟩
 ·refine (I.hok b u e).stay (fun c v hc q=>k c v ?_ q) (fun _ q=>q) fun _ _ q=>q
  rcases hc with z | z
  ·rw [z];exact nit b u e
  ·exact nit c _ z
section
variable {X:Cx}
end
end L2
namespace L2
open PySem PySem.Spec PyProof.Rows
theorem draws_tup {prog:Program}{w:World}{A:Around}(hh:A.handled=none) (p t:Addr) (ne:t≠p) (us:Array Value):Draws prog w A p [p,t] us.size (fun i v=>us[i]?=some v) (fun i h=>h.IsTupleIter p t i∧h.IsTuple t us) where
 live:=fun _ _ st=>let ⟨o,ho,_⟩:=st.1;⟨o,ho⟩
 frame:=fun _ _ _ st hk=>⟨st.1.at fun o e=>hk p (by simp) o e,let ⟨o,ho,r⟩:=st.2;⟨o,hk t (by simp) o ho,r⟩⟩
 item:=fun i s Q E hi st q=>nextTup_some st.1 st.2 (u:=us[i]) (by simp [hi]) fun g st' sb=>q _ g s.toks (by simp [hi]) ⟨st',st.2.extBut sb.extBut ne⟩ sb
 done:=fun s Q E st q=>nextTup_none hh st.1 st.2 (by simp) q
def SIt (b:Bool) (h:Heap) (p a:Addr) (i:Nat):Prop:=if b=true then h.IsListIter p a i else h.IsTupleIter p a i
def SSq (b:Bool) (h:Heap) (a:Addr) (us:Array Value):Prop:=if b=true then h.IsList a us else h.IsTuple a us
theorem SIt.at {b:Bool}{h h':Heap}{p a:Addr}{i:Nat}(x:SIt b h p a i) (e:∀ o,h.get? p=some o→h'.get? p=some o):SIt b h' p a i:=by
 cases b with
 | true=>exact Heap.IsListIter.at (show h.IsListIter p a i from x) e
 | false=>exact Heap.IsTupleIter.at (show h.IsTupleIter p a i from x) e
theorem SIt.obj {b:Bool}{h:Heap}{p a:Addr}{i:Nat}(x:SIt b h p a i):∃ o,h.get? p=some o∧∀ v,o.data≠.cell v:=by
 cases b with
 | true =>
  obtain ⟨o,e,_,d⟩:=(show h.IsListIter p a i from x)
  exact ⟨o,e,fun v z=>by rw [d] at z;cases z⟩
 | false =>
  obtain ⟨o,e,_,d⟩:=(show h.IsTupleIter p a i from x)
  exact ⟨o,e,fun v z=>by rw [d] at z;cases z⟩
theorem draws_seq {prog:Program}{w:World}{A:Around}(b:Bool) (hh:A.handled=none) (p t:Addr) (ne:t≠p) (us:Array Value):Draws prog w A p [p,t] us.size (fun i v=>us[i]?=some v) (fun i h=>SIt b h p t i∧SSq b h t us):=by
 cases b with
 | true=>exact Draws.list hh p t ne us
 | false=>exact draws_tup hh p t ne us
theorem Inv.sseq {X:Cx}{pins:List (Addr×Obj)}{σ:St}{H:Hp}{s:Shared}{b:Bool}{a:Addr}{xs:List V}(I:Inv X pins σ H s) (h:SqB X.K b H a xs):∃ its:List Value,Vals xs its∧SSq b s.heap a its.toArray:=by
 cases b with
 | true =>
  obtain ⟨its,rv,p,_⟩:=I.list (show SqL X.K H a xs from h)
  exact ⟨its,rv,p.isList⟩
 | false =>
  obtain ⟨its,rv,p,_⟩:=I.tuple (show SqT X.K H a xs from h)
  exact ⟨its,rv,p⟩
def enumV (xs:List V):List (V×V):=(rangeV 0 xs.length).zip xs
theorem enumV_len (xs:List V):(enumV xs).length=xs.length:=by
 unfold enumV
 rw [List.length_zip,rangeV_len,Nat.min_self]
theorem enumV_get {xs:List V}{i:Nat}{p:V×V}(h:(enumV xs)[i]?=some p):p.1=.int i∧xs[i]?=some p.2:=by
 obtain ⟨h1,h2⟩:=zipV_get h
 obtain ⟨_,e⟩:=rangeV_get h1
 exact ⟨by rw [e,Int.zero_add],h2⟩
section
variable {prog:Program} {w:World} {A:Around} {E:Value→Shared→Prop} {s:Shared}
theorem meets_enumT (l:Addr) (us:Array Value):Meets (Builtin.«enumerate.__new__» ⟨[.type "enumerate",.ref l],[]⟩) (fun _ R s=>s.heap.IsTuple l us ∧
   R (.ok (.ret (.ref (s.heap.push { cls:=.type "tuple_iterator",data:=.fields #[.ref l,.int 0 0] }).objs.size)))
    { s with heap:=(s.heap.push { cls:=.type "tuple_iterator",data:=.fields #[.ref l,.int 0 0] }).push { cls:=.type "enumerate",data:=.fields #[.none,.bool false,.ref s.heap.objs.size,rawInt 0,.none,.none] } }):=
 .of_wp fun prog w A R s h=>by
  obtain ⟨hp,g,d,tk,os⟩:=s
  obtain ⟨ht,h⟩:=h
  have hsub:=sub_enumerate
  obtain ⟨⟨c,dct,dt,sl⟩,hl,hc,n,hd⟩:=id ht
  replace hc:c=.type "tuple":=hc
  replace hd:dt=.seq us n:=hd
  subst hc hd
  have hT:Heap.IsTuple (Shared.heap ⟨hp,g,d,tk,os⟩) l us:=ht
  wp_walk using AutoSeq1.wpAny_loadPart' hl
  refine wpAny_stack_any fun st=>wpAny_pure ?_
  split
  ·rename_i c _ _ _ _ _
   cases (c == Value.type "enumerate")
   ·wp_walk using AutoSeq1.wpAny_loadPart' hl,wpAny_pyIter_tuple hT
    exact ⟨_,rfl,h⟩
   ·wp_walk using AutoSeq1.wpAny_loadPart' hl,wpAny_pyIter_tuple hT
    exact ⟨_,rfl,h⟩
  ·wp_walk using AutoSeq1.wpAny_loadPart' hl,wpAny_pyIter_tuple hT
   exact ⟨_,rfl,h⟩
theorem call_enum (b:Bool) {l:Addr}{us:Array Value}{Q:Value→Shared→Prop}(hl:SSq b s.heap l us)
  (q:∀ g,IsEnum g (s.heap.objs.size + 1) s.heap.objs.size 0 .none→SIt b g s.heap.objs.size l 0→(∀ c o,s.heap.get? c=some o→g.get? c=some o)→Q (.ref (s.heap.objs.size + 1)) { s with heap:=g }):
  wpAny (model prog w) A (call (.type "enumerate") [.ref l]) Q E s:=by
 cases b with
 | true=>exact call_enumerate_list (show s.heap.IsList l us from hl) fun g h1 h2 _ h4=>q g h1 h2 h4
 | false =>
  refine callType_new PySem.F.called_enumerate (by decide) (PySem.F.typeCall_enumerate_1 _) (PySem.F.newCall_enumerate_1 _) (fun obj=>PySem.F.args_object_init_2 obj _) PySem.F.entry_enumerate_new (meets_enumT l us) ⟨hl,?_⟩
  have n1:(zg1 s.heap l).objs.size=s.heap.objs.size + 1:=Heap.size_push ..
  show _∧_
  rw [n1]
  have he:IsEnum ((zg1 s.heap l).push { cls:=.type "enumerate",data:=.fields #[.none,.bool false,.ref s.heap.objs.size,rawInt 0,.none,.none] }) (s.heap.objs.size + 1) s.heap.objs.size 0 .none:=by
   have:=Heap.get?_push_size (zg1 s.heap l) (o:={ cls:=.type "enumerate",data:=.fields #[.none,.bool false,.ref s.heap.objs.size,rawInt 0,.none,.none] }) rfl
   rw [n1] at this
   exact this
  exact ⟨⟨_,he,rfl⟩,q _ he ⟨_,Heap.get?_push_of_some _ (Heap.get?_push_size _ rfl),rfl,rfl⟩ fun c o x=>Heap.get?_push_of_some _ (Heap.get?_push_of_some _ x)⟩
end
theorem enumEnd {prog:Program}{w:World}{A:Around}{E:Value→Shared→Prop}{s:Shared}{e p:Addr}{i:Int}{old:Value}{Q:Option Value→Shared→Prop}(hh:A.handled=none) (he:IsEnum s.heap e p i old)
  (nx:∀ (Q:Value→Shared→Prop) (E:Value→Shared→Prop),(∀ g e,Heap.ExtBut p s.heap g→(∃ o,g.get? e=some o∧o.cls=.type "StopIteration")→E (.ref e) { s with heap:=g })→wpAny (model prog w) A.in1 (Builtin.SmallTypes.nextOf (.ref p)) Q E s)
  (q:∀ g,Heap.ExtBut p s.heap g→Q none { s with heap:=g }):wpAny (model prog w) A (pyNext (.ref e)) Q E s:=by
 have hT:s.TypeIs (.ref e) "enumerate":=⟨_,he,rfl⟩
 unfold pyNext
 refine wpAny_bind (wpAny_attempt (wpAny_callSpecial?_slot (name:=Str.ofString "__next__") hT PySem.F.slot_enumerate_next (wpAny_call_entry PySem.F.slot_enumerate_next hT PySem.F.entry_enumerate_next ?_ (PySem.F.args_enumerate_next_1 _))))
 show wpAny _ _ (field (.ref e) 2>>=_) _ _ _
 refine wpAny_bind (wpAny_field he rfl (x:=.ref p) rfl (wpAny_bind (nx _ _ fun g x eb hx=>?_)))
 obtain ⟨o,ho,hc⟩:=hx
 refine wpAny_bind (wpAny_isInstance (T:="StopIteration") (b:=true) ⟨o,ho,hc⟩ isSubtype_stop ?_)
 exact wpAny_pure (q _ eb)
theorem turn_enum {P:Program}{w:World}{K:W.Frag}{elts:List Expr}{x1}{pos:Pos}{xs:List V}(b:Bool) (a e p:Addr) (ep:e≠p) (ea:e≠a) (ap:a≠p):
  Turn P w K (.Tuple elts x1 pos) (Itp (enumV xs) fun H=>SqB K b H a xs) [e,p] e (fun i h=>(∃ old,IsEnum h e p i old)∧SIt b h p a i) where
 mem:=by simp
 obj:=fun i h st c hc=>by
  have hc':c=e∨c=p:=by simpa using hc
  obtain ⟨⟨old,he⟩,si⟩:=st
  rcases hc' with rfl | rfl
  ·exact ⟨_,he,fun v q=>by cases q⟩
  ·exact si.obj
 keep:=fun i h h' st k=>by
  obtain ⟨⟨old,he⟩,si⟩:=st
  exact ⟨⟨old,k e (by simp) _ he⟩,si.at fun o q=>k p (by simp) o q⟩
 item:=by
  intro X hP hw hK hc i pins s σ H E I hf st hg
  subst hP hw hK
  obtain ⟨hi,ha⟩:=hg
  obtain ⟨⟨old,he⟩,si⟩:=st
  obtain ⟨pr,hp⟩:∃ p,(enumV xs)[i]?=some p:=⟨(enumV xs)[i]'hi,List.getElem?_eq_getElem hi⟩
  obtain ⟨e1,hx⟩:=enumV_get hp
  obtain ⟨its,rv,sq⟩:=I.sseq ha
  obtain ⟨u,hu,ru⟩:=rv.get hx
  have hil:i<its.toArray.size:=by rw [enumV_len] at hi;have:=rv.length;simp;omega
  have D:=draws_seq (prog:=X.prog) (w:=X.w) (A:=X.A.in1) b (I.ok.hd hc) p a ap its.toArray
  refine wpAny_pyNext_enum_itemD D he ⟨si,sq⟩ hil ep (by simp;exact ⟨ep,ea⟩) fun x g tk hPx ho hst hT _ hk=>?_
  have exu:x=u:=by
   have h1:its.toArray[i]?=some x:=hPx
   have h2:its.toArray[i]?=some u:=by simpa using hu
   rw [h1] at h2
   exact Option.some.inj h2
  subst exu
  refine ⟨_,rfl,?_⟩
  refine wpAny_letOwnedTupleGo_enum (s:={ s with heap:=g,toks:=tk + 1 }) ho fun g' he' sb=>?_
  have elt:e<s.heap.objs.size:=Heap.lt_size he
  have plt:p<s.heap.objs.size:=let ⟨o,q,_⟩:=si.obj;Heap.lt_size q
  have sb':Heap.ExtBut e g g':=sb.extBut
  have hT':IsPair g' s.heap.objs.size (.int i tk) x:=sb' _ _ (Nat.ne_of_gt elt) hT
  have I1:Inv X pins σ (upd H s.heap.objs.size (.tup [pr.1,pr.2])) { s with heap:=g',toks:=tk + 1 }:=I.turnedNewL (t':=tk + 1) (its:=[e,p]) (fun c o hc q=>sb' c o (fun z=>hc (by simp [z])) (hk c o (fun z=>hc (by simp [z])) (fun z=>hc (by simp [z])) q)) hf (Nat.le_refl _)
   ⟨sL (by show 2≤100000;decide),[.int i tk,x],.cons (by rw [e1];exact ⟨tk,rfl⟩) (.cons ru .nil),⟨_,hT',rfl,_,rfl⟩⟩
  refine ⟨.ref s.heap.objs.size,_,I1,rfl,⟨s.heap.objs.size,pr,hp,I.hok.fresh (Nat.le_refl _),rfl,rfl⟩,⟨⟨x,by simpa using he'⟩,hst.1.at fun o q=>sb' _ o (Ne.symm ep) q⟩,fun c hc=>?_⟩
  have hc':c=e∨c=p:=by simpa using hc
  have ne:c≠s.heap.objs.size:=by
   rcases hc' with rfl | rfl
   ·exact Nat.ne_of_lt elt
   ·exact Nat.ne_of_lt plt
  rw [upd_ne ne]
  exact (hf c hc).1
 done:=by
  intro X hP hw hK hc i pins s σ H E I hf st hg
  subst hP hw hK
  obtain ⟨hi,ha⟩:=hg
  obtain ⟨⟨old,he⟩,si⟩:=st
  obtain ⟨its,rv,sq⟩:=I.sseq ha
  have hl:=rv.length
  rw [enumV_len] at hi
  cases b with
  | true =>
   have si:s.heap.IsListIter p a i:=si
   have sq:s.heap.IsList a its.toArray:=sq
   refine enumEnd (I.ok.hd hc) he (fun Q E hE=>wpAny_nextOf_list_end (I.ok.hd hc) si sq (by simp;omega) hE) fun g eb=>⟨rfl,I.turnedL (t':=s.toks) (its:=[e,p]) (fun c o hc q=>eb c o (fun z=>hc (by simp [z])) q) hf⟩
  | false =>
   have si:s.heap.IsTupleIter p a i:=si
   have sq:s.heap.IsTuple a its.toArray:=sq
   refine enumEnd (I.ok.hd hc) he (fun Q E hE=>nextTup_none (I.ok.hd hc) si sq (by simp;omega) hE) fun g eb=>⟨rfl,I.turnedL (t':=s.toks) (its:=[e,p]) (fun c o hc q=>eb c o (fun z=>hc (by simp [z])) q) hf⟩
 self:=fun A i s Q E st h=>let ⟨⟨_,he⟩,_⟩:=st;wpAny_pyIter_enum he h
section
variable {X:Cx}
def iEnum (K:W.Frag) (ta:TA):TI:=fun σ H R=>ta σ H fun vs H1=>∃ (b:Bool) (a:Addr) (xs:List V),vs=[.ref a]∧SqB K b H1 a xs∧R (Itp (enumV xs) fun H=>SqB K b H a xs) H1
theorem pi_enum {elts:List Expr}{x1}{tpos:Pos}{a:Expr}{ta:TA}{p pos:Pos}(hg:Gl X "enumerate") (hm:X.mg "enumerate"=none) (ha:PA X [a] ta) (hs:starEach [a] X.env=[(false,eval a X.env)]:=by rfl):
  PI X (.Tuple elts x1 tpos) (.Call (.Name "enumerate" p) [a] [] pos) (iEnum X.K ta):=by
 intro pins s σ H R I h
 refine Call_ (ld_blt I hg hm boot_enumerate (PyProof.Rows.callWith_type1 (thn (ha pos pins s σ H _ I h) fun us s1 ⟨vs,H1,I1,r1,q1⟩=>?_) hs rfl))
 obtain ⟨b,l,xs,e,t1,q⟩:=q1
 subst e
 cases r1 with
 | cons r rr =>
  cases rr
  obtain rfl:_=Value.ref l:=r
  obtain ⟨its,rv,sq⟩:=I1.sseq t1
  have lt1:l<s1.heap.objs.size:=by
   cases b with
   | true=>obtain ⟨_,e,_⟩:=(show s1.heap.IsList l its.toArray from sq);exact Heap.lt_size e
   | false=>obtain ⟨_,e,_⟩:=(show s1.heap.IsTuple l its.toArray from sq);exact Heap.lt_size e
  refine call_enum b sq fun g he si hk=>wpAny_pyIter_enum (s:={ s1 with heap:=g }) he ?_
  refine ⟨_,[s1.heap.objs.size + 1,s1.heap.objs.size],_,_,H1,rfl,I1.kept (t':=s1.toks) fun b o e=>hk b o e,turn_enum b l _ _ (Nat.succ_ne_self _) (Nat.ne_of_gt (Nat.lt_succ_of_lt lt1)) (Nat.ne_of_lt lt1),⟨⟨_,he⟩,si⟩,fun c hc=>?_,q⟩
  have hc':c=s1.heap.objs.size + 1∨c=s1.heap.objs.size:=by simpa using hc
  have ge:s1.heap.objs.size≤c:=by
   rcases hc' with rfl | rfl
   ·exact Nat.le_add_right _ _
   ·exact Nat.le_refl _
  exact I1.fpOk ge (I1.hok.fresh ge)
end
end L2
namespace L2
open PySem PySem.Spec PyProof.Rows PySem.W
theorem hu65 {A:Around}{k:Nat}(hr:Room k A):A.units + 65<cLine:=by have:=hr.un;omega
theorem valV_noneG {κ:Type} [DecidableEq κ] {kvs:List (κ×V)}{k:κ}(h:k∉kvs.map (·.1)):valV kvs k=none:=by
 cases e:valV kvs k with
 | none=>rfl
 | some v=>exact absurd (valV_in e) h
theorem putK_keysG {κ:Type} [DecidableEq κ] {kvs:List (κ×V)}{k:κ}{v:V}(h:k∉kvs.map (·.1)):(putK kvs k v).map (·.1)=kvs.map (·.1)++[k]:=by
 rw [putK_new v (valV_noneG h),List.map_append]
 rfl
theorem not_taken {α:Type}{l:List α}(nd:l.Nodup) {i:Nat}{x:α}(h:l[i]?=some x):x∉l.take i:=by
 intro m
 have hi:=(List.getElem?_eq_some_iff.mp h).1
 have e:=(List.getElem?_eq_some_iff.mp h).2
 have sp:l=l.take i++l.drop i:=(List.take_append_drop i l).symm
 rw [sp] at nd
 have q:=(List.nodup_append.mp nd).2.2 x m
 refine q x ?_ rfl
 rw [List.drop_eq_getElem_cons hi,e]
 exact List.mem_cons_self
theorem for_pairs {ps:List (V×V)}{Ok:Hp→Prop}{g:TG}{tb:TS}{D:Ends}{σ:St}{H:Hp}(Pv:Nat→St→Hp→Prop) (h0:Pv 0 σ H) (hl:∀ i σ H,i≤ps.length→Pv i σ H→Ok H)
  (hs:∀ i p t σ H,ps[i]?=some p→Pv i σ H→H t=none→g (.ref t) σ (upd H t (.tup [p.1,p.2])) fun σ2 H2=>tb { D with nx:=Pv (i + 1),ct:=Pv (i + 1),bk:=D.nx } σ2 H2) (hd:∀ σ H,Pv ps.length σ H→D.nx σ H):
  ∃ W:Nat→Nat→St→Hp→Prop,(∃ m,W 0 m σ H)∧∀ i m σ H,W i m σ H →
   ((Itp ps Ok).stop i H∧D.nx σ H)∨((Itp ps Ok).go i H∧∃ N:St→Hp→Prop,(∀ σ' H',N σ' H'→∃ m',m'<m∧W (i + 1) m' σ' H')∧∀ x H',(Itp ps Ok).yld i H x H'→g x σ H' fun σ2 H2=>tb { D with nx:=N,ct:=N,bk:=D.nx } σ2 H2):=by
 refine ⟨fun i m σ H=>m=ps.length - i∧i≤ps.length∧Pv i σ H,⟨ps.length,by simp,Nat.zero_le _,h0⟩,?_⟩
 rintro i m σ H ⟨rfl,hi,p⟩
 have q:=hl i σ H hi p
 by_cases hlt:i<ps.length
 ·refine .inr ⟨⟨hlt,q⟩,Pv (i + 1),fun σ' H' p'=>⟨ps.length - (i + 1),by omega,rfl,hlt,p'⟩,fun x H' y=>?_⟩
  obtain ⟨t,pr,hp,ht,rfl,rfl⟩:=y
  exact hs i pr t σ H hp p ht
 ·have e:i=ps.length:=by omega
  subst e
  exact .inl ⟨⟨Nat.le_refl _,q⟩,hd σ H p⟩
abbrev g2 (K:W.Frag) (i j:Nat):TG:=gTup K 2 (gCons (gName i) (gCons (gName j) gNil))
theorem g2_at {K:W.Frag}{i j:Nat}{t:Addr}{x y:V}{σ:St}{H:Hp}{R:St→Hp→Prop}(h:SqT K H t [x,y]) (q:R ((σ.set i (some x)).set j (some y)) H):g2 K i j (.ref t) σ H R :=
 ⟨t,[x,y],rfl,h,rfl,x,[y],rfl,y,[],rfl,rfl,q⟩
theorem g2_new {K:W.Frag}{i j:Nat}{t:Addr}{x y:V}{σ:St}{H:Hp}{R:St→Hp→Prop}(q:R ((σ.set i (some x)).set j (some y)) (upd H t (.tup [x,y]))):g2 K i j (.ref t) σ (upd H t (.tup [x,y])) R :=
 g2_at (SqT.of uS) q
theorem pg_two {X:Cx}{K:W.Frag}{i j:Nat}{x y:Str}{p q pos:Pos}{c:Nat}(hK:X.K=K) (hc:X.calm=true) (hN:X.N.Nodup) (hi:X.N[i]?=some x) (hj:X.N[j]?=some y) (hx:Loc X.env.scope x) (hy:Loc X.env.scope y)
  (fx:X.fn x=true∨X.env.scope.names.lookup x=some .local) (fy:X.fn y=true∨X.env.scope.names.lookup y=some .local):PG X (.Tuple [.Name x p,.Name y q] c pos) (g2 K i j):=by
 subst hK
 exact pg_tup hc (gC (pg_name (i:=i) hN hi hx fx) (gC (pg_name (i:=j) hN hj hy fy) pgs_nil))
theorem snew {H:Hp}{t:Addr}{o:HO}(h:H t=none):Same H (upd H t o):=fun b u e=>by rw [upd_ne (nNo e h)];exact e
theorem take_filter {α:Type}(p:α→Bool):∀ (xs:List α) (i:Nat) (x:α),xs[i]?=some x→(xs.take (i + 1)).filter p=(xs.take i).filter p++if p x=true then [x] else []:=by
 intro xs i x h
 rw [List.take_add_one,h,List.filter_append]
 congr 1
 cases e:p x <;> simp [List.filter,e]
theorem paired_eq {α:Type}{f:α→V}:∀ {xs:List α}{ys:List V},Paired (fun x v=>v=f x) xs ys→ys=xs.map f
 | _,_,.nil=>rfl
 | _,_,.cons r t=>by rw [List.map_cons,r,paired_eq t]
theorem comp_val {J:It}{xs:List V}{Ok:Hp→Prop}(R:Runs J xs Ok) {js:List Nat}{tt:TT}{te:TE}{σ:St}{Q:VK}{H1:Hp}(hz:xs.length≤sizeLine) (p:V→Bool) (f:V→V)
  (hok:∀ H,Same H1 H→Ok H)
  (ht:∀ x H (R:Bool→Hp→Prop),Same H1 H→x∈xs→(∀ H',Same H H'→R (p x) H')→tt (some x :: js.map fun j=>(σ[j]?).join) H R)
  (he:∀ x H (R:V→Hp→Prop),Same H1 H→x∈xs→p x=true→(∀ H',Same H H'→R (f x) H')→te (some x :: js.map fun j=>(σ[j]?).join) H R)
  (hd:∀ D H',H1 D=none→Same H1 H'→H' D=some (.lst ((xs.filter p).map f))→Q (.ref D) H'):
  compBody 1 js (gName 0) tt te σ Q J H1 :=
 comp_rel R hz p (fun _ x v _=>v=f x) (fun _ _ _ _ _ _ z=>z) hok ht (fun D x H R hs _ _ hx hp k=>he x H R hs hx hp fun H' s'=>k _ _ s' rfl)
  fun D H' ys hD hs hl hp=>hd D H' hD hs (by rw [hl,paired_eq hp])
section
variable {X:Cx}
theorem any_dEq {d:Dat}{n:Nat} (h2:kqdOk n d=true):∀ {ds:List Dat},ds.all (kqdOk 8)=true→((kqdPs ds).any fun y=>PyData.eqv y (kqdP d))=ds.any fun e=>dEq e d
 | [],_=>by rw [kqdPs];rfl
 | e :: ds,h=>by
  rw [List.all_cons,Bool.and_eq_true] at h
  rw [kqdPs,List.any_cons,List.any_cons,eqv_dEq h.1 h2,any_dEq h2 h.2]
noncomputable def rInD (K:W.Frag) (f:Bool→Bool):R2:=fun x y H Q=>∃ d ds,Rep K H x d∧Rep K H y (.list ds)∧kqdOk 9 d=true∧ds.all (kqdOk 8)=true∧Q (.bl (f (ds.any fun e=>dEq e d))) H
theorem shaped_l {ds:List Dat}(h:ds.all (kqdOk 8)=true):SeqAt.shaped (PyData.list (kqdPs ds))=true:=by
 have:=shaped_of (d:=.list ds) (by rw [kqdOk];exact h)
 rw [kqdP] at this
 exact this
theorem op_notInD (hu:X.A.units + 65<cLine):OpR X (compareOp .NotIn) (rInD X.K Bool.not):=by
 intro pins s σ H x y v u Q I rx ry h
 obtain ⟨d,ds,h1,h2,k1,k2,q⟩:=h
 obtain ⟨as,ra⟩:=h1.reads I rx
 obtain ⟨bs,rb⟩:=h2.reads I ry
 rw [kqdP] at rb
 exact SeqAt.notIn_list_reads rb ra (SeqAt.canLay_of_shaped (shaped_l k2)) (SeqAt.canLay_of_shaped (shaped_of k1)) (room_in_shaped (shaped_of k1) hu) (fin_bl I q (by rw [any_dEq k1 k2]))
end
end L2
namespace L2
open PySem PySem.Spec PyProof.Rows PySem.W
end L2
namespace L2
open PySem PySem.Spec PyProof.Rows
section
variable {X:Cx}
end
end L2
namespace L2
open PySem PySem.W PySem.Spec PyProof.Rows
section
variable {X:Cx}
end
end L2
namespace L2
open PySem PySem.Spec PyProof.Rows
section
variable {prog:Program} {w:World} {A:Around} {E:Value→Shared→Prop} {s:Shared} {d it:Addr} {es:Array DictEntry} {ep i:Nat}
end
end L2
namespace L2
open PySem PySem.Spec PyProof.Rows
section
variable {X:Cx} {pins:List (Addr×Obj)} {σ:St} {H H':Hp} {s:Shared} {a:Addr} {kvs:List (List Key×V)} {o:Obj}
end
section
variable {X:Cx} {tg:Expr}
end
end L2
namespace L2
open PySem PySem.Spec PyProof.Rows
end L2
namespace L2
open PySem PySem.Spec PyProof.Rows
end L2
namespace L2
open PySem PySem.Spec PyProof.Rows
theorem comp_relT {K:W.Frag}{J:It}{xs:List V}{Ok:Hp→Prop}(R:Runs J xs Ok) {js:List Nat}{tt:TT}{te:TE}{σ:St}{Q:VK}{H1:Hp}(hz:xs.length≤sizeLine) (p:V→Bool) (F:Addr→V→V→Hp→Prop) (l r:V→V)
  (hF:∀ D x v H H',(∀ b o,b≠D→H b=some o→H' b=some o)→F D x v H→F D x v H')
  (hok:∀ H,Same H1 H→Ok H) (hp:∀ x∈xs,∃ t,x=.ref t∧H1 t=some (.tup [l x,r x]))
  (ht:∀ x H (R:Bool→Hp→Prop),Same H1 H→x∈xs→(∀ H',Same H H'→R (p x) H')→tt (some (l x):: some (r x):: js.map fun j=>(σ[j]?).join) H R)
  (he:∀ D x H (R:V→Hp→Prop),Same H1 H→(∃ ys,H D=some (.lst ys))→H1 D=none→x∈xs→p x=true→(∀ v H',Same H H'→F D x v H'→R v H')→te (some (l x):: some (r x):: js.map fun j=>(σ[j]?).join) H R)
  (hd:∀ D H' ys,H1 D=none→Same H1 H'→H' D=some (.lst ys)→Paired (fun x v=>F D x v H') (xs.filter p) ys→Q (.ref D) H'):
  compBody 2 js (g2 K 0 1) tt te σ Q J H1:=by
 refine comp_runs R hz (fun D i ys σ' H=>H1 D=none∧Same H1 H∧H D=some (.lst ys)∧Paired (fun x v=>F D x v H) ((xs.take i).filter p) ys∧∃ o u,σ'=o :: u :: js.map fun j=>(σ[j]?).join) ?_ ?_ ?_ ?_
 ·intro D hD
  exact ⟨hD,snew hD,uS,by simpa using Paired.nil,none,none,rfl⟩
 ·rintro D i ys σ' H hi ⟨hD,hs,hl,q,_⟩
  refine ⟨hok H hs,?_⟩
  rw [← q.length]
  exact Nat.le_trans (List.length_filter_le _ _) (by rw [List.length_take];omega)
 ·rintro D i x ys σ' H hD hx ⟨_,hs,hl,q,o,u,rfl⟩
  have mono:∀ {H H':Hp},(∀ b o,b≠D→H b=some o→H' b=some o)→Paired (fun x v=>F D x v H) ((xs.take i).filter p) ys→Paired (fun x v=>F D x v H') ((xs.take i).filter p) ys:=fun h q=>Paired.mapP q fun a b z=>hF D a b _ _ h z
  have hm:x∈xs:=List.mem_of_getElem? hx
  obtain ⟨t,rfl,hxt⟩:=hp x hm
  refine g2_at (SqT.of (hs _ _ hxt)) ?_
  show tt (some (l (.ref t)):: some (r (.ref t)):: js.map fun j=>(σ[j]?).join) H _
  refine ht (.ref t) H _ hs hm fun H4 s4=>?_
  have hs4:=hs.trans s4
  cases hpx:p (.ref t) with
  | true =>
   rw [if_pos rfl]
   refine he D (.ref t) H4 _ hs4 ⟨_,s4 _ _ hl⟩ hD hm hpx fun v H5 s5 f5=>⟨s5 _ _ (s4 _ _ hl),hD,fun b o e=>?_,uS,?_,_,_,rfl⟩
   ·rw [upd_ne (nNo e hD)]
    exact s5 _ _ (hs4 _ _ e)
   ·rw [take_filter p xs i _ hx,hpx,if_pos rfl]
    exact Paired.snoc (mono (fun b o hb e=>by rw [upd_ne hb];exact s5 _ _ (s4 _ _ e)) q) (hF D _ _ _ _ (fun b o hb e=>by rw [upd_ne hb];exact e) f5)
  | false =>
   rw [if_neg Bool.false_ne_true]
   refine ⟨hD,hs4,s4 _ _ hl,?_,_,_,rfl⟩
   rw [take_filter p xs i _ hx,hpx,if_neg Bool.false_ne_true,List.append_nil]
   exact mono (fun b o _ e=>s4 _ _ e) q
 ·rintro D ys σ' H hD ⟨_,hs,hl,q,_⟩
  rw [List.take_length] at q
  exact hd D H ys hD hs hl q
end L2
namespace L2
open PySem PySem.Spec PyProof.Rows
structure Air (h:Heap) (e T:Addr) (cls:Value) (dx:Option Addr) (fl:Value):Prop where
 ne:T≠e
 obj:∃ oe vs,h.get? e=some oe∧oe.cls=cls∧oe.dict=dx∧oe.data=.fields vs∧vs[1]?=some (.ref T)
 tb:∃ oT ts,h.get? T=some oT∧oT.data=.fields ts∧ts[3]?=some fl
structure Chg (S R:List Addr) (h h':Heap):Prop where
 sz:h.objs.size≤h'.objs.size
 keep:∀ b o,h.get? b=some o→b∉S→b∉R→h'.get? b=some o
 slot:∀ b o,h.get? b=some o→b∉R→∃ sl,h'.get? b=some { o with slots:=sl }
 there:∀ b o,h.get? b=some o→∃ o',h'.get? b=some o'
section
variable {M:Model} {A:Around} {E:Value→Shared→Prop} {s:Shared}
end
def CX1 (P:Program) (w:World):CXT:=fun outer H s E ev s'=>∃ (e T:Addr) (cls:Value) (dx:Option Addr) (H':Hp),ev=.ref e∧s'.os=s.os∧AllBare s'.gens∧Un (frs outer) [] H H' s.heap s'.heap∧HOk P w H' s'.heap ∧
 H' e=none∧H' T=none∧s.heap.objs.size≤e∧s.heap.objs.size≤T∧Air s'.heap e T cls dx .none∧E cls dx H'
structure Fns (X:Cx) (E:XK):Prop where
 xe:X.xe=fun e s'=>wpAny (model X.prog X.w) X.A (leaving X.env e) (fun _ s''=>CX1 X.prog X.w X.outer X.H₀ X.s₀ E e s'') (fun e' s''=>CX1 X.prog X.w X.outer X.H₀ X.s₀ E e' s'') s'
 stk:X.stack=X.env :: X.outer
 fr:X.env.frame=some X.env.locals
 ex:X.ex=[]
section
variable {X:Cx} {pins:List (Addr×Obj)} {σ:St} {H:Hp} {s:Shared} {E:XK} {e T:Addr} {cls:Value} {dx:Option Addr}
end
end L2
namespace L2
open PySem PySem.Spec
structure ExC (K:W.Frag) (C:Addr):Prop where
 obj:∃ nm q N bs bm hdct sn sub ab col dd k0 k1 k2 k3 k5,K.lookup C=some (excClassObj nm q C N bs bm hdct sn sub ab col dd k0 k1 k2 k3 k5 "ValueError.__new__")
 val:W.subIn K (.ref C) (.type "ValueError")=some true
 bas:W.subIn K (.ref C) (.type "BaseException")=some true
 att:W.subIn K (.ref C) (.type "AttributeError")=some false
 nam:W.subIn K (.ref C) (.type "NameError")=some false
 kp:W.keepIn K (.ref C)=true
section
variable {K:W.Frag} {prog:Program} {w:World} {A:Around} {E:Value→Shared→Prop} {h:Heap} {g:Array GenState} {d:Drawn} {t:Nat} {os:OsState} {C:Addr}
end
end L2
namespace L2
open PySem PySem.Spec PySem.Builtin PySem.Builtin.ObjectAttr PySem.W
structure ExA (K:W.Frag) (C:Addr):Prop extends ExC K C where
 ga:W.findIn K (.ref C) "__getattribute__"=some (some (.builtin "BaseException.__getattribute__"))
 gt:W.findIn K (.ref C) "__getattr__"=some none
 ca:W.findIn K (.ref C) "__class__"=some (some (.builtin "object.__class__"))
 cg:W.specialIn K (.builtin "object.__class__") "__get__"=some (some (.builtin "getset_descriptor.__get__"))
 ct:W.takesIn K (.builtin "object.__class__")=some true
 ob:W.mroIn K C (.type "object")=some true
section
variable {K:W.Frag} {prog:Program} {w:World} {A:Around} {E:Value→Shared→Prop} {h:Heap} {g:Array GenState} {d:Drawn} {t:Nat} {os:OsState} {x C:Addr} {ox:Obj} {od:Option Obj} {name:Str}
end
end L2
namespace L2
open PySem PySem.Spec PyProof.Rows
abbrev TF:=St→Hp→(Hp→Prop)→Prop
section
variable {X:Cx} {e:Expr} {es:List Expr} {te:TE} {t u:TF} {pos:Pos}
theorem int_log {i:Int}(h:i.natAbs<2 ^ 64):i.natAbs.log2<1920:=by
 by_cases z:i.natAbs=0
 ·rw [z];decide
 ·exact Nat.lt_trans ((Nat.log2_lt z).mpr h) (by decide)
end
section
variable {X:Cx} {E:XK} {C:Addr} {x:Str} {np cpos pos:Pos} {e:Expr} {es:List Expr} {t:TA}
end
section
variable {X:Cx} {pins:List (Addr×Obj)} {σ:St} {H:Hp} {s:Shared} {A:Around} {E:Value→Shared→Prop} {Q:Value→Shared→Prop} {e C:Addr} {dx:Option Addr} {cv:Value} {b:Bool}
end
abbrev XKs:=Value→Option Addr→St→Hp→Prop
abbrev TSx:=Ends→XKs→St→Hp→Prop
abbrev TEx:=St→Hp→VK→XK→Prop
def XP (X:Cx) (pins:List (Addr×Obj)) (E:XKs) (ev:Value) (s':Shared):Prop:=∃ (e T:Addr) (cls:Value) (dx:Option Addr) (σ':St) (H':Hp),ev=.ref e∧Inv X pins σ' H' s'∧FpOk X pins H' e∧FpOk X pins H' T∧Air s'.heap e T cls dx .none∧E cls dx σ' H'
section
variable {X:Cx} {st:Stmt} {rest:List Stmt} {t u:TSx} {e:Expr} {te:TEx} {pos:Pos}
end
section
variable {X:Cx} {k:Nat} {f C:Addr} {fd:FuncData} {ps:List Str} {sp:Sp} {dvs:List V} {ds:List Value} {x m:Str} {p pos apos:Pos} {e o:Expr} {es:List Expr} {ta:TE} {t:TA}
end
end L2
namespace L2
open PySem PySem.Spec PyProof.Rows
section
variable {K:W.Frag} {M:Model} {A:Around} {E:Value→Shared→Prop} {h:Heap} {g:Array GenState} {d:Drawn} {t:Nat} {os:OsState} {e C D:Addr}
end
section
variable {X:Cx} {pins:List (Addr×Obj)} {σ:St} {H:Hp} {s:Shared}
end
section
variable {X:Cx} {D:Addr} {body:List Stmt} {t:TSx} {x n dn:Str} {np xp ep ap hp pos:Pos} {i j:Nat}
end
section
variable {X:Cx} {k:Nat} {f C:Addr} {fd:FuncData} {ps:List Str} {sp:Sp} {x m:Str} {p pos apos:Pos} {e o:Expr} {es:List Expr} {ta:TE} {t:TA}
end
end L2
namespace L2
open PySem PySem.Spec PyProof.Rows
end L2
namespace L2
open PySem PySem.Spec PyProof.Rows
section
variable {X:Cx}
end
end L2
namespace L2
open PySem PySem.Spec PyProof.Rows
end L2
namespace L2
open PySem PySem.Spec PyProof.Rows
end L2
namespace L2
open PySem PySem.W PySem.Spec PyProof.Rows
section
variable {X:Cx} {e:Expr} {te:TE} {pos:Pos} {k:Nat}
end
end L2
namespace L2
open PySem PySem.Spec PyProof.Rows HT
section
variable {prog:Program} {w:World} {A:Around} {E:Value→Shared→Prop} {s:Shared}
end
theorem rCatA_of {K:W.Frag}{H:Hp}{a b:Addr}{xs ys:List V}{Q:VK}(hx:H a=some (.tup xs)) (hy:H b=some (.tup ys)) (hz:xs.length + ys.length≤sizeLine) (q:∀ p H',Same H H'→H' p=some (.tup (xs++ys))→Q (.ref p) H'):rCatA K (.ref a) (.ref b) H Q :=
 ⟨a,b,xs,ys,rfl,rfl,SqT.of hx,SqT.of hy,hz,fun e=>q b H (Same.refl _) (by rw [e];exact hy),fun _ e=>q a H (Same.refl _) (by rw [e,List.append_nil];exact hx),fun _ _ p hp=>q p _ (fun c o e=>by rw [upd_ne (nNo e hp)];exact e) uS⟩
end L2
namespace L2
open PySem PySem.Spec PyProof.Rows
section
variable {X:Cx}
end
end L2
namespace L2
open PySem PySem.Spec PySem.Builtin PySem.Builtin.ObjectAttr PySem.W
structure ExI (K:W.Frag) (C D:Addr) (a:Str):Prop extends ExA K C where
 lk:∃ nm q N bs sn sub ab col dd k0 k1 k2 k3 k5,K.lookup C=some (excClassObj nm q C N bs [.ref D,.type "ValueError",.type "Exception",.type "BaseException",.type "object"] true sn sub ab col dd k0 k1 k2 k3 k5 "ValueError.__new__")
 sa:W.findIn K (.ref C) "__setattr__"=some (some (.builtin "object.__setattr__"))
 na:W.findIn K (.ref C) a=some none
section
variable {K:W.Frag} {prog:Program} {w:World} {A:Around} {E:Value→Shared→Prop} {s:Shared} {C D e t0:Addr} {a:Str} {v:Value}
end
end L2
namespace L2
open PySem PySem.Spec PyProof.Rows
structure DIn (K:W.Frag) (D:Addr):Prop where
 ga:W.specialIn K (.ref D) "__getattribute__"=some (some (.builtin "type.__getattribute__"))
 rd:W.readsIn K D (.type "type")=true
 fi:W.findCls K (.ref D) (.type "type") "__init__"=some (.val (.builtin "ValueError.__init__"))
section
variable {X:Cx} {pins:List (Addr×Obj)} {σ:St} {H:Hp} {s:Shared} {a:Addr} {φ:Heap→Prop}
end
section
variable {X:Cx} {C D f:Addr} {fd:FuncData} {k:Nat} {x dn a:Str} {np cpos pos apos pos':Pos} {e o value:Expr} {es:List Expr} {t:TA} {ta tv:TE} {ps:List Str}
end
end L2
namespace L2
open PySem PySem.Spec PyProof.Rows
structure CompOkC (X:Cx) (scope:Scope) (own frees:List Str) (js:List Nat):Prop where
 calm:X.calm=true
 kind:scope.kind=.function
 cells:∀ y∈scope.names,y.2=.cell→scope.names.lookup y.1=some .cell
 locals:∀ y∈scope.names,y.2=.local→scope.names.lookup y.1=some .local
 fr:∀ y∈scope.names,y.2=.free→X.env.scope.names.lookup y.1=some .cell∨X.env.scope.names.lookup y.1=some .free
 fre:∀ x∈frees,scope.names.lookup x=some .free
 slots:js.map (fun j=>X.N[j]?)=frees.map some
section
variable {X:Cx} {pins:List (Addr×Obj)} {σ:St} {scope:Scope} {own frees:List Str} {js:List Nat}
end
section
variable {X:Cx} {scope:Scope} {own frees:List Str} {js:List Nat} {tg iter elt:Expr} {ifs:List Expr} {wi:TI} {g:TG} {tt:TT} {te:TE} {pos:Pos}
end
end L2
namespace L2
open PySem PySem.Spec PyProof.Rows
section
variable {prog:Program} {w:World} {A:Around} {E:Value→Shared→Prop} {s:Shared} {r:Addr}
end
section
variable {X:Cx}
end
end L2
namespace L2
open PySem PySem.Spec PyProof.Rows
structure IsCls (K:W.Frag) (D:Addr):Prop where
 ha:W.findIn K (.ref D) "__class__"=some (some (.builtin "object.__class__"))
 hn:W.specialIn K (.builtin "object.__class__") "__get__"=some (some (.builtin "getset_descriptor.__get__"))
 ht:W.takesIn K (.builtin "object.__class__")=some true
 hm:W.mroIn K D (.type "object")=some true
 ki:W.kitOne K (.ref D) (.ref D)=some true
end L2
namespace L2
open PySem PySem.Spec PyProof.Rows
section
variable {prog:Program} {w:World} {A:Around}
end
section
variable {X:Cx}
end
end L2
namespace L2
open PySem PySem.Spec PyProof.Rows
section
variable {X:Cx} {pins:List (Addr×Obj)} {σ:St} {H:Hp} {s:Shared} {a:Addr} {o:Obj} {kvs:List (List Key×V)}
end
end L2
namespace L2
open PySem PySem.Spec PySem.Builtin
section
variable {X:Cx}
end
end L2
namespace L2
open PySem PySem.Spec PyProof.Rows
section
variable {X:Cx} {C D f:Addr} {fd:FuncData} {k:Nat} {x dn a:Str} {np cpos pos apos pos':Pos} {e o value:Expr} {es:List Expr} {t:TA} {ta tv:TE} {ps:List Str}
end
end L2
namespace L2
open PySem PySem.Spec PySem.Builtin
section
variable {X:Cx}
end
section
variable {X:Cx}
end
end L2
namespace L2
open PySem PySem.Spec PyProof.Rows
structure ZLt (h:Heap) (z ti to i1 i2 l1 l2:Addr) (k:Nat) (f:Value):Prop where
 z:IsZip h z ti to f
 ti:IsPair h ti (.ref i1) (.ref i2)
 to:∃ a b,IsPair h to a b
 i1:h.IsListIter i1 l1 k
 i2:h.IsListIter i2 l2 k
section
variable {prog:Program} {w:World} {A:Around} {E:Value→Shared→Prop} {s:Shared}
theorem call_zipL {l1 l2:Addr}{xs ys:Array Value}{Q:Value→Shared→Prop} (t1:s.heap.IsList l1 xs) (t2:s.heap.IsList l2 ys)
  (q:∀ g,ZLt g (s.heap.objs.size + 4) (s.heap.objs.size + 2) (s.heap.objs.size + 3) s.heap.objs.size (s.heap.objs.size + 1) l1 l2 0 .none→(∀ c o,s.heap.get? c=some o→g.get? c=some o)→Q (.ref (s.heap.objs.size + 4)) { s with heap:=g }):
  wpAny (model prog w) A (call (.type "zip") [.ref l1,.ref l2]) Q E s :=
 call_zip_2 t1 t2 fun g a1 a2 a3 a4 a5 _ a7=>q g ⟨a1,a2,⟨_,_,a3⟩,a4,a5⟩ a7
end
section
variable {X:Cx}
end
end L2
namespace L2
open PySem PySem.Spec PyProof.Rows
abbrev ZipF (h:Heap) (z TI TO:Addr) (f0:Value) (f:Bool):Prop:=h.get? z=some { cls:=.type "zip",dict:=none,data:=.fields #[f0,.bool f,.bool false,.ref TI,.ref TO],slots:=#[] }
section
variable {prog:Program} {w:World} {A:Around} {E:Value→Shared→Prop} {s:Shared}
theorem zipF_free {z TI TO a:Addr}{f:Bool}{oa:Obj}{Q:Bool→Shared→Prop}(hz:ZipF s.heap z TI TO (rawInt a) f) (ha:s.heap.get? a=some oa)
  (hQ:∀ h',ZipF h' z TI TO (rawInt a) true→Heap.SameBut z s.heap h'→Q false { s with heap:=h' }):wpAny (model prog w) A (Builtin.SmallTypes.ownedTupleIsFree (.ref z)) Q E s:=by
 unfold Builtin.SmallTypes.ownedTupleIsFree
 refine wpAny_bind (wpAny_field hz rfl (x:=rawInt a) rfl ?_)
 show wpAny _ _ (loadIfAlive ((a:Int).toNat)>>=_) _ _ _
 rw [Int.toNat_natCast]
 refine wpAny_bind (W.kdx_alive ha ?_)
 simp only [Option.isNone_some,Bool.false_eq_true,if_false]
 refine wpAny_bind (wpAny_field hz rfl (x:=.bool f) rfl ?_)
 cases f with
 | true =>
  rw [if_neg (show ¬ ((Value.bool true != Value.bool true)=true) from Bool.false_ne_true)]
  exact wpAny_pure (hQ _ hz (Heap.SameBut.refl _ _))
 | false =>
  rw [if_pos (show (Value.bool false != Value.bool true)=true from rfl)]
  exact wpAny_bind (wpAny_setField_rec hz (by simp) fun h₃ he₃ hs₃=>wpAny_pure (hQ _ he₃ hs₃))
theorem zipF_next_item {z TI TO i1 i2 l1 l2 a:Addr}{f:Bool}{oa:Obj}{k1 k2:Nat}{xs ys:Array Value}{x y:Value}{Q:Value→Shared→Prop}(D:ZipApart z TI TO i1 i2 l1 l2) (hz:ZipF s.heap z TI TO (rawInt a) f) (ha:s.heap.get? a=some oa) (hTI:IsPair s.heap TI (.ref i1) (.ref i2))
  (h1:s.heap.IsListIter i1 l1 k1) (h2:s.heap.IsListIter i2 l2 k2) (hl1:s.heap.IsList l1 xs) (hl2:s.heap.IsList l2 ys) (hx:xs[k1]?=some x) (hy:ys[k2]?=some y)
  (hQ:∀ h',ZipF h' z TI TO (rawInt a) true→h'.IsListIter i1 l1 (k1 + 1)→h'.IsListIter i2 l2 (k2 + 1)→IsPair h' s.heap.objs.size x y→h'.objs.size=s.heap.objs.size + 1 →
   (∀ c o,c≠z→c≠i1→c≠i2→s.heap.get? c=some o→h'.get? c=some o)→Q (.ref s.heap.objs.size) { s with heap:=h' }):
  wpAny (model prog w) A (Builtin.«zip.__next__» ⟨[.ref z],[]⟩) (fun fin s'=>∃ v,fin=.done (.ret v)∧Q v s') E s:=by
 show wpAny _ _ (field (.ref z) 2>>=_) _ _ _
 refine wpAny_bind (wpAny_field hz rfl (x:=.bool false) rfl ?_)
 show wpAny _ _ (field (.ref z) 3>>=_) _ _ _
 refine wpAny_bind (wpAny_field hz rfl (x:=.ref TI) rfl ?_)
 refine wpAny_bind (wpAny_seqItems hTI rfl ?_)
 show wpAny _ _ (Builtin.SmallTypes.ownedTupleIsFree (.ref z)>>=_) _ _ _
 refine wpAny_bind (zipF_free hz ha fun h₁ hz₁ hs₁=>?_)
 simp only [Bool.false_eq_true,if_false,List.forIn_toArray,List.forIn_cons,List.forIn_nil]
 refine wpAny_bind (wpAny_bind (wpAny_bind (wpAny_holding ?_)))
 show wpAny _ _ (Builtin.SmallTypes.nextOf (.ref i1)>>=_) _ _ _
 refine wpAny_bind (wpAny_nextOf_list_item (h1.extBut hs₁.extBut D.i1z) (hl1.extBut hs₁.extBut D.l1z) hx fun h₂ h1₂ hs₂=>wpAny_pure ?_)
 refine wpAny_pure ?_
 refine wpAny_bind (wpAny_bind (wpAny_holding ?_))
 show wpAny _ _ (Builtin.SmallTypes.nextOf (.ref i2)>>=_) _ _ _
 refine wpAny_bind (wpAny_nextOf_list_item ((h2.extBut hs₁.extBut D.i2z).extBut hs₂.extBut D.i12.symm) ((hl2.extBut hs₁.extBut D.l2z).extBut hs₂.extBut D.l2i1) hy fun h₃ h2₃ hs₃=>wpAny_pure ?_)
 refine wpAny_pure (wpAny_pure ?_)
 refine wpAny_bind (wpAny_newTuple ?_ (by show 2≤sizeLine;rw [sizeLine_eq];decide))
 have hsz:h₃.objs.size=s.heap.objs.size:=by rw [hs₃.1,hs₂.1,hs₁.1]
 have hz₃:ZipF h₃ z TI TO (rawInt a) true:=hs₃.extBut _ _ D.i2z.symm (hs₂.extBut _ _ D.i1z.symm hz₁)
 have hk:∀ c o,c≠z→c≠i1→c≠i2→s.heap.get? c=some o→h₃.get? c=some o:=fun c o c1 c3 c4 e=>hs₃.extBut _ _ c4 (hs₂.extBut _ _ c3 (hs₁.extBut _ _ c1 e))
 have h1₃:h₃.IsListIter i1 l1 (k1 + 1):=h1₂.extBut hs₃.extBut D.i12
 refine wpAny_pure ⟨_,rfl,?_⟩
 show Q (.ref h₃.objs.size) _
 have fin:=hQ (h₃.push { cls:=.type "tuple",data:=.seq #[x,y] }) (Heap.get?_push_of_some _ hz₃) (h1₃.at fun o e=>Heap.get?_push_of_some _ e) (h2₃.at fun o e=>Heap.get?_push_of_some _ e) (by rw [← hsz];exact Heap.get?_push_size _ rfl) (by rw [Heap.size_push,hsz]) fun c o c1 c2 c3 e=>Heap.get?_push_of_some _ (hk c o c1 c2 c3 e)
 rw [hsz]
 exact fin
theorem zipF_next_end {z TI TO i1 i2 l1 l2 a:Addr}{f:Bool}{oa:Obj}{k1 k2:Nat}{xs ys:Array Value}{Q:PySem.Fin→Shared→Prop}(hh:A.handled=none) (D:ZipApart z TI TO i1 i2 l1 l2) (hz:ZipF s.heap z TI TO (rawInt a) f) (ha:s.heap.get? a=some oa) (hTI:IsPair s.heap TI (.ref i1) (.ref i2))
  (h1:s.heap.IsListIter i1 l1 k1) (h2:s.heap.IsListIter i2 l2 k2) (hl1:s.heap.IsList l1 xs) (hl2:s.heap.IsList l2 ys) (hend:xs[k1]?=none∨ys[k2]?=none)
  (hE:∀ h' e,(∀ c o,c≠z→c≠i1→c≠i2→s.heap.get? c=some o→h'.get? c=some o)→(∃ o,h'.get? e=some o∧o.cls=.type "StopIteration")→E (.ref e) { s with heap:=h' }):
  wpAny (model prog w) A (Builtin.«zip.__next__» ⟨[.ref z],[]⟩) Q E s:=by
 show wpAny _ _ (field (.ref z) 2>>=_) _ _ _
 refine wpAny_bind (wpAny_field hz rfl (x:=.bool false) rfl ?_)
 show wpAny _ _ (field (.ref z) 3>>=_) _ _ _
 refine wpAny_bind (wpAny_field hz rfl (x:=.ref TI) rfl ?_)
 refine wpAny_bind (wpAny_seqItems hTI rfl ?_)
 show wpAny _ _ (Builtin.SmallTypes.ownedTupleIsFree (.ref z)>>=_) _ _ _
 refine wpAny_bind (zipF_free hz ha fun h₁ hz₁ hs₁=>?_)
 simp only [Bool.false_eq_true,if_false,List.forIn_toArray,List.forIn_cons,List.forIn_nil]
 refine wpAny_bind (wpAny_bind (wpAny_bind (wpAny_holding ?_)))
 show wpAny _ _ (Builtin.SmallTypes.nextOf (.ref i1)>>=_) _ _ _
 cases hx:xs[k1]? with
 | none =>
  refine wpAny_bind (wpAny_nextOf_list_end hh (h1.extBut hs₁.extBut D.i1z) (hl1.extBut hs₁.extBut D.l1z) hx fun h₂ e hs₂ he=>?_)
  exact hE h₂ e (fun c o c1 c3 _ x=>hs₂ _ _ c3 (hs₁.extBut _ _ c1 x)) he
 | some x =>
  have hy:ys[k2]?=none:=by rcases hend with h | h;rw [hx] at h;cases h;exact h
  refine wpAny_bind (wpAny_nextOf_list_item (h1.extBut hs₁.extBut D.i1z) (hl1.extBut hs₁.extBut D.l1z) hx fun h₂ h1₂ hs₂=>wpAny_pure ?_)
  refine wpAny_pure ?_
  refine wpAny_bind (wpAny_bind (wpAny_holding ?_))
  show wpAny _ _ (Builtin.SmallTypes.nextOf (.ref i2)>>=_) _ _ _
  refine wpAny_bind (wpAny_nextOf_list_end hh ((h2.extBut hs₁.extBut D.i2z).extBut hs₂.extBut D.i12.symm) ((hl2.extBut hs₁.extBut D.l2z).extBut hs₂.extBut D.l2i1) hy fun h₃ e hs₃ he=>?_)
  exact hE h₃ e (fun c o c1 c3 c4 x=>hs₃ _ _ c4 (hs₂.extBut _ _ c3 (hs₁.extBut _ _ c1 x))) he
structure ZSt (h:Heap) (z TI TO i1 i2 l1 l2 S:Addr) (i:Nat) (xs ys:Array Value):Prop where
 st:(IsZip h z TI TO .none)∨∃ (a:Addr) (f:Bool) (oa:Obj),ZipF h z TI TO (rawInt a) f∧h.get? a=some oa∧a≠z∧a≠i1∧a≠i2∧a≠S
 ti:IsPair h TI (.ref i1) (.ref i2)
 to:∃ a b,IsPair h TO a b
 h1:h.IsListIter i1 l1 i
 h2:h.IsListIter i2 l2 i
 hl1:h.IsList l1 xs
 hl2:h.IsList l2 ys
theorem ZSt.keep {h h':Heap}{z TI TO i1 i2 l1 l2 S:Addr}{i:Nat}{xs ys:Array Value}(x:ZSt h z TI TO i1 i2 l1 l2 S i xs ys) (hk:∀ b o,b≠S→h.get? b=some o→h'.get? b=some o) (nz:z≠S) (nti:TI≠S) (nto:TO≠S) (n1:i1≠S) (n2:i2≠S) (m1:l1≠S) (m2:l2≠S):ZSt h' z TI TO i1 i2 l1 l2 S i xs ys:=by
 obtain ⟨st,ti,⟨a,b,to⟩,h1,h2,hl1,hl2⟩:=x
 refine ⟨?_,hk _ _ nti ti,⟨a,b,hk _ _ nto to⟩,h1.at fun o e=>hk _ o n1 e,h2.at fun o e=>hk _ o n2 e,hl1.at fun o e=>hk _ o m1 e,hl2.at fun o e=>hk _ o m2 e⟩
 rcases st with st | ⟨a,f,oa,st,ha,n⟩
 ·exact .inl (hk _ _ nz st)
 ·exact .inr ⟨a,f,oa,hk _ _ nz st,hk _ _ n.2.2.2 ha,n⟩
theorem zst_item {z TI TO i1 i2 l1 l2 S:Addr}{i:Nat}{xs ys:Array Value}{x y:Value}{Q:Option Value→Shared→Prop}(D:ZipApart z TI TO i1 i2 l1 l2) (hst:ZSt s.heap z TI TO i1 i2 l1 l2 S i xs ys) (hS:S<s.heap.objs.size) (hx:xs[i]?=some x) (hy:ys[i]?=some y)
  (hQ:∀ h',ZSt h' z TI TO i1 i2 l1 l2 S (i + 1) xs ys→IsPair h' s.heap.objs.size x y→h'.objs.size=s.heap.objs.size + 1→(∀ b o,b≠z→b≠TO→b≠i1→b≠i2→s.heap.get? b=some o→h'.get? b=some o)→Q (some (.ref s.heap.objs.size)) { s with heap:=h' }):
  wpAny (model prog w) A (pyNext (.ref z)) Q E s:=by
 obtain ⟨st,ti,⟨a,b,to⟩,h1,h2,hl1,hl2⟩:=hst
 have i1l:i1<s.heap.objs.size:=by obtain ⟨_,e,_⟩:=h1;exact Heap.lt_size e
 have i2l:i2<s.heap.objs.size:=by obtain ⟨_,e,_⟩:=h2;exact Heap.lt_size e
 rcases st with hz | ⟨c,f,oc,hz,hc,nz,n1,n2,nS⟩
 ·have zl:z<s.heap.objs.size:=Heap.lt_size hz
  refine wpAny_pyNext_zip_item D hz ti to h1 h2 hl1 hl2 hx hy fun h' a1 a2 a3 a4 a5 a6 hk=>hQ h' ⟨.inr ⟨_,false,_,a1,a5,Nat.ne_of_gt zl,Nat.ne_of_gt i1l,Nat.ne_of_gt i2l,Nat.ne_of_gt hS⟩,hk _ _ D.TIz D.TITO D.TIi1 D.TIi2 ti,⟨_,_,a2⟩,a3,a4,hl1.at fun o e=>hk _ o D.l1z D.l1TO D.l1i1 D.l1i2 e,hl2.at fun o e=>hk _ o D.l2z D.l2TO D.l2i1 D.l2i2 e⟩ a5 a6 hk
 ·have hT:s.TypeIs (.ref z) "zip":=⟨_,hz,rfl⟩
  unfold pyNext
  exact wpAny_bind (wpAny_attempt (wpAny_callSpecial?_slot (name:=Str.ofString "__next__") hT PySem.F.slot_zip_next
   (wpAny_call_entry PySem.F.slot_zip_next hT PySem.F.entry_zip_next
    (zipF_next_item D hz hc ti h1 h2 hl1 hl2 hx hy fun h' a1 a3 a4 a5 a6 hk=>wpAny_pure (hQ h' ⟨.inr ⟨c,true,_,a1,hk _ _ nz n1 n2 hc,nz,n1,n2,nS⟩,hk _ _ D.TIz D.TIi1 D.TIi2 ti,⟨_,_,hk _ _ D.TOz D.TOi1 D.TOi2 to⟩,a3,a4,hl1.at fun o e=>hk _ o D.l1z D.l1i1 D.l1i2 e,hl2.at fun o e=>hk _ o D.l2z D.l2i1 D.l2i2 e⟩ a5 a6 fun b o b1 _ b3 b4 e=>hk b o b1 b3 b4 e)) (PySem.F.args_zip_next_1 _))))
theorem zst_done {z TI TO i1 i2 l1 l2 S:Addr}{i:Nat}{xs ys:Array Value}{Q:Option Value→Shared→Prop}(hh:A.handled=none) (D:ZipApart z TI TO i1 i2 l1 l2) (hst:ZSt s.heap z TI TO i1 i2 l1 l2 S i xs ys) (hend:xs[i]?=none∨ys[i]?=none)
  (hQ:∀ h',(∀ b o,b≠z→b≠TO→b≠i1→b≠i2→s.heap.get? b=some o→h'.get? b=some o)→Q none { s with heap:=h' }):wpAny (model prog w) A (pyNext (.ref z)) Q E s:=by
 obtain ⟨st,ti,⟨a,b,to⟩,h1,h2,hl1,hl2⟩:=hst
 rcases st with hz | ⟨c,f,oc,hz,hc,nz,n1,n2,nS⟩
 ·exact wpAny_pyNext_zip_end hh D hz ti to h1 h2 hl1 hl2 hend hQ
 ·have hT:s.TypeIs (.ref z) "zip":=⟨_,hz,rfl⟩
  unfold pyNext
  refine wpAny_bind (wpAny_attempt (wpAny_callSpecial?_slot (name:=Str.ofString "__next__") hT PySem.F.slot_zip_next
   (wpAny_call_entry PySem.F.slot_zip_next hT PySem.F.entry_zip_next (zipF_next_end hh D hz hc ti h1 h2 hl1 hl2 hend fun h' e hk he=>?_) (PySem.F.args_zip_next_1 _))))
  obtain ⟨o,ho,hc⟩:=he
  refine wpAny_bind (wpAny_isInstance (T:="StopIteration") (b:=true) ⟨o,ho,hc⟩ isSubtype_stop ?_)
  exact wpAny_pure (hQ _ fun b o b1 _ b3 b4 e=>hk b o b1 b3 b4 e)
structure ZipG (xs ys:Array Value) (lo:Addr) (h:Heap) (as:List Addr):Prop where
 rise:as.Pairwise (·<·)
 above:∀ a∈as,lo<a
 pairs:∀ (j:Nat) (a:Addr),as[j]?=some a→∃ x y,xs[j]?=some x∧ys[j]?=some y∧IsPair h a x y
theorem ZipG.there {xs ys:Array Value}{lo:Addr}{h:Heap}{as:List Addr}(g:ZipG xs ys lo h as) {a:Addr}(ha:a∈as):a<h.objs.size:=by
 obtain ⟨j,hj⟩:=List.mem_iff_getElem?.mp ha
 obtain ⟨_,_,_,_,e⟩:=g.pairs j a hj
 exact Heap.lt_size e
structure ZLow (z TI TO i1 i2 l1 l2 S:Addr):Prop where
 z:z<S
 ti:TI<S
 to:TO<S
 i1:i1<S
 i2:i2<S
 l1:l1<S
 l2:l2<S
theorem zip_loop {R:Result→Shared→Prop}{z TI TO i1 i2 l1 l2 S:Addr}{xs ys:Array Value}(hh:A.handled=none) (D:ZipApart z TI TO i1 i2 l1 l2) (L:ZLow z TI TO i1 i2 l1 l2 S) (hn:min xs.size ys.size≤sizeLine) (res:Value) {h₁:Heap}
  (hR:∀ h' tk acc c as,(∀ b o,b≠S→b≠z→b≠TO→b≠i1→b≠i2→h₁.get? b=some o→h'.get? b=some o)→h'.get? S=some { cls:=.type "list",dict:=none,data:=.seq acc c,slots:=#[] }→as.length=min xs.size ys.size→ZipG xs ys S h' as →
   acc.toList=as.map Value.ref→R (.ok (.ret res)) { s with heap:=h',toks:=tk }):
  ∀ (k i:Nat) (h:Heap) (tk c:Nat) (acc:Array Value) (as:List Addr),min xs.size ys.size - i=k→i≤min xs.size ys.size→ZSt h z TI TO i1 i2 l1 l2 S i xs ys→(∀ b o,b≠S→b≠z→b≠TO→b≠i1→b≠i2→h₁.get? b=some o→h.get? b=some o) →
   h.get? S=some { cls:=.type "list",dict:=none,data:=.seq acc c,slots:=#[] }→acc.toList=as.map Value.ref→as.length=i→ZipG xs ys S h as →
   codeAny (model prog w) A (.builtin "list.extend.loop" ⟨[.ref S,.ref z,res],[]⟩) R { s with heap:=h,toks:=tk }:=by
 have nSz:S≠z:=Nat.ne_of_gt L.z
 have nSo:S≠TO:=Nat.ne_of_gt L.to
 have nS1:S≠i1:=Nat.ne_of_gt L.i1
 have nS2:S≠i2:=Nat.ne_of_gt L.i2
 intro k
 induction k with
 | zero =>
  intro i h tk c acc as hk hi hst hkeep hS hacc hal hG
  have hin:i=min xs.size ys.size:=by omega
  refine codeAny_builtin PySem.F.entry_extend_loop ?_
  rw [Around.under_plainId PySem.F.plain_extend_loop _]
  show wpAny _ A.in1 (pyNext (.ref z)>>=_) _ _ _
  have hend:xs[i]?=none∨ys[i]?=none:=by
   rcases Nat.le_total xs.size ys.size with h | h
   ·exact .inl (Array.getElem?_eq_none (by omega))
   ·exact .inr (Array.getElem?_eq_none (by omega))
  refine wpAny_bind (zst_done (s:={ s with heap:=h,toks:=tk }) (A:=A.in1) hh D hst hend fun h' he=>?_)
  refine wpAny_pure (hR h' tk acc c as (fun b o h0 h1 h2 h3 h4 e=>he b o h1 h2 h3 h4 (hkeep b o h0 h1 h2 h3 h4 e)) (he S _ nSz nSo nS1 nS2 hS) (by omega) ⟨hG.rise,hG.above,fun j a hj=>?_⟩ hacc)
  obtain ⟨x,y,e1,e2,e3⟩:=hG.pairs j a hj
  have ha:=hG.above a (List.mem_of_getElem? hj)
  exact ⟨x,y,e1,e2,he a _ (Nat.ne_of_gt (Nat.lt_trans L.z ha)) (Nat.ne_of_gt (Nat.lt_trans L.to ha)) (Nat.ne_of_gt (Nat.lt_trans L.i1 ha)) (Nat.ne_of_gt (Nat.lt_trans L.i2 ha)) e3⟩
 | succ k ih =>
  intro i h tk c acc as hk hi hst hkeep hS hacc hal hG
  have hlt:i<min xs.size ys.size:=by omega
  obtain ⟨x,hx⟩:∃ x,xs[i]?=some x:=⟨xs[i],Array.getElem?_eq_getElem (by omega)⟩
  obtain ⟨y,hy⟩:∃ y,ys[i]?=some y:=⟨ys[i],Array.getElem?_eq_getElem (by omega)⟩
  have hsz:acc.size=i:=by rw [← Array.length_toList,hacc,List.length_map,hal]
  refine codeAny_builtin PySem.F.entry_extend_loop ?_
  rw [Around.under_plainId PySem.F.plain_extend_loop _]
  show wpAny _ A.in1 (pyNext (.ref z)>>=_) _ _ _
  refine wpAny_bind (zst_item (s:={ s with heap:=h,toks:=tk }) D hst (Heap.lt_size hS) hx hy fun h' hst' ht hz hkp=>?_)
  dsimp only at ht hz hkp ⊢
  have hS':=hkp S _ nSz nSo nS1 nS2 hS
  have up:∀ b o,b≠S→h'.get? b=some o→(h'.update S (Obj.mapSeq (·.push (Value.ref h.objs.size)))).get? b=some o:=fun b o hb e=>(Heap.get?_update_other _ _ (Ne.symm hb)).trans e
  have hSl:S<h.objs.size:=Heap.lt_size hS
  show wpAny _ A.in1 (updateSeq S (·.push (Value.ref h.objs.size))>>=_) _ _ _
  refine wpAny_bind ?_
  refine wpAny_updateSeq hS' rfl (wpAny_pure ⟨plainId_quiet PySem.F.plain_extend_loop _,ih (i + 1) _ tk _ (acc.push (Value.ref h.objs.size)) (as++[h.objs.size]) (by omega) hlt (hst'.keep up (Ne.symm nSz) (Nat.ne_of_lt L.ti) (Ne.symm nSo) (Ne.symm nS1) (Ne.symm nS2) (Nat.ne_of_lt L.l1) (Nat.ne_of_lt L.l2))
   (fun b o h0 h1 h2 h3 h4 e=>up b o h0 (hkp b o h1 h2 h3 h4 (hkeep b o h0 h1 h2 h3 h4 e))) (Heap.get?_update_self _ hS' rfl) (by rw [Array.toList_push,hacc,List.map_append];rfl) (by rw [List.length_append,hal];rfl) ⟨?_,?_,?_⟩⟩) (by rw [hsz];omega) (by show (acc.push (Value.ref h.objs.size)).size≤sizeLine + 1;rw [Array.size_push,hsz];omega)
  ·refine List.pairwise_append.mpr ⟨hG.rise,List.pairwise_singleton _ _,fun a ha b hb=>?_⟩
   rw [List.mem_singleton.mp hb]
   exact hG.there ha
  ·intro a ha
   rcases List.mem_append.mp ha with ha | ha
   ·exact hG.above a ha
   ·rw [List.mem_singleton.mp ha];exact hSl
  ·intro j b hj
   rcases Nat.lt_trichotomy j as.length with h1 | h1 | h1
   ·rw [List.getElem?_append_left h1] at hj
    obtain ⟨x',y',e1,e2,e3⟩:=hG.pairs j b hj
    have hb:=hG.above b (List.mem_of_getElem? hj)
    exact ⟨x',y',e1,e2,up b _ (Nat.ne_of_gt hb) (hkp b _ (Nat.ne_of_gt (Nat.lt_trans L.z hb)) (Nat.ne_of_gt (Nat.lt_trans L.to hb)) (Nat.ne_of_gt (Nat.lt_trans L.i1 hb)) (Nat.ne_of_gt (Nat.lt_trans L.i2 hb)) e3)⟩
   ·subst h1
    have hb:h.objs.size=b:=by simpa using hj
    subst hb
    exact ⟨x,y,by rw [hal];exact hx,by rw [hal];exact hy,up _ _ (Nat.ne_of_gt hSl) ht⟩
   ·have hnone:(as++[h.objs.size])[j]?=none:=List.getElem?_eq_none (by rw [List.length_append,List.length_singleton];omega)
    rw [hnone] at hj;cases hj
theorem zip_no_len:typeLookup (.type "zip") "__len__"=pure none:=by rw [typeLookup_type,builtinLookup_eq_fast];kernel_rfl
theorem zip_no_hint:typeLookup (.type "zip") "__length_hint__"=pure none:=by rw [typeLookup_type,builtinLookup_eq_fast];kernel_rfl
theorem zip_collect {z TI TO i1 i2 l1 l2:Addr}{xs ys:Array Value}{Q:List Value→Shared→Prop}(hh:A.handled=none) (D:ZipApart z TI TO i1 i2 l1 l2) (L:ZLow z TI TO i1 i2 l1 l2 s.heap.objs.size) (hz:IsZip s.heap z TI TO .none) (hti:IsPair s.heap TI (.ref i1) (.ref i2)) (hto:∃ a b,IsPair s.heap TO a b)
  (h1:s.heap.IsListIter i1 l1 0) (h2:s.heap.IsListIter i2 l2 0) (hl1:s.heap.IsList l1 xs) (hl2:s.heap.IsList l2 ys) (hn:min xs.size ys.size≤sizeLine)
  (hQ:∀ h' tk as,(∀ b o,b≠z→b≠TO→b≠i1→b≠i2→s.heap.get? b=some o→h'.get? b=some o)→as.length=min xs.size ys.size→ZipG xs ys s.heap.objs.size h' as→Q (as.map Value.ref) { s with heap:=h',toks:=tk }):wpAny (model prog w) A (collect (.ref z)) Q E s:=by
 have nSz:s.heap.objs.size≠z:=Nat.ne_of_gt L.z
 unfold collect
 refine wpAny_bind (wpAny_runValue (codeAny_builtin PySem.F.entry_proto_collect ?_))
 rw [Around.under_plainId PySem.F.plain_proto_collect _]
 show wpAny _ A.in1 (newList []>>=fun l=>again (.builtin "list.__iadd__" ⟨[l,.ref z],[]⟩)) _ _ s
 refine wpAny_bind (wpAny_newObj_type ?_)
 refine wpAny_pure ⟨plainId_quiet PySem.F.plain_list_iadd _,codeAny_builtin PySem.F.entry_list_iadd ?_⟩
 rw [Around.under_plainId PySem.F.plain_list_iadd _]
 have push:∀ b o,s.heap.get? b=some o→(s.heap.push { cls:=.type "list",data:=.seq ([]:List Value).toArray }).get? b=some o:=fun b o e=>Heap.get?_push_of_some _ e
 have hz₁:=push _ _ hz
 have hT:Shared.TypeIs { s with heap:=s.heap.push { cls:=.type "list",data:=.seq ([]:List Value).toArray } } (.ref z) "zip":=⟨_,hz₁,rfl⟩
 show wpAny _ A.in1 (Builtin.List.listExtendWith (.ref s.heap.objs.size) (.ref z) (.ref s.heap.objs.size)) _ _ _
 unfold Builtin.List.listExtendWith
 refine wpAny_bind (wpAny_typeOf hT ?_)
 have e1:Builtin.List.listSameRef (.ref s.heap.objs.size) (.ref z)=false:=by simp [Builtin.List.listSameRef,nSz]
 have e2:(Value.type "zip" == Value.type "list")=false:=by decide
 have e3:(Value.type "zip" == Value.type "tuple")=false:=by decide
 simp only [e1,e2,e3,Bool.or_false,Bool.false_eq_true,if_false]
 refine wpAny_bind (wpAny_pyIter_zip (s:={ s with heap:=s.heap.push { cls:=.type "list",data:=.seq ([]:List Value).toArray } }) hz₁ ?_)
 refine wpAny_bind (wpAny_holding ?_)
 unfold Builtin.List.listLengthHint
 refine wpAny_bind (wpAny_specialOf hT zip_no_len ?_)
 show wpAny _ A.in1 (specialOf (Value.ref z) (Str.ofString "__length_hint__")>>=_) _ _ _
 refine wpAny_bind (wpAny_specialOf hT zip_no_hint ?_)
 refine wpAny_pure ?_
 show wpAny _ A.in1 (rule "list.extend.makes-room">>=fun _=>Builtin.List.listTouch (.ref s.heap.objs.size)>>=fun _ =>
  again (.builtin "list.extend.loop" ⟨[.ref s.heap.objs.size,.ref z,.ref s.heap.objs.size],[]⟩)) _ _ _
 refine wpAny_bind (wpAny_rule ?_)
 have hS₁:(s.heap.push { cls:=.type "list",data:=.seq ([]:List Value).toArray }).get? s.heap.objs.size=some { cls:=.type "list",data:=.seq ([]:List Value).toArray }:=Heap.get?_push_size _ rfl
 refine wpAny_bind ?_
 show wpAny _ A.in1 (updateSeq s.heap.objs.size (·.push .none)>>=fun _=>updateSeq s.heap.objs.size (·.pop)) _ _ _
 refine wpAny_bind (wpAny_updateSeq hS₁ rfl ?_)
 have hS₂:=Heap.get?_update_self (Obj.mapSeq (·.push Value.none)) hS₁ rfl
 refine wpAny_updateSeq hS₂ rfl ?_
 have hS₃:=Heap.get?_update_self (Obj.mapSeq (·.pop)) hS₂ rfl
 have oth:∀ b o,b≠s.heap.objs.size→(s.heap.push { cls:=.type "list",data:=.seq ([]:List Value).toArray }).get? b=some o →
   (((s.heap.push { cls:=.type "list",data:=.seq ([]:List Value).toArray }).update s.heap.objs.size (Obj.mapSeq (·.push Value.none))).update s.heap.objs.size (Obj.mapSeq (·.pop))).get? b=some o :=
  fun b o hb e=>(Heap.get?_update_other _ _ (Ne.symm hb)).trans ((Heap.get?_update_other _ _ (Ne.symm hb)).trans e)
 have all:∀ b o,s.heap.get? b=some o→(((s.heap.push { cls:=.type "list",data:=.seq ([]:List Value).toArray }).update s.heap.objs.size (Obj.mapSeq (·.push Value.none))).update s.heap.objs.size (Obj.mapSeq (·.pop))).get? b=some o:=fun b o e=>oth b o (Nat.ne_of_lt (Heap.lt_size e)) (push b o e)
 obtain ⟨a,b,hto⟩:=hto
 refine wpAny_pure ⟨plainId_quiet PySem.F.plain_extend_loop _,zip_loop (s:=s) (h₁:=s.heap) hh D L hn _ (fun h' tk acc c as hk hS' hal hG hacc=>?_) _ 0 _ s.toks _ #[] [] rfl (Nat.zero_le _)
  ⟨.inl (all _ _ hz),all _ _ hti,⟨a,b,all _ _ hto⟩,h1.at fun o e=>all _ o e,h2.at fun o e=>all _ o e,hl1.at fun o e=>all _ o e,hl2.at fun o e=>all _ o e⟩ (fun b o _ _ _ _ _ e=>all b o e) hS₃ rfl rfl ⟨List.Pairwise.nil,(fun _ ha=>nomatch ha),(fun j a hj=>by simp at hj)⟩⟩
 show wpAny _ A (load s.heap.objs.size>>=_) _ _ _
 refine wpAny_bind (wpAny_load hS' ?_)
 refine wpAny_pure ?_
 show Q acc.toList _
 rw [hacc]
 exact hQ h' tk as (fun b o n1 n2 n3 n4 e=>hk b o (Nat.ne_of_lt (Heap.lt_size e)) n1 n2 n3 n4 e) hal hG
end
end L2
namespace L2
open PySem PySem.Spec
section
variable {prog:Program} {w:World} {A:Around} {E:Value→Shared→Prop} {s:Shared}
theorem new_tuple_zip {z TI TO i1 i2 l1 l2:Addr}{xs ys:Array Value}{Q₁:Value→Shared→Prop}(hh:A.handled=none) (D:ZipApart z TI TO i1 i2 l1 l2) (L:ZLow z TI TO i1 i2 l1 l2 s.heap.objs.size) (hz:IsZip s.heap z TI TO .none) (hti:IsPair s.heap TI (.ref i1) (.ref i2)) (hto:∃ a b,IsPair s.heap TO a b)
  (h1:s.heap.IsListIter i1 l1 0) (h2:s.heap.IsListIter i2 l2 0) (hl1:s.heap.IsList l1 xs) (hl2:s.heap.IsList l2 ys) (hn:min xs.size ys.size≤sizeLine)
  (hQ:∀ h' tk as,(∀ b o,b≠z→b≠TO→b≠i1→b≠i2→s.heap.get? b=some o→h'.get? b=some o)→as.length=min xs.size ys.size→ZipG xs ys s.heap.objs.size h' as→Q₁ (.ref h'.objs.size) { s with heap:=h'.push { cls:=.type "tuple",data:=.seq (as.map Value.ref).toArray },toks:=tk }):
  codeAny (model prog w) A (.call (.builtin "tuple.__new__") ⟨[.type "tuple",.ref z],[]⟩) (wants Q₁ E) s:=by
 refine codeAny_of_tree ?_
 show wpAny _ A.in1 (do checkBuiltinCall "tuple.__new__" ⟨[.type "tuple",.ref z],[]⟩;again (.builtin "tuple.__new__" ⟨[.type "tuple",.ref z],[]⟩)) _ _ s
 refine wpAny_bind (wpAny_of_eq (F.newCall_tuple_1 _) (wpAny_pure ⟨plainId_quiet F.plain_tuple_new _,codeAny_builtin F.entry_tuple_new ?_⟩))
 rw [Around.under_plainId F.plain_tuple_new _]
 have hsub:=sub_tuple_self
 have hinit:=init_tuple_lookup
 have hmh:=madeHere_tuple
 have hTI:s.TypeIs (.ref z) "zip":=⟨_,hz,rfl⟩
 wp_walk using wpAny_typeOf hTI,zip_collect (by simp [hh]) D L hz hti hto h1 h2 hl1 hl2 hn
 intro h' tk as hk hal hG
 show wpAny _ _ (Builtin.Tuple.tupleExact (as.map Value.ref).toArray>>=fun v=>ret v) _ _ _
 unfold Builtin.Tuple.tupleExact
 refine wpAny_bind (wpAny_newObj_type ?_ (by show (as.map Value.ref).toArray.size≤sizeLine;rw [List.size_toArray,List.length_map,hal];exact hn))
 exact wpAny_pure (hQ h' tk as hk hal hG)
theorem call_tuple_zip {z TI TO i1 i2 l1 l2:Addr}{xs ys:Array Value}{Q:Value→Shared→Prop}(hh:A.handled=none) (D:ZipApart z TI TO i1 i2 l1 l2) (L:ZLow z TI TO i1 i2 l1 l2 s.heap.objs.size) (hz:IsZip s.heap z TI TO .none) (hti:IsPair s.heap TI (.ref i1) (.ref i2)) (hto:∃ a b,IsPair s.heap TO a b)
  (h1:s.heap.IsListIter i1 l1 0) (h2:s.heap.IsListIter i2 l2 0) (hl1:s.heap.IsList l1 xs) (hl2:s.heap.IsList l2 ys) (hn:min xs.size ys.size≤sizeLine)
  (hQ:∀ h' tk as,(∀ b o,b≠z→b≠TO→b≠i1→b≠i2→s.heap.get? b=some o→h'.get? b=some o)→as.length=min xs.size ys.size→ZipG xs ys s.heap.objs.size h' as→Q (.ref h'.objs.size) { s with heap:=h'.push { cls:=.type "tuple",data:=.seq (as.map Value.ref).toArray },toks:=tk }):
  wpAny (model prog w) A (call (.type "tuple") [.ref z]) Q E s:=by
 refine callType_codes (Q₁:=fun obj s₁=>s₁.TypeIs obj "tuple"∧Q obj s₁) F.called_tuple (F.typeCall_tuple_1 _) F.entry_object_init
  (new_tuple_zip (by simp [hh]) D L hz hti hto h1 h2 hl1 hl2 hn fun h' tk as hk hal hG=>⟨⟨_,Heap.get?_push_size _ rfl,rfl⟩,hQ h' tk as hk hal hG⟩) fun obj s₁ h₁=>?_
 exact ⟨h₁.1,F.args_object_init_2 obj _,object_init_meets F.called_tuple.init.lookup F.called_tuple.made (by decide) prog w A.in1 _ s₁ ⟨h₁.1,rfl,h₁.2⟩⟩
end
end L2
namespace L2
open PySem PySem.Spec PyProof.Rows
section
variable {X:Cx}
def tTupZip (K:W.Frag) (ta:TA):TE:=fun σ H Q=>ta σ H fun vs H1=>∃ (l1 l2:Addr) (xs ys:List V),vs=[.ref l1,.ref l2]∧SqL K H1 l1 xs∧SqL K H1 l2 ys ∧
 ∀ t us H',H1 t=none→Same H1 H'→H' t=some (.tup us)→Paired (fun (p:V×V) v=>∃ q:Addr,v=.ref q∧H' q=some (.tup [p.1,p.2])) (xs.zip ys) us→Q (.ref t) H'
theorem pe_tupleZip {a b:Expr}{ta:TA}{p1 p2 pos1 pos2:Pos}(hc:X.calm=true) (hg1:Gl X "tuple") (hm1:X.mg "tuple"=none) (hg:Gl X "zip") (hm:X.mg "zip"=none) (ha:PA X [a,b] ta)
  (hs:starEach [a,b] X.env=[(false,eval a X.env),(false,eval b X.env)]:=by rfl) (hs2:starEach [b] X.env=[(false,eval b X.env)]:=by rfl)
  (hs3:starEach [.Call (.Name "zip" p2) [a,b] [] pos2] X.env=[(false,eval (.Call (.Name "zip" p2) [a,b] [] pos2) X.env)]:=by rfl):
  PE X (.Call (.Name "tuple" p1) [.Call (.Name "zip" p2) [a,b] [] pos2] [] pos1) (tTupZip X.K ta):=by
 intro pins s σ H Q I h
 refine wpAny_Call_Name_kw (ld_blt I hg1 hm1 PyProof.Rows.boot_tuple ?_ (by decide) (by decide))
 refine PyProof.Rows.callWith_type1 ?_ hs3 rfl
 refine Calls.spliced_cons ?_
 refine Call_ (ld_blt I hg hm boot_zip (PyProof.Rows.callWith_type1 (thn (ha pos2 pins s σ H _ I h) fun us s1 ⟨vs,H1,I1,r1,q1⟩=>?_) (by rw [hs,hs2]) (by rw [hs2];rfl)))
 obtain ⟨l1,l2,xs,ys,e,t1,t2,q⟩:=q1
 subst e
 cases r1 with
 | cons r rr =>
  cases rr with
  | cons r' rr =>
   cases rr
   obtain rfl:_=Value.ref l1:=r
   obtain rfl:_=Value.ref l2:=r'
   obtain ⟨its,rv,pa,hz1⟩:=I1.list t1
   obtain ⟨jts,rw',pb,hz2⟩:=I1.list t2
   have b1:s1.heap.IsList l1 its.toArray:=pa.isList
   have b2:s1.heap.IsList l2 jts.toArray:=pb.isList
   have lt1:l1<s1.heap.objs.size:=let ⟨_,e,_⟩:=b1;Heap.lt_size e
   have lt2:l2<s1.heap.objs.size:=let ⟨_,e,_⟩:=b2;Heap.lt_size e
   refine call_zipL b1 b2 fun g st hk=>?_
   have D:ZipApart (s1.heap.objs.size + 4) (s1.heap.objs.size + 2) (s1.heap.objs.size + 3) s1.heap.objs.size (s1.heap.objs.size + 1) l1 l2:=W.ktu_apart _ _ _ lt1 lt2
   refine Calls.spliced_nil ?_
   have zl:s1.heap.objs.size + 4<g.objs.size:=Heap.lt_size st.z
   have gl:s1.heap.objs.size≤g.objs.size:=by omega
   have n1:xs.length=its.length:=rv.length
   have n2:ys.length=jts.length:=rw'.length
   have hn:min its.toArray.size jts.toArray.size≤sizeLine:=by rw [List.size_toArray,List.size_toArray];omega
   refine call_tuple_zip (s:={ s1 with heap:=g }) (I1.ok.hd hc) D ⟨zl,by show _<g.objs.size;omega,by show _<g.objs.size;omega,by show _<g.objs.size;omega,by show _<g.objs.size;omega,Nat.lt_of_lt_of_le lt1 gl,Nat.lt_of_lt_of_le lt2 gl⟩ st.z st.ti st.to st.i1 st.i2 (b1.at fun o e=>hk _ o e) (b2.at fun o e=>hk _ o e) hn fun h' tk as hk' hal hG=>?_
   have keep:∀ b o,s1.heap.get? b=some o→(h'.push { cls:=.type "tuple",data:=.seq (as.map Value.ref).toArray }).get? b=some o:=fun b o e=>by
    have lt:b<s1.heap.objs.size:=Heap.lt_size e
    exact Heap.get?_push_of_some _ (hk' b o (Nat.ne_of_lt (Nat.lt_of_lt_of_le lt (Nat.le_add_right _ _))) (Nat.ne_of_lt (Nat.lt_of_lt_of_le lt (Nat.le_add_right _ _))) (Nat.ne_of_lt lt) (Nat.ne_of_lt (Nat.lt_of_lt_of_le lt (Nat.le_add_right _ _))) (hk b o e))
   have ndas:as.Nodup:=List.nodup_iff_pairwise_ne.mpr (hG.rise.imp fun h=>Nat.ne_of_lt h)
   have hl:as.length=(xs.zip ys).length:=by rw [hal,List.size_toArray,List.size_toArray,List.length_zip,n1,n2]
   have hG':∀ a∈as,s1.heap.objs.size<a:=fun a ha=>Nat.lt_of_le_of_lt gl (hG.above a ha)
   have aT:∀ a∈as,a<h'.objs.size:=fun a ha=>hG.there ha
   have sT:s1.heap.objs.size≤h'.objs.size:=by
    have:s1.heap.objs.size + 2<h'.objs.size:=Heap.lt_size (hk' _ _ D.TIz D.TITO D.TIi1 D.TIi2 st.ti)
    omega
   have hH':∀ b,b<s1.heap.objs.size→(fun b=>if b=h'.objs.size then some (HO.tup (as.map V.ref)) else match (as.zip (xs.zip ys)).lookup b with | some kv=>some (HO.tup [kv.1,kv.2]) | none=>H1 b:Hp) b=H1 b:=fun b hb=>by
    show (if b=h'.objs.size then _ else _)=_
    rw [if_neg (Nat.ne_of_lt (Nat.lt_of_lt_of_le hb sT))]
    cases e:(as.zip (xs.zip ys)).lookup b with
    | none=>rfl
    | some kv =>
     obtain ⟨i,h1,_⟩:=lookup_zip_mem e
     have:=hG' b (List.mem_of_getElem? h1)
     exact absurd (Nat.lt_trans hb this) (Nat.lt_irrefl _)
   have at_:∀ (i:Nat) (b:Addr),as[i]?=some b→∃ kv:V×V,(xs.zip ys)[i]?=some kv∧(fun b=>if b=h'.objs.size then some (HO.tup (as.map V.ref)) else match (as.zip (xs.zip ys)).lookup b with | some kv=>some (HO.tup [kv.1,kv.2]) | none=>H1 b:Hp) b=some (.tup [kv.1,kv.2]):=fun i b hi=>by
    have hlt:i<(xs.zip ys).length:=by
     have:=(List.getElem?_eq_some_iff.mp hi).1
     omega
    refine ⟨(xs.zip ys)[i],List.getElem?_eq_getElem hlt,?_⟩
    show (if b=h'.objs.size then _ else _)=_
    rw [if_neg (Nat.ne_of_lt (aT b (List.mem_of_getElem? hi))),lookup_zip ndas hi (List.getElem?_eq_getElem hlt)]
   have I3:Inv X pins σ (fun b=>if b=h'.objs.size then some (HO.tup (as.map V.ref)) else match (as.zip (xs.zip ys)).lookup b with | some kv=>some (HO.tup [kv.1,kv.2]) | none=>H1 b:Hp) { s1 with heap:=h'.push { cls:=.type "tuple",data:=.seq (as.map Value.ref).toArray },toks:=tk }:=by
    refine I1.laidMany (t':=tk) keep hH' fun b o hb e=>?_
    have e:(if b=h'.objs.size then some (HO.tup (as.map V.ref)) else match (as.zip (xs.zip ys)).lookup b with | some kv=>some (HO.tup [kv.1,kv.2]) | none=>H1 b)=some o:=e
    by_cases hbT:b=h'.objs.size
    ·rw [if_pos hbT] at e
     cases e
     refine ⟨by rw [List.length_map,hal];exact hn,as.map Value.ref,?_,?_⟩
     ·exact vals_of (by simp) fun i v u hv hu=>by
       rw [List.getElem?_map] at hv hu
       obtain ⟨y,hy,ey⟩:=Option.map_eq_some_iff.mp hv
       rw [hy] at hu
       rw [← ey]
       exact (Option.some.inj hu).symm
     ·rw [hbT];exact IsTup.new _ _
    ·rw [if_neg hbT] at e
     cases el:(as.zip (xs.zip ys)).lookup b with
     | none =>
      rw [el] at e
      have:=I1.hok.lt e
      exact absurd (Nat.lt_of_lt_of_le this hb) (Nat.lt_irrefl _)
     | some kv =>
      rw [el] at e
      cases e
      obtain ⟨i,hi1,hi2⟩:=lookup_zip_mem el
      obtain ⟨x,y,hx,hy,hget⟩:=hG.pairs i b hi1
      obtain ⟨hx2,hy2⟩:=zipV_get hi2
      obtain ⟨u,hu,ru⟩:=rv.get hx2
      obtain ⟨v,hv,rv'⟩:=rw'.get hy2
      have ex:u=x:=by
       have hx':its[i]?=some x:=by simpa using hx
       rw [hu] at hx';exact Option.some.inj hx'
      have ey:v=y:=by
       have hy':jts[i]?=some y:=by simpa using hy
       rw [hv] at hy';exact Option.some.inj hy'
      subst ex ey
      exact ⟨sL (by show 2≤100000;decide),[u,v],.cons ru (.cons rv' .nil),⟨_,Heap.get?_push_of_some _ hget,rfl,_,rfl⟩⟩
   refine ⟨.ref h'.objs.size,_,I3,rfl,q h'.objs.size (as.map V.ref) _ (I1.hok.fresh sT) (fun b o e=>?_) ?_ ?_⟩
   ·exact (hH' b (I1.hok.lt e)).trans e
   ·show (if h'.objs.size=h'.objs.size then _ else _)=_
    rw [if_pos rfl]
   ·refine paired_idx (by rw [List.length_map,hl]) fun i kv v h1 h2=>?_
    rw [List.getElem?_map] at h2
    obtain ⟨b,hb,eb⟩:=Option.map_eq_some_iff.mp h2
    obtain ⟨kv',hk1,hk2⟩:=at_ i b hb
    rw [h1] at hk1
    cases hk1
    exact ⟨b,eb.symm,hk2⟩
end
end L2
namespace L2
open PySem PySem.Spec PyProof.Rows
structure Tp (K:W.Frag) (x:Str) (st:Stmt) (f:Addr) (fd:FuncData):Prop where
 a:W.nsIn K mainGlobals x=some (some (.ref f))
 fn:Fun K x x st f fd
structure Mp (K:W.Frag) (C:Addr) (x q:Str) (st:Stmt) (f:Addr) (fd:FuncData):Prop where
 a:W.findIn K (.ref C) x=some (some (.ref f))
 i:W.isFn K (.ref f)=true
 fn:Fun K x q st f fd
structure Cp (K:W.Frag) (x:Str) (C:Addr):Prop where
 a:W.nsIn K mainGlobals x=some (some (.ref C))
 pg:W.plainGet K C Str.empty=true
 hd:W.hasDictIn K C=true
 po:W.plainOver K C=true
 sa:W.findIn K (.ref C) "__setattr__"=some (some (.builtin "object.__setattr__"))
 mx:W.makesIn K C=true
 kc:W.keepIn K (.ref C)=true
section
variable {K:W.Frag} {x q:Str} {st:Stmt} {f C:Addr} {oc:Value} {od an:Option Addr} {osl:Array (Option Value)} {kV doc pm cdv ct:Value}
theorem tp (a:W.nsIn K mainGlobals x=some (some (.ref f))) (l:K.lookup f=some ⟨oc,od,.func (W.fnOf x x (defArgs st) (defBody st) (defScope st) .none kV doc pm an cdv ct),osl⟩) (c:W.codeIn K cdv x=true) (k:W.keepIn K (.ref f)=true):
  Tp K x st f (W.fnOf x x (defArgs st) (defBody st) (defScope st) .none kV doc pm an cdv ct):=⟨a,fun_mk l c k⟩
theorem mp (a:W.findIn K (.ref C) x=some (some (.ref f))) (i:W.isFn K (.ref f)=true) (l:K.lookup f=some ⟨oc,od,.func (W.fnOf x q (defArgs st) (defBody st) (defScope st) .none kV doc pm an cdv ct),osl⟩) (c:W.codeIn K cdv q=true) (k:W.keepIn K (.ref f)=true):
  Mp K C x q st f (W.fnOf x q (defArgs st) (defBody st) (defScope st) .none kV doc pm an cdv ct):=⟨a,i,fun_mk l c k⟩
end
section
variable {K:W.Frag} {mg:Str→Option Value} {x q:Str} {st:Stmt} {f:Addr} {fd:FuncData} {h:Heap}
theorem ln1 {us:List Value}(h:us.length=1):∃ a,us=[a]:=List.length_eq_one_iff.mp h
theorem ln2 {us:List Value}(h:us.length=2):∃ a b,us=[a,b]:=by
 cases us with
 | nil=>cases h
 | cons a r=>obtain ⟨_,rfl⟩:=ln1 (Nat.succ.inj h);exact ⟨_,_,rfl⟩
theorem ln3 {us:List Value}(h:us.length=3):∃ a b c,us=[a,b,c]:=by
 cases us with
 | nil=>cases h
 | cons a r=>obtain ⟨_,_,rfl⟩:=ln2 (Nat.succ.inj h);exact ⟨_,_,_,rfl⟩
theorem ln4 {us:List Value}(h:us.length=4):∃ a b c d,us=[a,b,c,d]:=by
 cases us with
 | nil=>cases h
 | cons a r=>obtain ⟨_,_,_,rfl⟩:=ln3 (Nat.succ.inj h);exact ⟨_,_,_,_,rfl⟩
theorem ln5 {us:List Value}(h:us.length=5):∃ a b c d e,us=[a,b,c,d,e]:=by
 cases us with
 | nil=>cases h
 | cons a r=>obtain ⟨_,_,_,_,rfl⟩:=ln4 (Nat.succ.inj h);exact ⟨_,_,_,_,_,rfl⟩
theorem ln6 {us:List Value}(h:us.length=6):∃ a b c d e f,us=[a,b,c,d,e,f]:=by
 cases us with
 | nil=>cases h
 | cons a r=>obtain ⟨_,_,_,_,_,rfl⟩:=ln5 (Nat.succ.inj h);exact ⟨_,_,_,_,_,_,rfl⟩
theorem ln7 {us:List Value}(h:us.length=7):∃ a b c d e f g,us=[a,b,c,d,e,f,g]:=by
 cases us with
 | nil=>cases h
 | cons a r=>obtain ⟨_,_,_,_,_,_,rfl⟩:=ln6 (Nat.succ.inj h);exact ⟨_,_,_,_,_,_,_,rfl⟩
theorem bn1 (a:Str) (F:Fun K x q st f fd) (e:∀ (kV doc pm:Value) (an:Option Addr) (cdv ct u:Value),bindArgs (W.fnOf x q (defArgs st) (defBody st) (defScope st) .none kV doc pm an cdv ct) ⟨[u],[]⟩=pure ([a].zip [u]):=by intros;rfl):Binds K fd [a] [] :=
 F.binds fun _ _ _ _ _ _ us hl=>by
 obtain ⟨_,rfl⟩:=ln1 hl
 exact e ..
theorem bn2 (a b:Str) (F:Fun K x q st f fd) (e:∀ (kV doc pm:Value) (an:Option Addr) (cdv ct u v:Value),bindArgs (W.fnOf x q (defArgs st) (defBody st) (defScope st) .none kV doc pm an cdv ct) ⟨[u,v],[]⟩=pure ([a,b].zip [u,v]):=by intros;rfl):Binds K fd [a,b] [] :=
 F.binds fun _ _ _ _ _ _ us hl=>by
 obtain ⟨_,_,rfl⟩:=ln2 hl
 exact e ..
theorem bn3 (a b c:Str) (F:Fun K x q st f fd) (e:∀ (kV doc pm:Value) (an:Option Addr) (cdv ct u v w:Value),bindArgs (W.fnOf x q (defArgs st) (defBody st) (defScope st) .none kV doc pm an cdv ct) ⟨[u,v,w],[]⟩=pure ([a,b,c].zip [u,v,w]):=by intros;rfl):Binds K fd [a,b,c] [] :=
 F.binds fun _ _ _ _ _ _ us hl=>by
 obtain ⟨_,_,_,rfl⟩:=ln3 hl
 exact e ..
theorem bn4 (a b c d:Str) (F:Fun K x q st f fd) (e:∀ (kV doc pm:Value) (an:Option Addr) (cdv ct u v w y:Value),bindArgs (W.fnOf x q (defArgs st) (defBody st) (defScope st) .none kV doc pm an cdv ct) ⟨[u,v,w,y],[]⟩=pure ([a,b,c,d].zip [u,v,w,y]):=by intros;rfl):Binds K fd [a,b,c,d] [] :=
 F.binds fun _ _ _ _ _ _ us hl=>by
 obtain ⟨_,_,_,_,rfl⟩:=ln4 hl
 exact e ..
theorem bn5 (a b c d g:Str) (F:Fun K x q st f fd) (e:∀ (kV doc pm:Value) (an:Option Addr) (cdv ct u v w y z:Value),bindArgs (W.fnOf x q (defArgs st) (defBody st) (defScope st) .none kV doc pm an cdv ct) ⟨[u,v,w,y,z],[]⟩=pure ([a,b,c,d,g].zip [u,v,w,y,z]):=by intros;rfl):Binds K fd [a,b,c,d,g] [] :=
 F.binds fun _ _ _ _ _ _ us hl=>by
 obtain ⟨_,_,_,_,_,rfl⟩:=ln5 hl
 exact e ..
theorem bn7 (a b c d g i j:Str) (F:Fun K x q st f fd) (e:∀ (kV doc pm:Value) (an:Option Addr) (cdv ct u v w y z r s:Value),bindArgs (W.fnOf x q (defArgs st) (defBody st) (defScope st) .none kV doc pm an cdv ct) ⟨[u,v,w,y,z,r,s],[]⟩=pure ([a,b,c,d,g,i,j].zip [u,v,w,y,z,r,s]):=by intros;rfl):Binds K fd [a,b,c,d,g,i,j] [] :=
 F.binds fun _ _ _ _ _ _ us hl=>by
 obtain ⟨_,_,_,_,_,_,_,rfl⟩:=ln7 hl
 exact e ..
theorem df {ps:List Str}(X:K.In h) (G:h.Ns mainGlobals mg) (T:Tp K x st f fd) (b:Binds K fd ps []):Def K mg x st ps f fd:=⟨T.fn,b,W.mg_of X G T.a⟩
theorem Tp.ex {x q:Str}(F:Fun K x q st f fd):∃ (kV doc pm:Value) (an:Option Addr) (cdv ct:Value),fd=W.fnOf x q (defArgs st) (defBody st) (defScope st) .none kV doc pm an cdv ct:=by
 obtain ⟨oc,od,kV,doc,pm,an,cdv,ct,osl,e,_⟩:=F.ex
 exact ⟨kV,doc,pm,an,cdv,ct,e⟩
end
end L2
namespace L2
open PySem PySem.Spec PyProof.Rows
abbrev TX1:=St→Hp→(Str→Hp→Prop)→Prop
abbrev TXs:=St→Hp→Str→(Str→Hp→Prop)→Prop
section
variable {X:Cx} {e:Expr} {es:List Expr} {te:TE} {t:TX1} {u:TXs} {pos:Pos}
end
section
variable {X:Cx}
theorem strs_of:∀ {xs:List Str}{its:List Value},Vals (xs.map V.str) its→∃ l:List (Str×Tok),its=strValues l∧l.map (·.1)=xs
 | [],_,.nil=>⟨[],rfl,rfl⟩
 | x :: xs,_,.cons r t=>by
  obtain ⟨l,e,e2⟩:=strs_of t
  obtain ⟨tk,rfl⟩:=r
  exact ⟨(x,tk):: l,by rw [e];rfl,by rw [List.map_cons,e2]⟩
def rJoin:V→List V→Hp→VK→Prop:=fun x vs H Q=>∃ sep l xs B,x=.str sep∧vs=[.ref l]∧H l=some (.lst (xs.map V.str))∧(∀ y∈xs,y.length≤B)∧xs.length * B + xs.length * sep.length≤16777216∧Q (.str (Builtin.Str.glued sep xs)) H
theorem mt_join:MtM X "str.join" rJoin:=by
 intro pins s σ H x vs v us Q I rx rv h
 obtain ⟨sep,l,xs,B,rfl,rfl,hH,hB,hz,q⟩:=h
 obtain ⟨tk,rfl⟩:=rx
 obtain ⟨u,rfl,ru⟩:=rv.one
 cases ru
 obtain ⟨z,its,n,r,hl,e⟩:=I.lstM hH
 obtain ⟨ps,rfl,e2⟩:=strs_of r
 refine SC.join ⟨_,e,rfl,_,rfl⟩ e2 ?_ fun t' k=>⟨.str _,H,I.tok _,⟨_,rfl⟩,q⟩
 unfold JoinOk
 rw [StrLaws.joinFits hB hz]
 rfl
end
end L2
namespace PySem
open Builtin AutoSeq1
end PySem
namespace L2
open PySem PySem.Spec PyProof.Rows
section
variable {X:Cx}
def tNotL (K:W.Frag) (ta:TE):TE:=fun σ H Q=>ta σ H fun x H1=>∃ k,TruV K x H1 k∧Q (.bl (!k)) H1
theorem pe_notL {a:Expr}{ta:TE}{pos:Pos}(ha:PE X a ta):PE X (.UnaryOp .Not a pos) (tNotL X.K ta):=by
 intro pins s σ H Q I h
 refine UnaryOp_ (thn (ha pins s σ H _ I h) fun v s1 ⟨x,H1,I1,r1,k,ty,q⟩=>?_)
 exact not_of (thn (tru_ok pins s1 σ H1 x v (fun c H2=>Q (.bl (!c)) H2) I1 r1 ⟨k,ty,q⟩) fun c s2 ⟨H2,I2,q2⟩=>⟨.bl (!c),H2,I2,rfl,q2⟩)
end
end L2
namespace L2
open PySem PySem.Spec PyProof.Rows PySem.W
section
variable {X:Cx}
end
end L2
namespace L2
open PySem PySem.Spec PyProof.Rows
section
variable {X:Cx}
theorem call_intS:CallR X (.type "int") (fun xs H Q=>∃ (x:Str) (n:Int),xs=[.str x]∧PySem.intText? x=some n∧x.length≤640∧Q (.int n) H):=by
 intro pins s σ H xs us Q I r h
 obtain ⟨x,n,rfl,hn,hl,q⟩:=h
 obtain ⟨u,rfl,t,rfl⟩:=vals1 r
 exact W.KIN.call_text hn hl ⟨.int _,H,I.tok _,⟨_,rfl⟩,q⟩
end
section
variable {X:Cx}
end
end L2
namespace Md
open PySem L2
end Md
namespace L2
open PySem PySem.Spec PyProof.Rows
theorem vals_txts:∀ (l:List (Str×Tok)),Vals ((l.map (·.1)).map V.str) (strValues l)
 | []=>.nil
 | (x,t):: l=>.cons ⟨t,rfl⟩ (vals_txts l)
section
variable {prog:Program} {w:World} {A:Around} {E:Value→Shared→Prop} {s:Shared} {x y:Str} {t u:Tok}
theorem wp_split {Q:Value→Shared→Prop}(hy:(y.length == 0)=false) (hx:x.length≤sizeLine) (hn:(Txt.split x y).length≤sizeLine)
  (q:∀ (l:List (Str×Tok)) (tk:Nat),l.map (·.1)=Txt.split x y→Q (.ref s.heap.objs.size) { s with heap:=s.heap.push { cls:=.type "list",data:=.seq (strValues l).toArray },toks:=tk }):
  wpAny (model prog w) A (call (.builtin "str.split") [.str x t,.str y u]) Q E s:=by
 unfold Txt.split at hn q
 by_cases c:(decide (x.length<y.length) || decide (Builtin.Str.strKind x<Builtin.Str.strKind y))=true
 ·rw [if_pos c] at q
  exact call_meets F.slot_str_split (typeIs_str _ _ _) F.entry_str_split (F.args_str_split_2 _ _) (meets_str_split_cannot_occur x y t u c) (q [(x,t)] s.toks rfl)
 ·rw [if_neg c] at q hn
  have c:=eq_false_of_ne_true c
  by_cases f:(Builtin.Str.occurrences x y 0 x.length (x.length + 1)).isEmpty=true
  ·rw [if_pos f] at q
   exact call_meets F.slot_str_split (typeIs_str _ _ _) F.entry_str_split (F.args_str_split_2 _ _) (meets_str_split_not_found x y t u c hy f) (q [(x,t)] s.toks rfl)
  ·rw [if_neg f] at q hn
   refine call_meets F.slot_str_split (typeIs_str _ _ _) F.entry_str_split (F.args_str_split_2 _ _) (meets_str_split_sep x y t u c hy (eq_false_of_ne_true f) hx hn) ?_
   have z:=q (numbered s.toks (Builtin.Str.partsBetween x (Builtin.Str.occurrences x y 0 x.length (x.length + 1)) y.length)) (s.toks + (Builtin.Str.partsBetween x (Builtin.Str.occurrences x y 0 x.length (x.length + 1)) y.length).length) (numbered_texts _ _)
   rw [← strsFrom_eq] at z
   exact z
end
section
variable {X:Cx}
def rSplit:V→List V→Hp→VK→Prop:=fun x vs H Q=>∃ a b:Str,x=.str a∧vs=[.str b]∧(b.length == 0)=false∧a.length≤sizeLine∧(Txt.split a b).length≤sizeLine∧∀ p,H p=none→Q (.ref p) (upd H p (.lst ((Txt.split a b).map V.str)))
theorem mt_split:MtM X "str.split" rSplit:=by
 intro pins s σ H x vs v us Q I rx rv h
 obtain ⟨a,b,rfl,rfl,hb,ha,hn,q⟩:=h
 obtain ⟨tk,rfl⟩:=rx
 obtain ⟨u,rfl,ru⟩:=rv.one
 obtain ⟨tu,rfl⟩:=ru
 refine wp_split hb ha hn fun l tk' e=>?_
 have hf:H s.heap.objs.size=none:=I.hok.fresh (Nat.le_refl _)
 refine ⟨.ref s.heap.objs.size,upd H s.heap.objs.size (.lst ((Txt.split a b).map V.str)),I.laid (t':=tk') (fun b u e=>Heap.get?_push_of_some _ e) (Nat.le_refl _) ?_,rfl,q _ hf⟩
 rw [← e]
 exact ⟨by rw [List.length_map,e];exact hn,_,0,vals_txts l,Heap.get?_push_size _ rfl⟩
end
end L2
namespace Md
open PySem L2
abbrev sgn (c:Nat):Str:=⟨#[c]⟩
theorem cut_eq {c:Nat}:∀ {x y A B:List Nat},c∉x→c∉y→x++c :: A=y++c :: B→x=y∧A=B
 | [],[],_,_,_,_,h=>⟨rfl,by simpa using h⟩
 | [],b :: y,_,_,_,hy,h=>by
  rw [List.nil_append,List.cons_append,List.cons.injEq] at h
  exact absurd (by rw [h.1];exact List.mem_cons_self) hy
 | a :: x,[],_,_,hx,_,h=>by
  rw [List.nil_append,List.cons_append,List.cons.injEq] at h
  exact absurd (by rw [← h.1];exact List.mem_cons_self) hx
 | a :: x,b :: y,A,B,hx,hy,h=>by
  rw [List.cons_append,List.cons_append,List.cons.injEq] at h
  obtain ⟨e,h⟩:=h
  obtain ⟨e1,e2⟩:=cut_eq (fun z=>hx (List.mem_cons_of_mem _ z)) (fun z=>hy (List.mem_cons_of_mem _ z)) h
  exact ⟨by rw [e,e1],e2⟩
theorem cps_app (a b:Str):(a++b).cps.toList=a.cps.toList++b.cps.toList:=Array.toList_append
theorem join_two (c:Nat) (x y:Str) (r:List Str):(Str.join (sgn c) (x :: y :: r)).cps.toList=x.cps.toList++c :: (Str.join (sgn c) (y :: r)).cps.toList:=by
 show (x++sgn c++Str.join (sgn c) (y :: r)).cps.toList=_
 rw [cps_app,cps_app,List.append_assoc]
 rfl
theorem str_of {x y:Str}(h:x.cps.toList=y.cps.toList):x=y:=by
 cases x;cases y
 exact congrArg Str.mk (Array.toList_inj.mp h)
theorem join_inj {c:Nat}:∀ {xs ys:List Str},xs≠[]→ys≠[]→(∀ p∈xs,c∉p.cps.toList)→(∀ p∈ys,c∉p.cps.toList)→Str.join (sgn c) xs=Str.join (sgn c) ys→xs=ys
 | [],_,h,_,_,_,_=>absurd rfl h
 | _ :: _,[],_,h,_,_,_=>absurd rfl h
 | [x],[y],_,_,_,_,h=>congrArg (fun z=>[z]) (show x=y from h)
 | [x],y :: y2 :: r,_,_,hx,_,h=>by
  have h:=congrArg (fun z:Str=>z.cps.toList) h
  try dsimp only at h
  rw [join_two] at h
  exact absurd (show c∈x.cps.toList by rw [show x.cps.toList=_ from h];simp) (hx x List.mem_cons_self)
 | x :: x2 :: r,[y],_,_,_,hy,h=>by
  have h:=congrArg (fun z:Str=>z.cps.toList) h
  try dsimp only at h
  rw [join_two] at h
  exact absurd (show c∈y.cps.toList by rw [show y.cps.toList=_ from h.symm];simp) (hy y List.mem_cons_self)
 | x :: x2 :: r,y :: y2 :: r',_,_,hx,hy,h=>by
  have h:=congrArg (fun z:Str=>z.cps.toList) h
  try dsimp only at h
  rw [join_two,join_two] at h
  obtain ⟨e1,e2⟩:=cut_eq (hx x List.mem_cons_self) (hy y List.mem_cons_self) h
  rw [str_of e1,join_inj (List.cons_ne_nil _ _) (List.cons_ne_nil _ _) (fun p h=>hx p (List.mem_cons_of_mem _ h)) (fun p h=>hy p (List.mem_cons_of_mem _ h)) (str_of e2)]
theorem split_glued {c:Nat}{xs:List Str}(h:xs≠[]) (hf:∀ p∈xs,c∉p.cps.toList):Txt.split (Builtin.Str.glued (sgn c) xs) (sgn c)=xs:=by
 refine join_inj (c:=c) ?_ h (StrLaws.split_free _ _) hf ?_
 ·intro z
  have:=PyProof.Rows.split_pos (Builtin.Str.glued (sgn c) xs) (sgn c)
  rw [z] at this
  exact absurd this (by decide)
 ·rw [StrLaws.join_split,StrLaws.glued_eq_join]
end Md
namespace L2
open PySem PySem.Spec PyProof.Rows
theorem tc_enum1 (a b:Value):checkTypeCall "enumerate" ⟨[a],[("start",b)]⟩=pure ():=by kernel_rfl
theorem nc_enum1 (a b:Value):checkBuiltinCall "enumerate.__new__" ⟨[.type "enumerate",a],[("start",b)]⟩=pure ():=by kernel_rfl
theorem oi_enum1 (o a b:Value):argsOk "object.__init__" ⟨[o,a],[("start",b)]⟩:=by
 unfold argsOk
 kernel_rfl
theorem meets_enum1 (l:Addr) (us:Array Value) (tk:Tok):Meets (Builtin.«enumerate.__new__» ⟨[.type "enumerate",.ref l],[("start",.int 1 tk)]⟩) (fun _ R s=>s.heap.IsList l us ∧
   R (.ok (.ret (.ref (s.heap.push { cls:=.type "list_iterator",data:=.fields #[.ref l,.int 0 0] }).objs.size)))
    { s with heap:=(s.heap.push { cls:=.type "list_iterator",data:=.fields #[.ref l,.int 0 0] }).push { cls:=.type "enumerate",data:=.fields #[.none,.bool false,.ref s.heap.objs.size,rawInt 1,.none,.none] } }):=
 .of_wp fun prog w A R s h=>by
  obtain ⟨hp,g,d,tk,os⟩:=s
  obtain ⟨ht,h⟩:=h
  have hsub:=sub_enumerate
  obtain ⟨⟨c,dct,dt,sl⟩,hl,hc,n,hd⟩:=id ht
  replace hc:c=.type "list":=hc
  replace hd:dt=.seq us n:=hd
  subst hc hd
  have hT:Heap.IsList (Shared.heap ⟨hp,g,d,tk,os⟩) l us:=ht
  wp_walk using AutoSeq1.wpAny_loadPart' hl
  refine wpAny_stack_any fun st=>wpAny_pure ?_
  split
  ·rename_i c _ _ _ _ _
   cases (c == Value.type "enumerate")
   ·wp_walk using AutoSeq1.wpAny_loadPart' hl,wpAny_pyIter_list hT
    exact ⟨_,rfl,h⟩
   ·wp_walk using AutoSeq1.wpAny_loadPart' hl,wpAny_pyIter_list hT
    exact ⟨_,rfl,h⟩
  ·wp_walk using AutoSeq1.wpAny_loadPart' hl,wpAny_pyIter_list hT
   exact ⟨_,rfl,h⟩
section
variable {prog:Program} {w:World} {A:Around} {E:Value→Shared→Prop} {s:Shared}
theorem oi_kw {T nw:String}{o a:Value}{kw:List (Str×Value)}(hl:typeLookup (.type T) "__init__"=pure (some (.builtin "object.__init__"))) (hm:Bind.madeBy (.type T)=pure (some nw)) (hne:(some nw != some "object.__new__")=true):
  Meets (Builtin.«object.__init__» ⟨[o,a],kw⟩) (fun _ R s=>s.TypeIs o T∧R (.ok (.ret .none)) s):=
 .of_wp fun prog w A R s hs=>by
  obtain ⟨hT,hq⟩:=hs
  repeat any_goals first | assumption | wp_step
  exact ⟨_,rfl,hq⟩
theorem call_typeK {T nw:String}{B:Builtin}{a:Value}{kw:List (Str×Value)}{S:PySem.Spec}{Q:Value→Shared→Prop}(ft:TypeCalled T nw "object.__init__") (hne:(some nw != some "object.__new__")=true)
  (ct:checkTypeCall T ⟨[a],kw⟩=pure ()) (cn:checkBuiltinCall nw ⟨[.type T,a],kw⟩=pure ()) (ok:∀ o,argsOk "object.__init__" ⟨[o,a],kw⟩) (en:entryFor table nw=some B) (g:Meets (B ⟨[.type T,a],kw⟩) S)
  (h:S A.in1 (wants (fun o s1=>s1.TypeIs o T∧Q o s1) E) s):wpAny (model prog w) A (call (.type T) [a] kw) Q E s:=by
 obtain ⟨c,tl,mro⟩:=ft.mro
 have md:=ft.made
 have sb:=ft.sub
 refine wpAny_call (codeAny_of_tree ?_)
 show wpAny _ _ (callAny (.type T) _) _ _ _
 refine wpAny_pure ⟨Code.quiet_builtin _ (by decide +kernel),codeAny_builtin PySem.F.entry_type_call ?_⟩
 rw [Around.under_plain (weight_type_call_type T [a] kw) (units_type_call_type T [a] kw)]
 have n1:=ft.notType
 have n2:=ft.canCreate
 repeat any_goals first | assumption | wp_step
 refine codeAny_mono (codeAny_call_builtin ft.plain en (wpAny_of_eq cn (g prog w A.in1 _ s h))) fun r s1 hr=>?_
 cases r with
 | error e=>exact hr
 | ok fl =>
  cases fl with
  | ret o =>
   obtain ⟨hT,hq⟩:=hr
   have li:=ft.init.lookup
   have bi:=ft.init.bind o
   repeat any_goals first | assumption | wp_step
   refine codeAny_mono (codeAny_call_builtin ft.init.plain PySem.F.entry_object_init (ft.init.check _ _ _ _ _ _ _ _ hT (ok o) (oi_kw li md hne prog w A.in1 (wants (fun r s2=>r=.none∧Q o s2) E) s1 ⟨hT,rfl,hq⟩))) fun r2 s2 hr2=>?_
   cases r2 with
   | error e=>exact hr2
   | ok f2 =>
    cases f2 with
    | ret r =>
     obtain ⟨rfl,q⟩:=hr2
     repeat any_goals first | assumption | wp_step
    | _=>exact hr2.elim
  | _=>exact hr.elim
theorem call_enum1 {l:Addr}{us:Array Value}{tk:Tok}{Q:Value→Shared→Prop}(hl:s.heap.IsList l us)
  (q:∀ g,IsEnum g (s.heap.objs.size + 1) s.heap.objs.size 1 .none→SIt true g s.heap.objs.size l 0→(∀ c o,s.heap.get? c=some o→g.get? c=some o)→Q (.ref (s.heap.objs.size + 1)) { s with heap:=g }):
  wpAny (model prog w) A (call (.type "enumerate") [.ref l] [("start",.int 1 tk)]) Q E s:=by
 refine call_typeK PySem.F.called_enumerate (by decide) (tc_enum1 _ _) (nc_enum1 _ _) (fun o=>oi_enum1 o _ _) PySem.F.entry_enumerate_new (meets_enum1 l us tk) ⟨hl,?_⟩
 have n1:(s.heap.push { cls:=.type "list_iterator",data:=.fields #[.ref l,.int 0 0] }).objs.size=s.heap.objs.size + 1:=Heap.size_push ..
 show _∧_
 rw [n1]
 have he:IsEnum ((s.heap.push { cls:=.type "list_iterator",data:=.fields #[.ref l,.int 0 0] }).push { cls:=.type "enumerate",data:=.fields #[.none,.bool false,.ref s.heap.objs.size,rawInt 1,.none,.none] }) (s.heap.objs.size + 1) s.heap.objs.size 1 .none:=by
  have:=Heap.get?_push_size (s.heap.push { cls:=.type "list_iterator",data:=.fields #[.ref l,.int 0 0] }) (o:={ cls:=.type "enumerate",data:=.fields #[.none,.bool false,.ref s.heap.objs.size,rawInt 1,.none,.none] }) rfl
  rw [n1] at this
  exact this
 exact ⟨⟨_,he,rfl⟩,q _ he ⟨_,Heap.get?_push_of_some _ (Heap.get?_push_size _ rfl),rfl,rfl⟩ fun c o x=>Heap.get?_push_of_some _ (Heap.get?_push_of_some _ x)⟩
end
end L2
namespace L2
open PySem PySem.Spec PyProof.Rows
theorem draws_up {prog:Program}{w:World}{A:Around}{p:Addr}{fp:List Addr}{n:Nat}{P:Nat→Value→Prop}{St:Nat→Heap→Prop}(D:Draws prog w A p fp n P St):
  Draws prog w A p fp (n + 1) (fun j v=>P (j - 1) v) (fun j h=>1≤j∧St (j - 1) h) where
 live:=fun _ _ st=>D.live _ _ st.2
 frame:=fun _ _ _ st hk=>⟨st.1,D.frame _ _ _ st.2 hk⟩
 item:=fun i s Q E hi st q=>by
  obtain ⟨h1,st⟩:=st
  refine D.item (i - 1) s Q E (by omega) st fun x g tk px st' sb=>q x g tk px ⟨by omega,?_⟩ sb
  rw [show i + 1 - 1=i - 1 + 1 by omega]
  exact st'
 done:=fun s Q E st q=>D.done s Q E st.2 q
def enumV1 (xs:List V):List (V×V):=(rangeV 1 xs.length).zip xs
theorem enumV1_len (xs:List V):(enumV1 xs).length=xs.length:=by
 unfold enumV1
 rw [List.length_zip,rangeV_len,Nat.min_self]
theorem enumV1_get {xs:List V}{i:Nat}{p:V×V}(h:(enumV1 xs)[i]?=some p):p.1=.int ((i + 1:Nat):Int)∧xs[i]?=some p.2:=by
 obtain ⟨h1,h2⟩:=zipV_get h
 obtain ⟨_,e⟩:=rangeV_get h1
 exact ⟨by rw [e,Int.natCast_add,Int.add_comm];rfl,h2⟩
theorem turn_enum1 {P:Program}{w:World}{K:W.Frag}{elts:List Expr}{x1}{pos:Pos}{xs:List V} (a e p:Addr) (ep:e≠p) (ea:e≠a) (ap:a≠p):
  Turn P w K (.Tuple elts x1 pos) (Itp (enumV1 xs) fun H=>SqL K H a xs) [e,p] e (fun i h=>(∃ old,IsEnum h e p ((i + 1:Nat):Int) old)∧h.IsListIter p a i) where
 mem:=by simp
 obj:=fun i h st c hc=>by
  have hc':c=e∨c=p:=by simpa using hc
  obtain ⟨⟨old,he⟩,si⟩:=st
  rcases hc' with rfl | rfl
  ·exact ⟨_,he,fun v q=>by cases q⟩
  ·exact SIt.obj (b:=true) si
 keep:=fun i h h' st k=>by
  obtain ⟨⟨old,he⟩,si⟩:=st
  exact ⟨⟨old,k e (by simp) _ he⟩,si.at fun o q=>k p (by simp) o q⟩
 item:=by
  intro X hP hw hK hc i pins s σ H E I hf st hg
  subst hP hw hK
  obtain ⟨hi,ha⟩:=hg
  obtain ⟨⟨old,he⟩,si⟩:=st
  obtain ⟨pr,hp⟩:∃ p,(enumV1 xs)[i]?=some p:=⟨(enumV1 xs)[i]'hi,List.getElem?_eq_getElem hi⟩
  obtain ⟨e1,hx⟩:=enumV1_get hp
  obtain ⟨its,rv,pl,_⟩:=I.list ha
  have sq:=pl.isList
  obtain ⟨u,hu,ru⟩:=rv.get hx
  have hil:i<its.toArray.size:=by rw [enumV1_len] at hi;have:=rv.length;simp;omega
  have D:=draws_up (Draws.list (prog:=X.prog) (w:=X.w) (A:=X.A.in1) (I.ok.hd hc) p a ap its.toArray)
  refine wpAny_pyNext_enum_itemD D he ⟨by omega,si,sq⟩ (by omega) ep (by simp;exact ⟨ep,ea⟩) fun x g tk hPx ho hst hT _ hk=>?_
  have exu:x=u:=by
   have h1:its.toArray[i]?=some x:=hPx
   have h2:its.toArray[i]?=some u:=by simpa using hu
   rw [h1] at h2
   exact Option.some.inj h2
  subst exu
  refine ⟨_,rfl,?_⟩
  refine wpAny_letOwnedTupleGo_enum (s:={ s with heap:=g,toks:=tk + 1 }) ho fun g' he' sb=>?_
  have elt:e<s.heap.objs.size:=Heap.lt_size he
  have plt:p<s.heap.objs.size:=by
   obtain ⟨o,q,_⟩:=SIt.obj (b:=true) si
   exact Heap.lt_size q
  have sb':Heap.ExtBut e g g':=sb.extBut
  have hT':IsPair g' s.heap.objs.size (.int ((i + 1:Nat):Int) tk) x:=sb' _ _ (Nat.ne_of_gt elt) hT
  have I1:Inv X pins σ (upd H s.heap.objs.size (.tup [pr.1,pr.2])) { s with heap:=g',toks:=tk + 1 }:=I.turnedNewL (t':=tk + 1) (its:=[e,p]) (fun c o hc q=>sb' c o (fun z=>hc (by simp [z])) (hk c o (fun z=>hc (by simp [z])) (fun z=>hc (by simp [z])) q)) hf (Nat.le_refl _)
   ⟨sL (by show 2≤100000;decide),[.int ((i + 1:Nat):Int) tk,x],.cons (by rw [e1];exact ⟨tk,rfl⟩) (.cons ru .nil),⟨_,hT',rfl,_,rfl⟩⟩
  refine ⟨.ref s.heap.objs.size,_,I1,rfl,⟨s.heap.objs.size,pr,hp,I.hok.fresh (Nat.le_refl _),rfl,rfl⟩,⟨⟨x,by simpa using he'⟩,hst.2.1.at fun o q=>sb' _ o (Ne.symm ep) q⟩,fun c hc=>?_⟩
  have hc':c=e∨c=p:=by simpa using hc
  have ne:c≠s.heap.objs.size:=by
   rcases hc' with rfl | rfl
   ·exact Nat.ne_of_lt elt
   ·exact Nat.ne_of_lt plt
  rw [upd_ne ne]
  exact (hf c hc).1
 done:=by
  intro X hP hw hK hc i pins s σ H E I hf st hg
  subst hP hw hK
  obtain ⟨hi,ha⟩:=hg
  obtain ⟨⟨old,he⟩,si⟩:=st
  obtain ⟨its,rv,pl,_⟩:=I.list ha
  have hl:=rv.length
  rw [enumV1_len] at hi
  refine enumEnd (I.ok.hd hc) he (fun Q E hE=>wpAny_nextOf_list_end (I.ok.hd hc) si pl.isList (by simp;omega) hE) fun g eb=>⟨rfl,I.turnedL (t':=s.toks) (its:=[e,p]) (fun c o hc q=>eb c o (fun z=>hc (by simp [z])) q) hf⟩
 self:=fun A i s Q E st h=>by
  obtain ⟨⟨_,he⟩,_⟩:=st
  exact wpAny_pyIter_enum he h
section
variable {M:Model} {A:Around} {E:Value→Shared→Prop} {s:Shared} {env:Env}
theorem cw_typeK {pos:Pos}{T:String}{e:Expr}{kws:List Keyword}{Q:Value→Shared→Prop}
  (h:wpAny M A (spliced (backTo pos (starEach [e] env))) (fun vs s1=>wpAny M A (evalAll ((backToKw pos (keywordEach kws env)).map (·.2))) (fun ks s2=>wpAny M A (call (.type T) vs (((backToKw pos (keywordEach kws env)).filterMap (·.1)).zip ks)) Q E s2) E s1) E s)
  (he:backTo pos (starEach [e] env)=[(false,eval e env)]:=by rfl) (ha:(backToKw pos (keywordEach kws env)).all (·.1.isSome)=true:=by rfl) (hk:(backToKw pos (keywordEach kws env)).any (·.1.isNone)=false:=by rfl):
  wpAny M A (callWith pos (.type T) [] (backTo pos (starEach [e] env)) (backToKw pos (keywordEach kws env))) Q E s:=by
 unfold callWith
 rw [he] at h ⊢
 refine wpAny_bind (wpAny_holding (wpAny_mono (evalArgs_kwB (Q:=fun a s1=>wpAny M A (call (.type T) ([]++a.pos) a.kw) Q E s1) ha h) (fun a s1 h1=>wpAny_bind (wpAny_standAt ?_)) fun _ _ x=>x))
 simp only [hk,Bool.or_false]
 refine wpAny_bind (wpAny_pure ?_)
 exact wpAny_bind (wpAny_mono h1 (fun r s2 hr=>wpAny_bind (wpAny_holding (wpAny_point (wpAny_pure hr)))) fun _ _ z=>z)
end
section
variable {X:Cx}
def iEnum1 (K:W.Frag) (ta:TA):TI:=fun σ H R=>ta σ H fun vs H1=>∃ (a:Addr) (xs:List V),vs=[.ref a]∧SqL K H1 a xs∧R (Itp (enumV1 xs) fun H=>SqL K H a xs) H1
theorem pi_enum1 {elts:List Expr}{x1}{tpos:Pos}{a:Expr}{ta:TA}{p pos cp kp:Pos}{j}(hg:Gl X "enumerate") (hm:X.mg "enumerate"=none) (ha:PA X [a] ta) (hs:starEach [a] X.env=[(false,eval a X.env)]:=by rfl):
  PI X (.Tuple elts x1 tpos) (.Call (.Name "enumerate" p) [a] [⟨some "start",.Constant (.int 1) j cp,kp⟩] pos) (iEnum1 X.K ta):=by
 intro pins s σ H R I h
 refine wpAny_Call_Name_kw (ld_blt I hg hm boot_enumerate ?_)
 refine cw_typeK ?_ (by rw [hs];rfl)
 refine thn (ha pos pins s σ H _ I h) fun us s1 q1=>?_
 obtain ⟨vs,H1,I1,r1,l,xs,rfl,t1,q⟩:=q1
 cases r1 with
 | cons r rr =>
  cases rr
  obtain rfl:_=Value.ref l:=r
  refine kws_cons (wpAny_Constant_int (kws_nil ?_))
  have I2:Inv X pins σ H1 { s1 with toks:=s1.toks + 1 }:=I1.tok _
  obtain ⟨its,rv,pl,_⟩:=I2.list t1
  have sq:=pl.isList
  have lt1:l<s1.heap.objs.size:=by
   obtain ⟨_,e,_⟩:=sq
   exact Heap.lt_size e
  refine call_enum1 sq fun g he si hk=>wpAny_pyIter_enum (s:={ s1 with heap:=g,toks:=s1.toks + 1 }) he ?_
  refine ⟨_,[s1.heap.objs.size + 1,s1.heap.objs.size],_,_,H1,rfl,I2.kept (t':=s1.toks + 1) fun b o e=>hk b o e,turn_enum1 l _ _ (Nat.succ_ne_self _) (Nat.ne_of_gt (Nat.lt_succ_of_lt lt1)) (Nat.ne_of_lt lt1),⟨⟨_,he⟩,si⟩,fun c hc=>?_,q⟩
  have hc':c=s1.heap.objs.size + 1∨c=s1.heap.objs.size:=by simpa using hc
  have ge:s1.heap.objs.size≤c:=by
   rcases hc' with rfl | rfl
   ·exact Nat.le_add_right _ _
   ·exact Nat.le_refl _
  exact I1.fpOk ge (I1.hok.fresh ge)
end
end L2
namespace L2
open PySem PySem.Spec PyProof.Rows
section
variable {prog:Program} {w:World} {A:Around} {E:Value→Shared→Prop}
theorem draw_lst {p l:Addr}{us:Array Value}(ne:l≠p):∀ (n i:Nat) (s:Shared) (Q:List Value→Shared→Prop),s.heap.IsListIter p l i→s.heap.IsList l us→i + n≤us.size →
  (∀ g,g.IsListIter p l (i + n)→Heap.SameBut p s.heap g→Q ((us.toList.drop i).take n) { s with heap:=g })→wpAny (model prog w) A (draw (.ref p) n) Q E s
 | 0,i,s,Q,hi,_,_,q=>by
  show wpAny _ _ (pure ([]:List Value)) Q E s
  exact wpAny_pure (by have z:=q s.heap hi (Heap.SameBut.refl ..);simpa using z)
 | n + 1,i,s,Q,hi,hl,le,q=>by
  have lt:i<us.size:=by omega
  show wpAny _ _ (pyNext (.ref p)>>=_) Q E s
  refine wpAny_bind (wpAny_pyNext_list_item hi hl (x:=us[i]) (by simp [lt]) fun g1 i1 k1=>?_)
  refine wpAny_bind (wpAny_holding (draw_lst ne n (i + 1) _ _ i1 (hl.extBut k1.extBut ne) (by omega) fun g2 i2 k2=>wpAny_pure ?_))
  have d:us.toList.drop i=us[i] :: us.toList.drop (i + 1):=by simp [List.drop_eq_getElem_cons,lt]
  have z:=q g2 (by rw [show i + (n + 1)=i + 1 + n by omega];exact i2) (k1.trans k2)
  rw [d,List.take_succ_cons] at z
  exact z
theorem unpackItems_lst {s:Shared}{l:Addr}{us:Array Value}{Q:List Value→Shared→Prop}(hh:A.handled=none) (hl:s.heap.IsList l us)
  (q:∀ g,Heap.ExtBut s.heap.objs.size s.heap g→Q us.toList { s with heap:=g }):wpAny (model prog w) A (unpackItems (.ref l) us.size none) Q E s:=by
 have lt:l≠s.heap.objs.size:=by obtain ⟨o,ho,_⟩:=hl;exact Nat.ne_of_lt (Heap.lt_size ho)
 unfold unpackItems notIterableAtAll
 refine wpAny_bind (wpAny_bind (wpAny_specialOf hl.typeIs PySem.F.slot_list_iter.lookup (wpAny_pure ?_)))
 simp only [Bool.false_eq_true,if_false]
 refine wpAny_bind (wpAny_holding (wpAny_pyIter_list hl ?_))
 refine wpAny_bind (wpAny_holding (draw_lst lt us.size 0 _ _ ⟨_,Heap.get?_push_size _ rfl,rfl,rfl⟩ (hl.push _) (by omega) fun g1 i1 k1=>?_))
 rw [show List.take us.size (List.drop 0 us.toList)=us.toList by rw [List.drop_zero];exact List.take_of_length_le (by simp),if_neg (by simp)]
 have h1:g1.IsList l us:=(hl.push _).extBut k1.extBut lt
 refine wpAny_bind (wpAny_holding (wpAny_pyNext_list_end hh i1 h1 (by simp) fun g2 k2=>?_))
 simp only [Option.isSome_none,Bool.false_eq_true,if_false]
 exact wpAny_pure (q g2 fun b o hb e=>k2 b o hb (k1.extBut b o hb (Heap.get?_push_of_some _ e)))
theorem assign_lst {s:Shared}{env:Env}{elts:List Expr}{x1}{pos:Pos}{l:Addr}{us:Array Value}{Q:Unit→Shared→Prop}(hh:A.handled=none) (hl:s.heap.IsList l us) (hn:(assignEach elts env).length=us.size) (hs:(assignEach elts env).findIdx? (·.1)=none)
  (h:∀ g,Heap.ExtBut s.heap.objs.size s.heap g→wpAny (model prog w) A (assignInOrder ((assignEach elts env).map (·.2)) us.toList) Q E { s with heap:=g }):wpAny (model prog w) A (assign (.Tuple elts x1 pos) env (.ref l)) Q E s:=by
 rw [PyProof.Rows.assign_Tuple]
 refine wpAny_bind (wpAny_standAt ?_)
 unfold unpack
 rw [hn,hs]
 exact wpAny_bind (wpAny_holding (unpackItems_lst hh hl h))
end
section
variable {X:Cx} {pos:Pos}
def gLst (K:W.Frag) (n:Nat) (t:TGs):TG:=fun v σ H Q=>∃ a xs,v=.ref a∧SqL K H a xs∧xs.length=n∧t xs σ H Q
theorem pg_lst {es:List Expr}{k:Nat}{t:TGs}{n:Nat}(hc:X.calm=true) (h:PGs X es t) (hn:(assignEach es X.env).length=n:=by rfl) (hst:(assignEach es X.env).findIdx? (·.1)=none:=by rfl):PG X (.Tuple es k pos) (gLst X.K n t):=by
 intro pins s σ H v u Q I r z
 obtain ⟨a,xs,e1,hq,hl,z⟩:=z
 subst e1
 cases r
 obtain ⟨its,rv,pl,_⟩:=I.list hq
 refine assign_lst (I.ok.hd hc) pl.isList (by simp [hn,← hl,rv.length]) hst fun g hx=>?_
 have I1:Inv X pins σ H { s with heap:=g }:=I.kept (t':=s.toks) fun b o e=>hx b o (Nat.ne_of_lt (Heap.lt_size e)) e
 exact h pins _ σ H xs _ Q I1 (by simpa using rv) z
end
end L2
namespace K72
open PySem L2
def top (i:Nat):Stmt:=PySem.Challenge.pw_manydeeds_k72_books_read.main.body.getD i (.Pass ⟨0,0,0,0⟩)
abbrev s_is_call:Stmt:=top 16
abbrev s_check_deeds:Stmt:=top 18
abbrev s_Board___init__:Stmt:=inClass (top 19) 0
abbrev s_Board_places:Stmt:=inClass (top 19) 2
abbrev s_Board_deeds:Stmt:=inClass (top 19) 3
abbrev s_is_word:Stmt:=top 25
abbrev s_check_rows:Stmt:=top 26
abbrev s_check_ups:Stmt:=top 27
abbrev s_first_among:Stmt:=top 28
abbrev s_endless:Stmt:=top 29
abbrev s_find_ring:Stmt:=top 30
abbrev s_all_above:Stmt:=top 31
abbrev s_Kinds___init__:Stmt:=inClass (top 32) 0
abbrev s_Kinds_has:Stmt:=inClass (top 32) 1
abbrev s_Kinds_rows:Stmt:=inClass (top 32) 4
abbrev s_check_makes:Stmt:=top 35
abbrev s_Book___init__:Stmt:=inClass (top 36) 0
abbrev s_Book_check_name:Stmt:=inClass (top 36) 1
abbrev s_Book_kinds:Stmt:=inClass (top 36) 2
abbrev s_Book_words:Stmt:=inClass (top 36) 3
abbrev s_Book_board:Stmt:=inClass (top 36) 4
abbrev s_Book_makes:Stmt:=inClass (top 36) 5
abbrev s_Book_names:Stmt:=inClass (top 36) 6
abbrev s_are_words:Stmt:=top 39
abbrev s_is_kind_row:Stmt:=top 40
abbrev s_is_name_row:Stmt:=top 41
abbrev s_is_deed_row:Stmt:=top 42
abbrev s_kind_of:Stmt:=top 43
abbrev s_name_of:Stmt:=top 44
abbrev s_deed_of:Stmt:=top 45
abbrev s_first_named:Stmt:=top 47
abbrev s_take_deed:Stmt:=top 48
abbrev s_take_row:Stmt:=top 49
abbrev s_read_book:Stmt:=top 50
abbrev s__law_pot:Stmt:=top 52
abbrev s__law_take:Stmt:=top 53
abbrev s__law_letters:Stmt:=top 54
abbrev s__law_word:Stmt:=top 55
abbrev s__law_words:Stmt:=top 56
abbrev s__law_ups:Stmt:=top 57
abbrev s__law_rows:Stmt:=top 58
abbrev s__law_above:Stmt:=top 59
abbrev s__law_deeds:Stmt:=top 60
abbrev s__law_places:Stmt:=top 62
abbrev s__law_chain:Stmt:=top 63
abbrev s__law_pairs:Stmt:=top 64
abbrev s__law_names:Stmt:=top 65
abbrev s__law_kind_row:Stmt:=top 66
abbrev s__law_deed_row:Stmt:=top 67
abbrev s__law_mixed:Stmt:=top 68
abbrev s_law:Stmt:=top 69
end K72
namespace K72
open PySem L2 Md
def spPot (K:W.Frag):Sp:=fun vs H Q _=>∃ (a:Addr) (k:Int) (ns:List Int),vs=[.ref a,.int k]∧SqL K H a (ns.map V.int)∧ns.length≤100∧0≤k∧k≤1000∧∀ p o,H p=none→PotO o→Q (.ref p) (upd H p o)
def spTake:Sp:=fun vs H Q _=>∃ (p:Addr) (m:Int) (o:HO),vs=[.ref p,.int m]∧H p=some o∧PotO o∧0<m∧m<4611686018427387904∧∀ (v:Int) o',0≤v→v<m→PotO o'→Q (.int v) (upd H p o')
def spLetters:Sp:=fun vs H Q _=>∃ n:Nat,vs=[.int n]∧n<26 ^ 8∧Q (.str (lettersS n)) H
section
variable {P:Program} {w:World} {K:W.Frag} {mg:Str→Option Value} {base:Heap}
theorem scPot:FnScope ["script","k","cell","rest"] ["script","k"] (defScope s__law_pot):=⟨rfl,rfl,rfl,by decide +kernel,rfl,by decide +kernel,by decide +kernel⟩
theorem big_eq:(10:Int) ^ (64:Int).toNat * 10 ^ (64:Int).toNat * 10 ^ (64:Int).toNat * 10 ^ (64:Int).toNat=10 ^ 256:=by decide +kernel
theorem ok_pot {f:Addr}{fd:FuncData}(F:Def K mg "_law_pot" s__law_pot ["script","k"] f fd) (len:mg "len"=none):FnOk P w K mg base CX0 1 f fd ["script","k"] (spPot K):=by
 refine F.fn.ok scPot (fun vs H Q E h=>?_) (fun cdv A outer s H vs Q E hr h=>?_)
 ·obtain ⟨a,k,ns,rfl,_⟩:=h
  rfl
 ·obtain ⟨a,k,ns,rfl,hS,hl,hk0,hk1,q⟩:=h
  refine ⟨_,pS (ps_set (i:=2) scPot.nd rfl (Or.inl rfl) pe_int)
   (pss_cut (ps_if (pt_cmpR op_lt (pv 1) (pe_callB call_len (by rfl) len PySem.boot_len (pC (pv 0) pa_nil)) (nomark _))
    (pss_one (ps_set (i:=2) scPot.nd rfl (Or.inl rfl) (pe_op op_mod (pe_ix ix_list (pv 0) (pv 1) (fun _ _=>rfl))
     (pe_op op_mulB (pe_op op_mulB (pe_op op_mulB (pe_op op_pow pe_int pe_int) (pe_op op_pow pe_int pe_int)) (pe_op op_pow pe_int pe_int)) (pe_op op_pow pe_int pe_int))))) pss_nil)
   (pS (ps_set (i:=3) scPot.nd rfl (Or.inl rfl) pe_int)
   (pss_cut (ps_if (pt_cmpR op_ge (pv 2) (pe_op op_pow pe_int pe_int) (nomark _)) (pss_one (ps_set (i:=3) scPot.nd rfl (Or.inl rfl) (pv 2))) pss_nil)
   (pss_one (ps_ret (pe_lst (pC (pv 3) (pC (pe_op op_mod (pe_op op_mul (pe_op op_add (pe_op op_add (pe_op op_mod (pv 2) pe_int) (pe_op op_mul pe_int (pv 1))) pe_int) pe_int) pe_int) pa_nil)))))))),?_⟩
  refine ⟨fun σ' H'=>H'=H∧∃ c:Int,0≤c∧c<10 ^ 256∧σ'=[some (.ref a),some (.int k),some (.int c),none],?_,?_⟩
  ·refine ⟨_,rfl,_,rfl,_,_,rfl,.inl ⟨_,hS,rfl⟩,_,_,rfl,rfl,_,rfl,?_⟩
   refine ite2 (fun h1=>?_) (fun h1=>?_)
   ·have h1:k<((ns.map V.int).length:Int):=of_decide_eq_true h1
    rw [List.length_map] at h1
    have hi:k.toNat<ns.length:=by omega
    have hat:atI (ns.map V.int) k=some (V.int ns[k.toNat]):=by
     have e:(ns.map V.int)[k.toNat]?=some (V.int ns[k.toNat]):=by rw [List.getElem?_map,List.getElem?_eq_getElem hi];rfl
     have:=atI_nat e
     rwa [Int.toNat_of_nonneg hk0] at this
    refine ⟨_,rfl,_,rfl,_,_,_,_,rfl,rfl,hS,hat,_,_,rfl,rfl,⟨by decide,by decide,by decide +kernel⟩,_,_,rfl,rfl,⟨by decide,by decide,by decide +kernel⟩,_,_,rfl,rfl,⟨by decide +kernel,by decide +kernel⟩,
     _,_,rfl,rfl,⟨by decide,by decide,by decide +kernel⟩,_,_,rfl,rfl,⟨by decide +kernel,by decide +kernel⟩,_,_,rfl,rfl,⟨by decide,by decide,by decide +kernel⟩,_,_,rfl,rfl,⟨by decide +kernel,by decide +kernel⟩,_,_,rfl,rfl,?_,rfl,_,?_,?_,rfl⟩
    ·show (0:Int)<_
     rw [big_eq];decide +kernel
    ·rw [big_eq];exact Int.emod_nonneg _ (by decide +kernel)
    ·rw [big_eq];exact Int.emod_lt_of_pos _ (by decide +kernel)
   ·exact ⟨rfl,0,by decide,by decide +kernel,rfl⟩
  ·rintro σ' H' ⟨rfl,c,hc0,hc1,rfl⟩
   refine ⟨fun σ2 H2=>H2=H'∧∃ r:Int,0≤r∧r<10 ^ 256∧σ2=[some (.ref a),some (.int k),some (.int c),some (.int r)],?_,?_⟩
   ·refine ⟨_,rfl,_,_,rfl,rfl,⟨by decide,by decide,by decide +kernel⟩,_,_,rfl,rfl,_,rfl,?_⟩
    refine ite2 (fun h1=>?_) (fun h1=>?_)
    ·exact ⟨_,rfl,rfl,c,hc0,hc1,rfl⟩
    ·exact ⟨rfl,0,by decide,by decide +kernel,rfl⟩
   ·rintro σ2 H2 ⟨rfl,r,hr0,hr1,rfl⟩
    have m0:=Int.emod_nonneg c (b:=2147483629) (by decide)
    have m1:=Int.emod_lt_of_pos c (b:=2147483629) (by decide)
    refine ⟨_,rfl,_,rfl,_,_,rfl,rfl,(by show (0:Int)<2147483629;decide),_,rfl,_,_,rfl,rfl,.inl ⟨by decide,by decide⟩,_,_,rfl,rfl,_,_,rfl,rfl,_,_,rfl,rfl,.inr ⟨by decide,by decide⟩,_,_,rfl,rfl,(by show (0:Int)<2147483647;decide),sL (by show 2≤100000;decide),fun p hp=>?_⟩
    refine q p _ hp ⟨r,_,rfl,hr0,hr1,Int.emod_nonneg _ (by decide),Int.emod_lt_of_pos _ (by decide)⟩
theorem scTake:FnScope ["pot","many","found"] ["pot","many"] (defScope s__law_take):=⟨rfl,rfl,rfl,by decide +kernel,rfl,by decide +kernel,by decide +kernel⟩
theorem ok_take {f:Addr}{fd:FuncData}(F:Def K mg "_law_take" s__law_take ["pot","many"] f fd):FnOk P w K mg base CX0 1 f fd ["pot","many"] spTake:=by
 refine F.fn.ok scTake (fun vs H Q E h=>?_) (fun cdv A outer s H vs Q E hr h=>?_)
 ·obtain ⟨p,m,o,rfl,_⟩:=h
  rfl
 ·obtain ⟨p,m,o,rfl,hp,⟨r,b,rfl,hr0,hr1,hb0,hb1⟩,hm0,hm1,q⟩:=h
  refine ⟨_,pS (ps_if (pt_cmpR op_gt (pe_ix ix_list (pv 0) pe_int (fun _ _=>rfl)) pe_int (nomark _))
    (pS (ps_set (i:=2) scTake.nd rfl (Or.inl rfl) (pe_op op_mod (pe_ix ix_list (pv 0) pe_int (fun _ _=>rfl)) (pv 1)))
    (pS (ps_asg (pe_op op_fdivB (pe_ix ix_list (pv 0) pe_int (fun _ _=>rfl)) (pv 1)) (pg_sub (pv 0) pe_int set_list)) (pss_one (ps_ret (pv 2))))) pss_nil)
   (pS (ps_asg (pe_op op_mod (pe_op op_add (pe_op op_mul (pe_ix ix_list (pv 0) pe_int (fun _ _=>rfl)) pe_int) pe_int) pe_int) (pg_sub (pv 0) pe_int set_list))
   (pss_one (ps_ret (pe_op op_mod (pe_op op_fdiv (pe_op op_mod (pe_op op_mul (pe_ix ix_list (pv 0) pe_int (fun _ _=>rfl)) (pe_ix ix_list (pv 0) pe_int (fun _ _=>rfl))) pe_int) pe_int) (pv 1))))),?_⟩
  refine ⟨_,rfl,p,_,_,_,rfl,rfl,SqL.of hp,rfl,_,_,rfl,rfl,_,rfl,?_⟩
  refine ite2 (fun h1=>?_) (fun h1=>?_)
  ·refine ⟨_,rfl,p,_,_,_,rfl,rfl,SqL.of hp,rfl,_,rfl,_,_,rfl,rfl,hm0,?_⟩
   refine ⟨_,rfl,p,_,_,_,rfl,rfl,SqL.of hp,rfl,_,rfl,_,_,rfl,rfl,⟨hm0,hm1⟩,?_⟩
   refine ⟨_,rfl,p,_,_,0,rfl,rfl,hp,rfl,_,rfl,?_⟩
   have h1:0<r:=of_decide_eq_true h1
   exact q _ _ (Int.emod_nonneg _ (by omega)) (Int.emod_lt_of_pos _ hm0) ⟨r / m,b,rfl,Int.ediv_nonneg hr0 (by omega),Int.lt_of_le_of_lt (Int.ediv_le_self _ hr0) hr1,hb0,hb1⟩
  ·refine ⟨_,rfl,p,_,_,_,rfl,rfl,SqL.of hp,rfl,_,_,rfl,rfl,.inr ⟨by decide,by decide⟩,_,_,rfl,rfl,_,_,rfl,rfl,(by show (0:Int)<2147483647;decide),?_⟩
   refine ⟨_,rfl,p,_,_,1,rfl,rfl,hp,rfl,?_⟩
   have m0:=Int.emod_nonneg (b * 69621 + 12345) (b:=2147483647) (by decide)
   have m1:=Int.emod_lt_of_pos (b * 69621 + 12345) (b:=2147483647) (by decide)
   refine ⟨_,rfl,p,_,_,_,rfl,rfl,SqL.of uS,rfl,_,rfl,p,_,_,_,rfl,rfl,SqL.of uS,rfl,_,_,rfl,rfl,.inl ⟨by omega,by omega⟩,_,_,rfl,rfl,(by show (0:Int)<2147483629;decide),_,_,rfl,rfl,⟨by decide,by decide⟩,_,rfl,_,_,rfl,rfl,hm0,?_⟩
   exact q _ _ (Int.emod_nonneg _ (by omega)) (Int.emod_lt_of_pos _ hm0) ⟨r,_,rfl,hr0,hr1,m0,m1⟩
theorem scLet:FnScope ["number","word"] ["number"] (defScope s__law_letters):=⟨rfl,rfl,rfl,by decide +kernel,rfl,by decide +kernel,by decide +kernel⟩
theorem ok_letters {f:Addr}{fd:FuncData}(F:Def K mg "_law_letters" s__law_letters ["number"] f fd):FnOk P w K mg base CX0 1 f fd ["number"] spLetters:=by
 refine F.fn.ok scLet (fun vs H Q E h=>?_) (fun cdv A outer s H vs Q E hr h=>?_)
 ·obtain ⟨n,rfl,_⟩:=h
  rfl
 ·obtain ⟨n,rfl,hn,q⟩:=h
  have nd:=scLet.nd
  refine ⟨_,pS (ps_set (i:=1) nd rfl (Or.inl rfl) pe_str)
   (pS (ps_while PassesOwn.never (pw_or (pt_cmpR op_eq (pv 1) pe_str (nomark _)) (pw_or1 (pt_cmpR op_gt (pv 0) pe_int (nomark _)))).pt
    (pS (ps_set (i:=1) nd rfl (Or.inl rfl) (pe_op op_add_str (pv 1) (pe_ix ix_str pe_str (pe_op op_mod (pv 0) pe_int) (fun _ _=>rfl))))
    (pss_one (ps_set (i:=0) nd rfl (Or.inl rfl) (pe_op op_fdiv (pv 0) pe_int)))))
   (pss_one (ps_ret (pv 1)))),?_⟩
  have e0:("":Str).cps.toList=[]:=by decide +kernel
  have hlen:(lettersF n).length≤8:=lettersF_len 7 n hn
  refine ⟨fun m σ H2=>H2=H∧∃ (x:Str) (k:Nat),σ=[some (.int k),some (.str x)]∧m=k + (if x.cps.toList=[] then 1 else 0) ∧
   ((x.cps.toList=[]∧k=n)∨(x.cps.toList≠[]∧k=0∧x.cps.toList=lettersF n)∨(x.cps.toList≠[]∧0<k∧x.cps.toList++lettersF k=lettersF n)),⟨_,rfl,_,n,rfl,rfl,.inl ⟨e0,rfl⟩⟩,?_⟩
  rintro m σ H2 ⟨rfl,x,k,rfl,rfl,inv⟩
  have more:(x.cps.toList=[]∨0<k)→∃ N:St→Hp→Prop,(∀ σ' H',N σ' H'→∃ m',m'<k + (if x.cps.toList=[] then 1 else 0)∧(H'=H2∧∃ (y:Str) (j:Nat),σ'=[some (.int j),some (.str y)]∧m'=j + (if y.cps.toList=[] then 1 else 0) ∧
    ((y.cps.toList=[]∧j=n)∨(y.cps.toList≠[]∧j=0∧y.cps.toList=lettersF n)∨(y.cps.toList≠[]∧0<j∧y.cps.toList++lettersF j=lettersF n)))) ∧
    N [some (.int ((k:Int) / 26)),some (.str (x++⟨#[97 + k % 26]⟩))] H2:=fun hk=>by
   refine ⟨fun σ' H'=>σ'=[some (.int ((k:Int) / 26)),some (.str (x++⟨#[97 + k % 26]⟩))]∧H'=H2,?_,rfl,rfl⟩
   rintro σ' H' ⟨rfl,rfl⟩
   have el:(x++⟨#[97 + k % 26]⟩:Str).cps.toList=x.cps.toList++[97 + k % 26]:=app_list _ _
   have ne:(x++⟨#[97 + k % 26]⟩:Str).cps.toList≠[]:=by rw [el];simp
   have kd:((k:Int) / 26)=((k / 26:Nat):Int):=by omega
   have whole:(x.cps.toList++[97 + k % 26])++(if k / 26=0 then [] else lettersF (k / 26))=lettersF n:=by
    rw [List.append_assoc,List.singleton_append,← lettersF_eq]
    rcases inv with ⟨h1,h2⟩ | ⟨h1,h2,_⟩ | ⟨_,_,h3⟩
    ·rw [h1,h2];rfl
    ·rcases hk with z | z
     ·exact absurd z h1
     ·omega
    ·exact h3
   refine ⟨k / 26,?_,rfl,_,k / 26,by rw [kd],by rw [if_neg ne];rfl,?_⟩
   ·rcases hk with z | z
    ·rw [if_pos z];omega
    ·have:k / 26<k:=by omega
     omega
   ·right
    rw [el]
    by_cases z:k / 26=0
    ·rw [if_pos z,List.append_nil] at whole
     exact .inl ⟨by simp,z,whole⟩
    ·rw [if_neg z] at whole
     exact .inr ⟨by simp,by omega,whole⟩
  have xlen:x.length≤8:=by
   rw [← str_len]
   rcases inv with ⟨h1,_⟩ | ⟨_,_,h3⟩ | ⟨_,_,h3⟩
   ·rw [h1];simp
   ·rw [h3];exact hlen
   ·have:=congrArg List.length h3
    rw [List.length_append] at this
    omega
  have at1:atI letters.cps.toList ((k:Int) % 26)=some (97 + k % 26):=by
   have:=atI_nat (letters_at (i:=k % 26) (by omega))
   have e:((k % 26:Nat):Int)=(k:Int) % 26:=by omega
   rwa [e] at this
  refine ⟨_,rfl,rfl,_,rfl,?_⟩
  refine ite2 (fun h1=>?_) (fun h1=>?_)
  ·have hx:x.cps.toList=[]:=by
    have:=of_decide_eq_true h1
    injection this with this
    rw [this];exact e0
   obtain ⟨N,hN,n0⟩:=more (.inl hx)
   refine iteT ⟨N,hN,?_⟩
   exact ⟨_,rfl,_,rfl,_,_,rfl,rfl,(by show (0:Int)<26;decide),_,_,_,rfl,rfl,sL (by rw [← str_len,letters_eq];decide),at1,_,_,rfl,rfl,sL (by rw [len_one];omega),_,rfl,_,_,rfl,rfl,⟨by decide,by decide⟩,n0⟩
  ·have hx:x.cps.toList≠[]:=fun z=>h1 (decide_eq_true (by rw [str_ext (z.trans e0.symm)]))
   refine ⟨_,rfl,_,_,rfl,rfl,_,rfl,?_⟩
   refine ite2 (fun h2=>?_) (fun h2=>?_)
   ·have hk:0<k:=by have:(0:Int)<(k:Int):=of_decide_eq_true h2;omega
    obtain ⟨N,hN,n0⟩:=more (.inr hk)
    refine ⟨N,hN,?_⟩
    exact ⟨_,rfl,_,rfl,_,_,rfl,rfl,(by show (0:Int)<26;decide),_,_,_,rfl,rfl,sL (by rw [← str_len,letters_eq];decide),at1,_,_,rfl,rfl,sL (by rw [len_one];omega),_,rfl,_,_,rfl,rfl,⟨by decide,by decide⟩,n0⟩
   ·have hk:k=0:=by
     have:¬ (0:Int)<(k:Int):=fun z=>h2 (decide_eq_true z)
     omega
    have hf:x=lettersS n:=by
     refine str_ext ?_
     rw [lettersS_list]
     rcases inv with ⟨h1,_⟩ | ⟨_,_,h3⟩ | ⟨_,h2,_⟩
     ·exact absurd h1 hx
     ·exact h3
     ·omega
    rw [hf]
    exact ⟨_,rfl,q⟩
end
end K72
namespace K72
open PySem L2 Md
structure WordsOk (ws:List Str):Prop where
 word:∀ x∈ws,isWord x=true
 nd:ws.Nodup
def spWord:Sp:=fun vs H Q _=>∃ (p a:Addr) (ws:List Str),vs=[.ref p,.ref a]∧p≠a∧(∃ o,H p=some o∧PotO o)∧H a=some (.lst (ws.map V.str))∧WordsOk ws∧ws.length≤24 ∧
 ∀ x H',Drawn p H H'→isWord x=true→x∉ws→Q (.str x) H'
def spWords:Sp:=fun vs H Q _=>∃ (p:Addr) (m:Nat),vs=[.ref p,.int m]∧(∃ o,H p=some o∧PotO o)∧m≤24 ∧
 ∀ l (ws:List Str) H',Drawn p H H'→H l=none→H' l=some (.lst (ws.map V.str))→WordsOk ws→ws.length=m→Q (.ref l) H'
def some13:List Str:=["kind","under","name","deed","gives","with","none","clash","a","ab","abc","abcdefgh","even"]
theorem some13_ok:some13.all isWord=true:=by decide +kernel
theorem at_strs {ws:List Str}{v:Int} (h0:0≤v) (h1:v<ws.length):∃ x,x∈ws∧atI (ws.map V.str) v=some (.str x):=by
 have hi:v.toNat<ws.length:=by omega
 have e:(ws.map V.str)[v.toNat]?=some (V.str ws[v.toNat]):=by rw [List.getElem?_map,List.getElem?_eq_getElem hi];rfl
 have:=atI_nat e
 rw [Int.toNat_of_nonneg h0] at this
 exact ⟨_,List.getElem_mem hi,this⟩
theorem ne_nil_dat (ws:List Str):(!dEq (.list (ws.map W.Dat.str)) (.list []))=true↔ws≠[]:=by
 cases ws with
 | nil=>simp [dEq_self]
 | cons w r =>
  rw [dEq_neg (by simp)]
  simp
theorem ok_dat {ws:List Str}(h:∀ x∈ws,isWord x=true):W.kqdOk 9 (.list (ws.map W.Dat.str))=true:=by
 show (ws.map W.Dat.str).all (W.kqdOk 8)=true
 rw [List.all_eq_true]
 intro d hd
 obtain ⟨x,hx,e⟩:=List.mem_map.mp hd
 rw [← e]
 exact word_ok (h x hx)
section
variable {P:Program} {w:World} {K:W.Frag} {mg:Str→Option Value} {base:Heap}
theorem scWord:FnScope ["pot","words","some","way","word","number"] ["pot","words"] (defScope s__law_word):=⟨rfl,rfl,rfl,by decide +kernel,rfl,by decide +kernel,by decide +kernel⟩
theorem prefix_word {x y:Str}{n:Nat}(hn:1≤n) (h:y.cps.toList=x.cps.toList.take n) (h1:1≤x.length) (h8:x.length≤8∨n≤8) (hl:∀ c∈x.cps.toList,isLow c=true):isWord y=true:=by
 rw [isWord_iff,h,List.length_take,str_len]
 refine ⟨⟨by omega,by omega⟩,fun c hc=>hl c (List.mem_of_mem_take hc)⟩
def tupStrs:Expr→Option (List Str)
 | .Tuple es _ _=>strsOf es
 | _=>none
theorem pe_tupOf {X:Cx}{ws:List Str}:∀ {e:Expr},tupStrs e=some ws→PE X e (tTup (fun _ H Q=>Q (ws.map V.str) H)):=by
 intro e h
 cases e with
 | Tuple es x p=>exact pe_tup (pa_strsOf h)
 | _=>cases h
def bodyE:Stmt→Expr
 | .Assign _ e _=>e
 | _=>.Constant (.int 0) 0 ⟨0,0,0,0⟩
def hdS:List Stmt→Stmt
 | s :: _=>s
 | []=>.Pass ⟨0,0,0,0⟩
theorem e13:tupStrs (bodyE (hdS (defBody s__law_word)))=some some13:=by decide +kernel
def t13:TE:=tTup (fun _ H Q=>Q (some13.map V.str) H)
theorem pe_13g {X:Cx}{e:Expr}(h:tupStrs e=some some13):PE X e t13:=pe_tupOf h
def isTup:Expr→Bool
 | .Tuple _ _ _=>true
 | _=>false
theorem sw_tup {e:Expr}{t:Option Expr}{l:Nat}{env:Env}(h:isTup e=true):swapsWith e t l env=pure false:=by
 cases e with
 | Tuple es x p=>rfl
 | _=>cases h
def asgs:Stmt→Option (Str×Expr)
 | .Assign [.Name x _] e _=>some (x,e)
 | _=>none
theorem ps_asgs {X:Cx}{st:Stmt}{i:Nat}{x:Str}{e:Expr}{te:TE}(h:asgs st=some (x,e)) (he:PE X e te) (ht:isTup e=true) (hN:X.N.Nodup) (hi:X.N[i]?=some x) (hx:Loc X.env.scope x) (hf:X.fn x=true∨X.env.scope.names.lookup x=some .local):PS X st (tAsg te (gName i)):=by
 unfold asgs at h
 split at h
 ·next x' p' e' p =>
  have h1:x'=x:=congrArg Prod.fst (Option.some.inj h)
  have h2:e'=e:=congrArg Prod.snd (Option.some.inj h)
  subst h1
  subst h2
  exact ps_set hN hi hx he (sw_tup ht) hf
 ·cases h
def s13:Stmt:=hdS (defBody s__law_word)
def e13x:Expr:=bodyE s13
theorem a13:asgs s13=some (("some":Str),e13x):=by rfl
theorem u13:isTup e13x=true:=by decide +kernel
theorem p13 {X:Cx}:PE X e13x t13:=@pe_13g X e13x e13
theorem ps_13 {X:Cx}(hN:X.N.Nodup) (hi:X.N[2]?=some ("some":Str)) (hx:Loc X.env.scope ("some":Str)) (hf:X.fn ("some":Str)=true∨X.env.scope.names.lookup ("some":Str)=some NameKind.local):PS X s13 (tAsg t13 (gName 2)):=
 @ps_asgs X s13 2 ("some":Str) e13x t13 a13 (@p13 X) u13 hN hi hx hf
def tlS:List Stmt→List Stmt
 | _ :: r=>r
 | []=>[]
theorem pss_hd {X:Cx}{l:List Stmt}{t u:TS} (h0:l.isEmpty=false) (h1:PS X (hdS l) t) (h2:PSs X (tlS l) u):PSs X l (tSeq t u):=by
 cases l with
 | nil=>cases h0
 | cons a r=>exact pS h1 h2
theorem n13:(defBody s__law_word).isEmpty=false:=by decide +kernel
theorem pss_13 {X:Cx}{u:TS}(hN:X.N.Nodup) (hi:X.N[2]?=some ("some":Str)) (hx:Loc X.env.scope ("some":Str)) (hf:X.fn ("some":Str)=true∨X.env.scope.names.lookup ("some":Str)=some NameKind.local) (h2:PSs X (tlS (defBody s__law_word)) u):PSs X (defBody s__law_word) (tSeq (tAsg t13 (gName 2)) u):=
 @pss_hd X (defBody s__law_word) (tAsg t13 (gName 2)) u n13 (@ps_13 X hN hi hx hf) h2
theorem ex_13 {X:Cx}{D:Ends}{σ:St}{H:Hp}(hN:X.N.Nodup) (hi:X.N[2]?=some ("some":Str)) (hx:Loc X.env.scope ("some":Str)) (hf:X.fn ("some":Str)=true∨X.env.scope.names.lookup ("some":Str)=some NameKind.local)
  (h:∃ u,PSs X (tlS (defBody s__law_word)) u∧tSeq (tAsg t13 (gName 2)) u D σ H):∃ t,PSs X (defBody s__law_word) t∧t D σ H:=by
 obtain ⟨u,h1,h2⟩:=h
 exact ⟨tSeq (tAsg t13 (gName 2)) u,@pss_13 X u hN hi hx hf h1,h2⟩
theorem ok_word {f fT fL:Addr}{fd fdT fdL:FuncData}(F:Def K mg "_law_word" s__law_word ["pot","words"] f fd) (DT:Def K mg "_law_take" s__law_take ["pot","many"] fT fdT) (DL:Def K mg "_law_letters" s__law_letters ["number"] fL fdL) (len:mg "len"=none):
  FnOk P w K mg base CX0 2 f fd ["pot","words"] spWord:=by
 have GT:FnOk P w K mg base CX0 1 fT fdT ["pot","many"] spTake:=ok_take DT
 have GL:FnOk P w K mg base CX0 1 fL fdL ["number"] spLetters:=ok_letters DL
 refine F.fn.ok scWord (fun vs H Q E h=>?_) (fun cdv A outer s H vs Q E hr h=>?_)
 ·obtain ⟨p,a,ws,rfl,_⟩:=h
  rfl
 ·obtain ⟨p,a,ws,rfl,hpa,hpot,ha,hw,hl24,q⟩:=h
  have nd:=scWord.nd
  have hu:=hr.units
  refine @ex_13 _ _ _ _ nd rfl (Or.inl rfl) (Or.inl rfl) ?_
  refine ⟨_,(pS (ps_set (i:=3) nd rfl (Or.inl rfl) (pe_callD DT GT hr (pC (pv 0) (pC pe_int pa_nil))))
   (pS (ps_set (i:=4) nd rfl (Or.inl rfl) (pe_ix ix_tup (pv 2) (pe_callD DT GT hr (pC (pv 0) (pC pe_int pa_nil))) (fun _ _=>rfl)))
   (pss_cut (ps_if (pt_cmpR op_eq (pv 3) pe_int (nomark _)) (pss_one (ps_set (i:=4) nd rfl (Or.inl rfl) (pe_callD DL GL hr (pC (pe_callD DT GT hr (pC (pv 0) (pC (pe_op op_sub (pe_op op_pow pe_int pe_int) pe_int) pa_nil))) pa_nil)))) pss_nil)
   (pss_cut (ps_if (pw_and (pt_cmpR op_eq (pv 3) pe_int (nomark _)) (pw_and1 (pt_cmpR (op_neD hu) (pv 1) (pe_lst pa_nil) (nomark _)))).pt
    (pS (ps_set (i:=4) nd rfl (Or.inl rfl) (pe_ix ix_list (pv 1) (pe_callD DT GT hr (pC (pv 0) (pC (pe_callB call_len (by rfl) len PySem.boot_len (pC (pv 1) pa_nil)) pa_nil))) (fun _ _=>rfl)))
    (pss_one (ps_set (i:=4) nd rfl (Or.inl rfl) (pe_slice sl_str (pe_op op_add_str (pv 4) (pe_callD DL GL hr (pC (pe_callD DT GT hr (pC (pv 0) (pC pe_int pa_nil))) pa_nil))) po_none (po_some pe_int))))) pss_nil)
   (pss_cut (ps_if (pw_and (pt_cmpR op_eq (pv 3) pe_int (nomark _)) (pw_and1 (pt_cmpR (op_neD hu) (pv 1) (pe_lst pa_nil) (nomark _)))).pt
    (pS (ps_set (i:=4) nd rfl (Or.inl rfl) (pe_ix ix_list (pv 1) (pe_callD DT GT hr (pC (pv 0) (pC (pe_callB call_len (by rfl) len PySem.boot_len (pC (pv 1) pa_nil)) pa_nil))) (fun _ _=>rfl)))
    (pss_one (ps_set (i:=4) nd rfl (Or.inl rfl) (pe_slice sl_str (pv 4) po_none (po_some (pe_op op_add pe_int (pe_callD DT GT hr (pC (pv 0) (pC (pe_callB call_len (by rfl) len PySem.boot_len (pC (pv 4) pa_nil)) pa_nil))))))))) pss_nil)
   (pS (ps_set (i:=5) nd rfl (Or.inl rfl) pe_int)
   (pS (ps_while PassesOwn.never (pt_cmpR op_in_seq (pv 4) (pv 1) (by with_unfolding_all rfl))
    (pS (ps_set (i:=4) nd rfl (Or.inl rfl) (pe_callD DL GL hr (pC (pv 5) pa_nil)))
    (pss_one (ps_set (i:=5) nd rfl (Or.inl rfl) (pe_op op_add (pv 5) pe_int)))))
   (pss_one (ps_ret (pv 4)))))))))),?_⟩
  have hap:a≠p:=Ne.symm hpa
  obtain ⟨o0,hp0,ho0⟩:=hpot
  have wl:∀ {H':Hp},Drawn p H H'→SqL K H' a (ws.map V.str):=fun d=>SqL.of (d.keep _ _ hap ha)
  refine ⟨sL (by show 13≤100000;decide),fun t ht=>?_⟩
  have d1:Drawn p H (upd H t (.tup (some13.map V.str))):=(Drawn.refl ⟨o0,hp0,ho0⟩).new ht
  have tp:t≠p:=fun e=>by rw [e,hp0] at ht;cases ht
  refine ⟨_,rfl,p,4,o0,rfl,(by rw [upd_ne (Ne.symm tp)];exact hp0),ho0,by decide,by decide,fun way o1 hw0 hw1 ho1=>?_⟩
  refine ⟨_,rfl,_,rfl,p,13,o1,rfl,uS,ho1,by decide,by decide,fun v o2 hv0 hv1 ho2=>?_⟩
  obtain ⟨x0,hx0,hat⟩:=at_strs (ws:=some13) hv0 (by show v<13;exact hv1)
  refine ⟨t,some13.map V.str,_,_,rfl,rfl,SqT.of (by rw [upd_ne tp,upd_ne tp];exact uS),hat,?_⟩
  have w0:isWord x0=true:=List.all_eq_true.mp some13_ok x0 hx0
  have d3:Drawn p H (upd (upd (upd H t (.tup (some13.map V.str))) p o1) p o2):=(d1.trans (Drawn.upd ho1)).trans (Drawn.upd ho2)
  refine ⟨fun σ' H'=>∃ x:Str,σ'=[some (.ref p),some (.ref a),some (.ref t),some (.int way),some (.str x),none]∧isWord x=true∧Drawn p H H',?_,?_⟩
  ·refine ⟨_,rfl,rfl,_,rfl,?_⟩
   refine ite2 (fun _=>?_) (fun _=>?_)
   ·obtain ⟨o3,hp3,ho3⟩:=d3.pot
    refine ⟨_,rfl,_,_,rfl,rfl,⟨by decide,by decide,by decide +kernel⟩,_,_,rfl,rfl,p,_,o3,rfl,hp3,ho3,by decide,by decide,fun v o4 hv0 hv1 ho4=>?_⟩
    have hv1:v<208827064550:=hv1
    refine ⟨v.toNat,by rw [Int.toNat_of_nonneg hv0];rfl,by omega,_,rfl,lettersS_word (by omega),d3.trans (Drawn.upd ho4)⟩
   ·exact ⟨x0,rfl,w0,d3⟩
  ·rintro σ' H1 ⟨x1,rfl,w1,d4⟩
   refine ⟨fun σ' H'=>∃ x:Str,σ'=[some (.ref p),some (.ref a),some (.ref t),some (.int way),some (.str x),none]∧isWord x=true∧Drawn p H H',?_,?_⟩
   ·refine ⟨_,rfl,rfl,_,rfl,?_⟩
    refine ite2 (fun _=>?_) (fun _=>iteF ⟨x1,rfl,w1,d4⟩)
    refine ⟨_,rfl,Nat.zero_le _,fun t2 ht2=>⟨.list (ws.map W.Dat.str),.list [],.list ((wl d4).mono_new ht2) (reps_strs ws),.list (SqL.of uS) .nil,ok_dat hw.word,rfl,_,rfl,?_⟩⟩
    have d5:Drawn p H (upd H1 t2 (.lst [])):=d4.new ht2
    refine ite2 (fun hne=>?_) (fun _=>⟨x1,rfl,w1,d5⟩)
    have hne:ws≠[]:=(ne_nil_dat ws).mp hne
    have hpos:0<ws.length:=List.length_pos_iff.mpr hne
    obtain ⟨o5,hp5,ho5⟩:=d5.pot
    refine ⟨_,rfl,_,rfl,_,rfl,_,_,rfl,.inl ⟨_,wl d5,rfl⟩,p,_,o5,rfl,hp5,ho5,by rw [List.length_map];omega,by rw [List.length_map];omega,fun v o6 hv0 hv1 ho6=>?_⟩
    rw [List.length_map] at hv1
    obtain ⟨x2,hx2,hat2⟩:=at_strs (ws:=ws) hv0 hv1
    have d6:Drawn p H (upd (upd H1 t2 (.lst [])) p o6):=d5.trans (Drawn.upd ho6)
    have w2:isWord x2=true:=hw.word x2 hx2
    refine ⟨a,ws.map V.str,_,_,rfl,rfl,wl d6,hat2,?_⟩
    refine ⟨_,rfl,_,rfl,p,26,o6,rfl,uS,ho6,by decide,by decide,fun v o7 hv0 hv1 ho7=>?_⟩
    refine ⟨v.toNat,by rw [Int.toNat_of_nonneg hv0];rfl,by omega,?_⟩
    have wl3:isWord (lettersS v.toNat)=true:=lettersS_word (by omega)
    have l2:=word_len w2
    have l3:=word_len wl3
    refine ⟨_,_,rfl,rfl,sL (by omega),_,rfl,_,rfl,sL (by rw [len_app];omega),?_⟩
    refine ⟨_,rfl,?_,d6.trans (Drawn.upd ho7)⟩
    refine prefix_word (x:=x2++lettersS v.toNat) (n:=8) (by decide) (slice_take _ 8 (by decide)) (by rw [len_app];omega) (.inr (Nat.le_refl _)) fun c hc=>?_
    rw [app_list] at hc
    rcases List.mem_append.mp hc with hc | hc
    ·exact ((isWord_iff x2).mp w2).2 c hc
    ·exact ((isWord_iff _).mp wl3).2 c hc
   ·rintro σ' H2 ⟨x2,rfl,w2,d5⟩
    refine ⟨fun σ' H'=>∃ x:Str,σ'=[some (.ref p),some (.ref a),some (.ref t),some (.int way),some (.str x),none]∧isWord x=true∧Drawn p H H',?_,?_⟩
    ·refine ⟨_,rfl,rfl,_,rfl,?_⟩
     refine ite2 (fun _=>?_) (fun _=>iteF ⟨x2,rfl,w2,d5⟩)
     refine ⟨_,rfl,Nat.zero_le _,fun t2 ht2=>⟨.list (ws.map W.Dat.str),.list [],.list ((wl d5).mono_new ht2) (reps_strs ws),.list (SqL.of uS) .nil,ok_dat hw.word,rfl,_,rfl,?_⟩⟩
     have d6:Drawn p H (upd H2 t2 (.lst [])):=d5.new ht2
     refine ite2 (fun hne=>?_) (fun _=>⟨x2,rfl,w2,d6⟩)
     have hne:ws≠[]:=(ne_nil_dat ws).mp hne
     have hpos:0<ws.length:=List.length_pos_iff.mpr hne
     obtain ⟨o6,hp6,ho6⟩:=d6.pot
     refine ⟨_,rfl,_,rfl,_,rfl,_,_,rfl,.inl ⟨_,wl d6,rfl⟩,p,_,o6,rfl,hp6,ho6,by rw [List.length_map];omega,by rw [List.length_map];omega,fun v o7 hv0 hv1 ho7=>?_⟩
     rw [List.length_map] at hv1
     obtain ⟨x3,hx3,hat3⟩:=at_strs (ws:=ws) hv0 hv1
     have d7:Drawn p H (upd (upd H2 t2 (.lst [])) p o7):=d6.trans (Drawn.upd ho7)
     have w3:isWord x3=true:=hw.word x3 hx3
     have l3:=word_len w3
     refine ⟨a,ws.map V.str,_,_,rfl,rfl,wl d7,hat3,?_⟩
     refine ⟨_,rfl,_,rfl,_,rfl,_,_,rfl,⟨sL (by omega),rfl⟩,p,_,o7,rfl,uS,ho7,by omega,by omega,fun v o8 hv0 hv1 ho8=>?_⟩
     refine ⟨_,_,rfl,rfl,_,rfl,_,rfl,sL (by omega),?_⟩
     refine ⟨_,rfl,?_,d7.trans (Drawn.upd ho8)⟩
     exact prefix_word (x:=x3) (n:=(1 + v).toNat) (by omega) (slice_take _ (1 + v) (by omega)) (by omega) (.inl (by omega)) ((isWord_iff x3).mp w3).2
    ·rintro σ' H3 ⟨x3,rfl,w3,d6⟩
     refine ⟨fun m σ H'=>∃ (x:Str) (n:Nat),σ=[some (.ref p),some (.ref a),some (.ref t),some (.int way),some (.str x),some (.int n)]∧isWord x=true∧Drawn p H H'∧m=ws.length + 1 - n∧n≤ws.length + 1 ∧
      (n=0∨x=lettersS (n - 1))∧∀ j,j + 1<n→lettersS j∈ws,⟨_,x3,0,rfl,w3,d6,rfl,by omega,.inl rfl,fun j hj=>by omega⟩,?_⟩
     rintro m σ H4 ⟨x,n,rfl,wx,dx,rfl,hn,hxn,hall⟩
     refine ⟨_,rfl,_,rfl,a,_,rfl,.inl (wl dx),rfl,flat_strs ws,_,rfl,?_⟩
     show if inV (.str x) (ws.map V.str)=true then _ else _
     rw [in_strs]
     refine ite2 (fun hin=>?_) (fun hin=>?_)
     ·have hin:x∈ws:=of_decide_eq_true hin
      have all:∀ j,j<n→lettersS j∈ws:=fun j hj=>by
       by_cases z:j + 1<n
       ·exact hall j z
       ·rcases hxn with e | e
        ·omega
        ·have:j=n - 1:=by omega
         rw [this,← e];exact hin
      have hle:n≤ws.length:=by
       have:=Graph.nodup_le (l:=(List.range n).map lettersS) (k:=ws) ?_ ?_
       ·simpa using this
       ·rw [List.nodup_iff_pairwise_ne,List.pairwise_map]
        exact (List.nodup_iff_pairwise_ne.mp List.nodup_range).imp fun h e=>h (lettersS_inj e)
       ·intro y hy
        obtain ⟨j,hj,e⟩:=List.mem_map.mp hy
        rw [← e]
        exact all j (List.mem_range.mp hj)
      refine ⟨fun σ' H'=>σ'=[some (.ref p),some (.ref a),some (.ref t),some (.int way),some (.str (lettersS n)),some (.int ((n:Int) + 1))]∧H'=H4,?_,?_⟩
      ·rintro σ' H' ⟨rfl,rfl⟩
       exact ⟨ws.length + 1 - (n + 1),by omega,lettersS n,n + 1,rfl,lettersS_word (by omega),dx,rfl,by omega,.inr rfl,fun j hj=>all j (by omega)⟩
      ·exact ⟨_,rfl,n,rfl,by omega,_,rfl,_,_,rfl,rfl,rfl,rfl⟩
     ·have hin:x∉ws:=fun z=>hin (decide_eq_true z)
      exact ⟨_,rfl,q x H4 dx wx hin⟩
theorem scWords:FnScope ["pot","many","words","k"] ["pot","many"] (defScope s__law_words):=⟨rfl,rfl,rfl,by decide +kernel,rfl,by decide +kernel,by decide +kernel⟩
theorem ok_words {f fW fT fL:Addr}{fd fdW fdT fdL:FuncData}(F:Def K mg "_law_words" s__law_words ["pot","many"] f fd) (DW:Def K mg "_law_word" s__law_word ["pot","words"] fW fdW) (DT:Def K mg "_law_take" s__law_take ["pot","many"] fT fdT) (DL:Def K mg "_law_letters" s__law_letters ["number"] fL fdL) (len:mg "len"=none) (range:mg "range"=none):
  FnOk P w K mg base CX0 3 f fd ["pot","many"] spWords:=by
 have GW:FnOk P w K mg base CX0 2 fW fdW ["pot","words"] spWord:=ok_word DW DT DL len
 refine F.fn.ok scWords (fun vs H Q E h=>?_) (fun cdv A outer s H vs Q E hr h=>?_)
 ·obtain ⟨p,m,rfl,_⟩:=h
  rfl
 ·obtain ⟨p,m,rfl,⟨o0,hp0,ho0⟩,hm,q⟩:=h
  have nd:=scWords.nd
  refine ⟨_,pS (ps_set (i:=2) nd rfl (Or.inl rfl) (pe_lst pa_nil))
   (pS (ps_for PassesOwn.never rfl (pi_range1 rfl range (pC (pv 1) pa_nil)) (pg_name (i:=3) nd rfl (Or.inl rfl))
    (pss_one (ps_expr (pe_bm PySem.F.plainAttrs_list PySem.F.slot_list_append PySem.F.type_list_append mt_append (pv 2) (pC (pe_callD DW GW hr (pC (pv 0) (pC (pv 2) pa_nil))) pa_nil)))))
   (pss_one (ps_ret (pv 2)))),?_⟩
  refine ⟨Nat.zero_le _,fun l hl=>?_⟩
  have lp:p≠l:=nNo hp0 hl
  refine ⟨_,rfl,m,rfl,by omega,by omega,for_runs runs_range (fun i σ H'=>∃ (ws:List Str) (kv:Option V),σ=[some (.ref p),some (.int m),some (.ref l),kv]∧Drawn p H H'∧H' l=some (.lst (ws.map V.str))∧WordsOk ws∧ws.length=i)
   ⟨[],none,rfl,(Drawn.refl ⟨o0,hp0,ho0⟩).new hl,uS,⟨(fun _ h=>nomatch h),List.nodup_nil⟩,rfl⟩ (fun _ _ _ _ _=>trivial) ?_ ?_⟩
  ·rintro i v σ H' hi ⟨ws,kv,rfl,d,hw,ok,rfl⟩
   obtain ⟨hi,rfl⟩:=rangeV_get hi
   refine ⟨_,rfl,.inl ⟨rfl,_,SqL.of hw⟩,_,rfl,_,rfl,p,l,ws,rfl,lp,d.pot,hw,ok,by omega,fun x H2 d2 wx nx=>?_⟩
   have hw2:H2 l=some (.lst (ws.map V.str)):=d2.keep _ _ (Ne.symm lp) hw
   refine ⟨l,_,_,rfl,rfl,hw2,small_lt (by rw [List.length_map];omega),?_⟩
   refine ⟨ws++[x],_,rfl,?_,by rw [uS,List.map_append];rfl,⟨fun y hy=>?_,?_⟩,by simp⟩
   ·refine (d.trans d2).sub (q:=l) (o':=.lst []) (fun b o hb e=>by rw [upd_ne hb];exact e) hl lp
   ·rcases List.mem_append.mp hy with hy | hy
    ·exact ok.word y hy
    ·rw [List.mem_singleton.mp hy];exact wx
   ·rw [List.nodup_append]
    exact ⟨ok.nd,by simp,fun a ha b hb e=>nx (by rw [← List.mem_singleton.mp hb,← e];exact ha)⟩
  ·rintro σ H' ⟨ws,kv,rfl,d,hw,ok,hlen⟩
   rw [rangeV_len] at hlen
   exact ⟨_,rfl,q l ws H' d hl hw ok (by simpa using hlen)⟩
end
end K72
namespace K72
open PySem L2 Md
def intsV (js:List Nat):List V:=js.map fun (j:Nat)=>V.int (j:Int)
structure UpsOk (k:Nat) (js:List Nat):Prop where
 below:∀ j∈js,j<k
 nd:js.Nodup
 few:js.length≤8
def spUps:Sp:=fun vs H Q _=>∃ (p:Addr) (k sh:Nat),vs=[.ref p,.int k,.int sh]∧(∃ o,H p=some o∧PotO o)∧k≤24 ∧
 ∀ l (js:List Nat) H',Drawn p H H'→H' l=some (.lst (intsV js))→UpsOk k js→Q (.ref l) H'
section
variable {P:Program} {w:World} {K:W.Frag} {mg:Str→Option Value} {base:Heap}
structure TxtU (mg:Str→Option Value):Prop where
 range:mg "range"=none
 int:mg "int"=none
theorem scUps:FnScope ["pot","k","shape","one","other","bits"] ["pot","k","shape"] (defScope s__law_ups):=⟨rfl,rfl,rfl,by decide +kernel,rfl,by decide +kernel,by decide +kernel⟩
abbrev nUps:List Str:=["pot","k","shape","one","other","bits"]
theorem nd_j:(["j"]:List Str).Nodup:=by decide +kernel
theorem nd_jb:(["j","bits"]:List Str).Nodup:=by decide +kernel
def okJ (v:V):Bool:=match v with | .int i=>decide (0≤i) | _=>false
def eight:List V:=[.int 1,.int 2,.int 4,.int 8,.int 16,.int 32,.int 64,.int 128]
def bitV (bits:Int) (v:V):Bool:=match v with
 | .int j=>decide (j<8)&&(match atI eight j with | some (.int e)=>decide (bits / e % 2=1) | _=>false)
 | _=>false
theorem eight_at {j:Int} (h0:0≤j) (h1:j<8):∃ e:Int,atI eight j=some (.int e)∧0<e∧e<1000:=by
 have:∀ i:_root_.Fin 8,∃ e:Int,atI eight (i.1:Int)=some (.int e)∧0<e∧e<1000:=by
  intro i
  match i with
  | ⟨0,_⟩=>exact ⟨1,rfl,by decide,by decide⟩
  | ⟨1,_⟩=>exact ⟨2,rfl,by decide,by decide⟩
  | ⟨2,_⟩=>exact ⟨4,rfl,by decide,by decide⟩
  | ⟨3,_⟩=>exact ⟨8,rfl,by decide,by decide⟩
  | ⟨4,_⟩=>exact ⟨16,rfl,by decide,by decide⟩
  | ⟨5,_⟩=>exact ⟨32,rfl,by decide,by decide⟩
  | ⟨6,_⟩=>exact ⟨64,rfl,by decide,by decide⟩
  | ⟨7,_⟩=>exact ⟨128,rfl,by decide,by decide⟩
 have q:=this ⟨j.toNat,by omega⟩
 rwa [Int.toNat_of_nonneg h0] at q
theorem filt_range (k:Nat) (p:V→Bool):∃ js:List Nat,(rangeV 0 k).filter p=intsV js∧(∀ j∈js,j<k∧p (.int (j:Int))=true)∧js.Nodup:=by
 refine ⟨(List.range k).filter fun j=>p (.int (j:Int)),?_,fun j hj=>?_,List.nodup_range.filter _⟩
 ·unfold rangeV intsV
  rw [List.filter_map]
  have e:((fun (j:Nat)=>V.int (0 + (j:Int))))=fun (j:Nat)=>V.int (j:Int):=by
   funext j
   rw [Int.zero_add]
  rw [e]
  rfl
 ·obtain ⟨h1,h2⟩:=List.mem_filter.mp hj
  exact ⟨List.mem_range.mp h1,h2⟩
theorem paired_self:∀ {xs ys:List V},Paired (fun x v=>v=x) xs ys→ys=xs
 | _,_,.nil=>rfl
 | _,_,.cons h t=>by rw [h,paired_self t]
theorem ok_ups {f fT:Addr}{fd fdT:FuncData}(F:Def K mg "_law_ups" s__law_ups ["pot","k","shape"] f fd) (DT:Def K mg "_law_take" s__law_take ["pot","many"] fT fdT) (T:TxtU mg):FnOk P w K mg base CX0 2 f fd ["pot","k","shape"] spUps:=by
 have GT:FnOk P w K mg base CX0 1 fT fdT ["pot","many"] spTake:=ok_take DT
 refine F.fn.ok scUps (fun vs H Q E h=>?_) (fun cdv A outer s H vs Q E hr h=>?_)
 ·obtain ⟨p,k,sh,rfl,_⟩:=h
  rfl
 ·obtain ⟨p,k,sh,rfl,⟨o0,hp0,ho0⟩,hk,q⟩:=h
  have nd:=scUps.nd
  refine ⟨_,pS (ps_if (pt_cmpR op_eq (pv 1) pe_int (nomark _)) (pss_one (ps_ret (pe_lst pa_nil))) pss_nil)
   (pS (ps_set (i:=3) nd rfl (Or.inl rfl) (pe_callD DT GT hr (pC (pv 0) (pC (pv 1) pa_nil))))
   (pS (ps_set (i:=4) nd rfl (Or.inl rfl) (pe_callD DT GT hr (pC (pv 0) (pC (pv 1) pa_nil))))
   (pS (ps_if (pt_cmpR op_eq (pv 2) pe_int (nomark _)) (pss_one (ps_ret (pe_lst (pC (pv 3) pa_nil)))) pss_nil)
   (pS (ps_if (pt_cmpR op_eq (pv 2) pe_int (nomark _)) (pss_one (ps_ret (pe_slice sl_list
     (pe_comp ["j"] [] [] (fun _=>compT_ok (osc:=defScope s__law_ups) (on:=nUps) (by decide +kernel) rfl rfl rfl) (pi_tup (pe_tup (pC (pv 3) (pC (pv 4) pa_nil)))) (fun C s H fp=>pg_name (i:=0) nd_j rfl (Or.inl rfl) (Or.inr rfl)) (fun C s H fp=>pts_nil) (fun C s H fp=>pv 0))
     po_none (po_some (pe_op op_add pe_int (pe_callTy call_int1 (by rfl) T.int PyProof.Rows.boot_int (pC (pe_cmpR op_ne (pv 3) (pv 4) (nomark _)) pa_nil))))))) pss_nil)
   (pS (ps_if (pt_cmpR op_eq (pv 2) pe_int (nomark _)) (pss_one (ps_ret
     (pe_comp ["j"] [] [] (fun _=>compT_ok (osc:=defScope s__law_ups) (on:=nUps) (by decide +kernel) rfl rfl rfl) (pi_tup (pe_tup (pC (pe_op op_sub (pe_op op_sub (pv 1) pe_int) (pe_op op_mod (pv 1) pe_int)) (pC (pe_op op_sub (pe_op op_sub (pv 1) pe_int) (pe_op op_mod (pv 1) pe_int)) pa_nil)))) (fun C s H fp=>pg_name (i:=0) nd_j rfl (Or.inl rfl) (Or.inr rfl))
      (fun C s H fp=>pts_one (pt_cmpR op_ge (pv 0) pe_int (nomark _))) (fun C s H fp=>pv 0)))) pss_nil)
   (pS (ps_if (pt_cmpR op_eq (pv 2) pe_int (nomark _)) (pss_one (ps_ret (pe_lst (pC (pe_op op_sub (pv 1) pe_int) pa_nil)))) pss_nil)
   (pS (ps_set (i:=5) nd rfl (Or.inr rfl) (pe_callD DT GT hr (pC (pv 0) (pC pe_int pa_nil))))
   (pss_one (ps_ret (pe_comp ["j"] ["bits"] [5] (fun _=>compT_ok (osc:=defScope s__law_ups) (on:=nUps) (by decide +kernel) rfl rfl rfl) (pi_range1 rfl T.range (pC (pv 1) pa_nil)) (fun C s H fp=>pg_name (i:=0) nd_jb rfl (Or.inl rfl) (Or.inr rfl))
    (fun C s H fp=>pts_one (PW.pt (pw_and (pt_cmpR op_lt (pv 0) pe_int (nomark _)) (pw_and1 (pt_cmpR op_eq (pe_op op_mod (pe_op op_fdiv (pv 1) (pe_ix (r:=rIxT K) ix_tup (pe_tup (pC pe_int (pC pe_int (pC pe_int (pC pe_int (pC pe_int (pC pe_int (pC pe_int (pC pe_int pa_nil))))))))) (pv 0) (fun _ _=>rfl))) pe_int) pe_int (nomark _)))))) (fun C s H fp=>pv 0))))))))))),?_⟩
  have dr:Drawn p H H:=Drawn.refl ⟨o0,hp0,ho0⟩
  refine ⟨_,rfl,rfl,_,rfl,?_⟩
  refine ite2 (fun h0=>?_) (fun h0=>?_)
  ·exact ⟨Nat.zero_le _,fun l hl=>q l [] _ (dr.new hl) uS ⟨(fun _ h=>nomatch h),List.nodup_nil,Nat.zero_le _⟩⟩
  have hk0:0<k:=by
   refine Nat.pos_of_ne_zero fun z=>h0 (decide_eq_true ?_)
   rw [z]
   rfl
  refine ⟨_,rfl,_,rfl,p,k,o0,rfl,hp0,ho0,by omega,by omega,fun one o1 h10 h11 ho1=>?_⟩
  refine ⟨_,rfl,_,rfl,p,k,o1,rfl,uS,ho1,by omega,by omega,fun oth o2 h20 h21 ho2=>?_⟩
  rw [upd_upd]
  have d2:Drawn p H (upd H p o2):=Drawn.upd ho2
  refine ⟨_,rfl,rfl,_,rfl,?_⟩
  refine ite2 (fun _=>?_) (fun _=>?_)
  ·refine ⟨_,rfl,sL (by show 1≤100000;decide),fun l hl=>q l [one.toNat] _ (d2.new hl) ?_ ⟨fun j hj=>?_,by simp,by simp⟩⟩
   ·rw [uS]
    show some (HO.lst [V.int one])=some (HO.lst [V.int ((one.toNat:Nat):Int)])
    rw [Int.toNat_of_nonneg h10]
   ·rw [List.mem_singleton.mp hj];omega
  refine ⟨_,rfl,rfl,_,rfl,?_⟩
  refine ite2 (fun _=>?_) (fun _=>?_)
  ·-- [j for j in (one,other)][:1 + int(one != other)]
   refine ⟨_,rfl,_,rfl,sL (by show 2≤100000;decide),fun t ht=>⟨t,rfl,⟨_,SqT.of uS⟩,comp_pure (runs_tup (xs:=[V.int one,V.int oth])) (sL (by show 2≤100000;decide)) (fun _=>true) (fun v=>v) (fun D ys hD=>SqT.of (by rw [upd_ne (nNo uS hD)];exact uS)) ?_ ?_ ?_⟩⟩
   ·intro D ys x R _ _ hR
    exact hR
   ·intro D ys x R _ _ _ hR
    exact ⟨_,rfl,hR⟩
   ·intro D hD
    have e2:([V.int one,V.int oth].filter fun _=>true).map (fun v=>v)=[V.int one,V.int oth]:=rfl
    rw [e2]
    have d4:Drawn p H (upd (upd (upd H p o2) t (.tup [V.int one,V.int oth])) D (.lst [V.int one,V.int oth])):=(d2.new ht).new hD
    refine ⟨_,rfl,_,rfl,rfl,.inr ⟨_,rfl,_,_,rfl,rfl,_,rfl,D,_,rfl,SqL.of uS,fun l hl=>?_⟩⟩
    by_cases he:one=oth
    ·have e3:(!decide (V.int one=V.int oth))=false:=by rw [he];simp
     rw [e3]
     refine q l [one.toNat] _ (d4.new hl) ?_ ⟨fun j hj=>by rw [List.mem_singleton.mp hj];omega,by simp,by simp⟩
     rw [uS]
     show some (HO.lst [V.int one])=some (HO.lst [V.int ((one.toNat:Nat):Int)])
     rw [Int.toNat_of_nonneg h10]
    ·have e3:(!decide (V.int one=V.int oth))=true:=by
      rw [decide_eq_false (fun z=>he (by injection z))]
      rfl
     rw [e3]
     refine q l [one.toNat,oth.toNat] _ (d4.new hl) ?_ ⟨fun j hj=>?_,?_,by simp⟩
     ·rw [uS]
      show some (HO.lst [V.int one,V.int oth])=some (HO.lst [V.int ((one.toNat:Nat):Int),V.int ((oth.toNat:Nat):Int)])
      rw [Int.toNat_of_nonneg h10,Int.toNat_of_nonneg h20]
     ·rcases List.mem_cons.mp hj with e | e
      ·rw [e];omega
      ·rw [List.mem_singleton.mp e];omega
     ·refine List.nodup_cons.mpr ⟨fun z=>he ?_,by simp⟩
      have:=List.mem_singleton.mp z
      omega
  refine ⟨_,rfl,rfl,_,rfl,?_⟩
  refine ite2 (fun _=>?_) (fun _=>?_)
  ·-- diamonds
   have hm0:=Int.emod_nonneg (k:Int) (b:=2) (by decide)
   have hm1:=Int.emod_lt_of_pos (k:Int) (b:=2) (by decide)
   refine ⟨_,rfl,_,_,rfl,rfl,_,rfl,_,_,rfl,rfl,(by show (0:Int)<2;decide),_,_,rfl,rfl,_,rfl,_,_,rfl,rfl,_,rfl,_,_,rfl,rfl,(by show (0:Int)<2;decide),_,_,rfl,rfl,sL (by show 2≤100000;decide),fun t ht=>⟨t,rfl,⟨_,SqT.of uS⟩,
    comp_pure (runs_tup (xs:=[V.int ((k:Int) - 2 - (k:Int) % 2),V.int ((k:Int) - 1 - (k:Int) % 2)])) (sL (by show 2≤100000;decide)) okJ (fun v=>v) (fun D ys hD=>SqT.of (by rw [upd_ne (nNo uS hD)];exact uS)) ?_ ?_ ?_⟩⟩
   ·intro D ys x R _ hx hR
    obtain ⟨i,rfl⟩:∃ i,x=V.int i:=by
     rcases List.mem_cons.mp hx with e | e
     ·exact ⟨_,e⟩
     ·exact ⟨_,List.mem_singleton.mp e⟩
    exact ⟨_,rfl,_,_,rfl,rfl,_,rfl,hR⟩
   ·intro D ys x R _ _ _ hR
    exact ⟨_,rfl,hR⟩
   ·intro D hD
    have d4:=(d2.new (o:=.tup [V.int ((k:Int) - 2 - (k:Int) % 2),V.int ((k:Int) - 1 - (k:Int) % 2)]) ht).new (o:=.lst (([V.int ((k:Int) - 2 - (k:Int) % 2),V.int ((k:Int) - 1 - (k:Int) % 2)].filter okJ).map fun v=>v)) hD
    by_cases h2:2≤(k:Int) - (k:Int) % 2
    ·refine q D [((k:Int) - 2 - (k:Int) % 2).toNat,((k:Int) - 1 - (k:Int) % 2).toNat] _ d4 ?_ ⟨fun j hj=>?_,?_,by simp⟩
     ·rw [uS]
      have a1:okJ (V.int ((k:Int) - 2 - (k:Int) % 2))=true:=decide_eq_true (by omega)
      have a2:okJ (V.int ((k:Int) - 1 - (k:Int) % 2))=true:=decide_eq_true (by omega)
      rw [List.filter_cons,a1,if_pos rfl,List.filter_cons,a2,if_pos rfl]
      show some (HO.lst [V.int _,V.int _])=some (HO.lst [V.int ((Int.toNat _:Nat):Int),V.int ((Int.toNat _:Nat):Int)])
      rw [Int.toNat_of_nonneg (by omega),Int.toNat_of_nonneg (by omega)]
     ·rcases List.mem_cons.mp hj with e | e
      ·rw [e];omega
      ·rw [List.mem_singleton.mp e];omega
     ·refine List.nodup_cons.mpr ⟨fun z=>?_,by simp⟩
      have:=List.mem_singleton.mp z
      omega
    ·refine q D [] _ d4 ?_ ⟨(fun _ h=>nomatch h),List.nodup_nil,Nat.zero_le _⟩
     rw [uS]
     have a1:okJ (V.int ((k:Int) - 2 - (k:Int) % 2))=false:=decide_eq_false (by omega)
     have a2:okJ (V.int ((k:Int) - 1 - (k:Int) % 2))=false:=decide_eq_false (by omega)
     rw [List.filter_cons,a1,if_neg Bool.false_ne_true,List.filter_cons,a2,if_neg Bool.false_ne_true]
     rfl
  refine ⟨_,rfl,rfl,_,rfl,?_⟩
  refine ite2 (fun _=>?_) (fun _=>?_)
  ·refine ⟨_,rfl,_,_,rfl,rfl,sL (by show 1≤100000;decide),fun l hl=>q l [k - 1] _ (d2.new hl) ?_ ⟨fun j hj=>?_,by simp,by simp⟩⟩
   ·rw [uS]
    show some (HO.lst [V.int ((k:Int) - 1)])=some (HO.lst [V.int ((k - 1:Nat):Int)])
    have:((k - 1:Nat):Int)=(k:Int) - 1:=by omega
    rw [this]
   ·rw [List.mem_singleton.mp hj];omega
  refine ⟨_,rfl,p,256,o2,rfl,uS,ho2,by decide,by decide,fun bits o3 hb0 hb1 ho3=>?_⟩
  rw [upd_upd]
  have d3:Drawn p H (upd H p o3):=Drawn.upd ho3
  refine ⟨_,rfl,(k:Int),rfl,by omega,by omega,?_⟩
  rw [show ((k:Int)).toNat=k from rfl]
  refine comp_rel runs_range (sL (by rw [rangeV_len];omega)) (bitV bits) (fun _ x v _=>v=x) (fun _ _ _ _ _ _ h=>h) (fun _ _=>trivial) ?_ ?_ ?_
  ·intro x H2 R hs hx hR
   obtain ⟨i,hi⟩:=List.mem_iff_getElem?.mp hx
   obtain ⟨hik,rfl⟩:=rangeV_get hi
   refine ⟨_,rfl,_,_,rfl,rfl,_,rfl,?_⟩
   refine ite2 (fun h8=>?_) (fun h8=>?_)
   ·have h8:(0:Int) + (i:Int)<8:=of_decide_eq_true h8
    obtain ⟨e,he,he0,he1⟩:=eight_at (j:=(0:Int) + (i:Int)) (by omega) h8
    refine ⟨_,rfl,sL (by show 8≤100000;decide),fun t ht=>⟨_,rfl,t,eight,_,_,rfl,rfl,SqT.of uS,he,_,_,rfl,rfl,⟨he0,by omega⟩,_,_,rfl,rfl,(by show (0:Int)<2;decide),rfl,_,rfl,?_⟩⟩
    have e1:bitV bits (V.int (0 + (i:Int)))=decide (V.int (bits / e % 2)=V.int 1):=by
     show (decide ((0:Int) + (i:Int)<8)&&(match atI eight (0 + (i:Int)) with | some (.int e)=>decide (bits / e % 2=1) | _=>false))=_
     rw [he,decide_eq_true h8,Bool.true_and]
     show decide (bits / e % 2=1)=_
     rw [decide_eq_decide]
     constructor
     ·intro z;rw [z]
     ·intro z;injection z
    have:=hR (upd H2 t (.tup eight)) fun b o e=>by rw [upd_ne (nNo e ht)];exact e
    rw [e1] at this
    exact this
   ·have h8:¬ ((0:Int) + (i:Int)<8):=fun z=>h8 (decide_eq_true z)
    have e1:bitV bits (V.int (0 + (i:Int)))=false:=by
     show (decide ((0:Int) + (i:Int)<8)&&_)=false
     rw [decide_eq_false h8,Bool.false_and]
    have:=hR H2 (Same.refl _)
    rw [e1] at this
    exact this
  ·intro D x H2 R hs _ _ hx _ hR
   exact ⟨_,rfl,hR x H2 (Same.refl _) rfl⟩
  ·intro D H2 ys hD hs hl hp
   have e:=paired_self hp
   subst e
   obtain ⟨js,e,hj,hnd⟩:=filt_range k (bitV bits)
   refine q D js H2 (d3.same hs) (by rw [hl,e]) ⟨fun j h=>(hj j h).1,hnd,?_⟩
   have:=Graph.nodup_le (l:=js) (k:=List.range 8) hnd fun j h=>by
    have h2:(decide ((j:Int)<8)&&_)=true:=(hj j h).2
    have h3:=(Bool.and_eq_true _ _ ▸ h2:_∧_).1
    have h4:(j:Int)<8:=of_decide_eq_true h3
    exact List.mem_range.mpr (by omega)
   simpa using this
end
end K72
namespace K72
open PySem L2 Md
def spRowsL:Sp:=fun vs H Q _=>∃ (p:Addr) (m:Nat),vs=[.ref p,.int m]∧(∃ o,H p=some o∧PotO o)∧1≤m∧m≤24 ∧
 ∀ l (rows:List (Str×List Str)) H',Drawn p H H'→H l=none→RowsAt H' l rows→Good rows→rows.length≤m→Q (.ref l) H'
def wAt (ws:List Str):V→V
 | .int j=>.str (ws.getD j.toNat "")
 | _=>.non
theorem wAt_ints (ws:List Str) (js:List Nat):(intsV js).map (wAt ws)=(js.map fun i=>ws.getD i "").map V.str:=by
 unfold intsV
 rw [List.map_map,List.map_map]
 rfl
theorem at_word {ws:List Str}{j:Nat}(h:j<ws.length):atI (ws.map V.str) (j:Int)=some (.str (ws.getD j "")):=by
 have e:(ws.map V.str)[j]?=some (V.str (ws.getD j "")):=by
  rw [List.getElem?_map,List.getD_eq_getElem?_getD,List.getElem?_eq_getElem h]
  rfl
 exact atI_nat e
theorem intsV_range (m:Nat):rangeV 0 m=intsV (List.range m):=by
 unfold rangeV intsV
 refine List.map_congr_left fun j _=>?_
 rw [Int.zero_add]
theorem all_true {α:Type}(l:List α):l.filter (fun _=>true)=l:=List.filter_eq_self.mpr fun _ _=>rfl
def UpV (ws:List Str) (H:Hp) (js:List Nat) (v:V):Prop:=∃ t,v=.ref t∧H t=some (.tup ((js.map fun i=>ws.getD i "").map V.str))
theorem UpV.mono {ws:List Str}{H H':Hp}{js:List Nat}{v:V}(h:UpV ws H js v) (k:∀ b xs,H b=some (.tup xs)→H' b=some (.tup xs)):UpV ws H' js v:=by
 obtain ⟨t,e,h⟩:=h
 exact ⟨t,e,k _ _ h⟩
theorem paired_get {α β:Type}{F:α→β→Prop}:∀ {l:List α}{k:List β},Paired F l k→∀ {i:Nat}{a:α},l[i]?=some a→∃ b,k[i]?=some b∧F a b
 | _,_,.nil,i,a,h=>by simp at h
 | _,_,.cons r t,0,a,h=>by simp at h;subst h;exact ⟨_,rfl,r⟩
 | _,_,.cons r t,i + 1,a,h=>by
  obtain ⟨b,h1,h2⟩:=paired_get t (i:=i) (a:=a) (by simpa using h)
  exact ⟨b,by simpa using h1,h2⟩
theorem keepD_of {H:Hp}{D b:Addr}{o u:HO}(hD:H D=none) (e:H b=some o):(upd H D u) b=some o:=by rw [upd_ne (nNo e hD)];exact e
theorem paired_rows {ws:List Str}{uf:List (List Nat)}{D:Addr}{H:Hp}:∀ {os:List Nat}{ys:List V},
  Paired (fun x v=>∃ (j:Nat) (t u:Addr),x=V.int (j:Int)∧v=.ref t∧t≠D∧u≠D∧H t=some (.tup [.str (ws.getD j ""),.ref u])∧H u=some (.tup (((uf.getD j []).map fun i=>ws.getD i "").map V.str))) (intsV os) ys→Paired (RowV H) (rowsOf ws uf os) ys
 | [],_,h=>by cases h;exact .nil
 | j :: os,_,h=>by
  cases h with
  | cons r t =>
   obtain ⟨i,a,u,e,rfl,_,_,h3,h4⟩:=r
   have e':(j:Int)=(i:Int):=by injection e
   have e'':j=i:=by omega
   subst e''
   exact .cons ⟨a,u,rfl,h3,h4⟩ (paired_rows t)
structure Grown (p lw lo lu:Addr) (ws:List Str) (H H':Hp) (i:Nat) (os:List Nat) (uf:List (List Nat)) (us:List V):Prop where
 d:Drawn p H H'
 w:H' lw=some (.lst (ws.map V.str))
 o:H' lo=some (.lst (intsV os))
 u:H' lu=some (.lst us)
 pu:Paired (UpV ws H') uf us
 ul:uf.length=i
 uok:∀ (k:Nat) (js:List Nat),uf[k]?=some js→UpsOk k js
 on:os.Nodup
 om:∀ j,j∈os↔j<i
 ol:os.length=i
theorem nd_jw:(["j","words"]:List Str).Nodup:=by decide +kernel
theorem nd_kwu:(["k","words","ups"]:List Str).Nodup:=by decide +kernel
structure TxtR (mg:Str→Option Value):Prop where
 range:mg "range"=none
 int:mg "int"=none
 len:mg "len"=none
 tuple:mg "tuple"=none
 list:mg "list"=none
section
variable {P:Program} {w:World} {K:W.Frag} {mg:Str→Option Value} {base:Heap}
abbrev nRows:List Str:=["pot","most","many","words","shape","order","ups","k"]
theorem scRows:FnScope nRows ["pot","most"] (defScope s__law_rows):=⟨rfl,rfl,rfl,by decide +kernel,rfl,by decide +kernel,by decide +kernel⟩
theorem ok_rowsL {f fT fU fWs fW fL:Addr}{fd fdT fdU fdWs fdW fdL:FuncData}(F:Def K mg "_law_rows" s__law_rows ["pot","most"] f fd) (DT:Def K mg "_law_take" s__law_take ["pot","many"] fT fdT) (DU:Def K mg "_law_ups" s__law_ups ["pot","k","shape"] fU fdU)
  (DWs:Def K mg "_law_words" s__law_words ["pot","many"] fWs fdWs) (DW:Def K mg "_law_word" s__law_word ["pot","words"] fW fdW) (DL:Def K mg "_law_letters" s__law_letters ["number"] fL fdL) (T:TxtR mg):FnOk P w K mg base CX0 4 f fd ["pot","most"] spRowsL:=by
 have GT:FnOk P w K mg base CX0 1 fT fdT ["pot","many"] spTake:=ok_take DT
 have GU:FnOk P w K mg base CX0 2 fU fdU ["pot","k","shape"] spUps:=ok_ups DU DT ⟨T.range,T.int⟩
 have GW:FnOk P w K mg base CX0 3 fWs fdWs ["pot","many"] spWords:=ok_words DWs DW DT DL T.len T.range
 refine F.fn.ok scRows (fun vs H Q E h=>?_) (fun cdv A outer s H vs Q E hr h=>?_)
 ·obtain ⟨p,m,rfl,_⟩:=h
  rfl
 ·obtain ⟨p,most,rfl,⟨o0,hp0,ho0⟩,hm1,hm24,q⟩:=h
  have nd:=scRows.nd
  have hr1:Room 1 _:=hr.mono (by decide)
  have hr2:Room 2 _:=hr.mono (by decide)
  refine ⟨_,pS (ps_set (i:=2) nd rfl (Or.inl rfl) (pe_op op_add pe_int (pe_callD DT GT hr1 (pC (pv 0) (pC (pv 1) pa_nil)))))
   (pS (ps_set (i:=3) nd rfl (Or.inr rfl) (pe_callD DWs GW hr (pC (pv 0) (pC (pv 2) pa_nil))))
   (pS (ps_set (i:=4) nd rfl (Or.inl rfl) (pe_callD DT GT hr1 (pC (pv 0) (pC pe_int pa_nil))))
   (pS (ps_set (i:=5) nd rfl (Or.inl rfl) (pe_lst pa_nil))
   (pS (ps_set (i:=6) nd rfl (Or.inr rfl) (pe_lst pa_nil))
   (pS (ps_for PassesOwn.never rfl (pi_range1 (by rfl) T.range (pC (pv 2) pa_nil)) (pg_name (i:=7) nd rfl (Or.inl rfl))
    (pS (ps_expr (pe_bm PySem.F.plainAttrs_list PySem.F.slot_list_append PySem.F.type_list_append mt_append (pv 6) (pC (pe_callTy call_tuple_of (by rfl) T.tuple PyProof.Rows.boot_tuple (pC
     (pe_comp ["j"] ["words"] [3] (fun _=>compT_ok (osc:=defScope s__law_rows) (on:=nRows) (by decide +kernel) rfl rfl rfl) (pi_list (pe_callD DU GU hr2 (pC (pv 0) (pC (pv 7) (pC (pv 4) pa_nil))))) (fun C s H fp=>pg_name (i:=0) nd_jw rfl (Or.inl rfl) (Or.inr rfl)) (fun C s H fp=>pts_nil)
      (fun C s H fp=>pe_ix (r:=rIxL K) ix_list (pv 1) (pv 0) (fun _ _=>rfl))) pa_nil)) pa_nil)))
    (pss_one (ps_expr (pe_bm PySem.F.plainAttrs_list PySem.F.slot_list_insert PySem.F.type_list_insert mt_insert (pv 5) (pC (pe_callD DT GT hr1 (pC (pv 0) (pC (pe_op op_add (pv 7) pe_int) pa_nil))) (pC (pv 7) pa_nil)))))))
   (pss_cut (ps_if (pt_cmpR op_eq (pe_callD DT GT hr1 (pC (pv 0) (pC pe_int pa_nil))) pe_int (nomark _)) (pss_one (ps_set (i:=5) nd rfl (Or.inl rfl) (pe_listRange rfl (pv 2) (by rfl) T.list (by rfl) T.range))) pss_nil)
   (pss_one (ps_ret (pe_comp ["k"] ["words","ups"] [3,6] (fun _=>compT_ok (osc:=defScope s__law_rows) (on:=nRows) (by decide +kernel) rfl rfl rfl) (pi_list (pv 5)) (fun C s H fp=>pg_name (i:=0) nd_kwu rfl (Or.inl rfl) (Or.inr rfl)) (fun C s H fp=>pts_nil)
    (fun C s H fp=>pe_tup (pC (pe_ix (r:=rIxL K) ix_list (pv 1) (pv 0) (fun _ _=>rfl)) (pC (pe_ix (r:=rIxL K) ix_list (pv 2) (pv 0) (fun _ _=>rfl)) pa_nil)))))))))))),?_⟩
  refine ⟨_,rfl,_,rfl,p,most,o0,rfl,hp0,ho0,by omega,by omega,fun v o1 hv0 hv1 ho1=>⟨_,_,rfl,rfl,?_⟩⟩
  have hv:(1:Int) + v=((1 + v.toNat:Nat):Int):=by omega
  have d1:Drawn p H (upd H p o1):=Drawn.upd ho1
  refine ⟨_,rfl,_,rfl,p,1 + v.toNat,(by show [V.ref p,V.int (1 + v)]=[V.ref p,V.int ((1 + v.toNat:Nat):Int)];rw [← hv]),d1.pot,by omega,fun lw ws H2 d2 hlw hw ok hwl=>?_⟩
  have hlw0:H lw=none:=by
   cases e:H lw with
   | none=>rfl
   | some o =>
    by_cases z:lw=p
    ·rw [z] at hlw
     rw [uS] at hlw
     cases hlw
    ·rw [d1.keep lw o z e] at hlw
     cases hlw
  have d12:=d1.trans d2
  obtain ⟨o2,hp2,ho2⟩:=d2.pot
  have pw:p≠lw:=ne_of hp2 hw (by
   obtain ⟨r,b,e,_⟩:=ho2
   rw [e]
   intro z
   injection z with z
   have z2:=congrArg (fun l=>l[0]?) z
   cases ws with
   | nil=>simp at z2
   | cons x r=>simp at z2)
  refine ⟨_,rfl,p,5,o2,rfl,hp2,ho2,by decide,by decide,fun sh o3 hs0 hs1 ho3=>?_⟩
  have d3:Drawn p H (upd H2 p o3):=d12.trans (Drawn.upd ho3)
  refine ⟨Nat.zero_le _,fun lo hlo=>⟨Nat.zero_le _,fun lu hlu=>?_⟩⟩
  have d5:Drawn p H (upd (upd (upd H2 p o3) lo (.lst [])) lu (.lst [])):=(d3.new hlo).new hlu
  have w5:(upd (upd (upd H2 p o3) lo (.lst [])) lu (.lst [])) lw=some (.lst (ws.map V.str)):=by
   have a1:(upd H2 p o3) lw=some (.lst (ws.map V.str)):=by rw [upd_ne (Ne.symm pw)];exact hw
   have a2:(upd (upd H2 p o3) lo (.lst [])) lw=some (.lst (ws.map V.str)):=by rw [upd_ne (nNo a1 hlo)];exact a1
   rw [upd_ne (nNo a2 hlu)];exact a2
  have o5:(upd (upd (upd H2 p o3) lo (.lst [])) lu (.lst [])) lo=some (.lst (intsV [])):=by
   rw [upd_ne (nNo uS hlu)];exact uS
  have plo:p≠lo:=nNo (show (upd H2 p o3) p=some o3 from uS) hlo
  have plu:p≠lu:=nNo (show (upd (upd H2 p o3) lo (.lst [])) p=some o3 by rw [upd_ne plo];exact uS) hlu
  have lou:lo≠lu:=nNo uS hlu
  have lwo:lw≠lo:=fun z=>by
   have a1:(upd H2 p o3) lw=some (.lst (ws.map V.str)):=by rw [upd_ne (Ne.symm pw)];exact hw
   rw [z,hlo] at a1;cases a1
  have lwu:lw≠lu:=fun z=>by
   have a1:(upd H2 p o3) lw=some (.lst (ws.map V.str)):=by rw [upd_ne (Ne.symm pw)];exact hw
   have a2:(upd (upd H2 p o3) lo (.lst [])) lw=some (.lst (ws.map V.str)):=by rw [upd_ne lwo];exact a1
   rw [z,hlu] at a2;cases a2
  have hloH:H lo=none:=by
   cases e:H lo with
   | none=>rfl
   | some o=>rw [d3.keep lo o (Ne.symm plo) e] at hlo;cases hlo
  have hluH:H lu=none:=by
   cases e:H lu with
   | none=>rfl
   | some o=>rw [(d3.new (o:=.lst []) hlo).keep lu o (Ne.symm plu) e] at hlu;cases hlu
  refine ⟨_,rfl,(1:Int) + v,rfl,by omega,by omega,?_⟩
  have hmn:((1:Int) + v).toNat=ws.length:=by omega
  rw [hmn]
  refine for_runs runs_range (fun i σ H'=>∃ (os:List Nat) (uf:List (List Nat)) (us:List V) (kv:Option V),σ=[some (.ref p),some (.int most),some (.int (1 + v)),some (.ref lw),some (.int sh),some (.ref lo),some (.ref lu),kv]∧Grown p lw lo lu ws H H' i os uf us)
   ⟨[],[],[],none,rfl,d5,w5,o5,uS,.nil,rfl,fun k js h=>by simp at h,List.nodup_nil,fun j=>by simp,rfl⟩ (fun _ _ _ _ _=>trivial) ?_ ?_
  ·rintro i x σ H' hi ⟨os,uf,us,kv,rfl,g⟩
   obtain ⟨hi,rfl⟩:=rangeV_get hi
   have hul:us.length=i:=by rw [← g.pu.length];exact g.ul
   refine ⟨_,rfl,.inl ⟨rfl,_,SqL.of g.u⟩,_,rfl,_,rfl,_,rfl,p,i,sh.toNat,by rw [Int.zero_add,Int.toNat_of_nonneg hs0];rfl,g.d.pot,by omega,fun l js H6 d6 hl uok=>⟨l,rfl,⟨_,SqL.of hl⟩,?_⟩⟩
   have w6:H6 lw=some (.lst (ws.map V.str)):=d6.keep _ _ (Ne.symm pw) g.w
   refine comp_pure (runs_list (xs:=intsV js)) (sL (by unfold intsV;rw [List.length_map];have:=uok.few;omega)) (fun _=>true) (wAt ws) (fun D ys hD=>SqL.of (by rw [upd_ne (nNo hl hD)];exact hl)) ?_ ?_ ?_
   ·intro D ys y R _ _ hR
    exact hR
   ·intro D ys y R hD hy _ hR
    obtain ⟨j,hj,rfl⟩:=List.mem_map.mp hy
    have hjl:j<ws.length:=by have:=uok.below j hj;omega
    exact ⟨_,rfl,_,rfl,lw,_,_,_,rfl,rfl,SqL.of (by rw [upd_ne (nNo w6 hD)];exact w6),at_word hjl,hR⟩
   ·intro D hD
    rw [all_true,wAt_ints]
    refine ⟨D,_,rfl,.inl ⟨SqL.of uS,fun t ht=>?_⟩⟩
    have keepDt:∀ b o,H6 b=some o→(upd (upd H6 D (.lst ((js.map fun i=>ws.getD i "").map V.str))) t (.tup ((js.map fun i=>ws.getD i "").map V.str))) b=some o:=fun b o e=>by
     have e1:(upd H6 D (.lst ((js.map fun i=>ws.getD i "").map V.str))) b=some o:=by rw [upd_ne (nNo e hD)];exact e
     rw [upd_ne (nNo e1 ht)];exact e1
    have u6:H6 lu=some (.lst us):=d6.keep _ _ (Ne.symm plu) g.u
    have o6:H6 lo=some (.lst (intsV os)):=d6.keep _ _ (Ne.symm plo) g.o
    refine ⟨lu,us,_,rfl,rfl,keepDt _ _ u6,small_lt (by omega),?_⟩
    obtain ⟨o7,hp7,ho7⟩:=d6.pot
    refine ⟨_,rfl,.inl ⟨rfl,_,SqL.of (by rw [upd_ne lou];exact keepDt _ _ o6)⟩,_,rfl,_,rfl,_,_,rfl,rfl,p,_,o7,rfl,(by rw [upd_ne plu];exact keepDt _ _ hp7),ho7,by omega,by omega,fun at_ o8 ha0 ha1 ho8=>?_⟩
    refine ⟨_,rfl,lo,intsV os,at_,_,rfl,rfl,(by rw [upd_ne (Ne.symm plo),upd_ne lou];exact keepDt _ _ o6),ha0,(by unfold intsV;rw [List.length_map,g.ol];omega),small_lt (by unfold intsV;rw [List.length_map,g.ol];omega),?_⟩
    have tlu:t≠lu:=fun z=>by rw [z] at ht;rw [keepD_of hD u6] at ht;cases ht
    have tlo:t≠lo:=fun z=>by rw [z] at ht;rw [keepD_of hD o6] at ht;cases ht
    have tp:t≠p:=fun z=>by rw [z] at ht;rw [keepD_of hD hp7] at ht;cases ht
    have all:∀ b o,b≠p→b≠lu→b≠lo→H6 b=some o→(upd (upd (upd (upd (upd H6 D (.lst ((js.map fun i=>ws.getD i "").map V.str))) t (.tup ((js.map fun i=>ws.getD i "").map V.str))) lu (.lst (us++[.ref t]))) p o8) lo (.lst ((intsV os).take at_.toNat++V.int (0 + (i:Int)):: (intsV os).drop at_.toNat))) b=some o:=fun b o h1 h2 h3 e=>by
     rw [upd_ne h3,upd_ne h1,upd_ne h2];exact keepDt _ _ e
    have tt:(upd (upd (upd (upd (upd H6 D (.lst ((js.map fun i=>ws.getD i "").map V.str))) t (.tup ((js.map fun i=>ws.getD i "").map V.str))) lu (.lst (us++[.ref t]))) p o8) lo (.lst ((intsV os).take at_.toNat++V.int (0 + (i:Int)):: (intsV os).drop at_.toNat))) t=some (.tup ((js.map fun i=>ws.getD i "").map V.str)):=by
     rw [upd_ne tlo,upd_ne tp,upd_ne tlu];exact uS
    have tups:∀ b xs,H' b=some (.tup xs)→(upd (upd (upd (upd (upd H6 D (.lst ((js.map fun i=>ws.getD i "").map V.str))) t (.tup ((js.map fun i=>ws.getD i "").map V.str))) lu (.lst (us++[.ref t]))) p o8) lo (.lst ((intsV os).take at_.toNat++V.int (0 + (i:Int)):: (intsV os).drop at_.toNat))) b=some (.tup xs):=fun b xs e=>by
     obtain ⟨oP,hP,r,b',eP,_⟩:=g.d.pot
     have bp:b≠p:=fun z=>by rw [z,hP,eP] at e;cases e
     have bu:b≠lu:=fun z=>by rw [z,g.u] at e;cases e
     have bo:b≠lo:=fun z=>by rw [z,g.o] at e;cases e
     exact all b _ bp bu bo (d6.keep b _ bp e)
    refine ⟨os.take at_.toNat++i :: os.drop at_.toNat,uf++[js],us++[.ref t],_,rfl,?_⟩
    refine ⟨⟨fun b o hb e=>?_,?_⟩,?_,?_,?_,?_,by rw [List.length_append,g.ul];rfl,?_,?_,?_,?_⟩
    ·have e6:=(g.d.trans d6).keep b o hb e
     exact all b o hb (fun z=>by rw [z,hluH] at e;cases e) (fun z=>by rw [z,hloH] at e;cases e) e6
    ·exact ⟨o8,by rw [upd_ne plo];exact uS,ho8⟩
    ·exact all lw _ (Ne.symm pw) lwu lwo w6
    ·rw [uS]
     unfold intsV
     rw [List.map_append,List.map_cons,List.map_take,List.map_drop,Int.zero_add]
    ·rw [upd_ne (Ne.symm lou),upd_ne (Ne.symm plu)];exact uS
    ·exact Paired.snoc (Paired.mapP g.pu fun a b z=>z.mono tups) ⟨t,rfl,tt⟩
    ·intro k js' hk
     by_cases hki:k<uf.length
     ·rw [List.getElem?_append_left hki] at hk
      exact g.uok k js' hk
     ·rw [List.getElem?_append_right (by omega)] at hk
      have hk0:k - uf.length=0:=by
       have:=(List.getElem?_eq_some_iff.mp hk).1
       simp at this
       omega
      rw [hk0] at hk
      have e:js=js':=by simpa using hk
      have e2:k=i:=by have:=g.ul;omega
      rw [← e,e2]
      exact uok
    ·have hperm:(os.take at_.toNat++i :: os.drop at_.toNat).Perm (i :: os):=by
      refine List.perm_middle.trans ?_
      rw [List.take_append_drop]
     exact hperm.nodup_iff.mpr (List.nodup_cons.mpr ⟨fun z=>by have:=(g.om i).mp z;omega,g.on⟩)
    ·intro j
     have hperm:(os.take at_.toNat++i :: os.drop at_.toNat).Perm (i :: os):=by
      refine List.perm_middle.trans ?_
      rw [List.take_append_drop]
     rw [hperm.mem_iff,List.mem_cons,g.om]
     omega
    ·have hperm:(os.take at_.toNat++i :: os.drop at_.toNat).Perm (i :: os):=by
      refine List.perm_middle.trans ?_
      rw [List.take_append_drop]
     rw [hperm.length_eq,List.length_cons,g.ol]
  ·rintro σ H' ⟨os,uf,us,kv,rfl,g⟩
   rw [rangeV_len] at g
   refine ⟨fun σ' H2=>∃ (lo':Addr) (os':List Nat) (kv:Option V),σ'=[some (.ref p),some (.int most),some (.int (1 + v)),some (.ref lw),some (.int sh),some (.ref lo'),some (.ref lu),kv]∧Drawn p H H2∧H2 lw=some (.lst (ws.map V.str))∧H2 lo'=some (.lst (intsV os')) ∧
    H2 lu=some (.lst us)∧Paired (UpV ws H2) uf us∧os'.Nodup∧(∀ j,j∈os'↔j<ws.length)∧os'.length=ws.length,?_,?_⟩
   ·obtain ⟨oP,hP,hoP⟩:=g.d.pot
    refine ⟨_,rfl,p,3,oP,rfl,hP,hoP,by decide,by decide,fun v3 o9 _ _ ho9=>⟨rfl,_,rfl,?_⟩⟩
    have d9:Drawn p H (upd H' p o9):=g.d.trans (Drawn.upd ho9)
    have t9:∀ b xs,H' b=some (.tup xs)→(upd H' p o9) b=some (.tup xs):=fun b xs e=>by
     obtain ⟨r,b',eP,_⟩:=hoP
     rw [upd_ne (fun z=>by rw [z,hP,eP] at e;cases e)];exact e
    refine ite2 (fun _=>?_) (fun _=>?_)
    ·refine ⟨_,rfl,(1:Int) + v,rfl,by omega,by omega,fun l hl=>?_⟩
     rw [hmn,intsV_range]
     have nn:∀ {b:Addr} {o:HO},(upd H' p o9) b=some o→(upd (upd H' p o9) l (.lst (intsV (List.range ws.length)))) b=some o:=fun {b o} e=>by rw [upd_ne (nNo e hl)];exact e
     exact ⟨l,List.range ws.length,_,rfl,d9.new hl,nn (by rw [upd_ne (Ne.symm pw)];exact g.w),uS,nn (by rw [upd_ne (Ne.symm plu)];exact g.u),Paired.mapP g.pu fun a b z=>(z.mono t9).mono fun b xs e=>nn e,List.nodup_range,fun j=>List.mem_range,by simp⟩
    ·exact ⟨lo,os,_,rfl,d9,by rw [upd_ne (Ne.symm pw)];exact g.w,by rw [upd_ne (Ne.symm plo)];exact g.o,by rw [upd_ne (Ne.symm plu)];exact g.u,Paired.mapP g.pu fun a b z=>z.mono t9,g.on,g.om,g.ol⟩
   ·rintro σ' H2 ⟨lo',os',kv',rfl,dE,wE,oE,uE,pE,on,om,ol⟩
    refine ⟨_,rfl,lo',rfl,⟨_,SqL.of oE⟩,?_⟩
    refine comp_rel (runs_list (xs:=intsV os')) (sL (by unfold intsV;rw [List.length_map];omega)) (fun _=>true)
     (fun D x v H=>∃ (j:Nat) (t u:Addr),x=.int (j:Int)∧v=.ref t∧t≠D∧u≠D∧H t=some (.tup [.str (ws.getD j ""),.ref u])∧H u=some (.tup (((uf.getD j []).map fun i=>ws.getD i "").map V.str))) ?_ ?_ ?_ ?_ ?_
    ·rintro D x v H H'' hk ⟨j,t,u,e1,e2,h1,h2,h3,h4⟩
     exact ⟨j,t,u,e1,e2,h1,h2,hk _ _ h1 h3,hk _ _ h2 h4⟩
    ·intro H3 hs
     exact hs.seq (SqL.of oE)
    ·intro x H3 R hs hx hR
     exact hR H3 (Same.refl _)
    ·intro D x H3 R hs ⟨ys,hD⟩ hD0 hx _ hR
     obtain ⟨j,hj,rfl⟩:=List.mem_map.mp hx
     have hjl:j<ws.length:=(om j).mp hj
     have huj:uf[j]?=some (uf.getD j []):=by
      have:j<uf.length:=by rw [g.ul];exact hjl
      rw [List.getD_eq_getElem?_getD,List.getElem?_eq_getElem this]
      rfl
     obtain ⟨uv,hu1,t,rfl,hu2⟩:=paired_get pE huj
     have hu3:=hs _ _ hu2
     refine ⟨_,rfl,_,rfl,lw,_,_,_,rfl,rfl,SqL.of (hs _ _ wE),at_word hjl,_,rfl,_,rfl,lu,_,_,_,rfl,rfl,SqL.of (hs _ _ uE),atI_nat hu1,sL (by show 2≤100000;decide),fun tn htn=>?_⟩
     have tD:tn≠D:=fun z=>by rw [z,hD] at htn;cases htn
     have uD:t≠D:=fun z=>by rw [z,hD] at hu3;cases hu3
     exact hR _ _ (fun b o e=>by rw [upd_ne (nNo e htn)];exact e) ⟨j,tn,t,rfl,rfl,tD,uD,uS,by rw [upd_ne (nNo hu3 htn)];exact hu3⟩
    ·intro D H3 ys hD hs hl hp
     rw [all_true] at hp
     have hDH:H D=none:=by
      cases e:H D with
      | none=>rfl
      | some o =>
       by_cases z:D=p
       ·obtain ⟨oP,hP,_⟩:=dE.pot
        rw [z,hP] at hD;cases hD
       ·rw [dE.keep D o z e] at hD;cases hD
     refine q D (rowsOf ws uf os') H3 (dE.same hs) hDH ⟨ys,hl,?_⟩ (good_of (m:=ws.length) (by omega) (by omega) ok.word ok.nd rfl (fun k js h=>⟨(g.uok k js h).below,(g.uok k js h).nd,(g.uok k js h).few⟩) g.ul on om ol) (by unfold rowsOf;rw [List.length_map];omega)
     exact paired_rows hp
end
end K72
namespace K72
open PySem L2 Md
def spIsWord:Sp:=fun vs H Q _=>∃ x:Str,vs=[.str x]∧x.length≤1000∧∀ H',Same H H'→Q (.bl (isWord x)) H'
def spCheckRows (K:W.Frag):Sp:=fun vs H Q _=>∃ (l:Addr) (rows:List (Str×List Str)),vs=[.ref l]∧RowsG K H l rows∧Good rows∧∀ H',Same H H'→Q .non H'
structure BookD (H:Hp) (d:Addr) (o:Obj) (rows:List (Str×List Str)) (kvs:List (Key×V)):Prop where
 at_:H d=some (.frz o (.dK kvs))
 ups:UpsD H rows kvs
theorem BookD.mono {H H':Hp}{d:Addr}{o:Obj}{rows:List (Str×List Str)}{kvs:List (Key×V)}(b:BookD H d o rows kvs) (s:Same H H'):BookD H' d o rows kvs:=⟨s _ _ b.at_,b.ups.mono fun _ _ e=>s _ _ e⟩
def spCheckUps:Sp:=fun vs H Q _=>∃ (d:Addr) (o:Obj) (rows:List (Str×List Str)) (kvs:List (Key×V)),vs=[.ref d]∧BookD H d o rows kvs∧Good rows∧∀ H',Same H H'→Q .non H'
def foundV (us left:List Str):V:=match us.find? (fun x=>decide (x∈left)) with | some x=>.str x | none=>.non
def spFirst (K:W.Frag):Sp:=fun vs H Q _=>∃ (a b:Addr) (us left:List Str),vs=[.ref a,.ref b]∧SqT K H a (us.map V.str)∧SqL K H b (left.map V.str)∧Q (foundV us left) H
def spEndless:Sp:=fun vs H Q _=>∃ (d:Addr) (o:Obj) (rows:List (Str×List Str)) (kvs:List (Key×V)),vs=[.ref d]∧BookD H d o rows kvs∧Good rows∧∀ l H',Same H H'→H' l=some (.lst [])→Q (.ref l) H'
def spRing:Sp:=fun vs H Q _=>∃ (d:Addr) (o:Obj) (rows:List (Str×List Str)) (kvs:List (Key×V)),vs=[.ref d]∧BookD H d o rows kvs∧Good rows∧∀ H',Same H H'→Q .non H'
structure TxtK (mg:Str→Option Value):Prop where
 letters:∃ t,mg "LETTERS"=some (.str letters t)
 most:∃ t,mg "MOST_LETTERS"=some (.int 8 t)
 kinds:∃ t,mg "MOST_KINDS"=some (.int 24 t)
 ups:∃ t,mg "MOST_UPS"=some (.int 8 t)
 len:mg "len"=none
 all:mg "all"=none
 list:mg "list"=none
 tuple:mg "tuple"=none
section
variable {P:Program} {w:World} {K:W.Frag} {mg:Str→Option Value} {base:Heap}
theorem scW:FnScope ["text"] ["text"] (defScope s_is_word):=⟨rfl,rfl,rfl,by decide +kernel,rfl,by decide +kernel,by decide +kernel⟩
theorem nd_sign:(["sign"]:List Str).Nodup:=by decide +kernel
theorem ok_isword {f:Addr}{fd:FuncData}(F:Def K mg "is_word" s_is_word ["text"] f fd) (T:TxtK mg):FnOk P w K mg base CX0 1 f fd ["text"] spIsWord:=by
 refine F.fn.ok scW (fun vs H Q E h=>?_) (fun cdv A outer s H vs Q E hr h=>?_)
 ·obtain ⟨x,rfl,_⟩:=h
  rfl
 ·obtain ⟨x,rfl,hx,k⟩:=h
  obtain ⟨t1,hl⟩:=T.letters
  obtain ⟨t2,hm⟩:=T.most
  refine ⟨_,pS (ps_if (pt_not (pt_chain op_le op_le pe_int (pe_callB call_len (by rfl) T.len PySem.boot_len (pC (pv 0) pa_nil)) (pe_glob (v:=.int 8) (by rfl) hm ⟨_,rfl⟩))) (pss_one (ps_ret pe_bl)) pss_nil)
   (pss_one (ps_ret (pe_callB (call_all rfl) (by rfl) T.all PyProof.Rows.boot_all (pC
    (pe_comp ["sign"] [] [] (fun _=>compT_ok (osc:=defScope s_is_word) (on:=["text"]) (by decide +kernel) rfl rfl rfl) (pi_str (pv 0)) (fun C s H fp=>pg_name (i:=0) nd_sign rfl (Or.inl rfl) (Or.inr rfl)) (fun C s H fp=>pts_nil)
     (fun C s H fp=>pe_cmpR op_in_str (pv 0) (pe_glob (v:=.str letters) (by rfl) hl ⟨_,rfl⟩) (by with_unfolding_all rfl))) pa_nil)))),?_⟩
  refine ⟨_,rfl,_,_,rfl,⟨sL (by omega),rfl⟩,_,_,rfl,rfl,_,rfl,?_⟩
  have no:¬ (1≤x.length∧x.length≤8)→isWord x=false:=fun h=>by unfold isWord;rw [decide_eq_false h];rfl
  have same:Same H H:=Same.refl H
  refine ite2 (fun h1=>?_) (fun h1=>?_)
  ·have h1:(1:Int)≤(x.length:Int):=of_decide_eq_true h1
   refine ⟨_,_,rfl,rfl,_,rfl,?_⟩
   refine ite2 (fun h2=>?_) (fun h2=>?_)
   ·have h2:¬ ((x.length:Int)≤8):=by simpa using h2
    have q:=k H same
    rw [no (by omega)] at q
    exact q
   ·have h2:((x.length:Int)≤8):=by simpa using h2
    refine ⟨_,rfl,_,rfl,comp_pure runs_str (by unfold signsV;rw [List.length_map,str_len];exact sL (by omega)) (fun _=>true) inLet (fun _ _ _=>trivial) ?_ ?_ ?_⟩
    ·intro D ys v R _ _ hR
     exact hR
    ·intro D ys v R _ hv _ hR
     obtain ⟨c,_,e⟩:=List.mem_map.mp hv
     subst e
     exact ⟨_,rfl,_,_,rfl,rfl,hR⟩
    ·intro D hD
     refine ⟨D,x.cps.toList.map isLow,rfl,SqL.of (by rw [← signs_low];exact uS),?_⟩
     have e:(x.cps.toList.map isLow).all id=isWord x:=by
      unfold isWord
      rw [decide_eq_true (by omega),Bool.true_and,List.all_map]
      rfl
     have q:=k (upd H D (.lst (((signsV x).filter fun _=>true).map inLet))) fun b o hb=>by rw [upd_ne (nNo hb hD)];exact hb
     rw [← e] at q
     exact q
  ·have h1:¬ ((1:Int)≤(x.length:Int)):=fun z=>h1 (decide_eq_true z)
   refine ⟨_,rfl,?_⟩
   refine iteT ?_
   have q:=k H same
   rw [no (by omega)] at q
   exact q
theorem len_seq {b:Bool}{H:Hp}{a:Addr}{xs:List V}(h:SqB K b H a xs):LenV K (.ref a) H xs.length:=by
 cases b with
 | true=>exact .inl ⟨xs,h,rfl⟩
 | false=>exact .inr ⟨xs,h,rfl⟩
theorem scCR:FnScope ["rows","seen","word","ups"] ["rows"] (defScope s_check_rows):=⟨rfl,rfl,rfl,by decide +kernel,rfl,by decide +kernel,by decide +kernel⟩
theorem ok_check_rows {f fW:Addr}{fd fdW:FuncData}(F:Def K mg "check_rows" s_check_rows ["rows"] f fd) (DW:Def K mg "is_word" s_is_word ["text"] fW fdW) (T:TxtK mg):FnOk P w K mg base CX0 2 f fd ["rows"] (spCheckRows K):=by
 have GW:FnOk P w K mg base CX0 1 fW fdW ["text"] spIsWord:=ok_isword DW T
 refine F.fn.ok scCR (fun vs H Q E h=>?_) (fun cdv A outer s H vs Q E hr h=>?_)
 ·obtain ⟨l,rows,rfl,_⟩:=h
  rfl
 ·obtain ⟨l,rows,rfl,⟨b,vs,hl,hp⟩,g,q⟩:=h
  obtain ⟨t1,hK⟩:=T.kinds
  obtain ⟨t2,hU⟩:=T.ups
  have nd:=scCR.nd
  have hu:=hu_of hr
  refine ⟨_,pS (ps_if (pt_not (pt_chain op_le op_le pe_int (pe_callB call_len (by rfl) T.len PySem.boot_len (pC (pv 0) pa_nil)) (pe_glob (v:=.int 24) (by rfl) hK ⟨_,rfl⟩))) pss_never pss_nil)
   (pS (ps_set (i:=1) nd rfl (Or.inl rfl) pe_dnewK)
   (pss_one (ps_for PassesOwn.never rfl (pi_seq (pv 0)) (pg_tup rfl (gC (pg_name (i:=2) nd rfl (Or.inl rfl)) (gC (pg_name (i:=3) nd rfl (Or.inl rfl)) pgs_nil)))
    (pS (ps_if (pt_not (pt_val (pe_callD DW GW hr (pC (pv 2) pa_nil)))) pss_never pss_nil)
    (pS (ps_if (pt_cmp (pc_din hu (pv 2) (pv 1))) pss_never pss_nil)
    (pS (ps_if (pt_cmpR op_gt (pe_callB call_len (by rfl) T.len PySem.boot_len (pC (pv 3) pa_nil)) (pe_glob (v:=.int 8) (by rfl) hU ⟨_,rfl⟩) (nomark _)) pss_never pss_nil)
    (pss_one (ps_dput hu (pv 1) (pv 2) pe_bl rfl)))))))),?_⟩
  have hvl:=hp.length
  have g1:=g.ne
  have g2:=g.le
  refine ⟨_,rfl,_,_,rfl,len_seq hl,_,_,rfl,rfl,_,rfl,?_⟩
  rw [show decide ((1:Int)≤(vs.length:Int))=true from decide_eq_true (by omega)]
  refine iteT ⟨_,_,rfl,rfl,_,rfl,?_⟩
  rw [show (decide ((vs.length:Int)≤24))=true from decide_eq_true (by omega)]
  refine iteF ?_
  intro d hd
  have s0:Same H (upd H d (.dK [])):=fun b o e=>by rw [upd_ne (nNo e hd)];exact e
  refine ⟨_,rfl,b,l,vs,rfl,hl.mono s0,for_runs runs_seq (fun i σ H'=>∃ (kvs:List (Key×V)) (a c:Option V),σ=[some (.ref l),some (.ref d),a,c]∧Same H H'∧H' d=some (.dK kvs)∧kvs.map (·.1)=(rows.take i).map fun r=>(Sum.inr r.1:Key))
   ⟨[],none,none,rfl,s0,uS,by simp⟩ (fun i σ H' _ ⟨_,_,_,_,s,_⟩=>hl.mono s) ?_ ?_⟩
  ·rintro i v σ H' hi ⟨kvs,a,c,rfl,s,hdk,hk⟩
   obtain ⟨r,hr',t,u,rfl,ht,hug⟩:=paired_at hp hi
   obtain ⟨b',hu'⟩:=hug.sq
   have hmem:r∈rows:=List.mem_of_getElem? hr'
   have hw:=g.word r hmem
   have hwl:=word_len hw
   refine ⟨t,_,rfl,s.tup ht,rfl,_,_,rfl,_,_,rfl,rfl,?_⟩
   refine ⟨_,rfl,r.1,rfl,by omega,fun H2 s2=>⟨_,rfl,?_⟩⟩
   rw [hw]
   refine iteF ?_
   have hd2:H2 d=some (.dK kvs):=s2 _ _ hdk
   refine ⟨_,rfl,_,rfl,d,_,rfl,DGet.k (k:=Sum.inr r.1) hd2,_,rfl,?_⟩
   have hnew:(Sum.inr r.1:Key)∉kvs.map (·.1):=by rw [hk];exact taken_not g.nd hr'
   rw [valV_none hnew]
   refine iteF ?_
   refine ⟨_,rfl,_,_,rfl,len_seq (hu'.mono (s.trans s2)),_,_,rfl,rfl,_,rfl,?_⟩
   rw [show decide ((8:Int)<((r.2.map V.str).length:Int))=false from decide_eq_false (by rw [List.length_map];have:=g.few r hmem;omega)]
   refine iteF ?_
   have hkl:kvs.length=(rows.take i).length:=by have:=congrArg List.length hk;simpa using this
   have hil:(rows.take i).length≤24:=by rw [List.length_take];omega
   refine ⟨_,rfl,_,rfl,d,_,rfl,DPut.k (k:=Sum.inr r.1) hd2 (small_lt (by omega)),?_⟩
   refine ⟨_,_,_,rfl,fun b o e=>?_,uS,?_⟩
   ·rw [upd_ne (nNo e hd)];exact s2 _ _ (s _ _ e)
   ·rw [putK_keys hnew,hk,List.take_add_one,hr',List.map_append]
    rfl
  ·rintro σ H' ⟨kvs,a,c,rfl,s,hdk,hk⟩
   exact q H' s
theorem scCU:FnScope ["ups_of","ups","seen","up"] ["ups_of"] (defScope s_check_ups):=⟨rfl,rfl,rfl,by decide +kernel,rfl,by decide +kernel,by decide +kernel⟩
theorem strs_at {us:List Str}{i:Nat}{v:V}(h:(us.map V.str)[i]?=some v):∃ x,us[i]?=some x∧v=.str x:=by
 rw [List.getElem?_map] at h
 obtain ⟨x,hx,e⟩:=Option.map_eq_some_iff.mp h
 exact ⟨x,hx,e.symm⟩
theorem taken_str {us:List Str}{i:Nat}{x:Str}(nd:us.Nodup) (h:us[i]?=some x):(Sum.inr x:Key)∉(us.take i).map fun y=>(Sum.inr y:Key):=by
 intro m
 obtain ⟨y,hy,e⟩:=List.mem_map.mp m
 have e:y=x:=by injection e
 subst e
 obtain ⟨j,hj,ej⟩:=List.mem_iff_getElem.mp hy
 rw [List.length_take] at hj
 rw [List.getElem_take] at ej
 have a:us[j]?=some y:=by rw [List.getElem?_eq_getElem (by omega),ej]
 have:=nodup_ix nd a h
 omega
theorem ok_check_ups {f:Addr}{fd:FuncData}(F:Def K mg "check_ups" s_check_ups ["ups_of"] f fd):FnOk P w K mg base CX0 1 f fd ["ups_of"] spCheckUps:=by
 refine F.fn.ok scCU (fun vs H Q E h=>?_) (fun cdv A outer s H vs Q E hr h=>?_)
 ·obtain ⟨d,o,rows,kvs,rfl,_⟩:=h
  rfl
 ·obtain ⟨d,o,rows,kvs,rfl,bk,g,q⟩:=h
  have nd:=scCU.nd
  have hu:=hu_of hr
  refine ⟨_,pss_one (ps_for PassesOwn.never rfl (pi_vals (pv 0)) (pg_name (i:=1) nd rfl (Or.inl rfl))
    (pS (ps_set (i:=2) nd rfl (Or.inl rfl) pe_dnewK)
    (pss_one (ps_for PassesOwn.never rfl (pi_tup (pv 1)) (pg_name (i:=3) nd rfl (Or.inl rfl))
     (pS (ps_if (pt_cmp (pc_dnotin hu (pv 3) (pv 0))) pss_never pss_nil)
     (pS (ps_if (pt_cmp (pc_din hu (pv 3) (pv 2))) pss_never pss_nil)
     (pss_one (ps_dput hu (pv 2) (pv 3) pe_bl rfl)))))))),?_⟩
  refine ⟨_,rfl,d,o,kvs,rfl,bk.at_,for_runs runs_vals (fun i σ H'=>∃ (a b c:Option V),σ=[some (.ref d),a,b,c]∧Same H H') ⟨none,none,none,rfl,Same.refl H⟩ (fun i σ H' _ ⟨_,_,_,_,s⟩=>s _ _ bk.at_) ?_ ?_⟩
  ·rintro i v σ H' hi ⟨a,b,c,rfl,s⟩
   rw [List.getElem?_map] at hi
   obtain ⟨p,hp,e⟩:=Option.map_eq_some_iff.mp hi
   obtain ⟨r,hr',hk,t,ht,htup⟩:=paired_at bk.ups hp
   have hmem:r∈rows:=List.mem_of_getElem? hr'
   subst e
   show gName 1 p.2 _ _ _
   rw [ht]
   intro sd hsd
   have s1:Same H (upd H' sd (.dK [])):=fun b o e=>by rw [upd_ne (nNo (s _ _ e) hsd)];exact s _ _ e
   have t1:(upd H' sd (.dK [])) t=some (.tup (r.2.map V.str)):=s1 _ _ htup
   refine ⟨_,rfl,t,rfl,⟨_,SqT.of t1⟩,for_runs (runs_tup (xs:=r.2.map V.str)) (fun j σ H2=>∃ (kvs':List (Key×V)) (c:Option V),σ=[some (.ref d),some (.ref t),some (.ref sd),c]∧Same H H2∧H2 sd=some (.dK kvs')∧kvs'.map (·.1)=(r.2.take j).map fun y=>(Sum.inr y:Key))
    ⟨[],_,rfl,s1,uS,by simp⟩ (fun j σ H2 _ ⟨_,_,_,s,_⟩=>SqT.of (s _ _ htup)) ?_ ?_⟩
   ·rintro j v σ H2 hj ⟨kvs',c,rfl,s2,hsd2,hk'⟩
    obtain ⟨x,hx,rfl⟩:=strs_at hj
    have xm:x∈r.2:=List.mem_of_getElem? hx
    have known:=g.known r hmem x xm
    refine ⟨_,rfl,_,rfl,d,_,rfl,DGet.f (k:=Sum.inr x) (s2 _ _ bk.at_),_,rfl,?_⟩
    obtain ⟨r2,hr2,er2⟩:=List.mem_map.mp known
    obtain ⟨t2,hv2,_⟩:=bk.ups.val g.nd hr2
    rw [← er2,hv2,er2]
    refine iteF ?_
    have hnew:(Sum.inr x:Key)∉kvs'.map (·.1):=by rw [hk'];exact taken_str (g.upnd r hmem) hx
    refine ⟨_,rfl,_,rfl,sd,_,rfl,DGet.k (k:=Sum.inr x) hsd2,_,rfl,?_⟩
    rw [valV_none hnew]
    refine iteF ?_
    have hkl:kvs'.length=(r.2.take j).length:=by have:=congrArg List.length hk';simpa using this
    have hjl:(r.2.take j).length≤8:=by rw [List.length_take];have:=g.few r hmem;omega
    have hsH:H sd=none:=s.free hsd
    refine ⟨_,rfl,_,rfl,sd,_,rfl,DPut.k (k:=Sum.inr x) hsd2 (small_lt (by omega)),_,_,rfl,fun b o e=>?_,uS,?_⟩
    ·rw [upd_ne (nNo e hsH)];exact s2 _ _ e
    ·rw [putK_keys hnew,hk',List.take_add_one,hx,List.map_append]
     rfl
   ·rintro σ H2 ⟨kvs',c,rfl,s2,hsd2,hk'⟩
    exact ⟨_,_,_,rfl,s2⟩
  ·rintro σ H' ⟨a,b,c,rfl,s⟩
   exact q H' s
theorem scFA:FnScope ["words","others","word"] ["words","others"] (defScope s_first_among):=⟨rfl,rfl,rfl,by decide +kernel,rfl,by decide +kernel,by decide +kernel⟩
theorem ok_first {f:Addr}{fd:FuncData}(F:Def K mg "first_among" s_first_among ["words","others"] f fd):FnOk P w K mg base CX0 1 f fd ["words","others"] (spFirst K):=by
 refine F.fn.ok scFA (fun vs H Q E h=>?_) (fun cdv A outer s H vs Q E hr h=>?_)
 ·obtain ⟨a,b,us,left,rfl,_⟩:=h
  rfl
 ·obtain ⟨a,b,us,left,rfl,ha,hb,q⟩:=h
  have nd:=scFA.nd
  refine ⟨_,pS (ps_for PassesOwn.never rfl (pi_tup (pv 0)) (pg_name (i:=2) nd rfl (Or.inl rfl)) (pss_one (ps_if (pt_cmpR op_in_seq (pv 2) (pv 1) (by with_unfolding_all rfl)) (pss_one (ps_ret (pv 2))) pss_nil)))
   (pss_one (ps_ret pe_non)),?_⟩
  refine ⟨_,rfl,a,rfl,⟨_,ha⟩,for_runs (runs_tup (xs:=us.map V.str)) (fun i σ H'=>H'=H∧(∃ c:Option V,σ=[some (.ref a),some (.ref b),c])∧(us.take i).find? (fun x=>decide (x∈left))=none) ⟨rfl,⟨none,rfl⟩,by simp⟩ (fun i σ H' _ ⟨e,_⟩=>by rw [e];exact ha) ?_ ?_⟩
  ·rintro i v σ H' hi ⟨rfl,⟨c,rfl⟩,hf⟩
   obtain ⟨x,hx,rfl⟩:=strs_at hi
   refine ⟨_,rfl,_,rfl,b,_,rfl,.inl hb,rfl,flat_strs left,_,rfl,?_⟩
   show if inV (.str x) (left.map V.str)=true then _ else _
   rw [in_strs]
   have split:us=us.take i++x :: us.drop (i + 1):=by
    have hlt:=(List.getElem?_eq_some_iff.mp hx).1
    have e:us[i]=x:=(List.getElem?_eq_some_iff.mp hx).2
    rw [← e,List.getElem_cons_drop hlt,List.take_append_drop]
   refine ite2 (fun h=>?_) (fun h=>?_)
   ·have fv:foundV us left=.str x:=by
     unfold foundV
     rw [split,List.find?_append,hf,List.find?_cons]
     simp only [h]
     rfl
    rw [fv] at q
    exact ⟨_,rfl,q⟩
   ·refine ⟨rfl,⟨_,rfl⟩,?_⟩
    rw [List.take_add_one,hx,List.find?_append,hf]
    have h':decide (x∈left)=false:=by simpa using h
    simp [h']
  ·rintro σ H' ⟨rfl,⟨c,rfl⟩,hf⟩
   rw [List.length_map,List.take_length] at hf
   have fv:foundV us left=.non:=by unfold foundV;rw [hf]
   rw [fv] at q
   exact q
end
end K72
namespace K72
open PySem L2 Md
def keptV (rows:List (Str×List Str)) (ls:List Str):V→Bool
 | .str x=>(upsOf rows x).any fun u=>decide (u∈ls)
 | _=>false
theorem kept_map (rows:List (Str×List Str)) (ls:List Str):((ls.map V.str).filter (keptV rows ls)).map (fun v=>v)=(Graph.kept (upsOf rows) ls).map V.str:=by
 rw [List.map_id',List.filter_map]
 rfl
theorem found_is (us ls:List Str):(!decide (foundV us ls=V.non))=us.any fun u=>decide (u∈ls):=by
 unfold foundV
 cases e:us.find? fun x=>decide (x∈ls) with
 | none =>
  have:∀ x∈us,¬ decide (x∈ls)=true:=List.find?_eq_none.mp e
  rw [Bool.eq_iff_iff]
  constructor
  ·intro h;simp at h
  ·intro h
   obtain ⟨x,hx,h1⟩:=List.any_eq_true.mp h
   exact absurd h1 (this x hx)
 | some x =>
  have h1:=List.find?_some e
  have h2:=List.mem_of_find?_eq_some e
  rw [Bool.eq_iff_iff]
  constructor
  ·intro _;exact List.any_eq_true.mpr ⟨x,h2,h1⟩
  ·intro _;rfl
section
variable {P:Program} {w:World} {K:W.Frag} {mg:Str→Option Value} {base:Heap}
abbrev nEnd:List Str:=["ups_of","left","kept"]
theorem scE:FnScope nEnd ["ups_of"] (defScope s_endless):=⟨rfl,rfl,rfl,by decide +kernel,rfl,by decide +kernel,by decide +kernel⟩
theorem nd_wul:(["word","ups_of","left"]:List Str).Nodup:=by decide +kernel
theorem word_row {rows:List (Str×List Str)}{x:Str}(h:x∈rows.map (·.1)):∃ r∈rows,r.1=x:=by
 obtain ⟨r,hr,e⟩:=List.mem_map.mp h
 exact ⟨r,hr,e⟩
theorem ok_endless {f fF:Addr}{fd fdF:FuncData}(F:Def K mg "endless" s_endless ["ups_of"] f fd) (DF:Def K mg "first_among" s_first_among ["words","others"] fF fdF) (T:TxtK mg):FnOk P w K mg base CX0 2 f fd ["ups_of"] spEndless:=by
 have GF:FnOk P w K mg base CX0 1 fF fdF ["words","others"] (spFirst K):=ok_first DF
 refine F.fn.ok scE (fun vs H Q E h=>?_) (fun cdv A outer s H vs Q E hr h=>?_)
 ·obtain ⟨d,o,rows,kvs,rfl,_⟩:=h
  rfl
 ·obtain ⟨d,o,rows,kvs,rfl,bk,g,q⟩:=h
  have nd:=scE.nd
  have hu:=hu_of hr
  refine ⟨_,pS (ps_set (i:=1) nd rfl (Or.inr rfl) (pe_callTy (call_list_keys rfl) (by rfl) T.list PyProof.Rows.boot_list (pC (pv 0) pa_nil)))
   (pss_one (ps_while PassesOwn.never (pt_val pe_bl)
    (pS (ps_setComp (k:=2) ["word"] ["ups_of","left"] [0,1] nd rfl rfl (fun _=>compT_ok (osc:=defScope s_endless) (on:=nEnd) (by decide +kernel) rfl rfl rfl) (pi_list (pv 1)) (fun C s H fp=>pg_name (i:=0) nd_wul rfl (Or.inl rfl) (Or.inr rfl))
     (fun C s H fp=>pts_one (pt_cmp (pc_notN (pe_callD DF GF hr (pC (pe_dget hu (pv 1) (pv 0) (fun _ _=>rfl)) (pC (pv 2) pa_nil)))))) (fun C s H fp=>pv 0))
    (pS (ps_if (pt_cmpR op_eq (pe_callB call_len (by rfl) T.len PySem.boot_len (pC (pv 2) pa_nil)) (pe_callB call_len (by rfl) T.len PySem.boot_len (pC (pv 1) pa_nil)) (nomark _)) (pss_one (ps_ret (pv 2))) pss_nil)
    (pss_one (ps_set (i:=1) nd rfl (Or.inr rfl) (pv 2))))))),?_⟩
  have wl:(rows.map (·.1)).length≤24:=by rw [List.length_map];exact g.le
  refine ⟨_,rfl,d,kvs,rfl,.inr ⟨o,bk.at_⟩,fun l0 hl0=>?_⟩
  refine ⟨fun m σ H'=>∃ (ll:Addr) (ls:List Str) (c:Option V),σ=[some (.ref d),some (.ref ll),c]∧Same H H'∧H' ll=some (.lst (ls.map V.str))∧(∀ x∈ls,x∈rows.map (·.1))∧ls.length≤24∧m=ls.length,
   ⟨_,l0,rows.map (·.1),none,rfl,fun b o e=>by rw [upd_ne (nNo e hl0)];exact e,by rw [uS,keysV bk.ups],fun x h=>h,wl,rfl⟩,?_⟩
  rintro m σ H' ⟨ll,ls,c,rfl,s1,hll,hsub,h24,rfl⟩
  refine ⟨true,rfl,?_⟩
  refine iteT ⟨fun σ' H2=>∃ m',m'<ls.length∧∃ (ll:Addr) (ls:List Str) (c:Option V),σ'=[some (.ref d),some (.ref ll),c]∧Same H H2∧H2 ll=some (.lst (ls.map V.str))∧(∀ x∈ls,x∈rows.map (·.1))∧ls.length≤24∧m'=ls.length,fun _ _ h=>h,?_⟩
  refine ⟨_,rfl,ll,rfl,⟨_,SqL.of hll⟩,comp_pure (runs_list (xs:=ls.map V.str)) (sL (by rw [List.length_map];omega)) (keptV rows ls) (fun v=>v) (fun D ys hD=>SqL.of (by rw [upd_ne (nNo hll hD)];exact hll)) ?_ ?_ ?_⟩
  ·intro D ys v R hD hv hR
   obtain ⟨x,hx,rfl⟩:=List.mem_map.mp hv
   obtain ⟨r,hr',rfl⟩:=word_row (hsub x hx)
   obtain ⟨t,hvt,ht⟩:=bk.ups.val g.nd hr'
   have kp:∀ b o,H b=some o→(upd H' D (.lst ys)) b=some o:=fun b o e=>by rw [upd_ne (nNo (s1 _ _ e) hD)];exact s1 _ _ e
   refine ⟨_,rfl,_,rfl,d,_,rfl,(by rw [← hvt];exact DGet.f (k:=Sum.inr r.1) (kp _ _ bk.at_)),_,rfl,t,ll,r.2,ls,rfl,SqT.of (kp _ _ ht),SqL.of (by rw [upd_ne (nNo hll hD)];exact hll),_,rfl,?_⟩
   have e:(!decide (foundV r.2 ls=V.non))=keptV rows ls (V.str r.1):=by
    rw [found_is]
    show _=(upsOf rows r.1).any _
    rw [upsOf_at g.nd hr']
   rw [e]
   exact hR
  ·intro D ys v R hD hv _ hR
   exact ⟨_,rfl,hR⟩
  ·intro D hD
   rw [kept_map]
   have hDl:(upd H' D (.lst ((Graph.kept (upsOf rows) ls).map V.str))) ll=some (.lst (ls.map V.str)):=by rw [upd_ne (nNo hll hD)];exact hll
   have s2:Same H (upd H' D (.lst ((Graph.kept (upsOf rows) ls).map V.str))):=fun b o e=>by rw [upd_ne (nNo (s1 _ _ e) hD)];exact s1 _ _ e
   refine ⟨_,rfl,_,_,rfl,.inl ⟨_,SqL.of uS,rfl⟩,_,rfl,_,_,rfl,.inl ⟨_,SqL.of hDl,rfl⟩,rfl,_,rfl,?_⟩
   have kle:=Graph.kept_le (upsOf rows) ls
   refine ite2 (fun h=>?_) (fun h=>?_)
   ·have h:(Graph.kept (upsOf rows) ls).length=ls.length:=by
     have:=of_decide_eq_true h
     injection this with this
     rw [List.length_map,List.length_map] at this
     omega
    obtain ⟨rk,hrk⟩:=g.rank
    have nil:ls=[]:=Graph.kept_nil (rk:=rk) (fun a ha b hb=>by
     obtain ⟨r,hr',rfl⟩:=word_row (hsub a ha)
     rw [upsOf_at g.nd hr'] at hb
     exact hrk r hr' b hb) h
    have kn:Graph.kept (upsOf rows) ls=[]:=by rw [nil];rfl
    refine ⟨_,rfl,q D _ s2 ?_⟩
    rw [uS,kn]
    rfl
   ·have h:(Graph.kept (upsOf rows) ls).length≠ls.length:=fun z=>h (decide_eq_true (by rw [List.length_map,List.length_map,z]))
    exact ⟨_,rfl,_,by omega,D,_,_,rfl,s2,uS,fun x hx=>hsub x (Graph.kept_sub hx),by omega,rfl⟩
theorem scR:FnScope ["ups_of","left","way","here"] ["ups_of"] (defScope s_find_ring):=⟨rfl,rfl,rfl,by decide +kernel,rfl,by decide +kernel,by decide +kernel⟩
theorem ok_ring {f fE fF:Addr}{fd fdE fdF:FuncData}(F:Def K mg "find_ring" s_find_ring ["ups_of"] f fd) (DE:Def K mg "endless" s_endless ["ups_of"] fE fdE) (DF:Def K mg "first_among" s_first_among ["words","others"] fF fdF) (T:TxtK mg):FnOk P w K mg base CX0 3 f fd ["ups_of"] spRing:=by
 have GE:FnOk P w K mg base CX0 2 fE fdE ["ups_of"] spEndless:=ok_endless DE DF T
 refine F.fn.ok scR (fun vs H Q E h=>?_) (fun cdv A outer s H vs Q E hr h=>?_)
 ·obtain ⟨d,o,rows,kvs,rfl,_⟩:=h
  rfl
 ·obtain ⟨d,o,rows,kvs,rfl,bk,g,q⟩:=h
  have nd:=scR.nd
  refine ⟨_,pS (ps_set (i:=1) nd rfl (Or.inl rfl) (pe_callD DE GE hr (pC (pv 0) pa_nil)))
   (pS (ps_if (pt_not (pt_truth (pv 1) (fun _=>rfl))) (pss_one (ps_ret pe_non)) pss_nil) pss_never),?_⟩
  refine ⟨_,rfl,d,o,rows,kvs,rfl,bk,g,fun l H' s1 hl=>?_⟩
  exact ⟨_,rfl,false,.inl ⟨[],SqL.of hl,rfl⟩,iteT (q H' s1)⟩
def inK (x:Str):Key:=Sum.inr x
def spAbove:Sp:=fun vs H Q _=>∃ (d:Addr) (o:Obj) (rows:List (Str×List Str)) (kvs:List (Key×V)) (x:Str),vs=[.ref d,.str x]∧BookD H d o rows kvs∧Good rows∧x∈rows.map (·.1) ∧
 ∀ a o' fk H',H a=none→Same H H'→H' a=some (.frz o' (.dK fk))→(∀ y,(Sum.inr y:Key)∈fk.map (·.1)↔Graph.Reach (upsOf rows) x y)→Q (.ref a) H'
structure Going (rows:List (Str×List Str)) (x:Str) (fs ws:List Str):Prop where
 start:x∈fs
 sub:∀ y∈ws,y∈fs
 known:∀ y∈fs,y∈rows.map (·.1)
 nd:fs.Nodup
 reach:∀ y∈fs,Graph.Reach (upsOf rows) x y
 closed:∀ y∈fs,y∉ws→∀ u∈upsOf rows y,u∈fs
 few:ws.length≤fs.length
theorem scA:FnScope ["ups_of","word","found","waiting","here","up"] ["ups_of","word"] (defScope s_all_above):=⟨rfl,rfl,rfl,by decide +kernel,rfl,by decide +kernel,by decide +kernel⟩
theorem keys_strs {fk:List (Key×V)}{fs:List Str}(h:fk.map (·.1)=fs.map inK) (y:Str):(Sum.inr y:Key)∈fk.map (·.1)↔y∈fs:=by
 rw [h]
 constructor
 ·intro m
  obtain ⟨z,hz,e⟩:=List.mem_map.mp m
  have e:z=y:=by
   unfold inK at e
   injection e
  rw [← e];exact hz
 ·intro m
  exact List.mem_map.mpr ⟨y,m,rfl⟩
theorem some_of_key {fk:List (Key×V)}{k:Key}(h:k∈fk.map (·.1)):(valV fk k).isSome=true:=by
 cases e:valV fk k with
 | none=>exact absurd h (valV_not e)
 | some v=>rfl
theorem ok_above {f:Addr}{fd:FuncData}(F:Def K mg "all_above" s_all_above ["ups_of","word"] f fd):FnOk P w K mg base CX0 1 f fd ["ups_of","word"] spAbove:=by
 refine F.fn.ok scA (fun vs H Q E h=>?_) (fun cdv A outer s H vs Q E hr h=>?_)
 ·obtain ⟨d,o,rows,kvs,x,rfl,_⟩:=h
  rfl
 ·obtain ⟨d,o,rows,kvs,x,rfl,bk,g,hx,q⟩:=h
  have nd:=scA.nd
  have hu:=hu_of hr
  refine ⟨_,pS (ps_set (i:=2) nd rfl (Or.inl rfl) (pe_disp (pps_cons (pv 1) pe_bl pps_nil) rfl rfl (by simp) (by show 1≤15;decide)))
   (pS (ps_set (i:=3) nd rfl (Or.inl rfl) (pe_lst (pC (pv 1) pa_nil)))
   (pS (ps_while PassesOwn.never (pt_truth (pv 3) (fun _=>rfl))
    (pS (ps_set (i:=4) nd rfl (Or.inl rfl) (pe_bm0 PySem.F.plainAttrs_list PySem.F.slot_list_pop PySem.F.type_list_pop mt_pop (pv 3)))
    (pss_one (ps_for PassesOwn.never rfl (pi_tup (pe_dget hu (pv 0) (pv 4) (fun _ _=>rfl))) (pg_name (i:=5) nd rfl (Or.inl rfl))
     (pss_one (ps_if (pt_cmp (pc_dnotin hu (pv 5) (pv 2))) (pS (ps_dput hu (pv 2) (pv 5) pe_bl rfl)
      (pss_one (ps_expr (pe_bm PySem.F.plainAttrs_list PySem.F.slot_list_append PySem.F.type_list_append mt_append (pv 3) (pC (pv 5) pa_nil))))) pss_nil))))))
   (pss_frz (pss_one (ps_ret (pv 2)))))),?_⟩
  intro fa hfa
  refine ⟨_,rfl,uS,[(Sum.inr x,.bl true)],rfl,(by show 1≤15;decide),?_⟩
  rw [upd_upd]
  refine ⟨_,rfl,sL (by show 1≤100000;decide),fun wa hwa=>?_⟩
  have fw:fa≠wa:=nNo uS hwa
  have hwaH:H wa=none:=by
   cases e:H wa with
   | none=>rfl
   | some u=>rw [upd_ne (Ne.symm fw),e] at hwa;cases hwa
  have bound:∀ {fs ws:List Str},Going rows x fs ws→fs.length≤rows.length:=fun {fs ws} h=>by
   have:=Graph.nodup_le h.nd h.known
   rwa [List.length_map] at this
  have gle:=g.le
  refine ⟨fun m σ H'=>∃ (fs ws:List Str) (fk:List (Key×V)) (a b:Option V),σ=[some (.ref d),some (.str x),some (.ref fa),some (.ref wa),a,b]∧Same H H'∧H' fa=some (.dK fk)∧fk.map (·.1)=fs.map inK∧H' wa=some (.lst (ws.map V.str))∧Going rows x fs ws∧m + 2 * fs.length=2 * rows.length + ws.length,
   ⟨2 * rows.length - 1,[x],[x],[(Sum.inr x,.bl true)],none,none,rfl,fun b o e=>by rw [upd_ne (nNo e hwaH),upd_ne (nNo e hfa)];exact e,by rw [upd_ne fw];exact uS,rfl,uS,
    ⟨by simp,fun y h=>h,fun y h=>by rw [List.mem_singleton.mp h];exact hx,by simp,fun y h=>by rw [List.mem_singleton.mp h];exact .refl x,fun y h n=>absurd h n,Nat.le_refl _⟩,by have:=g.ne;simp;omega⟩,?_⟩
  rintro m σ H' ⟨fs,ws,fk,a,b,rfl,s1,hf,hk,hw,go,hm⟩
  have flen:=bound go
  refine ⟨_,rfl,_,.inl ⟨_,SqL.of hw,rfl⟩,?_⟩
  refine ite2 (fun hne=>?_) (fun hne=>?_)
  ·-- here=waiting.pop()
   have wne:ws≠[]:=by
    intro z
    rw [z] at hne
    cases hne
   have hpos:0<ws.length:=List.length_pos_iff.mpr wne
   have split:ws=ws.dropLast++[ws.getLast wne]:=(List.dropLast_concat_getLast wne).symm
   generalize hhere:ws.getLast wne=here at split
   have hmem:here∈ws:=by rw [split];simp
   have hfs:here∈fs:=go.sub here hmem
   obtain ⟨r,hr',er⟩:=word_row (go.known here hfs)
   obtain ⟨t,hvt,ht⟩:=bk.ups.val g.nd hr'
   have last:(ws.map V.str)[(ws.map V.str).length - 1]?=some (V.str here):=by
    rw [List.getElem?_map,List.length_map]
    have:ws[ws.length - 1]?=some here:=by
     rw [← hhere,List.getLast_eq_getElem,List.getElem?_eq_getElem (by omega)]
    rw [this]
    rfl
   refine ⟨fun σ' H2=>∃ m',m'<m∧∃ (fs ws:List Str) (fk:List (Key×V)) (a b:Option V),σ'=[some (.ref d),some (.str x),some (.ref fa),some (.ref wa),a,b]∧Same H H2∧H2 fa=some (.dK fk)∧fk.map (·.1)=fs.map inK∧H2 wa=some (.lst (ws.map V.str))∧Going rows x fs ws∧m' + 2 * fs.length=2 * rows.length + ws.length,fun _ _ h=>h,?_⟩
   refine ⟨_,rfl,.inl ⟨rfl,_,SqL.of hw⟩,wa,_,_,rfl,rfl,hw,last,?_⟩
   have s2:Same H (upd H' wa (.lst (ws.map V.str).dropLast)):=fun b o e=>by rw [upd_ne (nNo e hwaH)];exact s1 _ _ e
   refine ⟨_,rfl,_,rfl,d,_,rfl,(by rw [← hvt,er];exact DGet.f (k:=Sum.inr here) (s2 _ _ bk.at_)),t,rfl,⟨_,SqT.of (s2 _ _ ht)⟩,?_⟩
   have uo:upsOf rows here=r.2:=by rw [← er];exact upsOf_at g.nd hr'
   refine for_runs (runs_tup (xs:=r.2.map V.str)) (fun j σ H2=>∃ (fs' ws':List Str) (fk':List (Key×V)) (b:Option V),σ=[some (.ref d),some (.str x),some (.ref fa),some (.ref wa),some (.str here),b]∧Same H H2∧H2 fa=some (.dK fk')∧fk'.map (·.1)=fs'.map inK∧H2 wa=some (.lst (ws'.map V.str)) ∧
    (∀ y∈fs,y∈fs')∧(∀ y∈ws.dropLast,y∈ws')∧(∀ y∈ws',y∈fs')∧(∀ y∈fs',y∈rows.map (·.1))∧fs'.Nodup∧(∀ y∈fs',Graph.Reach (upsOf rows) x y)∧(∀ y∈fs',y∈fs∨y∈ws')∧(∀ u∈r.2.take j,u∈fs')∧ws'.length + 2 * fs.length + fs'.length≤ws.dropLast.length + 2 * fs'.length + fs.length)
    ⟨fs,ws.dropLast,fk,_,rfl,s2,by rw [upd_ne fw];exact hf,hk,by rw [uS,List.map_dropLast],fun y h=>h,fun y h=>h,fun y h=>go.sub y ((List.dropLast_sublist ws).subset h),go.known,go.nd,go.reach,fun y h=>.inl h,fun u h=>by simp at h,by omega⟩ (fun j σ H2 _ ⟨_,_,_,_,_,s,_⟩=>SqT.of (s _ _ ht)) ?_ ?_
   ·rintro j v σ H2 hj ⟨fs',ws',fk',b,rfl,s3,hf3,hk3,hw3,c1,c2,c3,c4,c5,c6,c7,c8,c9⟩
    obtain ⟨u,hu',rfl⟩:=strs_at hj
    have um:u∈r.2:=List.mem_of_getElem? hu'
    have fl3:fs'.length≤rows.length:=by
     have:=Graph.nodup_le c5 c4
     rwa [List.length_map] at this
    have kl:fk'.length=fs'.length:=by have:=congrArg List.length hk3;simpa using this
    refine ⟨_,rfl,_,rfl,fa,_,rfl,DGet.k (k:=Sum.inr u) hf3,_,rfl,?_⟩
    have dl:ws.dropLast.length=ws.length - 1:=List.length_dropLast
    have gf:=go.few
    by_cases nin:u∉fs'
    ·have nk:(Sum.inr u:Key)∉fk'.map (·.1):=fun z=>nin ((keys_strs hk3 u).mp z)
     have wl3:ws'.length≤rows.length * 3:=by omega
     rw [valV_none nk]
     refine iteT ?_
     refine ⟨_,rfl,_,rfl,fa,_,rfl,DPut.k (k:=Sum.inr u) hf3 (small_lt (by omega)),?_⟩
     have hw4:(upd H2 fa (.dK (putK fk' (Sum.inr u) (.bl true)))) wa=some (.lst (ws'.map V.str)):=by rw [upd_ne (Ne.symm fw)];exact hw3
     refine ⟨_,rfl,.inl ⟨rfl,_,SqL.of hw4⟩,_,rfl,wa,_,_,rfl,rfl,hw4,small_lt (by rw [List.length_map];omega),?_⟩
     refine ⟨fs'++[u],ws'++[u],putK fk' (Sum.inr u) (.bl true),_,rfl,fun b o e=>by rw [upd_ne (nNo e hwaH),upd_ne (nNo e hfa)];exact s3 _ _ e,by rw [upd_ne fw];exact uS,?_,by rw [uS,List.map_append];rfl,fun y h=>List.mem_append_left _ (c1 y h),fun y h=>List.mem_append_left _ (c2 y h),fun y h=>?_,fun y h=>?_,?_,fun y h=>?_,fun y h=>?_,fun y h=>?_,?_⟩
     ·rw [putK_keys nk,hk3,List.map_append]
      rfl
     ·rcases List.mem_append.mp h with h | h
      ·exact List.mem_append_left _ (c3 y h)
      ·exact List.mem_append_right _ h
     ·rcases List.mem_append.mp h with h | h
      ·exact c4 y h
      ·rw [List.mem_singleton.mp h];exact g.known r hr' u um
     ·rw [List.nodup_append]
      exact ⟨c5,by simp,fun a ha b hb e=>nin (by rw [← List.mem_singleton.mp hb,← e];exact ha)⟩
     ·rcases List.mem_append.mp h with h | h
      ·exact c6 y h
      ·rw [List.mem_singleton.mp h];exact (go.reach here hfs).snoc (by rw [uo];exact um)
     ·rcases List.mem_append.mp h with h | h
      ·rcases c7 y h with h | h
       ·exact .inl h
       ·exact .inr (List.mem_append_left _ h)
      ·exact .inr (List.mem_append_right _ h)
     ·rw [List.take_add_one,hu'] at h
      rcases List.mem_append.mp h with h | h
      ·exact List.mem_append_left _ (c8 y h)
      ·have:y=u:=by simpa using h
       rw [this];exact List.mem_append_right _ (by simp)
     ·rw [List.length_append,List.length_append]
      simp only [List.length_singleton]
      omega
    ·have yin:u∈fs':=Classical.byContradiction nin
     rw [some_of_key ((keys_strs hk3 u).mpr yin)]
     refine iteF ?_
     refine ⟨fs',ws',fk',_,rfl,s3,hf3,hk3,hw3,c1,c2,c3,c4,c5,c6,c7,fun y h=>?_,c9⟩
     rw [List.take_add_one,hu'] at h
     rcases List.mem_append.mp h with h | h
     ·exact c8 y h
     ·have:y=u:=by simpa using h
      rw [this];exact yin
   ·rintro σ H2 ⟨fs',ws',fk',b,rfl,s3,hf3,hk3,hw3,c1,c2,c3,c4,c5,c6,c7,c8,c9⟩
    rw [List.length_map,List.take_length] at c8
    have fl3:fs'.length≤rows.length:=by
     have:=Graph.nodup_le c5 c4
     rwa [List.length_map] at this
    have dl:ws.dropLast.length=ws.length - 1:=List.length_dropLast
    have fle:fs.length≤fs'.length:=Graph.nodup_le go.nd c1
    have gf:=go.few
    refine ⟨2 * rows.length + ws'.length - 2 * fs'.length,by omega,fs',ws',fk',_,_,rfl,s3,hf3,hk3,hw3,⟨c1 x go.start,c3,c4,c5,c6,fun y hy hn u hu'=>?_,by omega⟩,by omega⟩
    rcases c7 y hy with hy' | hy'
    ·by_cases yh:y=here
     ·rw [yh,uo] at hu'
      exact c8 u hu'
     ·have nw:y∉ws:=fun z=>by
       rw [split] at z
       rcases List.mem_append.mp z with z | z
       ·exact hn (c2 y z)
       ·exact yh (List.mem_singleton.mp z)
      exact c1 u (go.closed y hy' nw u hu')
    ·exact absurd hy' hn
  ·have wnil:ws=[]:=by
    cases ws with
    | nil=>rfl
    | cons y r=>exact absurd rfl hne
   refine ⟨fa,fk,hf,fun o'=>⟨_,rfl,q fa o' fk _ hfa (fun b o e=>by rw [upd_ne (nNo e hfa)];exact s1 _ _ e) uS fun y=>?_⟩⟩
   rw [keys_strs hk y]
   constructor
   ·exact fun h=>go.reach y h
   ·intro h
    refine Graph.closed_reach (S:=fun y=>y∈fs) (fun y hy u hu'=>go.closed y hy (by rw [wnil];simp) u hu') h go.start
end
end K72
namespace K72
open PySem L2 Md
theorem fne:¬ (("ups_of":Str)="above_of"):=by decide +kernel
def flds (d a:Addr):List (Str×V):=putF "above_of" (.ref a) (putF "ups_of" (.ref d) [])
theorem flds_u (d a:Addr):(flds d a).lookup ("ups_of":Str)=some (.ref d):=by
 unfold flds
 rw [lookup_putF,if_neg fne,lookup_putF,if_pos rfl]
theorem flds_no (d a:Addr) {m:Str} (h1:¬ m="above_of") (h2:¬ m="ups_of"):(flds d a).lookup m=none:=by
 unfold flds
 rw [lookup_putF,if_neg h1,lookup_putF,if_neg h2]
 rfl
def AboveD (H:Hp) (all rows:List (Str×List Str)) (avs:List (Key×V)):Prop :=
 Paired (fun r (p:Key×V)=>p.1=Sum.inr r.1∧∃ t o' fk,p.2=.ref t∧H t=some (.frz o' (.dK fk))∧∀ y,(Sum.inr y:Key)∈fk.map (·.1)↔Graph.Reach (upsOf all) r.1 y) rows avs
theorem AboveD.mono {H H':Hp}{all rows:List (Str×List Str)}{avs:List (Key×V)}(h:AboveD H all rows avs) (s:∀ b o' fk,H b=some (.frz o' (.dK fk))→H' b=some (.frz o' (.dK fk))):AboveD H' all rows avs :=
 Paired.mapP h fun _ _ z=>⟨z.1,let ⟨t,o',fk,e,x,y⟩:=z.2;⟨t,o',fk,e,s _ _ _ x,y⟩⟩
theorem AboveD.keys:∀ {H:Hp}{all rows:List (Str×List Str)}{kvs:List (Key×V)},AboveD H all rows kvs→kvs.map (·.1)=rows.map fun r=>(Sum.inr r.1:Key)
 | _,_,_,_,.nil=>rfl
 | _,_,_,_,.cons r t=>by rw [List.map_cons,List.map_cons,r.1,AboveD.keys t]
structure KindsAt (C:Addr) (H:Hp) (p:Addr) (rows:List (Str×List Str)):Prop where
 ex:∃ (dx d a:Addr) (o oa:Obj) (kvs avs:List (Key×V)),H p=some (.ins C dx (flds d a))∧BookD H d o rows kvs∧H a=some (.frz oa (.dK avs))∧AboveD H rows rows avs
theorem KindsAt.mono {C:Addr}{H H':Hp}{p:Addr}{rows:List (Str×List Str)}(h:KindsAt C H p rows) (s:Same H H'):KindsAt C H' p rows:=by
 obtain ⟨dx,d,a,o,oa,kvs,avs,h1,h2,h3,h4⟩:=h.ex
 exact ⟨dx,d,a,o,oa,kvs,avs,s _ _ h1,h2.mono s,s _ _ h3,h4.mono fun _ _ _ e=>s _ _ e⟩
structure TxtC (K:W.Frag) (C:Addr):Prop where
 cl:Cls K C
 nU:NoAttr K C "ups_of"
 nA:NoAttr K C "above_of"
structure MDef (K:W.Frag) (C:Addr) (m qual:Str) (st:Stmt) (ps:List Str) (f:Addr) (fd:FuncData):Prop where
 fn:Fun K m qual st f fd
 b:Binds K fd ps []
 me:Meth K C m f
def spInit (K:W.Frag) (C:Addr):Sp:=fun vs H Q _=>∃ (p dx l:Addr) (rows:List (Str×List Str)),vs=[.ref p,.ref l]∧H p=some (.ins C dx [])∧RowsG K H l rows∧Good rows ∧
 ∀ H',KindsAt C H' p rows→(∀ b o,b≠p→H b=some o→H' b=some o)→Q .non H'
def spHas (C:Addr):Sp:=fun vs H Q _=>∃ (p:Addr) (rows:List (Str×List Str)) (x:Str),vs=[.ref p,.str x]∧KindsAt C H p rows∧Good rows∧Q (.bl (decide (x∈rows.map (·.1)))) H
section
variable {P:Program} {w:World} {K:W.Frag} {mg:Str→Option Value} {base:Heap}
theorem scI:FnScope ["self","rows","ups_of","word","ups","ring","above_of"] ["self","rows"] (defScope s_Kinds___init__):=⟨rfl,rfl,rfl,by decide +kernel,rfl,by decide +kernel,by decide +kernel⟩
theorem ok_init {f C f1 f2 f3 f4 f5 f6 f7:Addr}{fd d1 d2 d3 d4 d5 d6 d7:FuncData}(F:Fun K "__init__" "Kinds.__init__" s_Kinds___init__ f fd) (T:TxtK mg) (TC:TxtC K C) (D1:Def K mg "check_rows" s_check_rows ["rows"] f1 d1) (D2:Def K mg "is_word" s_is_word ["text"] f2 d2)
  (D3:Def K mg "check_ups" s_check_ups ["ups_of"] f3 d3) (D4:Def K mg "find_ring" s_find_ring ["ups_of"] f4 d4) (D5:Def K mg "endless" s_endless ["ups_of"] f5 d5) (D6:Def K mg "first_among" s_first_among ["words","others"] f6 d6) (D7:Def K mg "all_above" s_all_above ["ups_of","word"] f7 d7):
  FnOk P w K mg base CX0 4 f fd ["self","rows"] (spInit K C):=by
 have G1:FnOk P w K mg base CX0 2 f1 d1 ["rows"] (spCheckRows K):=ok_check_rows D1 D2 T
 have G3:FnOk P w K mg base CX0 1 f3 d3 ["ups_of"] spCheckUps:=ok_check_ups D3
 have G4:FnOk P w K mg base CX0 3 f4 d4 ["ups_of"] spRing:=ok_ring D4 D5 D6 T
 have G7:FnOk P w K mg base CX0 1 f7 d7 ["ups_of","word"] spAbove:=ok_above D7
 refine F.ok scI (fun vs H Q E h=>?_) (fun cdv A outer s H vs Q E hr h=>?_)
 ·obtain ⟨p,dx,l,rows,rfl,_⟩:=h
  rfl
 ·obtain ⟨p,dx,l,rows,rfl,hp,hR,g,q⟩:=h
  have nd:=scI.nd
  have hu:=hu_of hr
  have hr1:Room 1 _:=hr.mono (by decide)
  have hr2:Room 2 _:=hr.mono (by decide)
  refine ⟨_,pS (ps_expr (pe_callD D1 G1 hr2 (pC (pv 1) pa_nil)))
   (pS (ps_set (i:=2) nd rfl (Or.inl rfl) pe_dnewK)
   (pS (ps_for PassesOwn.never rfl (pi_seq (pv 1)) (pg_tup rfl (gC (pg_name (i:=3) nd rfl (Or.inl rfl)) (gC (pg_name (i:=4) nd rfl (Or.inl rfl)) pgs_nil)))
    (pss_one (ps_dput hu (pv 2) (pv 3) (pe_callTy call_tuple_of (by rfl) T.tuple PyProof.Rows.boot_tuple (pC (pv 4) pa_nil)) rfl)))
   (pss_frz (pS (ps_expr (pe_callD D3 G3 hr1 (pC (pv 2) pa_nil)))
   (pS (ps_set (i:=5) nd rfl (Or.inl rfl) (pe_callD D4 G4 hr (pC (pv 2) pa_nil)))
   (pS (ps_if (pt_cmp (pc_notN (pv 5))) pss_never pss_nil)
   (pS (ps_set (i:=6) nd rfl (Or.inl rfl) pe_dnewK)
   (pS (ps_for PassesOwn.never rfl (pi_keys (pv 2)) (pg_name (i:=3) nd rfl (Or.inl rfl)) (pss_one (ps_dput hu (pv 6) (pv 3) (pe_callD D7 G7 hr1 (pC (pv 2) (pC (pv 3) pa_nil))) rfl)))
   (pss_frz (pS (ps_fld (pv 0) (pv 2) rfl) (pss_one (ps_fld (pv 0) (pv 6) rfl)))))))))))),?_⟩
  refine ⟨_,rfl,l,rows,rfl,hR,g,fun H1 s1=>?_⟩
  intro d hd
  have s2:Same H (upd H1 d (.dK [])):=fun b o e=>by rw [upd_ne (nNo (s1 _ _ e) hd)];exact s1 _ _ e
  obtain ⟨b,vs,hl,hpr⟩:=hR
  refine ⟨_,rfl,b,l,vs,rfl,hl.mono s2,for_runs runs_seq (fun i σ H'=>∃ (kvs:List (Key×V)) (a c:Option V),σ=[some (.ref p),some (.ref l),some (.ref d),a,c,none,none]∧Same H H'∧H' d=some (.dK kvs)∧UpsD H' (rows.take i) kvs)
   ⟨[],none,none,rfl,s2,uS,by rw [List.take_zero];exact .nil⟩ (fun i σ H' _ ⟨_,_,_,_,s,_⟩=>hl.mono s) ?_ ?_⟩
  ·rintro i v σ H' hi ⟨kvs,a,c,rfl,s3,hdk,hU⟩
   obtain ⟨r,hr',t,u,rfl,ht,hug⟩:=paired_at hpr hi
   have dH:H d=none:=s1.free hd
   refine ⟨t,_,rfl,s3.tup ht,rfl,_,_,rfl,_,_,rfl,rfl,?_⟩
   have hnew:(Sum.inr r.1:Key)∉kvs.map (·.1):=by rw [hU.keys];exact taken_not g.nd hr'
   have hil:(rows.take i).length≤24:=by rw [List.length_take];have:=g.le;omega
   have hkl:kvs.length=(rows.take i).length:=(Paired.length hU).symm
   have fin:∀ (t2:Addr) (H2:Hp),Same H' H2→H2 t2=some (.tup (r.2.map V.str))→∃ (kvs':List (Key×V)) (a c:Option V),[some (V.ref p),some (V.ref l),some (V.ref d),some (V.str r.1),some (V.ref u),none,none]=[some (V.ref p),some (V.ref l),some (V.ref d),a,c,none,none]∧Same H (upd H2 d (.dK (putK kvs (Sum.inr r.1) (.ref t2)))) ∧
     (upd H2 d (.dK (putK kvs (Sum.inr r.1) (.ref t2)))) d=some (.dK kvs')∧UpsD (upd H2 d (.dK (putK kvs (Sum.inr r.1) (.ref t2)))) (rows.take (i + 1)) kvs':=fun t2 H2 s4 ht2=>by
    have d2:=s4 _ _ hdk
    have tk:∀ b xs,H2 b=some (.tup xs)→(upd H2 d (.dK (putK kvs (Sum.inr r.1) (.ref t2)))) b=some (.tup xs):=fun b xs e=>by
     rw [upd_ne (fun z=>by rw [z,d2] at e;cases e)];exact e
    refine ⟨_,_,_,rfl,fun b o e=>by rw [upd_ne (nNo e dH)];exact s4 _ _ (s3 _ _ e),uS,?_⟩
    have sn:UpsD (upd H2 d (.dK (putK kvs (Sum.inr r.1) (.ref t2)))) (rows.take i++[r]) (kvs++[(Sum.inr r.1,V.ref t2)]):=Paired.snoc ((hU.mono fun b xs e=>s4 _ _ e).mono tk) ⟨rfl,t2,rfl,tk t2 _ ht2⟩
    rw [← putK_new _ (valV_none hnew)] at sn
    rw [List.take_add_one,hr']
    exact sn
   rcases hug with hug | hug
   ·refine ⟨_,rfl,u,_,rfl,.inr ⟨SqT.of (s3 _ _ hug),_,rfl,_,rfl,d,_,rfl,DPut.k (k:=Sum.inr r.1) hdk (small_lt (by omega)),fin u H' (Same.refl _) (s3 _ _ hug)⟩⟩
   ·refine ⟨_,rfl,u,_,rfl,.inl ⟨s3.seq hug,fun t2 ht2=>?_⟩⟩
    have s4:Same H' (upd H' t2 (.tup (r.2.map V.str))):=fun b o e=>by rw [upd_ne (nNo e ht2)];exact e
    exact ⟨_,rfl,_,rfl,d,_,rfl,DPut.k (k:=Sum.inr r.1) (s4 _ _ hdk) (small_lt (by omega)),fin t2 _ s4 uS⟩
  ·rintro σ H2 ⟨kvs,a,c,rfl,s3,hdk,hU⟩
   have hvl:=hpr.length
   rw [← hvl,List.take_length] at hU
   refine ⟨d,kvs,hdk,fun o=>?_⟩
   have dH:H d=none:=s1.free hd
   have s4:Same H (upd H2 d (.frz o (.dK kvs))):=fun b u e=>by rw [upd_ne (nNo e dH)];exact s3 _ _ e
   have bk:BookD (upd H2 d (.frz o (.dK kvs))) d o rows kvs:=⟨uS,hU.mono fun b xs e=>by rw [upd_ne (fun z=>by rw [z,hdk] at e;cases e)];exact e⟩
   refine ⟨_,rfl,d,o,rows,kvs,rfl,bk,g,fun H5 s5=>?_⟩
   refine ⟨_,rfl,d,o,rows,kvs,rfl,bk.mono s5,g,fun H6 s6=>?_⟩
   refine ⟨_,rfl,_,rfl,iteF ?_⟩
   have s56:=s5.trans s6
   have bk6:=bk.mono s56
   have s7:Same H H6:=s4.trans s56
   intro aa haa
   have s8:Same H (upd H6 aa (.dK [])):=fun b u e=>by rw [upd_ne (nNo (s7 _ _ e) haa)];exact s7 _ _ e
   have s68:Same H6 (upd H6 aa (.dK [])):=fun b u e=>by rw [upd_ne (nNo e haa)];exact e
   refine ⟨_,rfl,d,o,kvs,rfl,(bk6.mono s68).at_,for_runs runs_keys (fun i σ H'=>∃ (avs:List (Key×V)) (a b c:Option V),σ=[some (.ref p),some (.ref l),some (.ref d),a,b,c,some (.ref aa)]∧Same H H'∧BookD H' d o rows kvs∧H' aa=some (.dK avs)∧AboveD H' rows (rows.take i) avs)
    ⟨[],_,_,_,rfl,s8,bk6.mono s68,uS,by rw [List.take_zero];exact .nil⟩ (fun i σ H' _ ⟨_,_,_,_,_,_,b,_⟩=>b.at_) ?_ ?_⟩
   ·rintro i v σ H' hi ⟨avs,a,b,c,rfl,s9,bk9,haa9,hA⟩
    rw [List.getElem?_map] at hi
    obtain ⟨pr,hpr',e⟩:=Option.map_eq_some_iff.mp hi
    obtain ⟨r,hr',hk,_⟩:=paired_at bk9.ups hpr'
    have hmem:r∈rows:=List.mem_of_getElem? hr'
    have ev:v=.str r.1:=by rw [← e,hk];rfl
    subst ev
    have aaH:H aa=none:=s7.free haa
    refine ⟨_,rfl,_,rfl,d,o,rows,kvs,r.1,rfl,bk9,g,List.mem_map.mpr ⟨r,hmem,rfl⟩,fun x o' fk H10 hx s10 hxk hreach=>?_⟩
    have hnew:(Sum.inr r.1:Key)∉avs.map (·.1):=by rw [hA.keys];exact taken_not g.nd hr'
    have hil:(rows.take i).length≤24:=by rw [List.length_take];have:=g.le;omega
    have hkl:avs.length=(rows.take i).length:=(Paired.length hA).symm
    have aa10:=s10 _ _ haa9
    refine ⟨_,rfl,_,rfl,aa,_,rfl,DPut.k (k:=Sum.inr r.1) aa10 (small_lt (by omega)),?_⟩
    have kp:∀ b u,b≠aa→H10 b=some u→(upd H10 aa (.dK (putK avs (Sum.inr r.1) (.ref x)))) b=some u:=fun b u hb e=>by rw [upd_ne hb];exact e
    refine ⟨_,_,_,_,rfl,fun b u e=>kp b u (nNo e aaH) (s10 _ _ (s9 _ _ e)),⟨kp _ _ (fun z=>?_) (s10 _ _ bk9.at_),(bk9.ups.mono fun b xs e=>s10 _ _ e).mono fun b xs e=>kp _ _ (fun z=>by rw [z,aa10] at e;cases e) e⟩,uS,?_⟩
    ·have:=bk9.at_
     rw [z,haa9] at this
     cases this
    ·rw [putK_new _ (valV_none hnew),List.take_add_one,hr']
     have fz:∀ b o'' fk',H10 b=some (.frz o'' (.dK fk'))→(upd H10 aa (.dK (avs++[(Sum.inr r.1,V.ref x)]))) b=some (.frz o'' (.dK fk')):=fun b o'' fk' e=>by rw [upd_ne (fun z=>by rw [z,aa10] at e;cases e)];exact e
     exact Paired.snoc ((hA.mono fun b o'' fk' e=>s10 _ _ e).mono fz) ⟨rfl,x,o',fk,rfl,fz _ _ _ hxk,hreach⟩
   ·rintro σ H' ⟨avs,a,b,c,rfl,s9,bk9,haa9,hA⟩
    have hkv:kvs.length=rows.length:=(Paired.length bk9.ups).symm
    rw [List.length_map,hkv,List.take_length] at hA
    have aaH:H aa=none:=s7.free haa
    refine ⟨aa,avs,haa9,fun oa=>?_⟩
    have hp9:H' p=some (.ins C dx []):=s9 _ _ hp
    have pa:p≠aa:=nNo hp aaH
    have pd:p≠d:=nNo hp dH
    have da:d≠aa:=fun z=>by have:=bk9.at_;rw [z,haa9] at this;cases this
    refine ⟨_,rfl,_,rfl,p,C,dx,[],rfl,(by rw [upd_ne pa];exact hp9),TC.cl,TC.nU,(by show 0<1000;decide),_,rfl,_,rfl,p,C,dx,_,rfl,uS,TC.cl,TC.nA,(by show 1<1000;decide),?_⟩
    rw [upd_upd]
    have kp:∀ b u,b≠p→b≠aa→H' b=some u→(upd (upd H' aa (.frz oa (.dK avs))) p (.ins C dx (flds d aa))) b=some u:=fun b u h1 h2 e=>by rw [upd_ne h1,upd_ne h2];exact e
    refine q _ ⟨dx,d,aa,o,oa,kvs,avs,uS,⟨kp _ _ (Ne.symm pd) da bk9.at_,bk9.ups.mono fun b xs e=>kp _ _ (fun z=>by rw [z,hp9] at e;cases e) (fun z=>by rw [z,haa9] at e;cases e) e⟩,by rw [upd_ne (Ne.symm pa)];exact uS,hA.mono fun b o'' fk' e=>kp _ _ (fun z=>by rw [z,hp9] at e;cases e) (fun z=>by rw [z,haa9] at e;cases e) e⟩ fun b u hb e=>kp _ _ hb (nNo e aaH) (s9 _ _ e)
theorem scHa:FnScope ["self","word"] ["self","word"] (defScope s_Kinds_has):=⟨rfl,rfl,rfl,by decide +kernel,rfl,by decide +kernel,by decide +kernel⟩
theorem ok_has {f C:Addr}{fd:FuncData}(F:Fun K "has" "Kinds.has" s_Kinds_has f fd) (TC:TxtC K C):FnOk P w K mg base CX0 1 f fd ["self","word"] (spHas C):=by
 refine F.ok scHa (fun vs H Q E h=>?_) (fun cdv A outer s H vs Q E hr h=>?_)
 ·obtain ⟨p,rows,x,rfl,_⟩:=h
  rfl
 ·obtain ⟨p,rows,x,rfl,⟨dx,d,a,o,oa,kvs,avs,h1,h2,h3,h4⟩,g,q⟩:=h
  have hu:=hu_of hr
  refine ⟨_,pss_one (ps_ret (pe_cmp (pc_din hu (pv 1) (pe_fld (pv 0) rfl)))),?_⟩
  refine ⟨_,rfl,_,rfl,p,C,dx,_,_,rfl,h1,TC.cl,TC.nU,flds_u _ _,d,_,rfl,DGet.f (k:=Sum.inr x) h2.at_,?_⟩
  have e:(valV kvs (Sum.inr x:Key)).isSome=decide (x∈rows.map (·.1)):=by
   have hk:(Sum.inr x:Key)∈kvs.map (·.1)↔x∈rows.map (·.1):=by
    rw [h2.ups.keys]
    constructor
    ·intro m
     obtain ⟨r,hr',e⟩:=List.mem_map.mp m
     exact List.mem_map.mpr ⟨r,hr',by injection e⟩
    ·intro m
     obtain ⟨r,hr',e⟩:=List.mem_map.mp m
     exact List.mem_map.mpr ⟨r,hr',by rw [e]⟩
   by_cases z:x∈rows.map (·.1)
   ·rw [some_of_key (hk.mpr z),decide_eq_true z]
   ·rw [valV_none fun k=>z (hk.mp k),decide_eq_false z]
    rfl
  rw [e]
  exact q
abbrev MHas (K:W.Frag) (C fH:Addr) (fdH:FuncData):Prop:=MDef K C "has" "Kinds.has" s_Kinds_has ["self","word"] fH fdH
theorem no_has (d a:Addr):(flds d a).lookup ("has":Str)=none:=flds_no d a (by decide +kernel) (by decide +kernel)
end
end K72
namespace K72
open PySem L2 Md
section
variable {P:Program} {w:World} {K:W.Frag} {mg:Str→Option Value} {base:Heap}
end
end K72
namespace K72
open PySem L2 Md
def spRowsOf (C:Addr):Sp:=fun vs H Q _=>∃ (p:Addr) (rows:List (Str×List Str)),vs=[.ref p]∧KindsAt C H p rows∧Good rows∧∀ l H',H l=none→Same H H'→RowsAt H' l rows→Q (.ref l) H'
theorem no_rowsM (d a:Addr):(flds d a).lookup ("rows":Str)=none:=flds_no d a (by decide +kernel) (by decide +kernel)
section
variable {P:Program} {w:World} {K:W.Frag} {mg:Str→Option Value} {base:Heap}
theorem scRo:FnScope ["self"] ["self"] (defScope s_Kinds_rows):=⟨rfl,rfl,rfl,by decide +kernel,rfl,by decide +kernel,by decide +kernel⟩
theorem ok_rowsOf {f C:Addr}{fd:FuncData}(F:Fun K "rows" "Kinds.rows" s_Kinds_rows f fd) (TC:TxtC K C) (list:mg "list"=none):FnOk P w K mg base CX0 1 f fd ["self"] (spRowsOf C):=by
 refine F.ok scRo (fun vs H Q E h=>?_) (fun cdv A outer s H vs Q E hr h=>?_)
 ·obtain ⟨p,rows,rfl,_⟩:=h
  rfl
 ·obtain ⟨p,rows,rfl,⟨dx,d,a,o,oa,kvs,avs,h1,h2,h3,h4⟩,g,q⟩:=h
  refine ⟨_,pss_one (ps_ret (pe_listItems rfl (pe_fld (pv 0) rfl) (by rfl) list)),?_⟩
  refine ⟨_,rfl,p,C,dx,_,_,rfl,h1,TC.cl,TC.nU,flds_u _ _,d,kvs,rfl,.inr ⟨o,h2.at_⟩,fun l H' vs hl s1 hlv hp=>?_⟩
  refine q l H' hl s1 ⟨vs,hlv,paired_idx ?_ fun i r v hr' hv=>?_⟩
  ·rw [← hp.length];exact Paired.length h2.ups
  ·obtain ⟨kv,hk,t,e,ht⟩:=paired_at hp hv
   obtain ⟨r2,hr2,e1,t2,e2,ht2⟩:=paired_at h2.ups hk
   rw [hr'] at hr2
   cases hr2
   refine ⟨t,t2,e,?_,s1 _ _ ht2⟩
   rw [ht,e1,e2]
   rfl
end
end K72
namespace K72
open PySem L2 Md
def AboveL (H:Hp) (all rows:List (Str×List Str)) (avs:List (Key×V)):Prop :=
 Paired (fun r (p:Key×V)=>p.1=Sum.inr r.1∧∃ (t:Addr) (fs:List Str),p.2=.ref t∧H t=some (.lst (fs.map V.str))∧(∀ y,y∈fs↔Graph.Reach (upsOf all) r.1 y)∧fs.length≤all.length) rows avs
theorem AboveL.mono {H H':Hp}{all rows:List (Str×List Str)}{avs:List (Key×V)}(h:AboveL H all rows avs) (s:∀ b xs,H b=some (.lst xs)→H' b=some (.lst xs)):AboveL H' all rows avs :=
 Paired.mapP h fun _ _ z=>⟨z.1,let ⟨t,fs,e,x,y⟩:=z.2;⟨t,fs,e,s _ _ x,y⟩⟩
theorem AboveL.keys:∀ {H:Hp}{all rows:List (Str×List Str)}{kvs:List (Key×V)},AboveL H all rows kvs→kvs.map (·.1)=rows.map fun r=>(Sum.inr r.1:Key)
 | _,_,_,_,.nil=>rfl
 | _,_,_,_,.cons r t=>by rw [List.map_cons,List.map_cons,r.1,AboveL.keys t]
theorem AboveL.val':∀ {H:Hp}{all rows:List (Str×List Str)}{kvs:List (Key×V)},AboveL H all rows kvs→(rows.map (·.1)).Nodup→∀ {r:Str×List Str},r∈rows→∃ (t:Addr) (fs:List Str),valV kvs (Sum.inr r.1)=some (.ref t)∧H t=some (.lst (fs.map V.str))∧(∀ y,y∈fs↔Graph.Reach (upsOf all) r.1 y)∧fs.length≤all.length
 | _,_,_,_,.nil,_,r,h=>nomatch h
 | _,_,q :: rs,p :: ps,.cons z t,nd,r,h=>by
  have nd':(q.1 :: rs.map (·.1)).Nodup:=nd
  obtain ⟨n1,n2⟩:=List.nodup_cons.mp nd'
  obtain ⟨z1,u,fs,z2,z3,z4⟩:=z
  rcases List.mem_cons.mp h with e | h
  ·subst e
   exact ⟨u,fs,by rw [valV_pos z1,z2],z3,z4⟩
  ·have ne:¬ p.1=(Sum.inr r.1:Key):=fun e=>n1 (by
    rw [z1] at e
    have e':q.1=r.1:=by injection e
    rw [e']
    exact List.mem_map.mpr ⟨r,h,rfl⟩)
   obtain ⟨u',fs',h1,h2⟩:=AboveL.val' t n2 h
   exact ⟨u',fs',by rw [valV_neg ne];exact h1,h2⟩
def spLAbove:Sp:=fun vs H Q _=>∃ (l:Addr) (rows:List (Str×List Str)),vs=[.ref l]∧RowsAt H l rows∧Good rows∧∀ a avs H',Same H H'→H' a=some (.dK avs)→AboveL H' rows rows avs→Q (.ref a) H'
structure GoL (rows:List (Str×List Str)) (x:Str) (fs:List Str) (k:Nat):Prop where
 start:x∈fs
 known:∀ y∈fs,y∈rows.map (·.1)
 nd:fs.Nodup
 reach:∀ y∈fs,Graph.Reach (upsOf rows) x y
 closed:∀ y∈fs.take k,∀ u∈upsOf rows y,u∈fs
theorem GoL.le {rows:List (Str×List Str)}{x:Str}{fs:List Str}{k:Nat}(h:GoL rows x fs k):fs.length≤rows.length:=by
 have:=Graph.nodup_le h.nd h.known
 rwa [List.length_map] at this
theorem GoL.all {rows:List (Str×List Str)}{x:Str}{fs:List Str}{k:Nat}(h:GoL rows x fs k) (hk:fs.length≤k) (y:Str):y∈fs↔Graph.Reach (upsOf rows) x y :=
 ⟨h.reach y,fun r=>Graph.closed_reach (S:=fun y=>y∈fs) (fun z hz u hu=>h.closed z (by rw [List.take_of_length_le hk];exact hz) u hu) r h.start⟩
theorem reach_known {rows:List (Str×List Str)}(g:Good rows) {y u:Str}(hy:y∈rows.map (·.1)) (hu:u∈upsOf rows y):u∈rows.map (·.1):=by
 obtain ⟨r,hr,e⟩:=word_row hy
 rw [← e,upsOf_at g.nd hr] at hu
 exact g.known r hr u hu
section
variable {P:Program} {w:World} {K:W.Frag} {mg:Str→Option Value} {base:Heap}
abbrev nLA:List Str:=["rows","ups","word","some","above","found","at","up"]
theorem scLA:FnScope nLA ["rows"] (defScope s__law_above):=⟨rfl,rfl,rfl,by decide +kernel,rfl,by decide +kernel,by decide +kernel⟩
theorem ok_labove {f:Addr}{fd:FuncData}(F:Def K mg "_law_above" s__law_above ["rows"] f fd) (len:mg "len"=none):FnOk P w K mg base CX0 1 f fd ["rows"] spLAbove:=by
 refine F.fn.ok scLA (fun vs H Q E h=>?_) (fun cdv A outer s H vs Q E hr h=>?_)
 ·obtain ⟨l,rows,rfl,_⟩:=h
  rfl
 ·obtain ⟨l,rows,rfl,hR,g,q⟩:=h
  have nd:=scLA.nd
  have hu:=hu_of hr
  refine ⟨_,pS (ps_set (i:=1) nd rfl (Or.inl rfl) pe_dnewK)
   (pS (ps_for PassesOwn.never rfl (pi_list (pv 0)) (pg_tup rfl (gC (pg_name (i:=2) nd rfl (Or.inl rfl)) (gC (pg_name (i:=3) nd rfl (Or.inl rfl)) pgs_nil)))
    (pss_one (ps_dput hu (pv 1) (pv 2) (pv 3) rfl)))
   (pS (ps_set (i:=4) nd rfl (Or.inl rfl) pe_dnewK)
   (pS (ps_for PassesOwn.never rfl (pi_list (pv 0)) (pg_tup rfl (gC (pg_name (i:=2) nd rfl (Or.inl rfl)) (gC (pg_name (i:=3) nd rfl (Or.inl rfl)) pgs_nil)))
    (pS (ps_set (i:=5) nd rfl (Or.inl rfl) (pe_lst (pC (pv 2) pa_nil)))
    (pS (ps_set (i:=6) nd rfl (Or.inl rfl) pe_int)
    (pS (ps_while PassesOwn.never (pt_cmpR op_lt (pv 6) (pe_callB call_len (by rfl) len PySem.boot_len (pC (pv 5) pa_nil)) (nomark _))
     (pS (ps_for PassesOwn.never rfl (pi_tup (pe_dget hu (pv 1) (pe_ix ix_list (pv 5) (pv 6) (fun _ _=>rfl)) (fun _ _=>rfl))) (pg_name (i:=7) nd rfl (Or.inl rfl))
      (pss_one (ps_if (pt_cmpR op_notIn_seq (pv 7) (pv 5) (by with_unfolding_all rfl)) (pss_one (ps_expr (pe_bm PySem.F.plainAttrs_list PySem.F.slot_list_append PySem.F.type_list_append mt_append (pv 5) (pC (pv 7) pa_nil)))) pss_nil)))
     (pss_one (ps_set (i:=6) nd rfl (Or.inl rfl) (pe_op op_add (pv 6) pe_int)))))
    (pss_one (ps_dput hu (pv 4) (pv 2) (pv 5) rfl))))))
   (pss_one (ps_ret (pv 4)))))),?_⟩
  have gle:=g.le
  obtain ⟨vs,hvs,hpr⟩:=hR
  intro d hd
  have s1:Same H (upd H d (.dK [])):=fun b o e=>by rw [upd_ne (nNo e hd)];exact e
  refine ⟨_,rfl,l,rfl,⟨_,SqL.of (s1 _ _ hvs)⟩,for_runs (runs_list (xs:=vs)) (fun i σ H'=>∃ (kvs:List (Key×V)) (a c:Option V),σ=[some (.ref l),some (.ref d),a,c,none,none,none,none]∧Same H H'∧H' d=some (.dK kvs)∧UpsD H' (rows.take i) kvs)
   ⟨[],none,none,rfl,s1,uS,by rw [List.take_zero];exact .nil⟩ (fun i σ H' _ ⟨_,_,_,_,s,_⟩=>SqL.of (s _ _ hvs)) ?_ ?_⟩
  ·rintro i v σ H' hi ⟨kvs,a,c,rfl,s3,hdk,hU⟩
   obtain ⟨r,hr',t,u,rfl,ht,hug⟩:=paired_at hpr hi
   refine ⟨t,_,rfl,SqT.of (s3 _ _ ht),rfl,_,_,rfl,_,_,rfl,rfl,?_⟩
   have hnew:(Sum.inr r.1:Key)∉kvs.map (·.1):=by rw [hU.keys];exact taken_not g.nd hr'
   have hil:(rows.take i).length≤24:=by rw [List.length_take];omega
   have hkl:kvs.length=(rows.take i).length:=(Paired.length hU).symm
   refine ⟨_,rfl,_,rfl,_,rfl,d,_,rfl,DPut.k (k:=Sum.inr r.1) hdk (small_lt (by omega)),?_⟩
   have tk:∀ b xs,H' b=some (.tup xs)→(upd H' d (.dK (putK kvs (Sum.inr r.1) (.ref u)))) b=some (.tup xs):=fun b xs e=>by
    rw [upd_ne (fun z=>by rw [z,hdk] at e;cases e)];exact e
   refine ⟨_,_,_,rfl,fun b o e=>by rw [upd_ne (nNo e hd)];exact s3 _ _ e,uS,?_⟩
   have sn:UpsD (upd H' d (.dK (putK kvs (Sum.inr r.1) (.ref u)))) (rows.take i++[r]) (kvs++[(Sum.inr r.1,V.ref u)]):=Paired.snoc (hU.mono tk) ⟨rfl,u,rfl,tk u _ (s3 _ _ hug)⟩
   rw [← putK_new _ (valV_none hnew)] at sn
   rw [List.take_add_one,hr']
   exact sn
  ·rintro σ H2 ⟨kvs,a,c,rfl,s3,hdk,hU⟩
   have hvl:=hpr.length
   rw [← hvl,List.take_length] at hU
   intro aa haa
   have s4:Same H2 (upd H2 aa (.dK [])):=fun b o e=>by rw [upd_ne (nNo e haa)];exact e
   have aaH:H aa=none:=s3.free haa
   have daa:d≠aa:=nNo hdk haa
   have hU4:UpsD (upd H2 aa (.dK [])) rows kvs:=hU.mono fun b xs e=>s4 _ _ e
   have hd4:=s4 _ _ hdk
   have s04:=s3.trans s4
   refine ⟨_,rfl,l,rfl,⟨_,SqL.of (s04 _ _ hvs)⟩,for_runs (runs_list (xs:=vs)) (fun i σ H'=>∃ (avs:List (Key×V)) (a b c e f:Option V),σ=[some (.ref l),some (.ref d),a,b,some (.ref aa),c,e,f]∧(∀ b o,b≠aa→H2 b=some o→H' b=some o)∧H' aa=some (.dK avs)∧AboveL H' rows (rows.take i) avs)
    ⟨[],_,_,_,_,_,rfl,fun b o hb e=>by rw [upd_ne hb];exact e,uS,by rw [List.take_zero];exact .nil⟩ (fun i σ H' _ ⟨_,_,_,_,_,_,_,k,_⟩=>SqL.of (k _ _ (nNo hvs aaH) (s3 _ _ hvs))) ?_ ?_⟩
   ·rintro i v σ H' hi ⟨avs,a,b,c,e,f',rfl,k1,haa1,hA⟩
    obtain ⟨r,hr',t,u,rfl,ht,hug⟩:=paired_at hpr hi
    have hmem:r∈rows:=List.mem_of_getElem? hr'
    have keep1:∀ b o,H b=some o→H' b=some o:=fun b o e=>k1 b o (nNo e aaH) (s3 _ _ e)
    refine ⟨t,_,rfl,SqT.of (keep1 _ _ ht),rfl,_,_,rfl,_,_,rfl,rfl,?_⟩
    refine ⟨_,rfl,sL (by show 1≤100000;decide),fun fa hfa=>?_⟩
    have sF:∀ {H5:Hp},Same H' H5→UpsD H5 rows kvs:=fun {H5} s=>hU.mono fun b xs e=>s _ _ (k1 b _ (fun z=>by rw [z,haa] at e;cases e) e)
    have dF:∀ {H5:Hp},Same H' H5→H5 d=some (.dK kvs):=fun {H5} s=>s _ _ (k1 _ _ daa hdk)
    refine ⟨fun m σ H5=>∃ (fs:List Str) (k:Nat) (f:Option V),σ=[some (.ref l),some (.ref d),some (.str r.1),some (.ref u),some (.ref aa),some (.ref fa),some (.int (k:Int)),f]∧Same H' H5∧H5 fa=some (.lst (fs.map V.str))∧GoL rows r.1 fs k∧k≤fs.length∧m + k=rows.length,
     ⟨rows.length,[r.1],0,_,rfl,fun b o e=>by rw [upd_ne (nNo e hfa)];exact e,uS,⟨by simp,fun y h=>by rw [List.mem_singleton.mp h];exact List.mem_map.mpr ⟨r,hmem,rfl⟩,by simp,fun y h=>by rw [List.mem_singleton.mp h];exact .refl _,fun y h=>by simp at h⟩,by simp,rfl⟩,?_⟩
    rintro m σ H5 ⟨fs,k,f2,rfl,s5,hf5,go,hk,hm⟩
    have flen:=go.le
    refine ⟨_,rfl,_,rfl,_,_,rfl,.inl ⟨_,SqL.of hf5,rfl⟩,_,_,rfl,rfl,_,rfl,?_⟩
    rw [List.length_map]
    refine ite2 (fun hlt=>?_) (fun hlt=>?_)
    ·have hlt:k<fs.length:=by have:=of_decide_eq_true hlt;omega
     refine ⟨fun σ' H6=>∃ m',m'<m∧∃ (fs:List Str) (k:Nat) (f:Option V),σ'=[some (.ref l),some (.ref d),some (.str r.1),some (.ref u),some (.ref aa),some (.ref fa),some (.int (k:Int)),f]∧Same H' H6∧H6 fa=some (.lst (fs.map V.str))∧GoL rows r.1 fs k∧k≤fs.length∧m' + k=rows.length,fun _ _ h=>h,?_⟩
     have hat:fs[k]?=some fs[k]:=List.getElem?_eq_getElem hlt
     generalize hhere:fs[k]=here at hat
     have hin:here∈fs:=List.mem_of_getElem? hat
     obtain ⟨r2,hr2,er⟩:=word_row (go.known here hin)
     obtain ⟨t2,hvt,ht2⟩:=(sF s5).val g.nd hr2
     rw [er] at hvt
     have uo:upsOf rows here=r2.2:=by rw [← er];exact upsOf_at g.nd hr2
     have hix:atI (fs.map V.str) (k:Int)=some (V.str here):=atI_nat (by rw [List.getElem?_map,hat];rfl)
     refine ⟨_,rfl,_,rfl,_,rfl,fa,_,_,_,rfl,rfl,SqL.of hf5,hix,d,_,rfl,(by rw [← hvt];exact DGet.k (k:=Sum.inr here) (dF s5)),t2,rfl,⟨_,SqT.of ht2⟩,?_⟩
     have ht2f:t2≠fa:=fun z=>by rw [z,hf5] at ht2;cases ht2
     refine for_runs (runs_tup (xs:=r2.2.map V.str)) (fun j σ H6=>∃ (ex:List Str) (f:Option V),σ=[some (.ref l),some (.ref d),some (.str r.1),some (.ref u),some (.ref aa),some (.ref fa),some (.int (k:Int)),f]∧(∀ b o,b≠fa→H5 b=some o→H6 b=some o)∧H6 fa=some (.lst ((fs++ex).map V.str)) ∧
      (∀ y∈fs++ex,y∈rows.map (·.1))∧(fs++ex).Nodup∧(∀ y∈fs++ex,Graph.Reach (upsOf rows) r.1 y)∧∀ z∈r2.2.take j,z∈fs++ex)
      ⟨[],_,rfl,fun b o _ e=>e,by rw [List.append_nil];exact hf5,by rw [List.append_nil];exact go.known,by rw [List.append_nil];exact go.nd,by rw [List.append_nil];exact go.reach,fun z h=>by simp at h⟩ (fun j σ H6 _ ⟨_,_,_,k6,_⟩=>SqT.of (k6 _ _ ht2f ht2)) ?_ ?_
     ·rintro j v σ H6 hj ⟨ex,f3,rfl,k6,hf6,kn,ndx,rch,seen⟩
      obtain ⟨z,hz,rfl⟩:=strs_at hj
      have hzu:z∈upsOf rows here:=by rw [uo];exact List.mem_of_getElem? hz
      have hle:(fs++ex).length≤24:=by
       have:=Graph.nodup_le ndx kn
       rw [List.length_map] at this
       omega
      refine ⟨_,rfl,_,rfl,fa,_,rfl,.inl (SqL.of hf6),rfl,flat_strs _,_,rfl,?_⟩
      show if (!inV (.str z) ((fs++ex).map V.str))=true then _ else _
      rw [in_strs]
      have sj:∀ y∈r2.2.take (j + 1),y∈r2.2.take j∨y=z:=fun y h=>by
       rw [List.take_add_one,hz] at h
       rcases List.mem_append.mp h with h | h
       ·exact .inl h
       ·simp at h;exact .inr h
      refine ite2 (fun hn=>?_) (fun hn=>?_)
      ·have hn:z∉fs++ex:=fun c=>by rw [decide_eq_true c] at hn;cases hn
       refine ⟨_,rfl,.inl ⟨rfl,_,SqL.of hf6⟩,_,rfl,fa,_,_,rfl,rfl,hf6,small_lt (by rw [List.length_map];omega),?_⟩
       refine ⟨ex++[z],_,rfl,fun b o hb e=>by rw [upd_ne hb];exact k6 b o hb e,?_,?_,?_,?_,?_⟩
       ·have e:(fs++(ex++[z])).map V.str=(fs++ex).map V.str++[V.str z]:=by simp
        rw [uS,e]
       ·intro y hy
        rw [← List.append_assoc] at hy
        rcases List.mem_append.mp hy with h | h
        ·exact kn y h
        ·rw [List.mem_singleton.mp h]
         exact reach_known g (go.known here hin) hzu
       ·rw [← List.append_assoc]
        refine List.nodup_append.mpr ⟨ndx,by simp,fun a ha b hb e=>?_⟩
        rw [List.mem_singleton.mp hb] at e
        rw [e] at ha
        exact hn ha
       ·intro y hy
        rw [← List.append_assoc] at hy
        rcases List.mem_append.mp hy with h | h
        ·exact rch y h
        ·rw [List.mem_singleton.mp h]
         exact (go.reach here hin).snoc hzu
       ·intro y hy
        rw [← List.append_assoc]
        rcases sj y hy with h | h
        ·exact List.mem_append.mpr (.inl (seen y h))
        ·rw [h];simp
      ·have hn:z∈fs++ex:=Classical.byContradiction fun c=>hn (by rw [decide_eq_false c];rfl)
       refine ⟨ex,_,rfl,k6,hf6,kn,ndx,rch,fun y hy=>?_⟩
       rcases sj y hy with h | h
       ·exact seen y h
       ·rw [h];exact hn
     ·rintro σ H6 ⟨ex,f3,rfl,k6,hf6,kn,ndx,rch,seen⟩
      rw [List.length_map,List.take_length] at seen
      refine ⟨_,rfl,_,_,rfl,rfl,m - 1,by omega,fs++ex,k + 1,_,rfl,fun b o e=>k6 b o (nNo e hfa) (s5 _ _ e),hf6,⟨List.mem_append.mpr (.inl go.start),kn,ndx,rch,?_⟩,by rw [List.length_append];omega,by omega⟩
      intro y hy z hz
      have htk:(fs++ex).take (k + 1)=fs.take k++[here]:=by
       rw [List.take_append_of_le_length (by omega),List.take_add_one,hat]
       rfl
      rw [htk] at hy
      rcases List.mem_append.mp hy with h | h
      ·exact List.mem_append.mpr (.inl (go.closed y h z hz))
      ·rw [List.mem_singleton.mp h,uo] at hz
       exact seen z hz
    ·have hge:fs.length≤k:=by
      have:¬ ((k:Int)<(fs.length:Int)):=fun z=>hlt (decide_eq_true z)
      omega
     have aa5:=s5 _ _ haa1
     have hnew:(Sum.inr r.1:Key)∉avs.map (·.1):=by rw [hA.keys];exact taken_not g.nd hr'
     have hil:(rows.take i).length≤24:=by rw [List.length_take];omega
     have hkl:avs.length=(rows.take i).length:=(Paired.length hA).symm
     refine ⟨_,rfl,_,rfl,_,rfl,aa,_,rfl,DPut.k (k:=Sum.inr r.1) aa5 (small_lt (by omega)),?_⟩
     have lk:∀ b xs,H5 b=some (.lst xs)→(upd H5 aa (.dK (putK avs (Sum.inr r.1) (.ref fa)))) b=some (.lst xs):=fun b xs e=>by
      rw [upd_ne (fun z=>by rw [z,aa5] at e;cases e)];exact e
     refine ⟨_,_,_,_,_,_,rfl,fun b o hb e=>by rw [upd_ne hb];exact s5 _ _ (k1 b o hb e),uS,?_⟩
     have sn:AboveL (upd H5 aa (.dK (putK avs (Sum.inr r.1) (.ref fa)))) rows (rows.take i++[r]) (avs++[(Sum.inr r.1,V.ref fa)]):=Paired.snoc ((hA.mono fun b xs e=>s5 _ _ e).mono lk) ⟨rfl,fa,fs,rfl,lk _ _ hf5,go.all hge,go.le⟩
     rw [← putK_new _ (valV_none hnew)] at sn
     rw [List.take_add_one,hr']
     exact sn
   ·rintro σ H' ⟨avs,a,b,c,e,f',rfl,k1,haa1,hA⟩
    rw [← hvl,List.take_length] at hA
    exact ⟨_,rfl,q aa avs H' (fun b o e=>k1 b o (nNo e aaH) (s3 _ _ e)) haa1 hA⟩
end
end K72
namespace K72
open PySem L2 Md
def callB (rows:List (Str×List Str)) (n:Nat) (xs:List Str):Bool:=decide (xs.length=n)&&xs.all fun x=>decide (x∈rows.map (·.1))
structure GoodCall (rows:List (Str×List Str)) (n:Nat) (xs:List Str):Prop where
 len:xs.length=n
 known:∀ x∈xs,x∈rows.map (·.1)
theorem GoodCall.is {rows:List (Str×List Str)}{n:Nat}{xs:List Str}(h:GoodCall rows n xs):callB rows n xs=true:=by
 unfold callB
 rw [decide_eq_true h.len,Bool.true_and,List.all_eq_true]
 exact fun x hx=>decide_eq_true (h.known x hx)
def spIsCall (C:Addr):Sp:=fun vs H Q _=>∃ (p t:Addr) (n:Nat) (rows:List (Str×List Str)) (xs:List Str),vs=[.ref p,.int n,.ref t]∧KindsAt C H p rows∧Good rows∧H t=some (.tup (xs.map V.str))∧xs.length≤1000∧∀ H',Same H H'→Q (.bl (callB rows n xs)) H'
def knownV (rows:List (Str×List Str)):V→V
 | .str x=>.bl (decide (x∈rows.map (·.1)))
 | _=>.non
theorem knownV_map (rows:List (Str×List Str)) (xs:List Str):(((xs.map V.str).filter fun _=>true).map (knownV rows))=(xs.map fun x=>decide (x∈rows.map (·.1))).map V.bl:=by
 rw [List.filter_eq_self.mpr (fun _ _=>rfl),List.map_map,List.map_map]
 rfl
theorem nd_wk:(["word","kinds"]:List Str).Nodup:=by decide +kernel
section
variable {P:Program} {w:World} {K:W.Frag} {mg:Str→Option Value} {base:Heap}
abbrev nIC:List Str:=["kinds","places","call"]
theorem scIC:FnScope nIC nIC (defScope s_is_call):=⟨rfl,rfl,rfl,by decide +kernel,rfl,by decide +kernel,by decide +kernel⟩
theorem ok_is_call {f C fH:Addr}{fd fdH:FuncData}(F:Def K mg "is_call" s_is_call nIC f fd) (len:mg "len"=none) (all:mg "all"=none) (TC:TxtC K C) (MH:MHas K C fH fdH):FnOk P w K mg base CX0 2 f fd nIC (spIsCall C):=by
 have GH:FnOk P w K mg base CX0 1 fH fdH ["self","word"] (spHas C):=ok_has MH.fn TC
 refine F.fn.ok scIC (fun vs H Q E h=>?_) (fun cdv A outer s H vs Q E hr h=>?_)
 ·obtain ⟨p,t,n,rows,xs,rfl,_⟩:=h
  rfl
 ·obtain ⟨p,t,n,rows,xs,rfl,kd,g,ht,hz,q⟩:=h
  obtain ⟨dx,d,a,o,oa,kvs,avs,h1,_⟩:=kd.ex
  have hr1:Room 1 _:=hr.mono (by decide)
  refine' ⟨_,pss_one (ps_ret (pe_and ?ea (pe_one ?eb))),?_⟩
  case ea=>exact pe_cmpR op_eq (pe_callB call_len_seq (by rfl) len PySem.boot_len (pC (pv 2) pa_nil)) (pv 1) (nomark _)
  case eb=>exact pe_callB (call_all rfl) (by rfl) all PyProof.Rows.boot_all (pC
    (pe_comp ["word"] ["kinds"] [0] (fun _=>compT_ok (osc:=defScope s_is_call) (on:=nIC) (by decide +kernel) rfl rfl rfl) (pi_tup (pv 2)) (fun C s H fp=>pg_name (i:=0) nd_wk rfl (Or.inl rfl) (Or.inr rfl)) (fun C s H fp=>pts_nil)
     (fun C s H fp=>pe_meth (pv 1) TC.cl MH.me GH hr1 MH.b .nil pass0 (pC (pv 0) pa_nil))) pa_nil)
  refine ⟨_,rfl,t,_,rfl,.inr (SqT.of ht),_,rfl,rfl,_,rfl,?_⟩
  have e:decide (V.int ((xs.map V.str).length:Nat)=V.int n)=decide (xs.length=n):=by
   rw [List.length_map]
   exact decide_eq_decide.mpr ⟨fun z=>by injection z with z;omega,fun z=>by rw [z]⟩
  rw [e]
  refine ite2 (fun h=>?_) (fun h=>?_)
  ·refine ⟨_,rfl,t,rfl,⟨_,SqT.of ht⟩,comp_pure (runs_tup (xs:=xs.map V.str)) (sL (by rw [List.length_map];omega)) (fun _=>true) (knownV rows) (fun D ys hD=>SqT.of (by rw [upd_ne (nNo ht hD)];exact ht)) ?_ ?_ ?_⟩
   ·intro D ys v R _ _ hR
    exact hR
   ·intro D ys v R hD hv _ hR
    obtain ⟨x,hx,rfl⟩:=List.mem_map.mp hv
    have s2:Same H (upd H D (.lst ys)):=snew hD
    exact ⟨_,rfl,p,dx,_,rfl,s2 _ _ h1,no_has _ _,_,rfl,p,rows,x,rfl,kd.mono s2,g,hR⟩
   ·intro D hD
    refine ⟨D,_,rfl,SqL.of (by rw [uS,knownV_map]),?_⟩
    have q':=q _ (snew (o:=.lst (((xs.map V.str).filter fun _=>true).map (knownV rows))) hD)
    unfold callB at q'
    rw [h,Bool.true_and] at q'
    show Q (.bl ((xs.map fun x=>decide (x∈rows.map (·.1))).all id)) _
    rw [List.all_map]
    exact q'
  ·have q':=q H (Same.refl H)
   unfold callB at q'
   rw [show decide (xs.length=n)=false by simpa using h,Bool.false_and] at q'
   exact q'
def DeedsV (H:Hp) (ds:List (List Str)) (vs:List V):Prop:=Paired (fun (d:List Str) v=>∃ t,v=V.ref t∧H t=some (.tup (d.map V.str))) ds vs
theorem DeedsV.mono {H H':Hp}{ds:List (List Str)}{vs:List V}(h:DeedsV H ds vs) (s:Same H H'):DeedsV H' ds vs:=Paired.mapP h fun _ _ ⟨t,e,x⟩=>⟨t,e,s _ _ x⟩
structure GoodDeeds (rows:List (Str×List Str)) (n:Nat) (ds:List (List Str)):Prop where
 call:∀ d∈ds,GoodCall rows n d
 nd:ds.Nodup
 few:ds.length≤64
def keyC (d:List Str):List Key:=d.map Sum.inr
theorem keyC_map (d:List Str):(keyC d).map kV=d.map V.str:=by
 unfold keyC
 rw [List.map_map]
 rfl
theorem keyC_inj {d e:List Str}(h:keyC d=keyC e):d=e:=by
 unfold keyC at h
 exact List.map_inj_right (fun a b z=>by injection z) |>.mp h
theorem taken_notD {ds:List (List Str)}(nd:ds.Nodup) {i:Nat}{d:List Str}(h:ds[i]?=some d):keyC d∉(ds.take i).map keyC:=by
 intro m
 obtain ⟨e,he,q⟩:=List.mem_map.mp m
 rw [keyC_inj q] at he
 exact not_taken nd h he
def spCheckDeeds (K:W.Frag) (C:Addr):Sp:=fun vs H Q _=>∃ (p l:Addr) (n:Nat) (b:Bool) (rows:List (Str×List Str)) (ds:List (List Str)) (us:List V),vs=[.ref p,.int n,.ref l]∧KindsAt C H p rows∧Good rows∧SqB K b H l us∧DeedsV H ds us∧GoodDeeds rows n ds∧n≤4∧∀ H',Same H H'→Q .non H'
abbrev nCD:List Str:=["kinds","places","deeds","seen","number","call"]
theorem scCD:FnScope nCD ["kinds","places","deeds"] (defScope s_check_deeds):=⟨rfl,rfl,rfl,by decide +kernel,rfl,by decide +kernel,by decide +kernel⟩
theorem ok_check_deeds {f C fI fH:Addr}{fd fdI fdH:FuncData}(F:Def K mg "check_deeds" s_check_deeds ["kinds","places","deeds"] f fd) (DI:Def K mg "is_call" s_is_call nIC fI fdI) (enum:mg "enumerate"=none) (len:mg "len"=none) (all:mg "all"=none) (TC:TxtC K C) (MH:MHas K C fH fdH):
  FnOk P w K mg base CX0 3 f fd ["kinds","places","deeds"] (spCheckDeeds K C):=by
 have GI:FnOk P w K mg base CX0 2 fI fdI nIC (spIsCall C):=ok_is_call DI len all TC MH
 refine F.fn.ok scCD (fun vs H Q E h=>?_) (fun cdv A outer s H vs Q E hr h=>?_)
 ·obtain ⟨p,l,n,b,rows,ds,us,rfl,_⟩:=h
  rfl
 ·obtain ⟨p,l,n,b,rows,ds,us,rfl,kd,g,hl,hD,gd,hn,q⟩:=h
  have nd:=scCD.nd
  have hu:=hu_of hr
  refine ⟨_,pS (ps_set (i:=3) nd rfl (Or.inl rfl) pe_dnewT)
   (pss_one (ps_for PassesOwn.never rfl (pi_enum (by rfl) enum (pC (pv 2) pa_nil)) (pg_tup rfl (gC (pg_name (i:=4) nd rfl (Or.inl rfl)) (gC (pg_name (i:=5) nd rfl (Or.inl rfl)) pgs_nil)))
    (pS (ps_if (pt_not (pt_val (pe_callD DI GI hr (pC (pv 0) (pC (pv 1) (pC (pv 5) pa_nil)))))) pss_never pss_nil)
    (pS (ps_if (pt_cmp (pc_din hu (pv 5) (pv 3))) pss_never pss_nil)
    (pss_one (ps_dput hu (pv 3) (pv 5) pe_bl rfl)))))),?_⟩
  intro d hd
  have s0:Same H (upd H d (.dT [])):=snew hd
  have hvl:=hD.length
  have few:=gd.few
  refine ⟨_,rfl,b,l,us,rfl,hl.mono s0,for_pairs (fun i σ H'=>∃ (kvs:List (List Key×V)) (a c:Option V),σ=[some (.ref p),some (.int n),some (.ref l),some (.ref d),a,c]∧Same H H'∧H' d=some (.dT kvs)∧kvs.map (·.1)=(ds.take i).map keyC)
   ⟨[],none,none,rfl,s0,uS,by simp⟩ (fun i σ H' _ ⟨_,_,_,_,s,_⟩=>hl.mono s) ?_ ?_⟩
  ·rintro i pr t σ H' hi ⟨kvs,a,c,rfl,s1,hdk,hk⟩ ht0
   obtain ⟨e1,hx⟩:=enumV_get hi
   obtain ⟨dd,hdd,t2,e2,ht2⟩:=paired_at hD hx
   refine g2_new ?_
   have s2:Same H' (upd H' t (.tup [pr.1,pr.2])):=snew ht0
   have hmem:dd∈ds:=List.mem_of_getElem? hdd
   have gc:=gd.call dd hmem
   rw [e2]
   show tSeq _ _ _ [some (.ref p),some (.int n),some (.ref l),some (.ref d),some pr.1,some (.ref t2)] _
   have s02:=s1.trans s2
   refine ⟨_,rfl,_,rfl,_,rfl,p,t2,n,rows,dd,rfl,kd.mono ?_,g,?_,by have:=gc.len;omega,fun H3 s3=>⟨_,rfl,?_⟩⟩
   ·rw [← e2];exact s02
   ·rw [← e2];exact s02 _ _ ht2
   rw [gc.is]
   refine iteF ?_
   rw [← e2] at s3
   have s03:=s02.trans s3
   have hd3:H3 d=some (.dT kvs):=s3 _ _ (s2 _ _ hdk)
   have ht3:H3 t2=some (.tup ((keyC dd).map kV)):=by rw [keyC_map];exact s03 _ _ ht2
   refine ⟨_,rfl,_,rfl,d,_,rfl,DGet.t (k:=keyC dd) hd3 ht3,_,rfl,?_⟩
   have hnew:keyC dd∉kvs.map (·.1):=by rw [hk];exact taken_notD gd.nd hdd
   rw [valV_noneG hnew]
   refine iteF ?_
   have hkl:kvs.length=(ds.take i).length:=by have:=congrArg List.length hk;simpa using this
   have hil:(ds.take i).length≤64:=by rw [List.length_take];omega
   refine ⟨_,rfl,_,rfl,d,_,rfl,DPut.t (k:=keyC dd) hd3 ht3 (small_lt (by omega)),?_⟩
   refine ⟨_,_,_,rfl,fun b o e=>?_,uS,?_⟩
   ·rw [upd_ne (nNo e hd)];exact s03 _ _ e
   ·rw [putK_keysG hnew,hk,List.take_add_one,hdd,List.map_append]
    rfl
  ·rintro σ H' ⟨kvs,a,c,rfl,s1,hdk,hk⟩
   exact q H' s1
end
end K72
namespace K72
open PySem L2 Md
theorem bne3:¬ (("width":Str)="stands"):=by decide +kernel
def fldsB (k t:Addr) (n:Nat):List (Str×V):=putF "stands" (.ref t) (putF "width" (.int n) (putF "book" (.ref k) []))
theorem fldsB_w (k t:Addr) (n:Nat):(fldsB k t n).lookup ("width":Str)=some (.int n):=by
 unfold fldsB
 rw [lookup_putF,if_neg bne3,lookup_putF,if_pos rfl]
theorem fldsB_s (k t:Addr) (n:Nat):(fldsB k t n).lookup ("stands":Str)=some (.ref t):=by
 unfold fldsB
 rw [lookup_putF,if_pos rfl]
theorem fldsB_no (k t:Addr) (n:Nat) {m:Str} (h1:¬ m="stands") (h2:¬ m="width") (h3:¬ m="book"):(fldsB k t n).lookup m=none:=by
 unfold fldsB
 rw [lookup_putF,if_neg h1,lookup_putF,if_neg h2,lookup_putF,if_neg h3]
 rfl
theorem no_bplaces (k t:Addr) (n:Nat):(fldsB k t n).lookup ("places":Str)=none:=fldsB_no k t n (by decide +kernel) (by decide +kernel) (by decide +kernel)
theorem no_bdeeds (k t:Addr) (n:Nat):(fldsB k t n).lookup ("deeds":Str)=none:=fldsB_no k t n (by decide +kernel) (by decide +kernel) (by decide +kernel)
structure BoardAt (C B:Addr) (H:Hp) (p k:Addr) (rows:List (Str×List Str)) (n:Nat) (ds:List (List Str)):Prop where
 ex:∃ (dx t:Addr) (us:List V),H p=some (.ins B dx (fldsB k t n))∧KindsAt C H k rows∧H t=some (.tup us)∧DeedsV H ds us
theorem BoardAt.mono {C B:Addr}{H H':Hp}{p k:Addr}{rows:List (Str×List Str)}{n:Nat}{ds:List (List Str)}(h:BoardAt C B H p k rows n ds) (s:Same H H'):BoardAt C B H' p k rows n ds:=by
 obtain ⟨dx,t,us,h1,h2,h3,h4⟩:=h.ex
 exact ⟨dx,t,us,s _ _ h1,h2.mono s,s _ _ h3,h4.mono s⟩
structure TxtBd (K:W.Frag) (B:Addr):Prop where
 cl:Cls K B
 nB:NoAttr K B "book"
 nW:NoAttr K B "width"
 nS:NoAttr K B "stands"
structure TxtBm (mg:Str→Option Value):Prop where
 places:∃ t,mg "MOST_PLACES"=some (.int 4 t)
 deeds:∃ t,mg "MOST_DEEDS"=some (.int 64 t)
 len:mg "len"=none
 all:mg "all"=none
 tuple:mg "tuple"=none
 list:mg "list"=none
 enum:mg "enumerate"=none
def spBInit (K:W.Frag) (C B:Addr):Sp:=fun vs H Q _=>∃ (p dx k l:Addr) (n:Nat) (rows:List (Str×List Str)) (ds:List (List Str)) (us:List V),vs=[.ref p,.ref k,.int n,.ref l]∧H p=some (.ins B dx [])∧KindsAt C H k rows∧Good rows∧(SqL K H l us∨H l=some (.tup us))∧DeedsV H ds us∧GoodDeeds rows n ds∧1≤n∧n≤4 ∧
 ∀ H',BoardAt C B H' p k rows n ds→(∀ b o,b≠p→H b=some o→H' b=some o)→Q .non H'
theorem kinds_keep {C p:Addr}{H H':Hp}{k:Addr}{rows:List (Str×List Str)}{o:HO}(h:KindsAt C H k rows) (hp:H p=some o) (s:∀ b o,b≠p→H b=some o→H' b=some o) (nk:k≠p) (no:∀ o' u,o≠.frz o' u) (nt:∀ xs,o≠.tup xs):KindsAt C H' k rows:=by
 obtain ⟨dx,d,a,o1,oa,kvs,avs,h1,h2,h3,h4⟩:=h.ex
 have ne:∀ {b o' u},H b=some (.frz o' u)→b≠p:=fun {b o' u} e z=>by rw [z,hp] at e;exact no _ _ (Option.some.inj e)
 have net:∀ {b xs},H b=some (.tup xs)→b≠p:=fun {b xs} e z=>by rw [z,hp] at e;exact nt _ (Option.some.inj e)
 exact ⟨dx,d,a,o1,oa,kvs,avs,s _ _ nk h1,⟨s _ _ (ne h2.at_) h2.at_,h2.ups.mono fun b xs e=>s _ _ (net e) e⟩,s _ _ (ne h3) h3,h4.mono fun b o' fk e=>s _ _ (ne e) e⟩
section
variable {P:Program} {w:World} {K:W.Frag} {mg:Str→Option Value} {base:Heap}
abbrev nBI:List Str:=["self","kinds","places","deeds"]
theorem scBI:FnScope nBI nBI (defScope s_Board___init__):=⟨rfl,rfl,rfl,by decide +kernel,rfl,by decide +kernel,by decide +kernel⟩
theorem ok_binit {f B C fD fI fH:Addr}{fd fdD fdI fdH:FuncData}(F:Fun K "__init__" "Board.__init__" s_Board___init__ f fd) (T:TxtBm mg) (TB:TxtBd K B) (TC:TxtC K C) (DD:Def K mg "check_deeds" s_check_deeds ["kinds","places","deeds"] fD fdD) (DI:Def K mg "is_call" s_is_call nIC fI fdI) (MH:MHas K C fH fdH) (hBC:B≠C):
  FnOk P w K mg base CX0 4 f fd nBI (spBInit K C B):=by
 have GD:FnOk P w K mg base CX0 3 fD fdD ["kinds","places","deeds"] (spCheckDeeds K C):=ok_check_deeds DD DI T.enum T.len T.all TC MH
 refine F.ok scBI (fun vs H Q E h=>?_) (fun cdv A outer s H vs Q E hr h=>?_)
 ·obtain ⟨p,dx,k,l,n,rows,ds,us,rfl,_⟩:=h
  rfl
 ·obtain ⟨p,dx,k,l,n,rows,ds,us,rfl,hp,kd,g,hl,hD,gd,n1,n4,q⟩:=h
  obtain ⟨b,hl,hb0⟩:∃ b,SqB K b H l us∧(b=false→H l=some (.tup us)):=by
   rcases hl with hl | hl
   ·exact ⟨true,hl,fun z=>by cases z⟩
   ·exact ⟨false,SqT.of hl,fun _=>hl⟩
  obtain ⟨t1,hP⟩:=T.places
  obtain ⟨t2,hM⟩:=T.deeds
  have hr3:Room 3 _:=hr.mono (by decide)
  refine ⟨_,pS (ps_if (pt_not (pt_chain op_le op_le pe_int (pv 2) (pe_glob (v:=.int 4) (by rfl) hP ⟨_,rfl⟩))) pss_never pss_nil)
   (pS (ps_if (pt_cmpR op_gt (pe_callB call_len (by rfl) T.len PySem.boot_len (pC (pv 3) pa_nil)) (pe_glob (v:=.int 64) (by rfl) hM ⟨_,rfl⟩) (nomark _)) pss_never pss_nil)
   (pS (ps_expr (pe_callD DD GD hr3 (pC (pv 1) (pC (pv 2) (pC (pv 3) pa_nil)))))
   (pS (ps_fld (pv 0) (pv 1) rfl) (pS (ps_fld (pv 0) (pv 2) rfl)
   (pss_one (ps_fld (pv 0) (pe_callTy call_tuple_of (by rfl) T.tuple PyProof.Rows.boot_tuple (pC (pv 3) pa_nil)) rfl)))))),?_⟩
  refine ⟨_,rfl,_,_,rfl,rfl,_,rfl,?_⟩
  rw [show decide ((1:Int)≤(n:Int))=true from decide_eq_true (by omega)]
  refine iteT ⟨_,_,rfl,rfl,_,rfl,?_⟩
  rw [show (decide ((n:Int)≤4))=true from decide_eq_true (by omega)]
  refine iteF ?_
  have hul:=hD.length
  have few:=gd.few
  refine ⟨_,rfl,_,_,rfl,len_seq hl,_,_,rfl,rfl,_,rfl,?_⟩
  rw [show decide ((64:Int)<(us.length:Int))=false from decide_eq_false (by omega)]
  refine iteF ?_
  refine ⟨_,rfl,_,rfl,_,rfl,p |> fun _=>k,l,n,b,rows,ds,us,rfl,kd,g,hl,hD,gd,n4,fun H1 s1=>?_⟩
  have hp1:=s1 _ _ hp
  have kd1:=kd.mono s1
  have nkp:k≠p:=by
   intro z
   obtain ⟨dx',d,a,o,oa,kvs,avs,h1,_⟩:=kd.ex
   rw [z,hp] at h1
   injection h1 with h1
   injection h1 with h1
   exact hBC h1
  refine ⟨_,rfl,_,rfl,p,B,dx,[],rfl,hp1,TB.cl,TB.nB,(by show 0<1000;decide),?_⟩
  refine ⟨_,rfl,_,rfl,p,B,dx,_,rfl,uS,TB.cl,TB.nW,(by show 1<1000;decide),?_⟩
  rw [upd_upd]
  have kp:∀ {fs:List (Str×V)} (b:Addr) (o:HO),b≠p→H b=some o→(upd H1 p (.ins B dx fs)) b=some o:=fun b o hb e=>by rw [upd_ne hb];exact s1 _ _ e
  have hlp:∀ {fs:List (Str×V)},SqB K b (upd H1 p (.ins B dx fs)) l us:=fun {fs}=>by
   have hl1:=hl.mono s1
   cases b with
   | true =>
    rcases (show SqL K H1 l us from hl1) with (e | ⟨o,e⟩) | e
    ·exact .inl (.inl (by rw [upd_ne (fun z=>by rw [z,hp1] at e;cases e)];exact e))
    ·exact .inl (.inr ⟨o,by rw [upd_ne (fun z=>by rw [z,hp1] at e;cases e)];exact e⟩)
    ·exact .inr e
   | false =>
    rcases (show SqT K H1 l us from hl1) with (e | ⟨o,e⟩) | e
    ·exact .inl (.inl (by rw [upd_ne (fun z=>by rw [z,hp1] at e;cases e)];exact e))
    ·exact .inl (.inr ⟨o,by rw [upd_ne (fun z=>by rw [z,hp1] at e;cases e)];exact e⟩)
    ·exact .inr e
  have fin:∀ (t:Addr) (H2:Hp),Same (upd H1 p (.ins B dx (putF "width" (.int n) (putF "book" (.ref k) [])))) H2→H2 t=some (.tup us)→Q .non (upd H2 p (.ins B dx (fldsB k t n))):=fun t H2 s2 ht=>by
   have hp2:H2 p=some (.ins B dx (putF "width" (.int n) (putF "book" (.ref k) []))):=s2 _ _ uS
   have k2:∀ b o,b≠p→H b=some o→(upd H2 p (.ins B dx (fldsB k t n))) b=some o:=fun b o hb e=>by rw [upd_ne hb];exact s2 _ _ (kp b o hb e)
   refine q _ ⟨dx,t,us,uS,kinds_keep kd hp k2 nkp (fun _ _ z=>by cases z) (fun _ z=>by cases z),by rw [upd_ne (fun z=>by rw [z,hp2] at ht;cases ht)];exact ht,Paired.mapP hD fun d v ⟨t',e,x⟩=>⟨t',e,k2 _ _ (fun z=>by rw [z,hp] at x;cases x) x⟩⟩ k2
  refine ⟨_,rfl,l,us,rfl,?_⟩
  have no:=hlp (fs:=putF "width" (.int n) (putF "book" (.ref k) []))
  have wd:(putF "width" (V.int n) (putF "book" (V.ref k) [])).length<1000:=by show 2<1000;decide
  cases b with
  | true =>
   refine .inl ⟨no,fun t ht=>⟨_,rfl,p,B,dx,_,rfl,(snew ht) _ _ uS,TB.cl,TB.nS,wd,fin t _ (snew ht) uS⟩⟩
  | false =>
   have e:(upd H1 p (.ins B dx (putF "width" (.int n) (putF "book" (.ref k) [])))) l=some (.tup us):=by
    have e0:=s1 _ _ (hb0 rfl)
    rw [upd_ne (fun z=>by rw [z,hp1] at e0;cases e0)]
    exact e0
   exact .inr ⟨no,_,rfl,p,B,dx,_,rfl,uS,TB.cl,TB.nS,wd,fin l _ (Same.refl _) e⟩
def spBPlaces (C B:Addr):Sp:=fun vs H Q _=>∃ (p k:Addr) (rows:List (Str×List Str)) (n:Nat) (ds:List (List Str)),vs=[.ref p]∧BoardAt C B H p k rows n ds∧Q (.int n) H
def spBDeeds (C B:Addr):Sp:=fun vs H Q _=>∃ (p k:Addr) (rows:List (Str×List Str)) (n:Nat) (ds:List (List Str)),vs=[.ref p]∧BoardAt C B H p k rows n ds∧∀ l us,H l=none→DeedsV H ds us→Q (.ref l) (upd H l (.lst us))
theorem scBP:FnScope ["self"] ["self"] (defScope s_Board_places):=⟨rfl,rfl,rfl,by decide +kernel,rfl,by decide +kernel,by decide +kernel⟩
theorem ok_bplaces {f C B:Addr}{fd:FuncData}(F:Fun K "places" "Board.places" s_Board_places f fd) (TB:TxtBd K B):FnOk P w K mg base CX0 1 f fd ["self"] (spBPlaces C B):=by
 refine F.ok scBP (fun vs H Q E h=>?_) (fun cdv A outer s H vs Q E hr h=>?_)
 ·obtain ⟨p,k,rows,n,ds,rfl,_⟩:=h
  rfl
 ·obtain ⟨p,k,rows,n,ds,rfl,⟨dx,t,us,h1,h2,h3,h4⟩,q⟩:=h
  exact ⟨_,pss_one (ps_ret (pe_fld (pv 0) rfl)),_,rfl,p,B,dx,_,_,rfl,h1,TB.cl,TB.nW,fldsB_w _ _ _,q⟩
theorem scBD:FnScope ["self"] ["self"] (defScope s_Board_deeds):=⟨rfl,rfl,rfl,by decide +kernel,rfl,by decide +kernel,by decide +kernel⟩
theorem ok_bdeeds {f C B:Addr}{fd:FuncData}(F:Fun K "deeds" "Board.deeds" s_Board_deeds f fd) (TB:TxtBd K B) (list:mg "list"=none):FnOk P w K mg base CX0 1 f fd ["self"] (spBDeeds C B):=by
 refine F.ok scBD (fun vs H Q E h=>?_) (fun cdv A outer s H vs Q E hr h=>?_)
 ·obtain ⟨p,k,rows,n,ds,rfl,_⟩:=h
  rfl
 ·obtain ⟨p,k,rows,n,ds,rfl,⟨dx,t,us,h1,h2,h3,h4⟩,q⟩:=h
  exact ⟨_,pss_one (ps_ret (pe_callTy call_list_of (by rfl) list PyProof.Rows.boot_list (pC (pe_fld (pv 0) rfl) pa_nil))),_,rfl,p,B,dx,_,_,rfl,h1,TB.cl,TB.nS,fldsB_s _ _ _,t,us,rfl,.inr (SqT.of h3),fun l hl=>q l us hl h4⟩
abbrev MBPlaces (K:W.Frag) (B f:Addr) (fd:FuncData):Prop:=MDef K B "places" "Board.places" s_Board_places ["self"] f fd
abbrev MBDeeds (K:W.Frag) (B f:Addr) (fd:FuncData):Prop:=MDef K B "deeds" "Board.deeds" s_Board_deeds ["self"] f fd
end
end K72
namespace K72
open PySem L2 Md
theorem pot_ne {H:Hp}{p a:Addr}{o:HO}{ws:List Str}(h:H p=some o) (ho:PotO o) (ha:H a=some (.lst (ws.map V.str))):p≠a:=ne_of h ha (by
 obtain ⟨r,b,e,_⟩:=ho
 rw [e]
 intro z
 injection z with z
 have z2:=congrArg (fun l=>l[0]?) z
 cases ws with
 | nil=>simp at z2
 | cons x r=>simp at z2)
theorem Drawn.tup {p:Addr}{H H':Hp}(d:Drawn p H H') {o:HO}(h:H p=some o) (ho:PotO o) {t:Addr}{xs:List V}(e:H t=some (.tup xs)):H' t=some (.tup xs):=
 d.keep _ _ (fun z=>by rw [z,h] at e;obtain ⟨_,_,q,_⟩:=ho;rw [q] at e;cases e) e
theorem rowsAt_mono {H H':Hp}{l:Addr}{rows:List (Str×List Str)}(h:RowsAt H l rows) (s:Same H H'):RowsAt H' l rows:=by
 obtain ⟨vs,a,p⟩:=h
 exact ⟨vs,s _ _ a,Paired.mapP p fun r v ⟨t,u,e,h1,h2⟩=>⟨t,u,e,s _ _ h1,s _ _ h2⟩⟩
theorem words_comp {K:W.Frag}{l:Addr}{H2:Hp}{rows:List (Str×List Str)}{σ:St}{te:TE}{Q:VK}(hR:RowsAt H2 l rows) (few:rows.length≤100)
  (he:∀ (t u:Addr) (x:Str) H' (R:VK),H' t=some (.tup [.str x,.ref u])→R (.str x) H'→te [some (.ref t)] H' R)
  (hd:∀ D H3,H2 D=none→Same H2 H3→H3 D=some (.lst ((rows.map (·.1)).map V.str))→Q (.ref D) H3):compBody 1 [] (gName 0) tTrue te σ Q (Itl K l) H2:=by
 obtain ⟨vs,hvs,hpr⟩:=hR
 refine comp_rel (runs_list (xs:=vs)) (sL (by rw [← hpr.length];omega)) (fun _=>true) (fun _ x v _=>∀ r,RowV H2 r x→v=.str r.1) (fun _ _ _ _ _ _ h=>h) (fun H' s=>s.seq (SqL.of hvs)) ?_ ?_ ?_
 ·intro x H3 R _ _ hR'
  exact hR' H3 (Same.refl _)
 ·intro D x H3 R s3 _ _ hx _ hR'
  obtain ⟨i,hi⟩:=List.mem_iff_getElem?.mp hx
  obtain ⟨r,hr',t,u,rfl,ht,hu'⟩:=paired_at hpr hi
  refine he t u r.1 H3 R (s3 _ _ ht) (hR' _ _ (Same.refl _) fun r' h'=>?_)
  obtain ⟨t',u',e1,e2,_⟩:=h'
  cases e1
  rw [ht] at e2
  have e2:=Option.some.inj e2
  injection e2 with e2
  injection e2 with e2 _
 ·intro D H3 ys hD s23 hlD hpD
  rw [all_true] at hpD
  have eys:ys=(rows.map (·.1)).map V.str:=by
   have:∀ {rows:List (Str×List Str)} {vs ys:List V},Paired (RowV H2) rows vs→Paired (fun x v=>∀ r,RowV H2 r x→v=.str r.1) vs ys→ys=(rows.map (·.1)).map V.str:=by
    intro rows vs ys a
    induction a generalizing ys with
    | nil=>intro b;cases b;rfl
    | cons h t ih =>
     intro b
     cases b with
     | cons h' t'=>rw [List.map_cons,List.map_cons,h' _ h,ih t']
   exact this hpr hpD
  subst eys
  exact hd D H3 hD s23 hlD
theorem drawn_item {ws:List Str}{v:Int} (h0:0≤v) (h1:v<(ws.map V.str).length):∃ x∈ws,atI (ws.map V.str) v=some (.str x):=by
 have hl:v.toNat<ws.length:=by rw [List.length_map] at h1;omega
 refine ⟨ws[v.toNat],List.getElem_mem hl,?_⟩
 have e:((v.toNat:Nat):Int)=v:=by omega
 have q:atI (ws.map V.str) ((v.toNat:Nat):Int)=some (.str ws[v.toNat]):=by
  refine atI_nat ?_
  rw [List.getElem?_map,List.getElem?_eq_getElem (by omega)]
  rfl
 rw [e] at q
 exact q
end K72
namespace K72
open PySem L2 Md
abbrev Dt:=W.Dat
def datC (d:List Str):Dt:=.tuple (d.map W.Dat.str)
theorem datC_inj {d e:List Str}(h:datC d=datC e):d=e:=by
 unfold datC at h
 injection h with h
 exact List.map_inj_right (fun a b z=>by injection z) |>.mp h
theorem rep_call {K:W.Frag}{H:Hp}{t:Addr}{d:List Str}(h:H t=some (.tup (d.map V.str))):Rep K H (.ref t) (datC d):=.tuple (SqT.of h) (reps_strs d)
theorem reps_deeds {K:W.Frag}{H:Hp}:∀ {ds:List (List Str)}{vs:List V},DeedsV H ds vs→Reps K H vs (ds.map datC)
 | _,_,.nil=>.nil
 | _,_,.cons ⟨t,e,h⟩ r=>by rw [e];exact .cons (rep_call h) (reps_deeds r)
theorem good_words {rows:List (Str×List Str)}(g:Good rows):∀ x∈rows.map (·.1),isWord x=true:=fun x hx=>by
 obtain ⟨r,hr,e⟩:=List.mem_map.mp hx
 rw [← e]
 exact g.word r hr
theorem reach_in {rows:List (Str×List Str)}(g:Good rows) {x y:Str}(hx:x∈rows.map (·.1)) (h:Graph.Reach (upsOf rows) x y):y∈rows.map (·.1):=
 Graph.closed_reach (S:=fun y=>y∈rows.map (·.1)) (fun z hz u hu=>reach_known g hz hu) h hx
theorem ok_str (n:Nat) {x:Str}(h:isWord x=true):W.kqdOk n (.str x)=true:=by
 have q:=ok_dat (ws:=[x]) (fun y hy=>by rw [List.mem_singleton.mp hy];exact h)
 rw [W.kqdOk] at q
 have q2:W.kqdOk 8 (.str x)=true:=by simpa using q
 rw [W.kqdOk] at q2
 rw [W.kqdOk]
 exact q2
theorem ok_call (n:Nat) {d:List Str}(h:∀ x∈d,isWord x=true):W.kqdOk (n + 1) (datC d)=true:=by
 unfold datC
 rw [W.kqdOk,List.all_eq_true]
 intro z hz
 obtain ⟨x,hx,rfl⟩:=List.mem_map.mp hz
 exact ok_str n (h x hx)
theorem ok_deeds (n:Nat) {ds:List (List Str)}(h:∀ d∈ds,∀ x∈d,isWord x=true):(ds.map datC).all (W.kqdOk (n + 1))=true:=by
 rw [List.all_eq_true]
 intro z hz
 obtain ⟨d,hd,rfl⟩:=List.mem_map.mp hz
 exact ok_call n (h d hd)
theorem any_deed (ds:List (List Str)) (d:List Str):((ds.map datC).any fun e=>dEq e (datC d))=decide (d∈ds):=by
 by_cases h:d∈ds
 ·rw [decide_eq_true h,List.any_eq_true]
  exact ⟨datC d,List.mem_map.mpr ⟨d,h,rfl⟩,dEq_self _⟩
 ·rw [decide_eq_false h,List.any_eq_false]
  intro z hz
  obtain ⟨e,he,rfl⟩:=List.mem_map.mp hz
  rw [dEq_neg fun q=>h (by rw [← datC_inj q];exact he)]
  exact Bool.false_ne_true
def spDeeds:Sp:=fun vs H Q _=>∃ (p l aa:Addr) (n m:Nat) (rows:List (Str×List Str)) (avs:List (Key×V)),vs=[.ref p,.ref l,.ref aa,.int n,.int m]∧(∃ o,H p=some o∧PotO o)∧RowsAt H l rows∧Good rows∧H aa=some (.dK avs)∧AboveL H rows rows avs∧1≤n∧n≤4∧m≤63 ∧
 ∀ (ld:Addr) (ds:List (List Str)) (us:List V) (H':Hp),Drawn p H H'→H ld=none→H' ld=some (.lst us)→DeedsV H' ds us→GoodDeeds rows n ds→ds.length≤m→Q (.ref ld) H'
abbrev rLenK (K:W.Frag):List V→Hp→VK→Prop:=fun xs H Q=>∃ p ys,xs=[.ref p]∧(SqL K H p ys∨SqT K H p ys)∧Q (.int ys.length) H
structure TxtD (mg:Str→Option Value):Prop where
 len:mg "len"=none
 range:mg "range"=none
 tuple:mg "tuple"=none
section
variable {P:Program} {w:World} {K:W.Frag} {mg:Str→Option Value} {base:Heap}
abbrev nDe:List Str:=["pot","rows","above","places","most","words","base","deeds","k","deed","near","place","some"]
theorem scDe:FnScope nDe ["pot","rows","above","places","most"] (defScope s__law_deeds):=⟨rfl,rfl,rfl,by decide +kernel,rfl,by decide +kernel,by decide +kernel⟩
theorem nd_row1:(["row"]:List Str).Nodup:=by decide +kernel
theorem nd_kwp:(["k","words","pot"]:List Str).Nodup:=by decide +kernel
theorem DeedsV.drawn {p:Addr}{H H':Hp}{o:HO}{ds:List (List Str)}{us:List V}(h:DeedsV H ds us) (k:∀ b xs,H b=some (.tup xs)→H' b=some (.tup xs)):DeedsV H' ds us:=Paired.mapP h fun _ _ ⟨t,e,x⟩=>⟨t,e,k _ _ x⟩
set_option maxHeartbeats 8000000 in
theorem ok_deedsD {f fT:Addr}{fd fdT:FuncData}(F:Def K mg "_law_deeds" s__law_deeds ["pot","rows","above","places","most"] f fd) (DT:Def K mg "_law_take" s__law_take ["pot","many"] fT fdT) (T:TxtD mg):
  FnOk P w K mg base CX0 2 f fd ["pot","rows","above","places","most"] spDeeds:=by
 have GT:FnOk P w K mg base CX0 1 fT fdT ["pot","many"] spTake:=ok_take DT
 refine F.fn.ok scDe (fun vs H Q E h=>?_) (fun cdv A outer s H vs Q E hr h=>?_)
 ·obtain ⟨p,l,aa,n,m,rows,avs,rfl,_⟩:=h
  rfl
 ·obtain ⟨p,l,aa,n,m,rows,avs,rfl,⟨o0,hp0,ho0⟩,hR,g,haa,hA,n1,n4,hm,q⟩:=h
  have nd:=scDe.nd
  have hu:=hu_of hr
  have hr1:Room 1 _:=hr.mono (by decide)
  have gle:=g.le
  refine' ⟨_,pS (ps_set (i:=5) nd rfl (Or.inr rfl) ?e1)
   (pS ?e2
   (pS (ps_set (i:=7) nd rfl (Or.inl rfl) (pe_lst pa_nil))
   (pS (ps_for PassesOwn.never rfl (pi_range1 (by rfl) T.range (pC (pe_callD DT GT hr1 (pC (pv 0) (pC (pe_op op_add (pv 4) pe_int) pa_nil))) pa_nil)) (pg_name (i:=8) nd rfl (Or.inl rfl))
    (pS (ps_set (i:=9) nd rfl (Or.inl rfl) (pe_lst pa_nil))
    (pS (ps_set (i:=10) nd rfl (Or.inl rfl) (pe_callD DT GT hr1 (pC (pv 0) (pC pe_int pa_nil))))
    (pS (ps_for PassesOwn.never rfl (pi_range1 (by rfl) T.range (pC (pv 3) pa_nil)) (pg_name (i:=11) nd rfl (Or.inl rfl))
     (pS (ps_set (i:=12) nd rfl (Or.inl rfl) (pv 5))
     (pss_cut (ps_if (pt_cmpR op_gt (pv 10) pe_int (nomark _)) (pss_one (ps_set (i:=12) nd rfl (Or.inl rfl) (pe_dget hu (pv 2) (pe_ix ix_list (pv 6) (pv 11) (fun _ _=>rfl)) (fun _ _=>rfl)))) pss_nil)
     (pss_one (ps_expr (pe_bm PySem.F.plainAttrs_list PySem.F.slot_list_append PySem.F.type_list_append mt_append (pv 9) (pC (pe_ix ix_list (pv 12) (pe_callD DT GT hr1 (pC (pv 0) (pC (pe_callB call_len_seq (by rfl) T.len PySem.boot_len (pC (pv 12) pa_nil)) pa_nil))) (fun _ _=>rfl)) pa_nil)))))))
    (pss_one (ps_if (pt_cmpR (op_notInD (hu65 hr)) (pe_callTy call_tuple_of (by rfl) T.tuple PyProof.Rows.boot_tuple (pC (pv 9) pa_nil)) (pv 7) (by with_unfolding_all rfl))
     (pss_one (ps_expr (pe_bm PySem.F.plainAttrs_list PySem.F.slot_list_append PySem.F.type_list_append mt_append (pv 7) (pC (pe_callTy call_tuple_of (by rfl) T.tuple PyProof.Rows.boot_tuple (pC (pv 9) pa_nil)) pa_nil)))) pss_nil))))))
   (pss_one (ps_ret (pv 7)))))),?_⟩
  case e1=>exact (pe_comp ["row"] [] [] (fun _=>compT_ok (osc:=defScope s__law_deeds) (on:=nDe) (by decide +kernel) rfl rfl rfl) (pi_list (pv 1)) (fun C s H fp=>pg_name (i:=0) nd_row1 rfl (Or.inl rfl) (Or.inr rfl)) (fun C s H fp=>pts_nil) (fun C s H fp=>pe_ix (r:=rIxT K) ix_tup (pv 0) pe_int (fun _ _=>rfl)))
  case e2=>exact (ps_setComp (k:=6) ["k"] ["words","pot"] [5,0] nd rfl rfl (fun _=>compT_ok (osc:=defScope s__law_deeds) (on:=nDe) (by decide +kernel) rfl rfl rfl) (pi_range1 (by rfl) T.range (pC (pv 3) pa_nil)) (fun C s H fp=>pg_name (i:=0) nd_kwp rfl (Or.inl rfl) (Or.inr rfl)) (fun C s H fp=>pts_nil)
    (fun C s H fp=>pe_ix (r:=rIxL K) ix_list (pv 1) (pe_callD DT GT hr1 (pC (pv 2) (pC (pe_callB (r:=rLenK K) call_len_seq (by rfl) T.len PySem.boot_len (pC (pv 1) pa_nil)) pa_nil))) (fun _ _=>rfl)))
  obtain ⟨vs0,hvs0,hpr0⟩:=id hR
  refine ⟨_,rfl,l,rfl,⟨_,SqL.of hvs0⟩,words_comp hR (by omega) (fun t u x H' R ht hRx=>⟨_,rfl,t,_,_,_,rfl,rfl,SqT.of ht,rfl,hRx⟩) fun lw H1 hlw s1 hw=>?_⟩
  have hp1:=s1 _ _ hp0
  have lwp:lw≠p:=Ne.symm (pot_ne hp1 ho0 hw)
  have lwH:H lw=none:=hlw
  have wne:rows.map (·.1)≠[]:=by
   have:=g.ne
   intro z
   have z2:=congrArg List.length z
   rw [List.length_map] at z2
   simp at z2
   rw [z2] at this
   simp at this
  have wpos:0<(rows.map (·.1)).length:=List.length_pos_iff.mpr wne
  have wl:(rows.map (·.1)).length≤24:=by rw [List.length_map];exact gle
  refine ⟨_,rfl,n,rfl,by omega,by omega,comp_runs runs_range (by rw [rangeV_len];exact sL (by omega)) (fun D i ys σ' H'=>Drawn p H1 H'∧H' D=some (.lst ys)∧∃ (bs:List Str) (o:Option V),ys=bs.map V.str∧bs.length=i∧(∀ x∈bs,x∈rows.map (·.1))∧σ'=[o,some (.ref lw),some (.ref p)])
   (fun D hD=>⟨(Drawn.refl ⟨o0,hp1,ho0⟩).new hD,uS,[],none,rfl,rfl,(fun x h=>nomatch h),rfl⟩) (fun D i ys σ' H' _ ⟨_,_,bs,_,e,el,_⟩=>⟨trivial,by rw [e,List.length_map];omega⟩) ?_ ?_⟩
  ·rintro D i v ys σ' H' hD hi ⟨d,hl,bs,o,rfl,rfl,hb,rfl⟩
   obtain ⟨hi,rfl⟩:=rangeV_get hi
   obtain ⟨o1,hpp,hoo⟩:=d.pot
   have hw1:=d.keep _ _ lwp hw
   have pD:p≠D:=nNo hp1 hD
   refine ⟨_,rfl,_,rfl,_,rfl,lw,_,rfl,.inl (SqL.of hw1),p,_,o1,rfl,hpp,hoo,by rw [List.length_map];omega,by rw [List.length_map];omega,fun v o2 hv0 hv1 ho2=>?_⟩
   obtain ⟨x,hxm,hat⟩:=drawn_item hv0 hv1
   have d2:Drawn p H' (upd H' p o2):=Drawn.upd ho2
   refine ⟨lw,_,_,_,rfl,rfl,SqL.of (d2.keep _ _ lwp hw1),hat,d2.keep _ _ (Ne.symm pD) hl,(d.trans d2).sub (o':=.lst []) (q:=D) (fun b o hb e=>by rw [upd_ne hb];exact e) hD pD,uS,bs++[x],_,by rw [List.map_append];rfl,by simp,fun y hy=>?_,rfl⟩
   rcases List.mem_append.mp hy with z | z
   ·exact hb y z
   ·rw [List.mem_singleton.mp z];exact hxm
  rintro lb ys σ' H2 hlb ⟨d2,hlb2,bs,o,rfl,hbl,hb,rfl⟩
  rw [rangeV_len] at hbl
  have hbl:bs.length=n:=by simpa using hbl
  have dH2:Drawn p H H2:=⟨fun b o hb e=>d2.keep b o hb (s1 _ _ e),d2.pot⟩
  have hw2:=d2.keep _ _ lwp hw
  have lbH:H lb=none:=s1.free hlb
  have pb:p≠lb:=nNo hp0 lbH
  have wb:lw≠lb:=nNo hw hlb
  refine ⟨Nat.zero_le _,fun ld hld=>?_⟩
  have d3:=dH2.new (o:=.lst []) hld
  have keep3:∀ b o,H2 b=some o→(upd H2 ld (.lst [])) b=some o:=snew hld
  have ldH:H ld=none:=by
   cases e:H ld with
   | none=>rfl
   | some u =>
    by_cases z:ld=p
    ·obtain ⟨o1,h1,_⟩:=d2.pot
     rw [z,h1] at hld
     cases hld
    ·rw [dH2.keep _ _ z e] at hld
     cases hld
  have pd:p≠ld:=nNo hp0 ldH
  have wd:lw≠ld:=nNo hw2 hld
  have bd:lb≠ld:=nNo hlb2 hld
  obtain ⟨o3,hp3,ho3⟩:=d3.pot
  refine ⟨_,rfl,_,rfl,_,_,rfl,rfl,p,_,o3,rfl,hp3,ho3,by omega,by omega,fun v o4 hv0 hv1 ho4=>⟨v,rfl,by omega,by omega,?_⟩⟩
  have d4:Drawn p H (upd (upd H2 ld (.lst [])) p o4):=d3.trans (Drawn.upd ho4)
  refine for_runs runs_range (fun i σ H'=>∃ (ds:List (List Str)) (us:List V) (a b c d e:Option V),σ=[some (.ref p),some (.ref l),some (.ref aa),some (.int n),some (.int m),some (.ref lw),some (.ref lb),some (.ref ld),a,b,c,d,e]∧Drawn p H H'∧H' lw=some (.lst ((rows.map (·.1)).map V.str))∧H' lb=some (.lst (bs.map V.str))∧H' ld=some (.lst us)∧DeedsV H' ds us ∧
   (∀ d∈ds,GoodCall rows n d)∧ds.Nodup∧ds.length≤i)
   ⟨[],[],none,none,none,none,none,rfl,d4,by rw [upd_ne lwp];exact keep3 _ _ hw2,by rw [upd_ne (Ne.symm pb)];exact keep3 _ _ hlb2,by rw [upd_ne (Ne.symm pd)];exact uS,.nil,(fun d h=>nomatch h),List.nodup_nil,Nat.le_refl _⟩ (fun _ _ _ _ _=>trivial) ?_ ?_
  ·rintro i v' σ H5 hi ⟨ds,us,a5,b5,c5,e5,f5,rfl,d5,hw5,hb5,hd5,hD5,gc5,nd5,len5⟩
   obtain ⟨hi,rfl⟩:=rangeV_get hi
   obtain ⟨o5,hp5,ho5⟩:=d5.pot
   refine ⟨Nat.zero_le _,fun lq hlq=>?_⟩
   have d6:=(Drawn.refl (p:=p) ⟨o5,hp5,ho5⟩).new (o:=.lst []) hlq
   obtain ⟨o6,hp6,ho6⟩:=d6.pot
   refine ⟨_,rfl,p,3,o6,rfl,hp6,ho6,by decide,by decide,fun nr o7 hn0 hn1 ho7=>?_⟩
   have pq:p≠lq:=nNo hp5 hlq
   have d7:Drawn p H5 (upd (upd H5 lq (.lst [])) p o7):=d6.trans (Drawn.upd ho7)
   refine ⟨_,rfl,n,rfl,by omega,by omega,for_runs runs_range (fun j σ H'=>∃ (xs:List Str) (d e:Option V),σ=[some (.ref p),some (.ref l),some (.ref aa),some (.int n),some (.int m),some (.ref lw),some (.ref lb),some (.ref ld),some (.int (0 + (i:Nat))),some (.ref lq),some (.int nr),d,e]∧Drawn p H5 H'∧H' lq=some (.lst (xs.map V.str))∧xs.length=j∧∀ x∈xs,x∈rows.map (·.1))
    ⟨[],_,_,rfl,d7,by rw [upd_ne (Ne.symm pq)];exact uS,rfl,(fun x h=>nomatch h)⟩ (fun _ _ _ _ _=>trivial) ?_ ?_⟩
   ·rintro j v2 σ H8 hj ⟨xs,d8,e8,rfl,dr8,hq8,rfl,hx8⟩
    obtain ⟨hj,rfl⟩:=rangeV_get hj
    have hj:xs.length<n:=by omega
    obtain ⟨o8,hp8,ho8⟩:=dr8.pot
    have dr08:=d5.trans dr8
    have hw8:=dr8.keep _ _ lwp hw5
    have hb8:=dr8.keep _ _ (Ne.symm pb) hb5
    refine ⟨_,rfl,?_⟩
    refine ⟨fun σ' H'=>∃ (as:Addr) (fs:List Str),σ'=[some (.ref p),some (.ref l),some (.ref aa),some (.int n),some (.int m),some (.ref lw),some (.ref lb),some (.ref ld),some (.int (0 + (i:Nat))),some (.ref lq),some (.int nr),some (.int (0 + (xs.length:Nat))),some (.ref as)]∧H'=H8∧H8 as=some (.lst (fs.map V.str))∧fs≠[]∧fs.length≤24∧∀ x∈fs,x∈rows.map (·.1),?_,?_⟩
    ·refine ⟨_,rfl,_,_,rfl,rfl,_,rfl,ite2 (fun h=>?_) (fun h=>?_)⟩
     ·have hbx:bs[xs.length]?=some (bs[xs.length]'(by omega)):=List.getElem?_eq_getElem (by omega)
      generalize bs[xs.length]'(by omega)=x at hbx
      have hxm:=hb x (List.mem_of_getElem? hbx)
      obtain ⟨r,hr',er⟩:=word_row hxm
      obtain ⟨t,fs,hv,ht,hfs,fl⟩:=hA.val' g.nd hr'
      have xfs:x∈fs:=(hfs x).mpr (by rw [er];exact .refl x)
      have tp:t≠p:=Ne.symm (pot_ne hp0 ho0 ht)
      have aap:aa≠p:=fun z=>by rw [z,hp0] at haa;obtain ⟨_,_,q',_⟩:=ho0;rw [q'] at haa;cases haa
      have hat:atI (bs.map V.str) (0 + (xs.length:Nat):Int)=some (.str x):=by
       rw [Int.zero_add]
       refine atI_nat ?_
       rw [List.getElem?_map,hbx]
       rfl
      have kn:∀ y∈fs,y∈rows.map (·.1):=fun y hy=>reach_in g hxm (by rw [← er];exact (hfs y).mp hy)
      exact ⟨_,rfl,_,rfl,_,rfl,lb,_,_,_,rfl,rfl,SqL.of hb8,hat,aa,_,rfl,(by rw [← hv,er];exact DGet.k (k:=Sum.inr x) (dr08.keep _ _ aap haa)),t,fs,rfl,rfl,dr08.keep _ _ tp ht,(fun z=>by rw [z] at xfs;cases xfs),by omega,kn⟩
     ·exact ⟨lw,_,rfl,rfl,hw8,wne,wl,fun x h=>h⟩
    ·rintro σ' H' ⟨as,fs,rfl,e8',has,fne,fl,fk⟩
     have e9:=e8'.symm
     subst e9
     have fpos:0<fs.length:=List.length_pos_iff.mpr fne
     have ap:as≠p:=Ne.symm (pot_ne hp8 ho8 has)
     refine ⟨_,rfl,.inl ⟨rfl,_,SqL.of hq8⟩,_,rfl,_,rfl,_,rfl,as,_,rfl,.inl (SqL.of has),p,_,o8,rfl,hp8,ho8,by rw [List.length_map];omega,by rw [List.length_map];omega,fun v o9 hv0 hv1 ho9=>?_⟩
     obtain ⟨x,hxm,hat⟩:=drawn_item hv0 hv1
     have d9:Drawn p H8 (upd H8 p o9):=Drawn.upd ho9
     have hq9:=d9.keep _ _ (Ne.symm pq) hq8
     refine ⟨as,_,_,_,rfl,rfl,SqL.of (d9.keep _ _ ap has),hat,lq,_,_,rfl,rfl,hq9,small_lt (by rw [List.length_map];omega),xs++[x],_,_,rfl,(dr8.trans d9).sub (o':=.lst []) (q:=lq) (fun b o hb e=>by rw [upd_ne hb];exact e) hlq pq,by rw [uS,List.map_append];rfl,by simp,fun y hy=>?_⟩
     rcases List.mem_append.mp hy with z | z
     ·exact hx8 y z
     ·rw [List.mem_singleton.mp z];exact fk x hxm
   ·rintro σ H8 ⟨xs,d8,e8,rfl,dr8,hq8,hxl,hx8⟩
    rw [rangeV_len] at hxl
    have hxl:xs.length=n:=by simpa using hxl
    have ldp:ld≠p:=Ne.symm pd
    have hd8:=dr8.keep _ _ ldp hd5
    have hD8:DeedsV H8 ds us:=hD5.drawn (p:=p) (o:=.lst []) fun b zs e=>Drawn.tup dr8 hp5 ho5 e
    have okx:∀ y∈xs,isWord y=true:=fun y hy=>good_words g y (hx8 y hy)
    have okd:∀ d∈ds,∀ y∈d,isWord y=true:=fun d hd y hy=>good_words g y ((gc5 d hd).known y hy)
    have dr08:=d5.trans dr8
    have ldq:ld≠lq:=nNo hd5 hlq
    have lwq:lw≠lq:=nNo hw5 hlq
    have lbq:lb≠lq:=nNo hb5 hlq
    have hi':i<m + 1:=by omega
    refine ⟨_,rfl,lq,_,rfl,.inl ⟨SqL.of hq8,fun t ht=>?_⟩⟩
    have s9:Same H8 (upd H8 t (.tup (xs.map V.str))):=snew ht
    refine ⟨_,rfl,datC xs,ds.map datC,rep_call uS,.list (SqL.of (s9 _ _ hd8)) (reps_deeds (hD8.mono s9)),ok_call 8 okx,ok_deeds 7 okd,_,rfl,?_⟩
    rw [any_deed]
    refine ite2 (fun h=>?_) (fun h=>?_)
    ·have hn:xs∉ds:=by simpa using h
     refine ⟨_,rfl,.inl ⟨rfl,_,SqL.of (s9 _ _ hd8)⟩,_,rfl,lq,_,rfl,.inl ⟨SqL.of (s9 _ _ hq8),fun t2 ht2=>?_⟩⟩
     have s10:=s9.trans (snew (o:=.tup (xs.map V.str)) ht2)
     have hd10:=s10 _ _ hd8
     have hul:=hD8.length
     refine ⟨ld,_,_,rfl,rfl,hd10,small_lt (by omega),ds++[xs],us++[.ref t2],_,_,_,_,_,rfl,?_,?_,?_,uS,?_,?_,?_,?_⟩
     ·exact (dr08.same s10).sub (o':=.lst []) (q:=ld) (fun b o hb e=>by rw [upd_ne hb];exact e) ldH pd
     ·rw [upd_ne wd];exact s10 _ _ (dr8.keep _ _ lwp hw5)
     ·rw [upd_ne bd];exact s10 _ _ (dr8.keep _ _ (Ne.symm pb) hb5)
     ·have tk:∀ b zs,(upd (upd H8 t (.tup (xs.map V.str))) t2 (.tup (xs.map V.str))) b=some (.tup zs)→(upd (upd (upd H8 t (.tup (xs.map V.str))) t2 (.tup (xs.map V.str))) ld (.lst (us++[V.ref t2]))) b=some (.tup zs):=fun b zs e=>by
       rw [upd_ne (fun z=>by rw [z,hd10] at e;cases e)];exact e
      exact Paired.snoc ((hD8.mono s10).drawn (p:=p) (o:=.lst []) tk) ⟨t2,rfl,tk _ _ uS⟩
     ·intro d hd
      rcases List.mem_append.mp hd with z | z
      ·exact gc5 d z
      ·rw [List.mem_singleton.mp z];exact ⟨hxl,hx8⟩
     ·rw [List.nodup_append]
      exact ⟨nd5,by simp,fun a ha b hb e=>hn (by rw [← List.mem_singleton.mp hb,← e];exact ha)⟩
     ·rw [List.length_append]
      show ds.length + 1≤i + 1
      omega
    ·exact ⟨ds,us,_,_,_,_,_,rfl,dr08.same s9,s9 _ _ (dr8.keep _ _ lwp hw5),s9 _ _ (dr8.keep _ _ (Ne.symm pb) hb5),s9 _ _ hd8,hD8.mono s9,gc5,nd5,by omega⟩
  ·rintro σ H6 ⟨ds,us,a5,b5,c5,e5,f5,rfl,d6,hw6,hb6,hd6,hD6,gc6,nd6,len6⟩
   rw [rangeV_len] at len6
   exact ⟨_,rfl,q ld ds us H6 d6 ldH hd6 hD6 ⟨gc6,nd6,by omega⟩ (by omega)⟩
end
end K72
namespace K72
open PySem L2 Md
def kRowD (r:Str×List Str):W.Dat:=.tuple [.str r.1,.tuple (r.2.map W.Dat.str)]
theorem reps_krows {K:W.Frag}{H:Hp}:∀ {rows:List (Str×List Str)}{vs:List V},Paired (RowV H) rows vs→Reps K H vs (rows.map kRowD)
 | _,_,.nil=>.nil
 | _,_,.cons h t=>by
  obtain ⟨a,u,rfl,h1,h2⟩:=h
  exact .cons (.tuple (SqT.of h1) (.cons (.str _) (.cons (.tuple (SqT.of h2) (reps_strs _)) .nil))) (reps_krows t)
theorem up_word {rows:List (Str×List Str)}(g:Good rows) {r:Str×List Str}(hr:r∈rows):∀ u∈r.2,isWord u=true:=fun u hu=>by
 obtain ⟨q,hq,e⟩:=List.mem_map.mp (g.known r hr u hu)
 rw [← e];exact g.word q hq
theorem ok_krows {rows:List (Str×List Str)}(g:Good rows):W.kqdOk 9 (.list (rows.map kRowD))=true:=by
 show (rows.map kRowD).all (W.kqdOk 8)=true
 rw [List.all_eq_true]
 intro d hd
 obtain ⟨r,hr,rfl⟩:=List.mem_map.mp hd
 show ([W.Dat.str r.1,.tuple (r.2.map W.Dat.str)].all (W.kqdOk 7))=true
 rw [List.all_cons,List.all_cons,List.all_nil,Bool.and_true,Bool.and_eq_true]
 refine ⟨word_ok (g.word r hr),?_⟩
 show (r.2.map W.Dat.str).all (W.kqdOk 6)=true
 rw [List.all_eq_true]
 intro d hd
 obtain ⟨x,hx,rfl⟩:=List.mem_map.mp hd
 exact word_ok (up_word g hr x hx)
end K72
namespace K72
open PySem L2 Md
theorem mk_board {K:W.Frag}{C B:Addr}{Hx:Hp}{xb yb dy lz:Addr}{n:Nat}{rows:List (Str×List Str)}{ds:List (List Str)}{us:List V}{R:Hp→Prop}{E:XK}(ny:Hx yb=none) (ndy:Hx dy=none) (kd:KindsAt C Hx xb rows) (g:Good rows) (hz:Hx lz=some (.lst us)∨Hx lz=some (.tup us)) (hD:DeedsV Hx ds us) (gd:GoodDeeds rows n ds) (n1:1≤n) (n4:n≤4) (h:∀ H',Same Hx H'→BoardAt C B H' yb xb rows n ds→R H'):
  spBInit K C B [.ref yb,.ref xb,.int n,.ref lz] (upd (upd Hx dy (.own yb)) yb (.ins B dy [])) (fun v H3=>v=.non∧R H3) E:=by
 have s34:Same Hx (upd (upd Hx dy (.own yb)) yb (.ins B dy [])):=fun b o e=>by
  have e1:(upd Hx dy (.own yb)) b=some o:=by rw [upd_ne (nNo e ndy)];exact e
  rw [upd_ne (nNo e ny)];exact e1
 exact ⟨yb,dy,xb,lz,n,rows,ds,us,rfl,uS,kd.mono s34,g,hz.elim (fun e=>.inl (SqL.of (s34 _ _ e))) (fun e=>.inr (s34 _ _ e)),hD.mono s34,gd,n1,n4,fun H5 bd keep5=>⟨rfl,h H5 (fun b o e=>keep5 b o (nNo e ny) (s34 _ _ e)) bd⟩⟩
end K72
namespace K72
open PySem L2 Md
abbrev Nam:=Str×Nat×List (List Str×Str)
def PrV (H:Hp) (p:List Str×Str) (v:V):Prop:=∃ t tc:Addr,v=V.ref t∧H t=some (.tup [.ref tc,.str p.2])∧H tc=some (.tup (p.1.map V.str))
def PrsV (H:Hp) (ps:List (List Str×Str)) (vs:List V):Prop:=Paired (PrV H) ps vs
theorem PrsV.mono {H H':Hp}{ps:List (List Str×Str)}{vs:List V}(h:PrsV H ps vs) (k:∀ b xs,H b=some (.tup xs)→H' b=some (.tup xs)):PrsV H' ps vs:=Paired.mapP h fun _ _ ⟨t,tc,e,h1,h2⟩=>⟨t,tc,e,k _ _ h1,k _ _ h2⟩
theorem tupsS {H H':Hp}(s:Same H H'):∀ b xs,H b=some (.tup xs)→H' b=some (.tup xs):=fun _ _ e=>s _ _ e
def NameV (K:W.Frag) (H:Hp) (n:Nam) (v:V):Prop:=∃ (t tp:Addr) (b:Bool) (vs:List V),v=V.ref t∧H t=some (.tup [.str n.1,.int n.2.1,.ref tp])∧SqB K b H tp vs∧PrsV H n.2.2 vs
theorem NameV.mono {K:W.Frag}{H H':Hp}{n:Nam}{v:V}(h:NameV K H n v) (s:Same H H'):NameV K H' n v:=by
 obtain ⟨t,tp,b,vs,e,h1,h2,h3⟩:=h
 exact ⟨t,tp,b,vs,e,s _ _ h1,h2.mono s,h3.mono (tupsS s)⟩
structure GoodName (rows:List (Str×List Str)) (n:Nam):Prop where
 word:isWord n.1=true
 one:1≤n.2.1
 four:n.2.1≤4
 deeds:GoodDeeds rows n.2.1 (n.2.2.map (·.1))
 made:∀ p∈n.2.2,p.2∈rows.map (·.1)
structure GoodNames (rows:List (Str×List Str)) (ns:List Nam):Prop where
 few:ns.length≤8
 each:∀ n∈ns,GoodName rows n
 nd:(ns.map (·.1)).Nodup
theorem kne1:¬ (("book":Str)="made_of"):=by decide +kernel
theorem kne2:¬ (("book":Str)="board_of"):=by decide +kernel
theorem kne3:¬ (("board_of":Str)="made_of"):=by decide +kernel
def fldsK (k bo mo:Addr):List (Str×V):=putF "made_of" (.ref mo) (putF "board_of" (.ref bo) (putF "book" (.ref k) []))
theorem fldsK_b (k bo mo:Addr):(fldsK k bo mo).lookup ("book":Str)=some (.ref k):=by
 unfold fldsK
 rw [lookup_putF,if_neg kne1,lookup_putF,if_neg kne2,lookup_putF,if_pos rfl]
theorem fldsK_o (k bo mo:Addr):(fldsK k bo mo).lookup ("board_of":Str)=some (.ref bo):=by
 unfold fldsK
 rw [lookup_putF,if_neg kne3,lookup_putF,if_pos rfl]
theorem fldsK_m (k bo mo:Addr):(fldsK k bo mo).lookup ("made_of":Str)=some (.ref mo):=by
 unfold fldsK
 rw [lookup_putF,if_pos rfl]
theorem fldsK_no (k bo mo:Addr) {m:Str} (h1:¬ m="made_of") (h2:¬ m="board_of") (h3:¬ m="book"):(fldsK k bo mo).lookup m=none:=by
 unfold fldsK
 rw [lookup_putF,if_neg h1,lookup_putF,if_neg h2,lookup_putF,if_neg h3]
 rfl
def ByName (R:Nam→V→Prop) (ns:List Nam) (kvs:List (Key×V)):Prop:=Paired (fun (n:Nam) (p:Key×V)=>p.1=Sum.inr n.1∧R n p.2) ns kvs
theorem ByName.imp {R S:Nam→V→Prop}{ns:List Nam}{kvs:List (Key×V)}(h:ByName R ns kvs) (f:∀ n v,R n v→S n v):ByName S ns kvs:=Paired.mapP h fun _ _ z=>⟨z.1,f _ _ z.2⟩
theorem ByName.keys {R:Nam→V→Prop}:∀ {ns:List Nam}{kvs:List (Key×V)},ByName R ns kvs→kvs.map (·.1)=ns.map fun n=>(Sum.inr n.1:Key)
 | _,_,.nil=>rfl
 | _,_,.cons r t=>by rw [List.map_cons,List.map_cons,r.1,ByName.keys t]
theorem ByName.val {R:Nam→V→Prop}:∀ {ns:List Nam}{kvs:List (Key×V)},ByName R ns kvs→(ns.map (·.1)).Nodup→∀ {n:Nam},n∈ns→∃ v,valV kvs (Sum.inr n.1)=some v∧R n v
 | _,_,.nil,_,n,h=>nomatch h
 | q :: rs,p :: ps,.cons z t,nd,n,h=>by
  have nd':(q.1 :: rs.map (·.1)).Nodup:=nd
  obtain ⟨n1,n2⟩:=List.nodup_cons.mp nd'
  obtain ⟨z1,z2⟩:=z
  rcases List.mem_cons.mp h with e | h
  ·subst e
   exact ⟨p.2,by rw [valV_pos z1],z2⟩
  ·have ne:¬ p.1=(Sum.inr n.1:Key):=fun e=>n1 (by
    rw [z1] at e
    have e':q.1=n.1:=by injection e
    rw [e']
    exact List.mem_map.mpr ⟨n,h,rfl⟩)
   obtain ⟨v,h1,h2⟩:=ByName.val t n2 h
   exact ⟨v,by rw [valV_neg ne];exact h1,h2⟩
theorem ByName.not {R:Nam→V→Prop}{ns:List Nam}{kvs:List (Key×V)}(h:ByName R ns kvs) {x:Str}(hx:x∉ns.map (·.1)):valV kvs (Sum.inr x)=none:=valV_none fun z=>hx (by
 rw [h.keys] at z
 obtain ⟨n,hn,e⟩:=List.mem_map.mp z
 have e':n.1=x:=by injection e
 exact List.mem_map.mpr ⟨n,hn,e'⟩)
theorem ByName.some {R:Nam→V→Prop}{ns:List Nam}{kvs:List (Key×V)}(h:ByName R ns kvs) {x:Str}(hx:x∈ns.map (·.1)):(valV kvs (Sum.inr x)).isSome=true:=some_of_key (by
 rw [h.keys]
 obtain ⟨n,hn,e⟩:=List.mem_map.mp hx
 exact List.mem_map.mpr ⟨n,hn,by rw [e]⟩)
def BoR (C B:Addr) (H:Hp) (k:Addr) (rows:List (Str×List Str)):Nam→V→Prop:=fun n v=>∃ y,v=.ref y∧BoardAt C B H y k rows n.2.1 (n.2.2.map (·.1))
def MaR (Z:Addr→Prop) (H:Hp):Nam→V→Prop:=fun n v=>∃ l,v=.ref l∧H l=some (.lst ((n.2.2.map (·.2)).map V.str))∧¬ Z l
structure BookZ (Z:Addr→Prop) (C B D:Addr) (H:Hp) (p k:Addr) (rows:List (Str×List Str)) (ns:List Nam):Prop where
 ex:∃ (dx bo mo:Addr) (o:Obj) (bvs mvs:List (Key×V)),H p=some (.ins D dx (fldsK k bo mo))∧KindsAt C H k rows∧H bo=some (.frz o (.dK bvs))∧ByName (BoR C B H k rows) ns bvs∧H mo=some (.dK mvs)∧ByName (MaR Z H) ns mvs
abbrev BookAt:=BookZ fun _=>False
theorem BookZ.at_ {Z:Addr→Prop}{C B D:Addr}{H:Hp}{p k:Addr}{rows:List (Str×List Str)}{ns:List Nam}(h:BookZ Z C B D H p k rows ns):BookAt C B D H p k rows ns:=by
 obtain ⟨dx,bo,mo,o,bvs,mvs,h1,h2,h3,h4,h5,h6⟩:=h.ex
 exact ⟨dx,bo,mo,o,bvs,mvs,h1,h2,h3,h4,h5,h6.imp fun n v ⟨l,e,b,_⟩=>⟨l,e,b,id⟩⟩
theorem BookZ.mono {Z:Addr→Prop}{C B D:Addr}{H H':Hp}{p k:Addr}{rows:List (Str×List Str)}{ns:List Nam}(h:BookZ Z C B D H p k rows ns) (s:Same H H'):BookZ Z C B D H' p k rows ns:=by
 obtain ⟨dx,bo,mo,o,bvs,mvs,h1,h2,h3,h4,h5,h6⟩:=h.ex
 exact ⟨dx,bo,mo,o,bvs,mvs,s _ _ h1,h2.mono s,s _ _ h3,h4.imp fun n v ⟨y,e,b⟩=>⟨y,e,b.mono s⟩,s _ _ h5,h6.imp fun n v ⟨l,e,b,z⟩=>⟨l,e,s _ _ b,z⟩⟩
theorem board_keep {C B:Addr}{H H':Hp}{p k q:Addr}{o:HO}{rows:List (Str×List Str)}{n:Nat}{ds:List (List Str)}(h:BoardAt C B H p k rows n ds) (hq:H q=some o) (no:∀ o' u,o≠.frz o' u) (nt:∀ xs,o≠.tup xs) (ni:∀ c d f,o≠.ins c d f) (s:∀ b o,b≠q→H b=some o→H' b=some o):BoardAt C B H' p k rows n ds:=by
 obtain ⟨dx,t,us,h1,h2,h3,h4⟩:=h.ex
 have ne:∀ {b u},H b=some u→o≠u→b≠q:=fun {b u} e n z=>by rw [z,hq] at e;exact n (Option.some.inj e)
 have nk:k≠q:=by
  obtain ⟨_,_,_,_,_,_,_,e,_⟩:=h2.ex
  exact ne e (ni _ _ _)
 exact ⟨dx,t,us,s _ _ (ne h1 (ni _ _ _)) h1,kinds_keep h2 hq s nk no nt,s _ _ (ne h3 (nt _)) h3,Paired.mapP h4 fun _ _ ⟨t',e,x⟩=>⟨t',e,s _ _ (ne x (nt _)) x⟩⟩
def fsP (H:Hp):V→V
 | .ref t=>match H t with
  | some (.tup [x,_])=>x
  | _=>.non
 | _=>.non
def snP (H:Hp):V→V
 | .ref t=>match H t with
  | some (.tup [_,x])=>x
  | _=>.non
 | _=>.non
theorem fsP_at {H:Hp}{t:Addr}{x y:V}(h:H t=some (.tup [x,y])):fsP H (.ref t)=x:=by show (match H t with | some (.tup [x,_])=>x | _=>.non)=x;rw [h]
theorem snP_at {H:Hp}{t:Addr}{x y:V}(h:H t=some (.tup [x,y])):snP H (.ref t)=y:=by show (match H t with | some (.tup [_,x])=>x | _=>.non)=y;rw [h]
theorem pairV_fst {H:Hp}{p:List Str×Str}{v:V}(h:PrV H p v):∃ tc,fsP H v=.ref tc∧H tc=some (.tup (p.1.map V.str)):=by
 obtain ⟨t,tc,rfl,h1,h2⟩:=h
 exact ⟨tc,fsP_at h1,h2⟩
theorem pairV_snd {H:Hp}{p:List Str×Str}{v:V}(h:PrV H p v):snP H v=.str p.2:=by
 obtain ⟨t,tc,rfl,h1,h2⟩:=h
 exact snP_at h1
theorem pairs_fst {H:Hp}:∀ {ps:List (List Str×Str)}{vs:List V},PrsV H ps vs→DeedsV H (ps.map (·.1)) (vs.map (fsP H))
 | _,_,.nil=>.nil
 | _,_,.cons h t=>by
  obtain ⟨tc,e,h2⟩:=pairV_fst h
  exact .cons ⟨tc,e,h2⟩ (pairs_fst t)
theorem pairs_snd {H:Hp}:∀ {ps:List (List Str×Str)}{vs:List V},PrsV H ps vs→vs.map (snP H)=(ps.map (·.2)).map V.str
 | _,_,.nil=>rfl
 | _,_,.cons h t=>by rw [List.map_cons,List.map_cons,List.map_cons,pairV_snd h,pairs_snd t]
theorem comp_side {K:W.Frag}{J:It}{vs:List V}{Ok:Hp→Prop}(R:Runs J vs Ok) (i:Nat) (f:V→V) {σ:St}{Q:VK}{H1:Hp}{ps:List (List Str×Str)}(hz:vs.length≤1000) (hp:PrsV H1 ps vs) (hf:∀ v,[some (fsP H1 v),some (snP H1 v)][i]?=some (some (f v))) (hok:∀ H,Same H1 H→Ok H)
  (hd:∀ D H',H1 D=none→Same H1 H'→H' D=some (.lst (vs.map f))→Q (.ref D) H'):compBody 2 [] (g2 K 0 1) tTrue (tVar i) σ Q J H1:=by
 refine comp_relT R (sL (by omega)) (fun _=>true) (fun _ x v _=>v=f x) (fsP H1) (snP H1) (fun _ _ _ _ _ _ z=>z) hok (fun x hx=>?_) ?_ ?_ ?_
 ·obtain ⟨j,hj⟩:=List.getElem?_of_mem hx
  obtain ⟨p,_,t,tc,rfl,h1,_⟩:=paired_at hp hj
  exact ⟨t,rfl,by rw [fsP_at h1,snP_at h1];exact h1⟩
 ·intro x H' R' _ _ hR'
  exact hR' H' (Same.refl _)
 ·intro D x H' R' _ _ _ _ _ hR'
  exact ⟨f x,hf x,hR' _ H' (Same.refl _) rfl⟩
 ·intro D H' ys hD s hl hq
  rw [List.filter_eq_self.mpr (fun _ _=>rfl)] at hq
  rw [paired_eq hq] at hl
  exact hd D H' hD s hl
def spCheckMakes (C:Addr):Sp:=fun vs H Q _=>∃ (p l:Addr) (rows:List (Str×List Str)) (xs:List Str),vs=[.ref p,.ref l]∧KindsAt C H p rows∧Good rows∧H l=some (.lst (xs.map V.str))∧(∀ x∈xs,x∈rows.map (·.1))∧Q .non H
def NamesAt (K:W.Frag) (H:Hp) (l:Addr) (ns:List Nam):Prop:=∃ (b:Bool) (vs:List V),SqB K b H l vs∧Paired (NameV K H) ns vs
def spKInit (K:W.Frag) (C B D:Addr):Sp:=fun vs H Q _=>∃ (p dx k l:Addr) (rows:List (Str×List Str)) (ns:List Nam),vs=[.ref p,.ref k,.ref l]∧H p=some (.ins D dx [])∧KindsAt C H k rows∧Good rows∧NamesAt K H l ns∧GoodNames rows ns ∧
 ∀ H',BookZ (fun b=>∃ o,H b=some o) C B D H' p k rows ns→(∀ b o,b≠p→H b=some o→H' b=some o)→Q .non H'
structure TxtKn (K:W.Frag) (D:Addr):Prop where
 cl:Cls K D
 nB:NoAttr K D "book"
 nO:NoAttr K D "board_of"
 nM:NoAttr K D "made_of"
theorem nd_cm:(["call","made"]:List Str).Nodup:=by decide +kernel
section
variable {P:Program} {w:World} {K:W.Frag} {mg:Str→Option Value} {base:Heap}
abbrev nCM:List Str:=["kinds","makes","made"]
theorem scCM:FnScope nCM ["kinds","makes"] (defScope s_check_makes):=⟨rfl,rfl,rfl,by decide +kernel,rfl,by decide +kernel,by decide +kernel⟩
theorem ok_cmakes {f C fH:Addr}{fd fdH:FuncData}(F:Def K mg "check_makes" s_check_makes ["kinds","makes"] f fd) (TC:TxtC K C) (MH:MHas K C fH fdH):FnOk P w K mg base CX0 2 f fd ["kinds","makes"] (spCheckMakes C):=by
 have GH:FnOk P w K mg base CX0 1 fH fdH ["self","word"] (spHas C):=ok_has MH.fn TC
 refine F.fn.ok scCM (fun vs H Q E h=>?_) (fun cdv A outer s H vs Q E hr h=>?_)
 ·obtain ⟨p,l,rows,xs,rfl,_⟩:=h
  rfl
 ·obtain ⟨p,l,rows,xs,rfl,kd,g,hl,kn,q⟩:=h
  have nd:=scCM.nd
  have hr1:Room 1 _:=hr.mono (by decide)
  obtain ⟨dx,d,a,o,oa,kvs,avs,h1,_⟩:=kd.ex
  refine ⟨_,(pss_one (ps_for PassesOwn.never rfl (pi_list (pv 1)) (pg_name (i:=2) nd rfl (Or.inl rfl)) (pss_one (ps_if (pt_not (pt_val (pe_meth (pv 0) TC.cl MH.me GH hr1 MH.b .nil pass0 (pC (pv 2) pa_nil)))) pss_never pss_nil)))),?_⟩
  refine ⟨_,rfl,l,rfl,⟨_,SqL.of hl⟩,for_runs (runs_list (xs:=xs.map V.str)) (fun i σ H'=>∃ x,σ=[some (.ref p),some (.ref l),x]∧H'=H) ⟨none,rfl,rfl⟩ (fun i σ H' _ ⟨_,_,e⟩=>by rw [e];exact SqL.of hl) ?_ ?_⟩
  ·rintro i v σ H' hi ⟨x,rfl,e⟩
   have e2:=e.symm
   subst e2
   rw [List.getElem?_map] at hi
   cases hx:xs[i]? with
   | none=>rw [hx] at hi;cases hi
   | some y =>
    rw [hx] at hi
    cases hi
    refine ⟨_,rfl,p,dx,_,rfl,h1,no_has _ _,_,rfl,p,rows,y,rfl,kd,g,?_⟩
    rw [decide_eq_true (kn y (List.mem_of_getElem? hx))]
    exact ⟨_,rfl,iteF ⟨_,rfl,rfl⟩⟩
  ·rintro σ H' ⟨x,rfl,e⟩
   rw [e]
   exact q
end
end K72
namespace K72
open PySem L2 Md
theorem word_le {x:Str}(h:isWord x=true):x.length≤1000:=by have:=word_len h;omega
theorem not_frzK {kvs:List (Key×V)}:∀ (o':Obj) (u:HO),HO.dK kvs≠.frz o' u:=fun _ _ z=>by cases z
theorem not_tupK {kvs:List (Key×V)}:∀ xs:List V,HO.dK kvs≠.tup xs:=fun _ z=>by cases z
theorem not_insK {kvs:List (Key×V)}:∀ (c d:Addr) (f:List (Str×V)),HO.dK kvs≠.ins c d f:=fun _ _ _ z=>by cases z
theorem bo_write {C B:Addr}{H:Hp}{q k:Addr}{kvs:List (Key×V)}{o:HO}{rows:List (Str×List Str)}{n:Nam}{v:V}(h:BoR C B H k rows n v) (hq:H q=some (.dK kvs)):BoR C B (upd H q o) k rows n v:=by
 obtain ⟨y,e,b⟩:=h
 exact ⟨y,e,board_keep b hq not_frzK not_tupK not_insK fun b o hb e=>by rw [upd_ne hb];exact e⟩
theorem ma_write {Z:Addr→Prop}{H:Hp}{q:Addr}{kvs:List (Key×V)}{o:HO}{n:Nam}{v:V}(h:MaR Z H n v) (hq:H q=some (.dK kvs)):MaR Z (upd H q o) n v:=by
 obtain ⟨l,e,b,z⟩:=h
 exact ⟨l,e,by rw [upd_ne (fun z=>by rw [z,hq] at b;cases b)];exact b,z⟩
theorem bo_same {C B:Addr}{H H':Hp}{k:Addr}{rows:List (Str×List Str)}{n:Nam}{v:V}(h:BoR C B H k rows n v) (s:Same H H'):BoR C B H' k rows n v:=let ⟨y,e,b⟩:=h;⟨y,e,b.mono s⟩
theorem ma_same {Z:Addr→Prop}{H H':Hp}{n:Nam}{v:V}(h:MaR Z H n v) (s:Same H H'):MaR Z H' n v:=let ⟨l,e,b,z⟩:=h;⟨l,e,s _ _ b,z⟩
theorem byName_snoc {R:Nam→V→Prop}{ns:List Nam}{kvs:List (Key×V)}{n:Nam}{v:V}(h:ByName R ns kvs) (hn:n.1∉ns.map (·.1)) (hv:R n v):ByName R (ns++[n]) (putK kvs (Sum.inr n.1) v):=by
 rw [putK_new _ (h.not hn)]
 exact Paired.snoc h ⟨rfl,hv⟩
section
variable {P:Program} {w:World} {K:W.Frag} {mg:Str→Option Value} {base:Heap}
abbrev nKI:List Str:=["self","kinds","names","board_of","made_of","word","places","deeds"]
abbrev pKI:List Str:=["self","kinds","names"]
theorem scKI:FnScope nKI pKI (defScope s_Book___init__):=⟨rfl,rfl,rfl,by decide +kernel,rfl,by decide +kernel,by decide +kernel⟩
theorem ok_kinit {f B C D fBI fW fM:Addr}{fd fdBI fdW fdM:FuncData}(F:Fun K "__init__" "Book.__init__" s_Book___init__ f fd) (T:TxtK mg) (most:∃ t,mg "MOST_NAMES"=some (.int 8 t)) (TD:TxtKn K D) (hDC:D≠C) (hDB:D≠B)
  (DW:Def K mg "is_word" s_is_word ["text"] fW fdW) (MB:Mk K B fBI) (mgB:mg "Board"=some (.ref B)) (bB:Binds K fdBI nBI []) (GB:FnOk P w K mg base CX0 4 fBI fdBI nBI (spBInit K C B))
  (DM:Def K mg "check_makes" s_check_makes ["kinds","makes"] fM fdM) (GM:FnOk P w K mg base CX0 2 fM fdM ["kinds","makes"] (spCheckMakes C)):
  FnOk P w K mg base CX0 6 f fd pKI (spKInit K C B D):=by
 have GW:FnOk P w K mg base CX0 1 fW fdW ["text"] spIsWord:=ok_isword DW T
 refine F.ok scKI (fun vs H Q E h=>?_) (fun cdv A outer s H vs Q E hr h=>?_)
 ·obtain ⟨p,dx,k,l,rows,ns,rfl,_⟩:=h
  rfl
 ·obtain ⟨p,dx,k,l,rows,ns,rfl,hp,kd,g,⟨b,vs,hl,hN⟩,gn,q⟩:=h
  have nd:=scKI.nd
  have hu:=hu_of hr
  have hr1:Room 1 _:=hr.mono (by decide)
  have hr2:Room 2 _:=hr.mono (by decide)
  obtain ⟨t1,hM8⟩:=most
  have hvl:=hN.length
  have few:=gn.few
  refine' ⟨_,(pS (ps_if (pt_cmpR op_gt (pe_callB call_len (by rfl) T.len PySem.boot_len (pC (pv 2) pa_nil)) (pe_glob (v:=.int 8) (by rfl) hM8 ⟨_,rfl⟩) (nomark _)) pss_never pss_nil)
   (pS (ps_set (i:=3) nd rfl (Or.inl rfl) pe_dnewK)
   (pS (ps_set (i:=4) nd rfl (Or.inl rfl) pe_dnewK)
   (pS (ps_for PassesOwn.never rfl (pi_seq (pv 2)) (pg_tup rfl (gC (pg_name (i:=5) nd rfl (Or.inl rfl)) (gC (pg_name (i:=6) nd rfl (Or.inl rfl)) (gC (pg_name (i:=7) nd rfl (Or.inl rfl)) pgs_nil))))
    (pS (ps_if (pt_not (pt_val (pe_callD DW GW hr1 (pC (pv 5) pa_nil)))) pss_never pss_nil)
   (pS (ps_if (pt_cmp (pc_din hu (pv 5) (pv 3))) pss_never pss_nil)
   (pS (ps_dput hu (pv 3) (pv 5) (pe_make MB GB hr rfl mgB bB .nil pass0 (pC (pv 1) (pC (pv 6) (pC ?eC pa_nil)))) rfl)
   (pS (ps_dput hu (pv 4) (pv 5) ?eM rfl)
   (pss_one (ps_expr (pe_callD DM GM hr2 (pC (pv 1) (pC (pe_dget hu (pv 4) (pv 5) (fun _ _=>rfl)) pa_nil))))))))))
   (pss_frz (pS (ps_fld (pv 0) (pv 1) rfl)
   (pS (ps_fld (pv 0) (pv 3) rfl)
   (pss_one (ps_fld (pv 0) (pv 4) rfl))))))))),?_⟩
  case eC=>exact pe_comp ["call","made"] [] [] (fun _=>compT_ok (osc:=defScope s_Book___init__) (on:=nKI) (by decide +kernel) rfl rfl rfl) (pi_seq (pv 7)) (fun C s H fp=>pg_two (K:=K) (i:=0) (j:=1) rfl rfl nd_cm rfl rfl (Or.inl rfl) (Or.inl rfl) (Or.inr rfl) (Or.inr rfl)) (fun C s H fp=>pts_nil) (fun C s H fp=>pv 0)
  case eM=>exact pe_comp ["call","made"] [] [] (fun _=>compT_ok (osc:=defScope s_Book___init__) (on:=nKI) (by decide +kernel) rfl rfl rfl) (pi_seq (pv 7)) (fun C s H fp=>pg_two (K:=K) (i:=0) (j:=1) rfl rfl nd_cm rfl rfl (Or.inl rfl) (Or.inl rfl) (Or.inr rfl) (Or.inr rfl)) (fun C s H fp=>pts_nil) (fun C s H fp=>pv 1)
  refine ⟨_,rfl,_,_,rfl,len_seq hl,_,_,rfl,rfl,_,rfl,?_⟩
  rw [show decide ((8:Int)<(vs.length:Int))=false from decide_eq_false (by omega)]
  refine iteF ?_
  intro bo hbo
  have s1:Same H (upd H bo (.dK [])):=snew hbo
  intro mo hmo
  have s2:Same (upd H bo (.dK [])) (upd (upd H bo (.dK [])) mo (.dK [])):=snew hmo
  have hmoH:H mo=none:=s1.free hmo
  have bm:bo≠mo:=fun z=>by rw [← z,uS] at hmo;cases hmo
  refine ⟨_,rfl,b,l,vs,rfl,(hl.mono s1).mono s2,for_runs runs_seq (fun i σ H'=>∃ (bvs mvs:List (Key×V)) (x y z:Option V),σ=[some (.ref p),some (.ref k),some (.ref l),some (.ref bo),some (.ref mo),x,y,z]∧Same H H'∧H' bo=some (.dK bvs)∧H' mo=some (.dK mvs)∧ByName (BoR C B H' k rows) (ns.take i) bvs∧ByName (MaR (fun b=>∃ o,H b=some o) H') (ns.take i) mvs)
   ⟨[],[],none,none,none,rfl,s1.trans s2,s2 _ _ uS,uS,by rw [List.take_zero];exact .nil,by rw [List.take_zero];exact .nil⟩ (fun i σ H' _ ⟨_,_,_,_,_,_,s,_⟩=>hl.mono s) ?_ ?_⟩
  ·rintro i v σ H' hi ⟨bvs,mvs,x,y,z,rfl,s3,hb3,hm3,hB,hM⟩
   obtain ⟨nm,hnm,t,tp,bb,ws,rfl,ht,htp,hps⟩:=paired_at hN hi
   have hmem:nm∈ns:=List.mem_of_getElem? hnm
   have gnm:=gn.each nm hmem
   have hnew:nm.1∉(ns.take i).map (·.1):=by
    rw [List.map_take]
    exact not_taken gn.nd (by rw [List.getElem?_map,hnm];rfl)
   have ht3:=s3 _ _ ht
   refine ⟨t,_,rfl,SqT.of ht3,rfl,_,_,rfl,_,_,rfl,_,_,rfl,rfl,?_⟩
   refine ⟨_,rfl,nm.1,rfl,word_le gnm.word,fun H4 s4=>⟨_,rfl,?_⟩⟩
   rw [gnm.word]
   refine iteF ?_
   have hb4:=s4 _ _ hb3
   have hm4:=s4 _ _ hm3
   have hB4:=hB.imp fun n v h=>bo_same h s4
   have hM4:=hM.imp fun n v h=>ma_same h s4
   have s04:=s3.trans s4
   refine ⟨_,rfl,_,rfl,bo,_,rfl,DGet.k (k:=Sum.inr nm.1) hb4,_,rfl,?_⟩
   rw [hB4.not hnew]
   refine iteF ?_
   have htp4:=htp.mono s04
   have hps4:PrsV H4 nm.2.2 ws:=hps.mono (tupsS s04)
   have wl:ws.length≤64:=by
    have h1:=Paired.length hps
    have h2:=gnm.deeds.few
    rw [List.length_map] at h2
    omega
   refine ⟨_,rfl,_,rfl,_,rfl,bb,tp,ws,rfl,htp4,comp_side runs_seq 0 (fsP H4) (by omega) hps4 (fun _=>rfl) (fun H' s'=>htp4.mono s') fun lc H5 hlc s45 hl5=>?_⟩
   intro yb dyb ny ndy ney
   refine mk_board ny ndy ((kd.mono s04).mono s45) g (.inl hl5) ((pairs_fst hps4).mono s45) gnm.deeds gnm.one gnm.four fun H6 s56 bd6=>?_
   have s46:=s45.trans s56
   have s06:=s04.trans s46
   have hb6:=s46 _ _ hb4
   have hm6:=s46 _ _ hm4
   have bl:bvs.length=i:=by
    have h1:=Paired.length hB
    rw [List.length_take] at h1
    have h2:=(List.getElem?_eq_some_iff.mp hnm).1
    omega
   have ml:mvs.length=i:=by
    have h1:=Paired.length hM
    rw [List.length_take] at h1
    have h2:=(List.getElem?_eq_some_iff.mp hnm).1
    omega
   have il:i<8:=by
    have h2:=(List.getElem?_eq_some_iff.mp hnm).1
    omega
   refine ⟨_,rfl,_,rfl,bo,_,rfl,DPut.k (k:=Sum.inr nm.1) hb6 (small_lt (by omega)),?_⟩
   have hB7:ByName (BoR C B (upd H6 bo (.dK (putK bvs (Sum.inr nm.1) (.ref yb)))) k rows) (ns.take i++[nm]) (putK bvs (Sum.inr nm.1) (.ref yb)):=
    byName_snoc (hB4.imp fun n v h=>bo_write (bo_same h s46) hb6) hnew (bo_write ⟨yb,rfl,bd6⟩ hb6)
   have hM7:ByName (MaR (fun b=>∃ o,H b=some o) (upd H6 bo (.dK (putK bvs (Sum.inr nm.1) (.ref yb))))) (ns.take i) mvs:=hM4.imp fun n v h=>ma_write (ma_same h s46) hb6
   have s07:Same H (upd H6 bo (.dK (putK bvs (Sum.inr nm.1) (.ref yb)))):=fun b o e=>by rw [upd_ne (nNo e hbo)];exact s06 _ _ e
   have hb7:(upd H6 bo (.dK (putK bvs (Sum.inr nm.1) (.ref yb)))) bo=some (.dK (putK bvs (Sum.inr nm.1) (.ref yb))):=uS
   have hm7:(upd H6 bo (.dK (putK bvs (Sum.inr nm.1) (.ref yb)))) mo=some (.dK mvs):=by rw [upd_ne (Ne.symm bm)];exact hm6
   generalize upd H6 bo (.dK (putK bvs (Sum.inr nm.1) (.ref yb)))=H7 at hB7 hM7 s07 hb7 hm7
   generalize putK bvs (Sum.inr nm.1) (.ref yb)=bvs' at hB7 hb7
   have htp7:=htp.mono s07
   have hps7:PrsV H7 nm.2.2 ws:=hps.mono (tupsS s07)
   refine ⟨_,rfl,bb,tp,ws,rfl,htp7,comp_side runs_seq 1 (snP H7) (by omega) hps7 (fun _=>rfl) (fun H' s'=>htp7.mono s') fun lm H8 hlm s78 hl8=>?_⟩
   rw [pairs_snd hps7] at hl8
   have hm8:=s78 _ _ hm7
   refine ⟨_,rfl,_,rfl,mo,_,rfl,DPut.k (k:=Sum.inr nm.1) hm8 (small_lt (by omega)),?_⟩
   have lmo:lm≠mo:=fun z=>by rw [z,hm7] at hlm;cases hlm
   have hM9:ByName (MaR (fun b=>∃ o,H b=some o) (upd H8 mo (.dK (putK mvs (Sum.inr nm.1) (.ref lm))))) (ns.take i++[nm]) (putK mvs (Sum.inr nm.1) (.ref lm)):=
    byName_snoc (hM7.imp fun n v h=>ma_write (ma_same h s78) hm8) hnew (ma_write ⟨lm,rfl,hl8,fun ⟨_,z⟩=>by rw [s07.free hlm] at z;cases z⟩ hm8)
   have hB9:ByName (BoR C B (upd H8 mo (.dK (putK mvs (Sum.inr nm.1) (.ref lm)))) k rows) (ns.take i++[nm]) bvs':=hB7.imp fun n v h=>bo_write (bo_same h s78) hm8
   have s09:Same H (upd H8 mo (.dK (putK mvs (Sum.inr nm.1) (.ref lm)))):=fun b o e=>by rw [upd_ne (nNo e hmoH)];exact s78 _ _ (s07 _ _ e)
   have hm9:(upd H8 mo (.dK (putK mvs (Sum.inr nm.1) (.ref lm)))) mo=some (.dK (putK mvs (Sum.inr nm.1) (.ref lm))):=uS
   have hb9:(upd H8 mo (.dK (putK mvs (Sum.inr nm.1) (.ref lm)))) bo=some (.dK bvs'):=by rw [upd_ne bm];exact s78 _ _ hb7
   have hl9:(upd H8 mo (.dK (putK mvs (Sum.inr nm.1) (.ref lm)))) lm=some (.lst ((nm.2.2.map (·.2)).map V.str)):=by rw [upd_ne lmo];exact hl8
   have hv9:valV (putK mvs (Sum.inr nm.1) (.ref lm)) (Sum.inr nm.1)=some (.ref lm):=by rw [valV_put,if_pos rfl]
   generalize upd H8 mo (.dK (putK mvs (Sum.inr nm.1) (.ref lm)))=H9 at hM9 hB9 s09 hm9 hb9 hl9
   generalize putK mvs (Sum.inr nm.1) (.ref lm)=mvs' at hM9 hm9 hv9
   refine ⟨_,rfl,_,rfl,_,rfl,mo,_,rfl,(by rw [← hv9];exact DGet.k (k:=Sum.inr nm.1) hm9),k,lm,rows,nm.2.2.map (·.2),rfl,kd.mono s09,g,hl9,fun x hx=>?_,?_⟩
   ·obtain ⟨pr,hpr,e⟩:=List.mem_map.mp hx
    rw [← e];exact gnm.made pr hpr
   refine ⟨bvs',mvs',_,_,_,rfl,s09,hb9,hm9,?_,?_⟩
   ·rw [List.take_add_one,hnm];exact hB9
   ·rw [List.take_add_one,hnm];exact hM9
  ·rintro σ H3 ⟨bvs,mvs,x,y,z,rfl,s3,hb3,hm3,hB,hM⟩
   rw [← hvl,List.take_length] at hB hM
   refine ⟨bo,bvs,hb3,fun o=>?_⟩
   have s4:Same H (upd H3 bo (.frz o (.dK bvs))):=fun b u e=>by rw [upd_ne (nNo e hbo)];exact s3 _ _ e
   have hB4:=hB.imp fun n v h=>bo_write (o:=.frz o (.dK bvs)) h hb3
   have hM4:=hM.imp fun n v h=>ma_write (o:=.frz o (.dK bvs)) h hb3
   have hb4:(upd H3 bo (.frz o (.dK bvs))) bo=some (.frz o (.dK bvs)):=uS
   have hm4:(upd H3 bo (.frz o (.dK bvs))) mo=some (.dK mvs):=by rw [upd_ne (Ne.symm bm)];exact hm3
   generalize upd H3 bo (.frz o (.dK bvs))=H4 at s4 hB4 hM4 hb4 hm4
   have hp4:=s4 _ _ hp
   have pbo:bo≠p:=fun z=>by rw [z,hp] at hbo;cases hbo
   have pmo:mo≠p:=fun z=>by rw [z,hp] at hmoH;cases hmoH
   refine ⟨_,rfl,_,rfl,p,D,dx,[],rfl,hp4,TD.cl,TD.nB,(by show 0<1000;decide),?_⟩
   refine ⟨_,rfl,_,rfl,p,D,dx,_,rfl,uS,TD.cl,TD.nO,(by show 1<1000;decide),?_⟩
   rw [upd_upd]
   refine ⟨_,rfl,_,rfl,p,D,dx,_,rfl,uS,TD.cl,TD.nM,(by show 2<1000;decide),?_⟩
   rw [upd_upd]
   have keep:∀ b o,b≠p→H b=some o→(upd H4 p (.ins D dx (fldsK k bo mo))) b=some o:=fun b o hb e=>by rw [upd_ne hb];exact s4 _ _ e
   have kp:∀ b o,b≠p→H4 b=some o→(upd H4 p (.ins D dx (fldsK k bo mo))) b=some o:=fun b o hb e=>by rw [upd_ne hb];exact e
   have nkp:k≠p:=by
    intro z
    obtain ⟨dx',d,a,o,oa,kvs,avs,h1,_⟩:=kd.ex
    rw [z,hp] at h1
    injection h1 with h1
    injection h1 with h1
    exact hDC h1
   refine q _ ⟨dx,bo,mo,o,bvs,mvs,uS,kinds_keep kd hp keep nkp (fun _ _ z=>by cases z) (fun _ z=>by cases z),kp _ _ pbo hb4,hB4.imp fun n v h=>?_,kp _ _ pmo hm4,hM4.imp fun n v h=>?_⟩ keep
   ·obtain ⟨y,e,bd⟩:=h
    obtain ⟨dxb,t,us,h1,h2,h3,h4⟩:=bd.ex
    have yp:y≠p:=by
     intro z
     rw [z,hp4] at h1
     injection h1 with h1
     injection h1 with h1
     exact hDB h1
    exact ⟨y,e,dxb,t,us,kp _ _ yp h1,kinds_keep h2 hp4 kp nkp (fun _ _ z=>by cases z) (fun _ z=>by cases z),kp _ _ (fun z=>by rw [z,hp4] at h3;cases h3) h3,Paired.mapP h4 fun d v ⟨t',e,x⟩=>⟨t',e,kp _ _ (fun z=>by rw [z,hp4] at x;cases x) x⟩⟩
   ·obtain ⟨l',e,x,z⟩:=h
    exact ⟨l',e,kp _ _ (fun z=>by rw [z,hp4] at x;cases x) x,z⟩
end
end K72
namespace K72
open PySem L2 Md
theorem no_kkinds (k bo mo:Addr):(fldsK k bo mo).lookup ("kinds":Str)=none:=fldsK_no k bo mo (by decide +kernel) (by decide +kernel) (by decide +kernel)
theorem no_kwords (k bo mo:Addr):(fldsK k bo mo).lookup ("words":Str)=none:=fldsK_no k bo mo (by decide +kernel) (by decide +kernel) (by decide +kernel)
theorem no_kboard (k bo mo:Addr):(fldsK k bo mo).lookup ("board":Str)=none:=fldsK_no k bo mo (by decide +kernel) (by decide +kernel) (by decide +kernel)
theorem no_kmakes (k bo mo:Addr):(fldsK k bo mo).lookup ("makes":Str)=none:=fldsK_no k bo mo (by decide +kernel) (by decide +kernel) (by decide +kernel)
theorem no_knames (k bo mo:Addr):(fldsK k bo mo).lookup ("names":Str)=none:=fldsK_no k bo mo (by decide +kernel) (by decide +kernel) (by decide +kernel)
theorem no_kcheck (k bo mo:Addr):(fldsK k bo mo).lookup ("check_name":Str)=none:=fldsK_no k bo mo (by decide +kernel) (by decide +kernel) (by decide +kernel)
abbrev MKCheck (K:W.Frag) (D f:Addr) (fd:FuncData):Prop:=MDef K D "check_name" "Book.check_name" s_Book_check_name ["self","word"] f fd
abbrev MKBoard (K:W.Frag) (D f:Addr) (fd:FuncData):Prop:=MDef K D "board" "Book.board" s_Book_board ["self","word"] f fd
abbrev MKMakes (K:W.Frag) (D f:Addr) (fd:FuncData):Prop:=MDef K D "makes" "Book.makes" s_Book_makes ["self","word"] f fd
abbrev MKWords (K:W.Frag) (D f:Addr) (fd:FuncData):Prop:=MDef K D "words" "Book.words" s_Book_words ["self"] f fd
abbrev MKKinds (K:W.Frag) (D f:Addr) (fd:FuncData):Prop:=MDef K D "kinds" "Book.kinds" s_Book_kinds ["self"] f fd
structure ErrI (P:Program) (w:World) (K:W.Frag) (mg:Str→Option Value) (base:Heap) (x:Str) (C:Addr) (a:Str) (sp:Sp) (f:Addr) (fd:FuncData):Prop where
 m:mg x=some (.ref C)
 ex:ExC K C
 ini:W.findIn K (.ref C) "__init__"=some (some (.ref f))
 ty:W.typeIn K (.ref f)=some (.type "function")
 b:Binds K fd ["self",a] []
 go:FnOk P w K mg base CX0 1 f fd ["self",a] sp
def spKCheck (C B D:Addr):Sp:=fun vs H Q _=>∃ (p k:Addr) (rows:List (Str×List Str)) (ns:List Nam) (x:Str),vs=[.ref p,.str x]∧BookAt C B D H p k rows ns∧x∈ns.map (·.1)∧Q .non H
def spKKinds (C B D:Addr):Sp:=fun vs H Q _=>∃ (p k:Addr) (rows:List (Str×List Str)) (ns:List Nam),vs=[.ref p]∧BookAt C B D H p k rows ns∧Q (.ref k) H
def spKWords (C B D:Addr):Sp:=fun vs H Q _=>∃ (p k:Addr) (rows:List (Str×List Str)) (ns:List Nam),vs=[.ref p]∧BookAt C B D H p k rows ns∧∀ l,H l=none→Q (.ref l) (upd H l (.lst ((ns.map (·.1)).map V.str)))
def spKBoard (C B D:Addr):Sp:=fun vs H Q _=>∃ (p k:Addr) (rows:List (Str×List Str)) (ns:List Nam) (n:Nam),vs=[.ref p,.str n.1]∧BookAt C B D H p k rows ns∧(ns.map (·.1)).Nodup∧n∈ns∧∀ y,BoardAt C B H y k rows n.2.1 (n.2.2.map (·.1))→Q (.ref y) H
def spKMakes (C B D:Addr):Sp:=fun vs H Q _=>∃ (p k:Addr) (rows:List (Str×List Str)) (ns:List Nam) (n:Nam),vs=[.ref p,.str n.1]∧BookAt C B D H p k rows ns∧(ns.map (·.1)).Nodup∧n∈ns∧∀ l,H l=none→Q (.ref l) (upd H l (.lst ((n.2.2.map (·.2)).map V.str)))
theorem byName_words {R:Nam→V→Prop}:∀ {ns:List Nam}{kvs:List (Key×V)},ByName R ns kvs→(kvs.map fun p=>kV p.1)=(ns.map (·.1)).map V.str
 | _,_,.nil=>rfl
 | _,_,.cons r t=>by
  rw [List.map_cons,List.map_cons,List.map_cons,r.1,byName_words t]
  rfl
section
variable {P:Program} {w:World} {K:W.Frag} {mg:Str→Option Value} {base:Heap}
theorem scKCk:FnScope ["self","word"] ["self","word"] (defScope s_Book_check_name):=⟨rfl,rfl,rfl,by decide +kernel,rfl,by decide +kernel,by decide +kernel⟩
theorem ok_kcheck {f B C D:Addr}{fd:FuncData}(F:Fun K "check_name" "Book.check_name" s_Book_check_name f fd) (TD:TxtKn K D):FnOk P w K mg base CX0 1 f fd ["self","word"] (spKCheck C B D):=by
 refine F.ok scKCk (fun vs H Q E h=>?_) (fun cdv A outer s H vs Q E hr h=>?_)
 ·obtain ⟨p,k,rows,ns,x,rfl,_⟩:=h
  rfl
 ·obtain ⟨p,k,rows,ns,x,rfl,bk,hx,q⟩:=h
  obtain ⟨dx,bo,mo,o,bvs,mvs,h1,h2,h3,h4,h5,h6⟩:=bk.ex
  have hu:=hu_of hr
  refine ⟨_,(pss_one (ps_if (pt_cmp (pc_dnotin hu (pv 1) (pe_fld (pv 0) rfl))) pss_never pss_nil)),?_⟩
  refine ⟨_,rfl,_,rfl,p,D,dx,_,_,rfl,h1,TD.cl,TD.nO,fldsK_o _ _ _,bo,_,rfl,DGet.f (k:=Sum.inr x) h3,_,rfl,?_⟩
  rw [h4.some hx]
  exact iteF q
theorem scKK:FnScope ["self"] ["self"] (defScope s_Book_kinds):=⟨rfl,rfl,rfl,by decide +kernel,rfl,by decide +kernel,by decide +kernel⟩
theorem ok_kkinds {f B C D:Addr}{fd:FuncData}(F:Fun K "kinds" "Book.kinds" s_Book_kinds f fd) (TD:TxtKn K D):FnOk P w K mg base CX0 1 f fd ["self"] (spKKinds C B D):=by
 refine F.ok scKK (fun vs H Q E h=>?_) (fun cdv A outer s H vs Q E hr h=>?_)
 ·obtain ⟨p,k,rows,ns,rfl,_⟩:=h
  rfl
 ·obtain ⟨p,k,rows,ns,rfl,bk,q⟩:=h
  obtain ⟨dx,bo,mo,o,bvs,mvs,h1,h2,h3,h4,h5,h6⟩:=bk.ex
  exact ⟨_,pss_one (ps_ret (pe_fld (pv 0) rfl)),_,rfl,p,D,dx,_,_,rfl,h1,TD.cl,TD.nB,fldsK_b _ _ _,q⟩
theorem scKW:FnScope ["self"] ["self"] (defScope s_Book_words):=⟨rfl,rfl,rfl,by decide +kernel,rfl,by decide +kernel,by decide +kernel⟩
theorem ok_kwords {f B C D:Addr}{fd:FuncData}(F:Fun K "words" "Book.words" s_Book_words f fd) (TD:TxtKn K D) (list:mg "list"=none):FnOk P w K mg base CX0 1 f fd ["self"] (spKWords C B D):=by
 refine F.ok scKW (fun vs H Q E h=>?_) (fun cdv A outer s H vs Q E hr h=>?_)
 ·obtain ⟨p,k,rows,ns,rfl,_⟩:=h
  rfl
 ·obtain ⟨p,k,rows,ns,rfl,bk,q⟩:=h
  obtain ⟨dx,bo,mo,o,bvs,mvs,h1,h2,h3,h4,h5,h6⟩:=bk.ex
  refine ⟨_,pss_one (ps_ret (pe_callTy (call_list_keys rfl) (by rfl) list PyProof.Rows.boot_list (pC (pe_fld (pv 0) rfl) pa_nil))),_,rfl,p,D,dx,_,_,rfl,h1,TD.cl,TD.nO,fldsK_o _ _ _,bo,bvs,rfl,.inr ⟨o,h3⟩,fun l hl=>?_⟩
  rw [byName_words h4]
  exact q l hl
theorem scKB:FnScope ["self","word"] ["self","word"] (defScope s_Book_board):=⟨rfl,rfl,rfl,by decide +kernel,rfl,by decide +kernel,by decide +kernel⟩
theorem ok_kboard {f B C D fC:Addr}{fd fdC:FuncData}(F:Fun K "board" "Book.board" s_Book_board f fd) (TD:TxtKn K D) (MC:MKCheck K D fC fdC):FnOk P w K mg base CX0 2 f fd ["self","word"] (spKBoard C B D):=by
 have GC:FnOk P w K mg base CX0 1 fC fdC ["self","word"] (spKCheck C B D):=ok_kcheck MC.fn TD
 refine F.ok scKB (fun vs H Q E h=>?_) (fun cdv A outer s H vs Q E hr h=>?_)
 ·obtain ⟨p,k,rows,ns,n,rfl,_⟩:=h
  rfl
 ·obtain ⟨p,k,rows,ns,n,rfl,bk,nd,hn,q⟩:=h
  obtain ⟨dx,bo,mo,o,bvs,mvs,h1,h2,h3,h4,h5,h6⟩:=bk.ex
  have hu:=hu_of hr
  obtain ⟨v,hv,y,rfl,by_⟩:=h4.val nd hn
  refine ⟨_,(pS (ps_expr (pe_meth (pv 0) TD.cl MC.me GC hr MC.b .nil pass0 (pC (pv 1) pa_nil)))
   (pss_one (ps_ret (pe_dget hu (pe_fld (pv 0) rfl) (pv 1) (fun _ _=>rfl))))),?_⟩
  refine ⟨_,rfl,p,dx,_,rfl,h1,no_kcheck _ _ _,_,rfl,p,k,rows,ns,n.1,rfl,bk,List.mem_map.mpr ⟨n,hn,rfl⟩,?_⟩
  exact ⟨_,rfl,p,D,dx,_,_,rfl,h1,TD.cl,TD.nO,fldsK_o _ _ _,_,rfl,bo,_,rfl,(by rw [← hv];exact DGet.f (k:=Sum.inr n.1) h3),q y by_⟩
theorem scKM:FnScope ["self","word"] ["self","word"] (defScope s_Book_makes):=⟨rfl,rfl,rfl,by decide +kernel,rfl,by decide +kernel,by decide +kernel⟩
theorem ok_kmakes {f B C D fC:Addr}{fd fdC:FuncData}(F:Fun K "makes" "Book.makes" s_Book_makes f fd) (TD:TxtKn K D) (MC:MKCheck K D fC fdC) (list:mg "list"=none):FnOk P w K mg base CX0 2 f fd ["self","word"] (spKMakes C B D):=by
 have GC:FnOk P w K mg base CX0 1 fC fdC ["self","word"] (spKCheck C B D):=ok_kcheck MC.fn TD
 refine F.ok scKM (fun vs H Q E h=>?_) (fun cdv A outer s H vs Q E hr h=>?_)
 ·obtain ⟨p,k,rows,ns,n,rfl,_⟩:=h
  rfl
 ·obtain ⟨p,k,rows,ns,n,rfl,bk,nd,hn,q⟩:=h
  obtain ⟨dx,bo,mo,o,bvs,mvs,h1,h2,h3,h4,h5,h6⟩:=bk.ex
  have hu:=hu_of hr
  obtain ⟨v,hv,l,rfl,hl,_⟩:=h6.val nd hn
  refine ⟨_,(pS (ps_expr (pe_meth (pv 0) TD.cl MC.me GC hr MC.b .nil pass0 (pC (pv 1) pa_nil)))
   (pss_one (ps_ret (pe_callTy call_list_of (by rfl) list PyProof.Rows.boot_list (pC (pe_dget hu (pe_fld (pv 0) rfl) (pv 1) (fun _ _=>rfl)) pa_nil))))),?_⟩
  refine ⟨_,rfl,p,dx,_,rfl,h1,no_kcheck _ _ _,_,rfl,p,k,rows,ns,n.1,rfl,bk,List.mem_map.mpr ⟨n,hn,rfl⟩,?_⟩
  exact ⟨_,rfl,p,D,dx,_,_,rfl,h1,TD.cl,TD.nM,fldsK_m _ _ _,_,rfl,mo,_,rfl,(by rw [← hv];exact DGet.k (k:=Sum.inr n.1) h5),l,_,rfl,.inl (SqL.of hl),fun l' hl'=>q l' hl'⟩
end
end K72
namespace K72
open PySem L2 Md
abbrev rTupK (K:W.Frag):List V→Hp→VK→Prop:=fun xs H Q=>∃ p ys,xs=[.ref p]∧((SqL K H p ys∧∀ l,H l=none→Q (.ref l) (upd H l (.tup ys)))∨(SqT K H p ys∧Q (.ref p) H))
def spPlaces:Sp:=fun vs H Q _=>∃ (p:Addr) (m mo:Nat),vs=[.ref p,.int m,.int mo]∧(∃ o,H p=some o∧PotO o)∧1≤m∧m≤24∧mo≤1000000∧∀ (n:Nat) H',Drawn p H H'→1≤n→n≤4→(n=1∨m ^ n≤mo)→Q (.int n) H'
def spChain:Sp:=fun vs H Q _=>∃ (p aa t:Addr) (n m:Nat) (rows:List (Str×List Str)) (avs:List (Key×V)) (c:List Str),vs=[.ref p,.ref aa,.ref t,.int m]∧(∃ o,H p=some o∧PotO o)∧Good rows∧H aa=some (.dK avs)∧AboveL H rows rows avs∧H t=some (.tup (c.map V.str))∧GoodCall rows n c∧n≤4∧m≤63 ∧
 ∀ (ld:Addr) (ds:List (List Str)) (us:List V) (H':Hp),Drawn p H H'→H ld=none→H' ld=some (.lst us)→DeedsV H' ds us→GoodDeeds rows n ds→ds.length≤m→Q (.ref ld) H'
theorem pr_take {α β:Type}{F:α→β→Prop}:∀ {l:List α}{m:List β}(k:Nat),Paired F l m→Paired F (l.take k) (m.take k)
 | _,_,0,_=>by rw [List.take_zero,List.take_zero];exact .nil
 | _,_,_ + 1,.nil=>.nil
 | _,_,k + 1,.cons r t=>.cons r (pr_take k t)
theorem pr_drop {α β:Type}{F:α→β→Prop}:∀ {l:List α}{m:List β}(k:Nat),Paired F l m→Paired F (l.drop k) (m.drop k)
 | _,_,0,r=>r
 | _,_,_ + 1,.nil=>.nil
 | _,_,k + 1,.cons _ t=>pr_drop k t
theorem pr_app {α β:Type}{F:α→β→Prop}:∀ {l l':List α}{m m':List β},Paired F l m→Paired F l' m'→Paired F (l++l') (m++m')
 | _,_,_,_,.nil,h=>h
 | _,_,_,_,.cons r t,h=>.cons r (pr_app t h)
theorem nd_wap:(["word","above","pot"]:List Str).Nodup:=by decide +kernel
theorem drawn_free {p:Addr}{H H':Hp}(d:Drawn p H H') {b:Addr}(h:H' b=none):H b=none:=by
 cases z:H b with
 | none=>rfl
 | some u =>
  by_cases e:b=p
  ·obtain ⟨op,hpp,_⟩:=d.pot
   rw [e,hpp] at h;cases h
  ·rw [d.keep _ _ e z] at h;cases h
section
variable {P:Program} {w:World} {K:W.Frag} {mg:Str→Option Value} {base:Heap}
abbrev nPl:List Str:=["pot","many","most","size","greatest"]
theorem scPl:FnScope nPl ["pot","many","most"] (defScope s__law_places):=⟨rfl,rfl,rfl,by decide +kernel,rfl,by decide +kernel,by decide +kernel⟩
theorem ok_places {f fT:Addr}{fd fdT:FuncData}(F:Def K mg "_law_places" s__law_places ["pot","many","most"] f fd) (DT:Def K mg "_law_take" s__law_take ["pot","many"] fT fdT) (GT:FnOk P w K mg base CX0 1 fT fdT ["pot","many"] spTake):
  FnOk P w K mg base CX0 2 f fd ["pot","many","most"] spPlaces:=by
 refine F.fn.ok scPl (fun vs H Q E h=>?_) (fun cdv A outer s H vs Q E hr h=>?_)
 ·obtain ⟨p,m,mo,rfl,_⟩:=h
  rfl
 ·obtain ⟨p,m,mo,rfl,⟨o,hp,ho⟩,m1,m24,hmo,q⟩:=h
  have nd:=scPl.nd
  refine' ⟨_,(pS (ps_set (i:=3) nd rfl (Or.inl rfl) (pv 1))
   (pS (ps_set (i:=4) nd rfl (Or.inl rfl) pe_int)
   (pS (ps_while PassesOwn.never (PW.pt (pw_and (pt_cmpR op_lt (pv 4) pe_int (nomark _)) (pw_and1 (pt_cmpR op_le (pe_op op_mul (pv 3) (pv 1)) (pv 2) (nomark _)))))
    (pS (ps_set (i:=3) nd rfl (Or.inl rfl) (pe_op op_mul (pv 3) (pv 1)))
   (pss_one (ps_set (i:=4) nd rfl (Or.inl rfl) (pe_op op_add (pv 4) pe_int)))))
   (pss_one (ps_ret (pe_op op_add pe_int (pe_callD DT GT hr (pC (pv 0) (pC (pv 4) pa_nil))))))))),?_⟩
  refine ⟨_,rfl,?_⟩
  refine ⟨fun k σ H'=>H'=H∧∃ g:Nat,σ=[some (.ref p),some (.int m),some (.int mo),some (.int ((m ^ g:Nat):Int)),some (.int g)]∧k=4 - g∧1≤g∧g≤4∧(g=1∨m ^ g≤mo),
   ⟨3,rfl,1,by rw [Nat.pow_one];rfl,rfl,by decide,by decide,.inl rfl⟩,?_⟩
  rintro k σ H' ⟨rfl,g,rfl,rfl,g1,g4,hg⟩
  have bound:m ^ g≤1000000:=by
   rcases hg with e | e
   ·rw [e,Nat.pow_one];omega
   ·omega
  have fin:∀ (v:Int) (o':HO),0≤v→v<(g:Int)→PotO o'→Q (.int (1 + v)) (upd H' p o'):=fun v o' hv0 hv1 ho'=>by
   obtain ⟨k,rfl⟩:∃ k:Nat,v=(k:Int):=⟨v.toNat,by omega⟩
   have e:(1 + (k:Int))=((k + 1:Nat):Int):=by omega
   rw [e]
   refine q (k + 1) _ (Drawn.upd ho') (by omega) (by omega) ?_
   by_cases k0:k=0
   ·exact .inl (by omega)
   ·rcases hg with z | z
    ·omega
    ·exact .inr (Nat.le_trans (Nat.pow_le_pow_right m1 (by omega)) z)
  refine ⟨_,rfl,_,_,rfl,rfl,_,rfl,?_⟩
  refine ite2 (fun h1=>?_) (fun h1=>?_)
  rotate_left
  ·refine iteF ?_
   exact ⟨_,rfl,_,rfl,p,(g:Int),o,rfl,hp,ho,by omega,by omega,fun v o' hv0 hv1 ho'=>⟨_,_,rfl,rfl,fin v o' hv0 hv1 ho'⟩⟩
  ·refine ⟨_,rfl,_,rfl,_,_,rfl,rfl,.inl ⟨by omega,by omega⟩,_,rfl,_,_,rfl,rfl,_,rfl,?_⟩
   have em:((m ^ g:Nat):Int) * ((m:Nat):Int)=((m ^ (g + 1):Nat):Int):=by rw [Nat.pow_succ,Int.natCast_mul]
   rw [em]
   refine ite2 (fun h2=>?_) (fun h2=>?_)
   ·have hn:(g:Int)<4:=of_decide_eq_true h1
    have h2:((m ^ (g + 1):Nat):Int)≤(mo:Int):=of_decide_eq_true h2
    refine ⟨fun σ' H4=>σ'=[some (.ref p),some (.int m),some (.int mo),some (.int ((m ^ (g + 1):Nat):Int)),some (.int ((g + 1:Nat):Int))]∧H4=H',?_,?_⟩
    ·rintro σ' H4 ⟨rfl,rfl⟩
     exact ⟨4 - (g + 1),by omega,rfl,g + 1,rfl,rfl,by omega,by omega,.inr (by omega)⟩
    ·refine ⟨_,rfl,_,rfl,_,_,rfl,rfl,.inl ⟨by omega,by omega⟩,?_⟩
     refine ⟨_,rfl,_,_,rfl,rfl,?_,rfl⟩
     show ([some (.ref p),some (.int m),some (.int mo),some (.int (((m ^ g:Nat):Int) * ((m:Nat):Int))),some (.int ((g:Int) + 1))]:St)=_
     rw [em]
     rfl
   ·exact ⟨_,rfl,_,rfl,p,(g:Int),o,rfl,hp,ho,by omega,by omega,fun v o' hv0 hv1 ho'=>⟨_,_,rfl,rfl,fin v o' hv0 hv1 ho'⟩⟩
abbrev nCh:List Str:=["pot","above","call","most","found","k"]
theorem scCh:FnScope nCh ["pot","above","call","most"] (defScope s__law_chain):=⟨rfl,rfl,rfl,by decide +kernel,rfl,by decide +kernel,by decide +kernel⟩
set_option maxHeartbeats 8000000 in
theorem ok_chain {f fT:Addr}{fd fdT:FuncData}(F:Def K mg "_law_chain" s__law_chain ["pot","above","call","most"] f fd) (T:TxtD mg) (DT:Def K mg "_law_take" s__law_take ["pot","many"] fT fdT) (GT:FnOk P w K mg base CX0 1 fT fdT ["pot","many"] spTake):
  FnOk P w K mg base CX0 2 f fd ["pot","above","call","most"] spChain:=by
 refine F.fn.ok scCh (fun vs H Q E h=>?_) (fun cdv A outer s H vs Q E hr h=>?_)
 ·obtain ⟨p,aa,t,n,m,rows,avs,c,rfl,_⟩:=h
  rfl
 ·obtain ⟨p,aa,t,n,m,rows,avs,c,rfl,⟨o,hp,ho⟩,g,haa,hA,ht,gc,n4,hm,q⟩:=h
  have nd:=scCh.nd
  have hu:=hu_of hr
  refine' ⟨_,(pS (ps_set (i:=4) nd rfl (Or.inl rfl) (pe_lst pa_nil))
   (pS (ps_for PassesOwn.never rfl (pi_range1 (by rfl) T.range (pC (pe_callD DT GT hr (pC (pv 0) (pC (pe_op op_add (pv 3) pe_int) pa_nil))) pa_nil)) (pg_name (i:=5) nd rfl (Or.inl rfl))
    (pss_cut (ps_if (pt_cmpR (op_notInD (hu65 hr)) (pv 2) (pv 4) (by with_unfolding_all rfl))
     (pss_one (ps_expr (pe_bm PySem.F.plainAttrs_list PySem.F.slot_list_insert PySem.F.type_list_insert mt_insert (pv 4) (pC (pe_callD DT GT hr (pC (pv 0) (pC (pe_op op_add (pe_callB call_len_seq (by rfl) T.len PySem.boot_len (pC (pv 4) pa_nil)) pe_int) pa_nil))) (pC (pv 2) pa_nil))))) pss_nil)
   (pss_one (ps_set (i:=2) nd rfl (Or.inl rfl) (pe_callTy (r:=rTupK K) call_tuple_of (by rfl) T.tuple PyProof.Rows.boot_tuple (pC ?eC pa_nil))))))
   (pss_one (ps_ret (pv 4))))),?_⟩
  case eC=>exact (pe_comp ["word"] ["above","pot"] [1,0] (fun _=>compT_ok (osc:=defScope s__law_chain) (on:=nCh) (by decide +kernel) rfl rfl rfl) (pi_tup (pv 2)) (fun C s H fp=>pg_name (i:=0) nd_wap rfl (Or.inl rfl) (Or.inr rfl)) (fun C s H fp=>pts_nil) (fun C s H fp=>pe_ix (r:=rIxL K) ix_list (pe_dget hu (pv 1) (pv 0) (fun _ _=>rfl)) (pe_callD DT GT hr (pC (pv 2) (pC (pe_callB (r:=rLenK K) call_len_seq (by rfl) T.len PySem.boot_len (pC (pe_dget hu (pv 1) (pv 0) (fun _ _=>rfl)) pa_nil)) pa_nil))) (fun _ _=>rfl)))
  refine ⟨Nat.zero_le _,fun ld hld=>?_⟩
  have pd:p≠ld:=nNo hp hld
  have d1:=(Drawn.refl (p:=p) ⟨o,hp,ho⟩).new (o:=.lst []) hld
  obtain ⟨o1,hp1,ho1⟩:=d1.pot
  have aap:aa≠p:=fun z=>by rw [z,hp] at haa;obtain ⟨_,_,q',_⟩:=ho;rw [q'] at haa;cases haa
  refine ⟨_,rfl,_,rfl,_,_,rfl,rfl,p,_,o1,rfl,hp1,ho1,by omega,by omega,fun v o2 hv0 hv1 ho2=>⟨v,rfl,by omega,by omega,?_⟩⟩
  have d2:Drawn p H (upd (upd H ld (.lst [])) p o2):=d1.trans (Drawn.upd ho2)
  refine for_runs runs_range (fun i σ H'=>∃ (ds:List (List Str)) (us:List V) (c':List Str) (t':Addr) (x:Option V),σ=[some (.ref p),some (.ref aa),some (.ref t'),some (.int m),some (.ref ld),x]∧Drawn p H H'∧H' ld=some (.lst us)∧DeedsV H' ds us ∧
   (∀ d∈ds,GoodCall rows n d)∧ds.Nodup∧ds.length≤i∧H' t'=some (.tup (c'.map V.str))∧GoodCall rows n c')
   ⟨[],[],c,t,none,rfl,d2,by rw [upd_ne (Ne.symm pd)];exact uS,.nil,(fun d h=>nomatch h),List.nodup_nil,Nat.le_refl _,Drawn.tup d2 hp ho ht,gc⟩ (fun _ _ _ _ _=>trivial) ?_ ?_
  ·rintro i v' σ H5 hi ⟨ds,us,c5,t5,x5,rfl,d5,hd5,hD5,gc5,nd5,len5,ht5,gt5⟩
   obtain ⟨hi,rfl⟩:=rangeV_get hi
   obtain ⟨o5,hp5,ho5⟩:=d5.pot
   have okc:∀ y∈c5,isWord y=true:=fun y hy=>good_words g y (gt5.known y hy)
   have okd:∀ d∈ds,∀ y∈d,isWord y=true:=fun d hd y hy=>good_words g y ((gc5 d hd).known y hy)
   have hul:=hD5.length
   refine ⟨fun σ' H'=>∃ (ds':List (List Str)) (us':List V),σ'=[some (.ref p),some (.ref aa),some (.ref t5),some (.int m),some (.ref ld),some (.int (0 + (i:Nat)))]∧Drawn p H H'∧H' ld=some (.lst us')∧DeedsV H' ds' us'∧(∀ d∈ds',GoodCall rows n d)∧ds'.Nodup∧ds'.length≤i + 1∧H' t5=some (.tup (c5.map V.str)),?_,?_⟩
   ·refine ⟨_,rfl,_,rfl,datC c5,ds.map datC,rep_call ht5,.list (SqL.of hd5) (reps_deeds hD5),ok_call 8 okc,ok_deeds 7 okd,_,rfl,?_⟩
    rw [any_deed]
    refine ite2 (fun h=>?_) (fun h=>?_)
    ·have hn:c5∉ds:=by simpa using h
     refine ⟨_,rfl,.inl ⟨rfl,_,SqL.of hd5⟩,_,rfl,_,rfl,ld,us,rfl,.inl (SqL.of hd5),_,_,rfl,rfl,p,_,o5,rfl,hp5,ho5,by omega,by omega,fun a o6 ha0 ha1 ho6=>?_⟩
     obtain ⟨j,rfl⟩:∃ j:Nat,a=(j:Int):=⟨a.toNat,by omega⟩
     have d6:Drawn p H5 (upd H5 p o6):=Drawn.upd ho6
     have hd6:=d6.keep _ _ (Ne.symm pd) hd5
     refine ⟨_,rfl,ld,us,_,_,rfl,rfl,hd6,by omega,by omega,small_lt (by omega),ds.take j++c5 :: ds.drop j,us.take j++V.ref t5 :: us.drop j,rfl,?_,?_,?_,?_,?_,?_,?_⟩
     ·exact (d5.trans d6).sub (o':=.lst []) (q:=ld) (fun b o hb e=>by rw [upd_ne hb];exact e) hld pd
     ·exact uS
     ·have tk:∀ b zs,H5 b=some (.tup zs)→(upd (upd H5 p o6) ld (.lst (us.take j++V.ref t5 :: us.drop j))) b=some (.tup zs):=fun b zs e=>by
       rw [upd_ne (fun z=>by rw [z,hd5] at e;cases e)];exact Drawn.tup d6 hp5 ho5 e
      exact pr_app (pr_take j (hD5.drawn (p:=p) (o:=.lst []) tk)) (.cons ⟨t5,rfl,tk _ _ ht5⟩ (pr_drop j (hD5.drawn (p:=p) (o:=.lst []) tk)))
     ·intro d hd
      rcases List.mem_append.mp hd with z | z
      ·exact gc5 d (List.mem_of_mem_take z)
      ·rcases List.mem_cons.mp z with z | z
       ·rw [z];exact gt5
       ·exact gc5 d (List.mem_of_mem_drop z)
     ·have pm:(ds.take j++c5 :: ds.drop j).Perm (c5 :: ds):=by
       have:=List.perm_middle (a:=c5) (l₁:=ds.take j) (l₂:=ds.drop j)
       rwa [List.take_append_drop] at this
      exact pm.nodup_iff.mpr (List.nodup_cons.mpr ⟨hn,nd5⟩)
     ·rw [List.length_append,List.length_cons,List.length_take,List.length_drop]
      omega
     ·rw [upd_ne (fun z=>by rw [z,hd5] at ht5;cases ht5)];exact Drawn.tup d6 hp5 ho5 ht5
    ·exact ⟨ds,us,rfl,d5,hd5,hD5,gc5,nd5,by omega,ht5⟩
   ·rintro σ' H6 ⟨ds',us',rfl,d6,hd6,hD6,gc6,nd6,len6,ht6⟩
    obtain ⟨o6,hp6,ho6⟩:=d6.pot
    refine ⟨_,rfl,t5,rfl,⟨_,SqT.of ht6⟩,comp_runs (runs_tup (xs:=c5.map V.str)) (sL (by rw [List.length_map];have:=gt5.len;omega)) (fun D j ys σ' H'=>Drawn p H6 H'∧H' D=some (.lst ys)∧∃ (bs:List Str) (x:Option V),ys=bs.map V.str∧bs.length=j∧(∀ x∈bs,x∈rows.map (·.1))∧σ'=[x,some (.ref aa),some (.ref p)])
     (fun D hD=>⟨(Drawn.refl ⟨o6,hp6,ho6⟩).new hD,uS,[],none,rfl,rfl,(fun x h=>nomatch h),rfl⟩) (fun D j ys σ' H' _ ⟨d,_,bs,_,e,el,_⟩=>⟨SqT.of (Drawn.tup d hp6 ho6 ht6),by rw [e,List.length_map];have:=gt5.len;omega⟩) ?_ ?_⟩
    ·rintro D j v ys σ' H7 hD hj ⟨d7,hl7,bs,x7,rfl,rfl,hb,rfl⟩
     rw [List.getElem?_map] at hj
     cases hx:c5[bs.length]? with
     | none=>rw [hx] at hj;cases hj
     | some x =>
      rw [hx] at hj
      cases hj
      obtain ⟨o7,hp7,ho7⟩:=d7.pot
      have pD:p≠D:=nNo hp6 hD
      have hxm:=gt5.known x (List.mem_of_getElem? hx)
      obtain ⟨r,hr',er⟩:=word_row hxm
      obtain ⟨tf,fs,hv,htf,hfs,fl⟩:=hA.val' g.nd hr'
      have xfs:x∈fs:=(hfs x).mpr (by rw [er];exact .refl x)
      have fpos:0<fs.length:=List.length_pos_iff.mpr fun z=>by rw [z] at xfs;cases xfs
      have tp:tf≠p:=Ne.symm (pot_ne hp ho htf)
      have d07:=d6.trans d7
      have haa7:=d07.keep _ _ aap haa
      have htf7:=d07.keep _ _ tp htf
      have gle:=g.le
      have get:∀ {H':Hp},H' aa=some (.dK avs)→DGet H' aa (.str x) (some (.ref tf)):=fun {H'} e=>by rw [← hv,er];exact DGet.k (k:=Sum.inr x) e
      refine ⟨_,rfl,_,rfl,aa,_,rfl,get haa7,_,rfl,_,rfl,_,rfl,aa,_,rfl,get haa7,tf,_,rfl,.inl (SqL.of htf7),p,_,o7,rfl,hp7,ho7,by rw [List.length_map];omega,by rw [List.length_map];omega,fun v o8 hv0 hv1 ho8=>?_⟩
      obtain ⟨y,hym,hat⟩:=drawn_item hv0 hv1
      have d8:Drawn p H7 (upd H7 p o8):=Drawn.upd ho8
      refine ⟨tf,_,_,_,rfl,rfl,SqL.of (d8.keep _ _ tp htf7),hat,d8.keep _ _ (Ne.symm pD) hl7,(d7.trans d8).sub (o':=.lst []) (q:=D) (fun b o hb e=>by rw [upd_ne hb];exact e) hD pD,uS,bs++[y],_,by rw [List.map_append];rfl,by simp,fun z hz=>?_,rfl⟩
      rcases List.mem_append.mp hz with z | z
      ·exact hb _ z
      ·rw [List.mem_singleton.mp z]
       exact reach_in g hxm (by rw [← er];exact (hfs y).mp hym)
    ·rintro D ys σ' H7 hD ⟨d7,hl7,bs,x7,rfl,hbl,hb,rfl⟩
     rw [List.length_map,gt5.len] at hbl
     refine ⟨D,_,rfl,.inl ⟨SqL.of hl7,fun t8 ht8=>?_⟩⟩
     have s8:Same H7 (upd H7 t8 (.tup (bs.map V.str))):=snew ht8
     have d08:=(d6.trans d7).same s8
     refine ⟨ds',us',bs,t8,_,rfl,d08,s8 _ _ (d7.keep _ _ (Ne.symm pd) hd6),(hD6.drawn (p:=p) (o:=.lst []) fun b zs e=>s8 _ _ (Drawn.tup d7 hp6 ho6 e)),gc6,nd6,len6,uS,hbl,hb⟩
  ·rintro σ H6 ⟨ds,us,c5,t5,x5,rfl,d6,hd6,hD6,gc6,nd6,len6,_⟩
   rw [rangeV_len] at len6
   exact ⟨_,rfl,q ld ds us H6 d6 hld hd6 hD6 ⟨gc6,nd6,by omega⟩ (by omega)⟩
end
end K72
namespace K72
open PySem L2 Md
theorem aboveL_drawn {p:Addr}{H H':Hp}{o:HO}{all rows:List (Str×List Str)}{avs:List (Key×V)}(h:AboveL H all rows avs) (hp:H p=some o) (ho:PotO o) (d:Drawn p H H'):AboveL H' all rows avs :=
 Paired.mapP h fun _ _ z=>⟨z.1,let ⟨t,fs,e,x,y⟩:=z.2;⟨t,fs,e,d.keep _ _ (Ne.symm (pot_ne hp ho x)) x,y⟩⟩
def spPrs:Sp:=fun vs H Q _=>∃ (p l aa:Addr) (n m:Nat) (rows:List (Str×List Str)) (avs:List (Key×V)),vs=[.ref p,.ref l,.ref aa,.int n,.int m]∧(∃ o,H p=some o∧PotO o)∧RowsAt H l rows∧Good rows∧H aa=some (.dK avs)∧AboveL H rows rows avs∧1≤n∧n≤4∧m≤63 ∧
 ∀ (t:Addr) (ps:List (List Str×Str)) (us:List V) (H':Hp),Drawn p H H'→H' t=some (.tup us)→PrsV H' ps us→GoodDeeds rows n (ps.map (·.1))→(∀ q∈ps,q.2∈rows.map (·.1))→ps.length≤m→Q (.ref t) H'
theorem at4 {a b c d:V}{v:Int} (h0:0≤v) (h1:v<4):∃ x,atI [a,b,c,d] v=some x∧(x=a∨x=b∨x=c∨x=d):=by
 obtain ⟨k,rfl⟩:∃ k:Nat,v=(k:Int):=⟨v.toNat,by omega⟩
 have hk:k<4:=by omega
 match k,hk with
 | 0,_=>exact ⟨a,rfl,.inl rfl⟩
 | 1,_=>exact ⟨b,rfl,.inr (.inl rfl)⟩
 | 2,_=>exact ⟨c,rfl,.inr (.inr (.inl rfl))⟩
 | 3,_=>exact ⟨d,rfl,.inr (.inr (.inr rfl))⟩
section
variable {P:Program} {w:World} {K:W.Frag} {mg:Str→Option Value} {base:Heap}
abbrev nPa:List Str:=["pot","rows","above","places","most","words","deeds","start","way","place","word","pairs","deed","made"]
abbrev pPa:List Str:=["pot","rows","above","places","most"]
theorem scPa:FnScope nPa pPa (defScope s__law_pairs):=⟨rfl,rfl,rfl,by decide +kernel,rfl,by decide +kernel,by decide +kernel⟩
set_option maxHeartbeats 8000000 in
theorem ok_pairs {f fT fD fC:Addr}{fd fdT fdD fdC:FuncData}(F:Def K mg "_law_pairs" s__law_pairs pPa f fd) (T:TxtD mg) (DT:Def K mg "_law_take" s__law_take ["pot","many"] fT fdT) (GT:FnOk P w K mg base CX0 1 fT fdT ["pot","many"] spTake)
  (DD:Def K mg "_law_deeds" s__law_deeds ["pot","rows","above","places","most"] fD fdD) (GD:FnOk P w K mg base CX0 2 fD fdD ["pot","rows","above","places","most"] spDeeds) (DC:Def K mg "_law_chain" s__law_chain ["pot","above","call","most"] fC fdC) (GC:FnOk P w K mg base CX0 2 fC fdC ["pot","above","call","most"] spChain):
  FnOk P w K mg base CX0 3 f fd pPa spPrs:=by
 refine F.fn.ok scPa (fun vs H Q E h=>?_) (fun cdv A outer s H vs Q E hr h=>?_)
 ·obtain ⟨p,l,aa,n,m,rows,avs,rfl,_⟩:=h
  rfl
 ·obtain ⟨p,l,aa,n,m,rows,avs,rfl,⟨o0,hp0,ho0⟩,hR,g,haa,hA,n1,n4,hm,q⟩:=h
  have nd:=scPa.nd
  have hu:=hu_of hr
  have hr1:Room 1 _:=hr.mono (by decide)
  have gle:=g.le
  refine' ⟨_,(pS (ps_set (i:=5) nd rfl (Or.inr rfl) ?e1)
   (pS (ps_set (i:=6) nd rfl (Or.inl rfl) (pe_callD DD GD hr (pC (pv 0) (pC (pv 1) (pC (pv 2) (pC (pv 3) (pC (pv 4) pa_nil)))))))
   (pss_cut (ps_if (pt_cmpR op_eq (pe_callD DT GT hr1 (pC (pv 0) (pC pe_int pa_nil))) pe_int (nomark _))
    (pS (ps_set (i:=7) nd rfl (Or.inl rfl) (pe_callTy (r:=rTupK K) call_tuple_of (by rfl) T.tuple PyProof.Rows.boot_tuple (pC ?e2 pa_nil)))
   (pss_one (ps_set (i:=6) nd rfl (Or.inl rfl) (pe_callD DC GC hr (pC (pv 0) (pC (pv 2) (pC (pv 7) (pC (pv 4) pa_nil)))))))) pss_nil)
   (pS (ps_set (i:=8) nd rfl (Or.inl rfl) (pe_callD DT GT hr1 (pC (pv 0) (pC pe_int pa_nil))))
   (pS (ps_set (i:=9) nd rfl (Or.inl rfl) (pe_callD DT GT hr1 (pC (pv 0) (pC (pv 3) pa_nil))))
   (pS (ps_set (i:=10) nd rfl (Or.inl rfl) (pe_ix (r:=rIxL K) ix_list (pv 5) (pe_callD DT GT hr1 (pC (pv 0) (pC (pe_callB call_len_seq (by rfl) T.len PySem.boot_len (pC (pv 5) pa_nil)) pa_nil))) (fun _ _=>rfl)))
   (pS (ps_set (i:=11) nd rfl (Or.inl rfl) (pe_lst pa_nil))
   (pS (ps_for PassesOwn.never rfl (pi_list (pv 6)) (pg_name (i:=12) nd rfl (Or.inl rfl))
    (pS (ps_set (i:=13) nd rfl (Or.inl rfl) (pe_ix (r:=rIxT K) ix_tup (pe_tup (pC (pe_ix (r:=rIxL K) ix_list (pv 5) (pe_callD DT GT hr1 (pC (pv 0) (pC (pe_callB call_len_seq (by rfl) T.len PySem.boot_len (pC (pv 5) pa_nil)) pa_nil))) (fun _ _=>rfl)) (pC (pv 10) (pC (pe_ix (r:=rIxT K) ix_tup (pv 12) (pv 9) (fun _ _=>rfl)) (pC (pe_ix (r:=rIxT K) ix_tup (pv 12) (pv 9) (fun _ _=>rfl)) pa_nil))))) (pv 8) (fun _ _=>rfl)))
   (pss_one (ps_expr (pe_bm PySem.F.plainAttrs_list PySem.F.slot_list_append PySem.F.type_list_append mt_append (pv 11) (pC (pe_tup (pC (pv 12) (pC (pv 13) pa_nil))) pa_nil))))))
   (pss_one (ps_ret (pe_callTy (r:=rTupK K) call_tuple_of (by rfl) T.tuple PyProof.Rows.boot_tuple (pC (pv 11) pa_nil)))))))))))),?_⟩
  case e1=>exact (pe_comp ["row"] [] [] (fun _=>compT_ok (osc:=defScope s__law_pairs) (on:=nPa) (by decide +kernel) rfl rfl rfl) (pi_list (pv 1)) (fun C s H fp=>pg_name (i:=0) nd_row1 rfl (Or.inl rfl) (Or.inr rfl)) (fun C s H fp=>pts_nil) (fun C s H fp=>pe_ix (r:=rIxT K) ix_tup (pv 0) pe_int (fun _ _=>rfl)))
  case e2=>exact (pe_comp ["k"] ["words","pot"] [5,0] (fun _=>compT_ok (osc:=defScope s__law_pairs) (on:=nPa) (by decide +kernel) rfl rfl rfl) (pi_range1 (by rfl) T.range (pC (pv 3) pa_nil)) (fun C s H fp=>pg_name (i:=0) nd_kwp rfl (Or.inl rfl) (Or.inr rfl)) (fun C s H fp=>pts_nil) (fun C s H fp=>pe_ix (r:=rIxL K) ix_list (pv 1) (pe_callD DT GT hr1 (pC (pv 2) (pC (pe_callB (r:=rLenK K) call_len_seq (by rfl) T.len PySem.boot_len (pC (pv 1) pa_nil)) pa_nil))) (fun _ _=>rfl)))
  obtain ⟨vs0,hvs0,hpr0⟩:=id hR
  refine ⟨_,rfl,l,rfl,⟨_,SqL.of hvs0⟩,words_comp hR (by omega) (fun t u x H' R ht hRx=>⟨_,rfl,t,_,_,_,rfl,rfl,SqT.of ht,rfl,hRx⟩) fun lw H1 hlw s1 hw=>?_⟩
  have hp1:=s1 _ _ hp0
  have lwp:lw≠p:=Ne.symm (pot_ne hp1 ho0 hw)
  have wne:rows.map (·.1)≠[]:=by
   have:=g.ne
   intro z
   have z2:=congrArg List.length z
   rw [List.length_map] at z2
   simp at z2
   rw [z2] at this
   simp at this
  have wpos:0<(rows.map (·.1)).length:=List.length_pos_iff.mpr wne
  have wl:(rows.map (·.1)).length≤24:=by rw [List.length_map];exact gle
  have haa1:=s1 _ _ haa
  have aap:aa≠p:=fun z=>by rw [z,hp0] at haa;obtain ⟨_,_,q',_⟩:=ho0;rw [q'] at haa;cases haa
  have hA1:AboveL H1 rows rows avs:=hA.mono fun b xs e=>s1 _ _ e
  refine ⟨_,rfl,_,rfl,_,rfl,_,rfl,_,rfl,p,l,aa,n,m,rows,avs,rfl,⟨o0,hp1,ho0⟩,rowsAt_mono hR s1,g,haa1,hA1,n1,n4,hm,fun ld ds us H2 d12 hld hus hD gd dl=>?_⟩
  obtain ⟨o2,hp2,ho2⟩:=id d12.pot
  have hw2:=d12.keep _ _ lwp hw
  refine ⟨fun σ' H'=>∃ (ld:Addr) (ds:List (List Str)) (us:List V) (x:Option V),σ'=[some (.ref p),some (.ref l),some (.ref aa),some (.int n),some (.int m),some (.ref lw),some (.ref ld),x,none,none,none,none,none,none]∧Drawn p H1 H'∧ld≠p∧H' ld=some (.lst us)∧DeedsV H' ds us∧GoodDeeds rows n ds∧ds.length≤m,?_,?_⟩
  ·refine ⟨_,rfl,p,3,o2,rfl,hp2,ho2,by decide,by decide,fun v o3 hv0 hv1 ho3=>⟨rfl,_,rfl,?_⟩⟩
   have d23:Drawn p H2 (upd H2 p o3):=Drawn.upd ho3
   have d13:=d12.trans d23
   have ldp:ld≠p:=fun z=>by rw [z,hp1] at hld;cases hld
   have hus3:=d23.keep _ _ ldp hus
   have hD3:DeedsV (upd H2 p o3) ds us:=hD.drawn (p:=p) (o:=.lst []) fun b zs e=>Drawn.tup d23 hp2 ho2 e
   generalize upd H2 p o3=H3 at d23 d13 hus3 hD3
   refine ite2 (fun _=>?_) (fun _=>⟨ld,ds,us,none,rfl,d13,ldp,hus3,hD3,gd,dl⟩)
   obtain ⟨o3',hp3,ho3'⟩:=id d13.pot
   have hw3:=d13.keep _ _ lwp hw
   refine ⟨_,rfl,n,rfl,by omega,by omega,comp_runs runs_range (by rw [rangeV_len];exact sL (by omega)) (fun D i ys σ' H'=>Drawn p H3 H'∧H' D=some (.lst ys)∧∃ (bs:List Str) (o:Option V),ys=bs.map V.str∧bs.length=i∧(∀ x∈bs,x∈rows.map (·.1))∧σ'=[o,some (.ref lw),some (.ref p)])
    (fun D hD=>⟨(Drawn.refl ⟨o3',hp3,ho3'⟩).new hD,uS,[],none,rfl,rfl,(fun x h=>nomatch h),rfl⟩) (fun D i ys σ' H' _ ⟨_,_,bs,_,e,el,_⟩=>⟨trivial,by rw [e,List.length_map];omega⟩) ?_ ?_⟩
   ·rintro D i v ys σ' H' hD' hi ⟨d,hl,bs,o,rfl,rfl,hb,rfl⟩
    obtain ⟨hi,rfl⟩:=rangeV_get hi
    obtain ⟨o1,hpp,hoo⟩:=d.pot
    have hw1:=d.keep _ _ lwp hw3
    have pD:p≠D:=nNo hp3 hD'
    refine ⟨_,rfl,_,rfl,_,rfl,lw,_,rfl,.inl (SqL.of hw1),p,_,o1,rfl,hpp,hoo,by rw [List.length_map];omega,by rw [List.length_map];omega,fun v o2 hv0 hv1 ho2=>?_⟩
    obtain ⟨x,hxm,hat⟩:=drawn_item hv0 hv1
    have d2:Drawn p H' (upd H' p o2):=Drawn.upd ho2
    refine ⟨lw,_,_,_,rfl,rfl,SqL.of (d2.keep _ _ lwp hw1),hat,d2.keep _ _ (Ne.symm pD) hl,(d.trans d2).sub (o':=.lst []) (q:=D) (fun b o hb e=>by rw [upd_ne hb];exact e) hD' pD,uS,bs++[x],_,by rw [List.map_append];rfl,by simp,fun y hy=>?_,rfl⟩
    rcases List.mem_append.mp hy with z | z
    ·exact hb y z
    ·rw [List.mem_singleton.mp z];exact hxm
   rintro lb ys σ' H4 hlb ⟨d34,hlb4,bs,o,rfl,hbl,hb,rfl⟩
   rw [rangeV_len] at hbl
   have hbl:bs.length=n:=by simpa using hbl
   refine ⟨lb,_,rfl,.inl ⟨SqL.of hlb4,fun ts hts=>?_⟩⟩
   have s45:Same H4 (upd H4 ts (.tup (bs.map V.str))):=snew hts
   have d15:=(d13.trans d34).same s45
   obtain ⟨o5,hp5,ho5⟩:=id d15.pot
   refine ⟨_,rfl,_,rfl,_,rfl,_,rfl,p,aa,ts,n,m,rows,avs,bs,rfl,⟨o5,hp5,ho5⟩,g,d15.keep _ _ aap haa1,aboveL_drawn hA1 hp1 ho0 d15,uS,⟨hbl,hb⟩,n4,hm,fun ld' ds' us' H6 d56 hld' hus' hD' gd' dl'=>?_⟩
   exact ⟨ld',ds',us',_,rfl,d15.trans d56,(fun z=>by rw [z,hp5] at hld';cases hld'),hus',hD',gd',dl'⟩
  ·rintro σ' H3 ⟨ld,ds,us,x,rfl,d13,ldp,hus,hD,gd,dl⟩
   obtain ⟨o3,hp3,ho3⟩:=id d13.pot
   have hul:=hD.length
   refine ⟨_,rfl,p,4,o3,rfl,hp3,ho3,by decide,by decide,fun wy o4 hw0 hw1 ho4=>?_⟩
   refine ⟨_,rfl,_,rfl,p,(n:Int),o4,rfl,uS,ho4,by omega,by omega,fun pl o5 hl0 hl1 ho5=>?_⟩
   have d35:Drawn p H3 (upd (upd H3 p o4) p o5):=(Drawn.upd ho4).trans (Drawn.upd ho5)
   generalize upd (upd H3 p o4) p o5=H5 at d35
   have d15:=d13.trans d35
   obtain ⟨o5',hp5,ho5'⟩:=id d15.pot
   have hw5:=d15.keep _ _ lwp hw
   refine ⟨_,rfl,_,rfl,_,rfl,lw,_,rfl,.inl (SqL.of hw5),p,_,o5',rfl,hp5,ho5',by rw [List.length_map];omega,by rw [List.length_map];omega,fun v o6 hv0 hv1 ho6=>?_⟩
   obtain ⟨y,hym,hat⟩:=drawn_item hv0 hv1
   have d56:Drawn p H5 (upd H5 p o6):=Drawn.upd ho6
   refine ⟨lw,_,_,_,rfl,rfl,SqL.of (d56.keep _ _ lwp hw5),hat,?_⟩
   have d36:=d35.trans d56
   have d16:=d15.trans d56
   generalize upd H5 p o6=H6 at d56 d36 d16
   have hus6:=d36.keep _ _ ldp hus
   have hD6:DeedsV H6 ds us:=hD.drawn (p:=p) (o:=.lst []) fun b zs e=>Drawn.tup d36 hp3 ho3 e
   obtain ⟨o6',hp6,ho6'⟩:=id d16.pot
   refine ⟨Nat.zero_le _,fun lp hlp=>?_⟩
   have plp:p≠lp:=nNo hp6 hlp
   have ldlp:ld≠lp:=nNo hus6 hlp
   have lwlp:lw≠lp:=nNo (d16.keep _ _ lwp hw) hlp
   have lpH1:H1 lp=none:=drawn_free d16 hlp
   have lpH:H lp=none:=s1.free lpH1
   have s67:Same H6 (upd H6 lp (.lst [])):=snew hlp
   refine ⟨_,rfl,ld,rfl,⟨_,SqL.of (s67 _ _ hus6)⟩,for_runs (runs_list (xs:=us)) (fun i σ H'=>∃ (ps:List (List Str×Str)) (ws:List V) (x12 x13:Option V),σ=[some (.ref p),some (.ref l),some (.ref aa),some (.int n),some (.int m),some (.ref lw),some (.ref ld),x,some (.int wy),some (.int pl),some (.str y),some (.ref lp),x12,x13]∧Drawn p H1 H'∧H' ld=some (.lst us)∧DeedsV H' ds us∧H' lp=some (.lst ws)∧PrsV H' ps ws∧ps.map (·.1)=ds.take i∧∀ q∈ps,q.2∈rows.map (·.1))
    ⟨[],[],none,none,rfl,d16.same s67,s67 _ _ hus6,hD6.mono s67,uS,.nil,by rw [List.take_zero];rfl,fun q h=>nomatch h⟩ (fun i σ H' _ ⟨_,_,_,_,_,_,e,_⟩=>SqL.of e) ?_ ?_⟩
   ·rintro i v σ H7 hi ⟨ps,ws,x12,x13,rfl,d17,hus7,hD7,hlp7,hP7,ep,kn⟩
    obtain ⟨d,hd,td,rfl,htd⟩:=paired_at hD7 hi
    have gcd:=gd.call d (List.mem_of_getElem? hd)
    obtain ⟨o7,hp7,ho7⟩:=id d17.pot
    have hw7:=d17.keep _ _ lwp hw
    refine ⟨_,rfl,_,rfl,_,rfl,lw,_,rfl,.inl (SqL.of hw7),p,_,o7,rfl,hp7,ho7,by rw [List.length_map];omega,by rw [List.length_map];omega,fun v o8 hv0 hv1 ho8=>?_⟩
    obtain ⟨y',hym',hat'⟩:=drawn_item hv0 hv1
    have d78:Drawn p H7 (upd H7 p o8):=Drawn.upd ho8
    refine ⟨lw,_,_,_,rfl,rfl,SqL.of (d78.keep _ _ lwp hw7),hat',?_⟩
    have htd8:=Drawn.tup d78 hp7 ho7 htd
    have hlp8:=d78.keep _ _ (Ne.symm plp) hlp7
    have hP8:PrsV (upd H7 p o8) ps ws:=hP7.mono fun b xs e=>Drawn.tup d78 hp7 ho7 e
    have hD8:DeedsV (upd H7 p o8) ds us:=hD7.drawn (p:=p) (o:=.lst []) fun b zs e=>Drawn.tup d78 hp7 ho7 e
    have hus8:=d78.keep _ _ ldp hus7
    have d18:=d17.trans d78
    generalize upd H7 p o8=H8 at d78 htd8 hlp8 hP8 hD8 hus8 d18
    have dlen:d.length=n:=gcd.len
    have hl1':pl<((d.map V.str).length:Int):=by rw [List.length_map];omega
    obtain ⟨z,hzm,hatz⟩:=drawn_item hl0 hl1'
    have hzk:=gcd.known z hzm
    refine ⟨_,rfl,_,rfl,_,rfl,td,_,_,_,rfl,rfl,SqT.of htd8,hatz,_,rfl,_,rfl,td,_,_,_,rfl,rfl,SqT.of htd8,hatz,?_⟩
    refine ⟨sL (by show 4≤100000;decide),fun tt htt=>?_⟩
    have s89:Same H8 (upd H8 tt (.tup [.str y',.str y,.str z,.str z])):=snew htt
    obtain ⟨mv,hmv,hmc⟩:=at4 (a:=.str y') (b:=.str y) (c:=.str z) (d:=.str z) hw0 hw1
    obtain ⟨mx,rfl,hmx⟩:∃ mx:Str,mv=.str mx∧mx∈rows.map (·.1):=by
     rcases hmc with e | e | e | e
     ·exact ⟨y',e,hym'⟩
     ·exact ⟨y,e,hym⟩
     ·exact ⟨z,e,hzk⟩
     ·exact ⟨z,e,hzk⟩
    refine ⟨_,rfl,tt,_,_,_,rfl,rfl,SqT.of uS,hmv,?_⟩
    refine ⟨_,rfl,.inl ⟨rfl,_,SqL.of (s89 _ _ hlp8)⟩,_,rfl,_,rfl,sL (by show 2≤100000;decide),fun tp htp=>?_⟩
    have s9:Same H8 (upd (upd H8 tt (.tup [.str y',.str y,.str z,.str z])) tp (.tup [.ref td,.str mx])):=s89.trans (snew htp)
    have htp9:(upd (upd H8 tt (.tup [.str y',.str y,.str z,.str z])) tp (.tup [.ref td,.str mx])) tp=some (.tup [.ref td,.str mx]):=uS
    generalize upd (upd H8 tt (.tup [.str y',.str y,.str z,.str z])) tp (.tup [.ref td,.str mx])=H9 at s9 htp9
    have hlp9:=s9 _ _ hlp8
    have wsl:ws.length≤64:=by
     have h1:=Paired.length hP7
     have h2:=congrArg List.length ep
     rw [List.length_map,List.length_take] at h2
     have h3:=gd.few
     omega
    refine ⟨lp,_,_,rfl,rfl,hlp9,small_lt (by omega),ps++[(d,mx)],ws++[.ref tp],_,_,rfl,?_,?_,?_,uS,?_,?_,?_⟩
    ·exact ((d18.same s9)).sub (o':=.lst []) (q:=lp) (fun b o hb e=>by rw [upd_ne hb];exact e) lpH1 plp
    ·rw [upd_ne ldlp];exact s9 _ _ hus8
    ·have tk:∀ b zs,H9 b=some (.tup zs)→(upd H9 lp (.lst (ws++[V.ref tp]))) b=some (.tup zs):=fun b zs e=>by
      rw [upd_ne (fun z=>by rw [z,hlp9] at e;cases e)];exact e
     exact (hD8.mono s9).drawn (p:=p) (o:=.lst []) tk
    ·have tk:∀ b zs,H9 b=some (.tup zs)→(upd H9 lp (.lst (ws++[V.ref tp]))) b=some (.tup zs):=fun b zs e=>by
      rw [upd_ne (fun z=>by rw [z,hlp9] at e;cases e)];exact e
     exact Paired.snoc ((hP8.mono (tupsS s9)).mono tk) ⟨tp,td,rfl,tk _ _ htp9,tk _ _ (s9 _ _ htd8)⟩
    ·rw [List.map_append,ep,List.take_add_one,hd];rfl
    ·intro q' hq'
     rcases List.mem_append.mp hq' with z | z
     ·exact kn q' z
     ·rw [List.mem_singleton.mp z];exact hmx
   ·rintro σ H7 ⟨ps,ws,x12,x13,rfl,d17,hus7,hD7,hlp7,hP7,ep,kn⟩
    rw [← hul,List.take_length] at ep
    refine ⟨_,rfl,lp,_,rfl,.inl ⟨SqL.of hlp7,fun t ht=>?_⟩⟩
    have s78:Same H7 (upd H7 t (.tup ws)):=snew ht
    have dH:Drawn p H (upd H7 t (.tup ws)):=⟨fun b o hb e=>s78 _ _ (d17.keep b o hb (s1 _ _ e)),(d17.same s78).pot⟩
    refine q t ps ws _ dH uS (hP7.mono (tupsS s78)) (by rw [ep];exact gd) kn ?_
    have:=congrArg List.length ep
    rw [List.length_map] at this
    omega
end
end K72
namespace K72
open PySem L2 Md
def NameT (H:Hp) (n:Nam) (v:V):Prop:=∃ (t tp:Addr) (vs:List V),v=V.ref t∧H t=some (.tup [.str n.1,.int n.2.1,.ref tp])∧H tp=some (.tup vs)∧PrsV H n.2.2 vs
theorem NameT.mono {H H':Hp}{n:Nam}{v:V}(h:NameT H n v) (k:∀ b xs,H b=some (.tup xs)→H' b=some (.tup xs)):NameT H' n v:=by
 obtain ⟨t,tp,vs,e,h1,h2,h3⟩:=h
 exact ⟨t,tp,vs,e,k _ _ h1,k _ _ h2,h3.mono k⟩
def NamesT (H:Hp) (ns:List Nam) (vs:List V):Prop:=Paired (NameT H) ns vs
theorem NamesT.mono {H H':Hp}{ns:List Nam}{vs:List V}(h:NamesT H ns vs) (k:∀ b xs,H b=some (.tup xs)→H' b=some (.tup xs)):NamesT H' ns vs:=Paired.mapP h fun _ _ z=>z.mono k
structure Names (rows:List (Str×List Str)) (few calls:Nat) (ns:List Nam):Prop where
 each:∀ n∈ns,GoodName rows n
 nd:(ns.map (·.1)).Nodup
 few:∀ n∈ns,n.2.2.length≤few
 calls:∀ n∈ns,n.2.1=1∨rows.length ^ n.2.1≤calls
def spNames (K:W.Frag):Sp:=fun vs H Q _=>∃ (a l aa:Addr) (at' mo few calls:Nat) (ns:List Int) (rows:List (Str×List Str)) (avs:List (Key×V)),vs=[.ref a,.int at',.ref l,.ref aa,.int mo,.int few,.int calls]∧SqL K H a (ns.map V.int)∧ns.length≤100∧at'≤100∧RowsAt H l rows∧Good rows∧H aa=some (.dK avs)∧AboveL H rows rows avs∧mo≤8∧few≤63∧calls≤1000000 ∧
 ∀ (ln:Addr) (nms:List Nam) (us:List V) (H':Hp),Same H H'→H ln=none→H' ln=some (.lst us)→NamesT H' nms us→Names rows few calls nms→nms.length≤mo→Q (.ref ln) H'
section
variable {P:Program} {w:World} {K:W.Frag} {mg:Str→Option Value} {base:Heap}
abbrev nNs:List Str:=["script","at","rows","above","most","few","calls","names","words","k","pot","places"]
abbrev pNs:List Str:=["script","at","rows","above","most","few","calls"]
theorem scNs:FnScope nNs pNs (defScope s__law_names):=⟨rfl,rfl,rfl,by decide +kernel,rfl,by decide +kernel,by decide +kernel⟩
set_option maxHeartbeats 8000000 in
theorem ok_names {f fT fP fW fL fA:Addr}{fd fdT fdP fdW fdL fdA:FuncData}(F:Def K mg "_law_names" s__law_names pNs f fd) (T:TxtD mg) (DP:Def K mg "_law_pot" s__law_pot ["script","k"] fP fdP) (GP:FnOk P w K mg base CX0 1 fP fdP ["script","k"] (spPot K)) (DT:Def K mg "_law_take" s__law_take ["pot","many"] fT fdT) (GT:FnOk P w K mg base CX0 1 fT fdT ["pot","many"] spTake)
  (DW:Def K mg "_law_word" s__law_word ["pot","words"] fW fdW) (GW:FnOk P w K mg base CX0 2 fW fdW ["pot","words"] spWord) (DL:Def K mg "_law_places" s__law_places ["pot","many","most"] fL fdL) (GL:FnOk P w K mg base CX0 2 fL fdL ["pot","many","most"] spPlaces) (DA:Def K mg "_law_pairs" s__law_pairs pPa fA fdA) (GA:FnOk P w K mg base CX0 3 fA fdA pPa spPrs):
  FnOk P w K mg base CX0 4 f fd pNs (spNames K):=by
 refine F.fn.ok scNs (fun vs H Q E h=>?_) (fun cdv A outer s H vs Q E hr h=>?_)
 ·obtain ⟨a,l,aa,at',mo,few,calls,ns,rows,avs,rfl,_⟩:=h
  rfl
 ·obtain ⟨a,l,aa,at',mo,few,calls,ns,rows,avs,rfl,hS,hlen,hat,hR,g,haa,hA,hmo,hfew,hcalls,q⟩:=h
  have nd:=scNs.nd
  have hr1:Room 1 _:=hr.mono (by decide)
  have hr2:Room 2 _:=hr.mono (by decide)
  have gle:=g.le
  have gne:1≤rows.length:=by have:=g.ne;omega
  refine' ⟨_,(pS (ps_set (i:=7) nd rfl (Or.inl rfl) (pe_lst pa_nil))
   (pS (ps_set (i:=8) nd rfl (Or.inl rfl) (pe_lst pa_nil))
   (pS (ps_for PassesOwn.never rfl (pi_range1 (by rfl) T.range (pC (pe_callD DT GT hr1 (pC (pe_callD DP GP hr1 (pC (pv 0) (pC (pv 1) pa_nil))) (pC (pe_op op_add (pv 4) pe_int) pa_nil))) pa_nil)) (pg_name (i:=9) nd rfl (Or.inl rfl))
    (pS (ps_set (i:=10) nd rfl (Or.inl rfl) (pe_callD DP GP hr1 (pC (pv 0) (pC (pe_op op_add (pe_op op_add (pv 1) pe_int) (pv 9)) pa_nil))))
   (pS (ps_expr (pe_bm PySem.F.plainAttrs_list PySem.F.slot_list_append PySem.F.type_list_append mt_append (pv 8) (pC (pe_callD DW GW hr2 (pC (pv 10) (pC (pv 8) pa_nil))) pa_nil)))
   (pS (ps_set (i:=11) nd rfl (Or.inl rfl) (pe_callD DL GL hr2 (pC (pv 10) (pC (pe_callB call_len_seq (by rfl) T.len PySem.boot_len (pC (pv 2) pa_nil)) (pC (pv 6) pa_nil)))))
   (pss_one (ps_expr (pe_bm PySem.F.plainAttrs_list PySem.F.slot_list_append PySem.F.type_list_append mt_append (pv 7) (pC (pe_tup (pC (pe_ix (r:=rIxL K) ix_list (pv 8) (pv 9) (fun _ _=>rfl)) (pC (pv 11) (pC (pe_callD DA GA hr (pC (pv 10) (pC (pv 2) (pC (pv 3) (pC (pv 11) (pC (pv 5) pa_nil)))))) pa_nil)))) pa_nil))))))))
   (pss_one (ps_ret (pv 7)))))),?_⟩
  refine ⟨Nat.zero_le _,fun ln hln=>⟨Nat.zero_le _,fun lw hlw=>?_⟩⟩
  have s1:Same H (upd H ln (.lst [])):=snew hln
  have s2:Same (upd H ln (.lst [])) (upd (upd H ln (.lst [])) lw (.lst [])):=snew hlw
  have lwH:H lw=none:=s1.free hlw
  have nw:ln≠lw:=fun z=>by rw [← z,uS] at hlw;cases hlw
  have hln2:=s2 ln _ uS
  have hlw2:(upd (upd H ln (.lst [])) lw (.lst [])) lw=some (.lst []):=uS
  have s02:=s1.trans s2
  generalize upd (upd H ln (.lst [])) lw (.lst [])=H2 at s02 hln2 hlw2
  refine ⟨_,rfl,_,rfl,a,(at':Int),ns,rfl,s02.seq hS,hlen,by omega,by omega,fun p0 o0 hp0 ho0=>⟨_,rfl,_,_,rfl,rfl,p0,_,o0,rfl,uS,ho0,by omega,by omega,fun v o1 hv0 hv1 ho1=>⟨v,rfl,by omega,by omega,?_⟩⟩⟩
  have s23:Same H2 (upd (upd H2 p0 o0) p0 o1):=fun b o e=>by rw [upd_ne (nNo e hp0),upd_ne (nNo e hp0)];exact e
  generalize upd (upd H2 p0 o0) p0 o1=H3 at s23
  refine for_runs runs_range (fun i σ H'=>∃ (nms:List Nam) (us:List V) (x9 x10 x11:Option V),σ=[some (.ref a),some (.int at'),some (.ref l),some (.ref aa),some (.int mo),some (.int few),some (.int calls),some (.ref ln),some (.ref lw),x9,x10,x11]∧Same H H'∧H' ln=some (.lst us)∧NamesT H' nms us∧H' lw=some (.lst ((nms.map (·.1)).map V.str))∧Names rows few calls nms∧nms.length=i)
   ⟨[],[],none,none,none,rfl,s02.trans s23,s23 _ _ hln2,.nil,s23 _ _ hlw2,⟨(fun n h=>nomatch h),List.nodup_nil,(fun n h=>nomatch h),(fun n h=>nomatch h)⟩,rfl⟩ (fun _ _ _ _ _=>trivial) ?_ ?_
  ·rintro i v' σ H4 hi ⟨nms,us,x9,x10,x11,rfl,s4,hln4,hN4,hlw4,gn4,nl⟩
   obtain ⟨hi,rfl⟩:=rangeV_get hi
   have hi8:i<9:=by omega
   refine ⟨_,rfl,_,rfl,_,_,rfl,rfl,_,rfl,_,_,rfl,rfl,a,(at' + 1 + (0 + (i:Int)):Int),ns,rfl,s4.seq hS,hlen,by omega,by omega,fun p o hp ho=>?_⟩
   have s45:Same H4 (upd H4 p o):=snew hp
   have hp5:(upd H4 p o) p=some o:=uS
   have pH:H p=none:=s4.free hp
   have hln5:=s45 _ _ hln4
   have hlw5:=s45 _ _ hlw4
   have hN5:=hN4.mono (tupsS s45)
   have s5:=s4.trans s45
   generalize upd H4 p o=H5 at s45 hp5 hln5 hlw5 hN5 s5
   have plw:p≠lw:=nNo hlw4 hp |> Ne.symm
   have pln:p≠ln:=nNo hln4 hp |> Ne.symm
   have wok:WordsOk (nms.map (·.1)):=⟨fun x hx=>by
    obtain ⟨n,hn,e⟩:=List.mem_map.mp hx
    rw [← e];exact (gn4.each n hn).word,gn4.nd⟩
   have wl:(nms.map (·.1)).length≤8:=by rw [List.length_map];omega
   refine ⟨_,rfl,.inl ⟨rfl,_,SqL.of hlw5⟩,_,rfl,_,rfl,p,lw,nms.map (·.1),rfl,plw,⟨o,hp5,ho⟩,hlw5,wok,by omega,fun x H6 d56 wx nx=>?_⟩
   have hlw6:=d56.keep _ _ (Ne.symm plw) hlw5
   refine ⟨lw,_,_,rfl,rfl,hlw6,small_lt (by rw [List.length_map];omega),?_⟩
   have e7:(nms.map (·.1)).map V.str++[V.str x]=((nms.map (·.1))++[x]).map V.str:=by rw [List.map_append];rfl
   have d57:∀ b u,b≠p→b≠lw→H5 b=some u→(upd H6 lw (.lst (((nms.map (·.1)).map V.str)++[V.str x]))) b=some u:=fun b u h1 h2 e=>by rw [upd_ne h2];exact d56.keep _ _ h1 e
   obtain ⟨o6,hp6,ho6⟩:=id d56.pot
   have hp7:(upd H6 lw (.lst (((nms.map (·.1)).map V.str)++[V.str x]))) p=some o6:=by rw [upd_ne plw];exact hp6
   have hlw7:(upd H6 lw (.lst (((nms.map (·.1)).map V.str)++[V.str x]))) lw=some (.lst (((nms.map (·.1))++[x]).map V.str)):=by rw [uS,e7]
   have s7:Same H (upd H6 lw (.lst (((nms.map (·.1)).map V.str)++[V.str x]))):=fun b u e=>d57 b u (nNo e pH) (nNo e lwH) (s5 _ _ e)
   have hln7:=d57 _ _ (Ne.symm pln) nw hln5
   have tk7:∀ b zs,H5 b=some (.tup zs)→(upd H6 lw (.lst (((nms.map (·.1)).map V.str)++[V.str x]))) b=some (.tup zs):=fun b zs e=>d57 _ _ (fun z=>by rw [z,hp5] at e;obtain ⟨_,_,q',_⟩:=ho;rw [q'] at e;cases e) (fun z=>by rw [z,hlw5] at e;cases e) e
   have hN7:=hN5.mono tk7
   generalize upd H6 lw (.lst (((nms.map (·.1)).map V.str)++[V.str x]))=H7 at hp7 hlw7 s7 hln7 hN7
   obtain ⟨vs0,hvs0,hpr0⟩:=id hR
   have hvl:vs0.length=rows.length:=hpr0.length.symm
   refine ⟨_,rfl,_,rfl,l,vs0,rfl,.inl (SqL.of (s7 _ _ hvs0)),_,rfl,p,rows.length,calls,by rw [hvl];rfl,⟨o6,hp7,ho6⟩,gne,gle,hcalls,fun n H8 d78 n1 n4 hc=>?_⟩
   obtain ⟨o8,hp8,ho8⟩:=id d78.pot
   have hlw8:=d78.keep _ _ (Ne.symm plw) hlw7
   have hln8:=d78.keep _ _ (Ne.symm pln) hln7
   have s8:Same H H8:=fun b u e=>d78.keep _ _ (nNo e pH) (s7 _ _ e)
   have hN8:NamesT H8 nms us:=hN7.mono fun b xs e=>Drawn.tup d78 hp7 ho6 e
   have hxi:atI (((nms.map (·.1))++[x]).map V.str) (0 + (i:Nat):Int)=some (.str x):=by
    rw [Int.zero_add]
    refine atI_nat ?_
    rw [List.getElem?_map,List.getElem?_append_right (by rw [List.length_map];omega),List.length_map,nl,Nat.sub_self]
    rfl
   refine ⟨_,rfl,.inl ⟨rfl,_,SqL.of hln8⟩,_,rfl,_,rfl,lw,_,_,_,rfl,rfl,SqL.of hlw8,hxi,_,rfl,_,rfl,_,rfl,_,rfl,_,rfl,_,rfl,p,l,aa,n,few,rows,avs,rfl,⟨o8,hp8,ho8⟩,rowsAt_mono hR s8,g,s8 _ _ haa,hA.mono (fun b xs e=>s8 _ _ e),n1,n4,hfew,fun tp ps ws H9 d89 htp hPs gdp kn pl=>⟨sL (by show 3≤100000;decide),fun t ht=>?_⟩⟩
   have s910:Same H9 (upd H9 t (.tup [.str x,.int n,.ref tp])):=snew ht
   have ht10:(upd H9 t (.tup [.str x,.int n,.ref tp])) t=some (.tup [.str x,.int n,.ref tp]):=uS
   generalize upd H9 t (.tup [.str x,.int n,.ref tp])=H10 at s910 ht10
   have hln10:=s910 _ _ (d89.keep _ _ (Ne.symm pln) hln8)
   have usl:us.length≤8:=by have:=Paired.length hN4;omega
   refine ⟨ln,_,_,rfl,rfl,hln10,small_lt (by omega),nms++[(x,n,ps)],us++[.ref t],_,_,_,rfl,?_,uS,?_,?_,?_,?_⟩
   ·exact fun b u e=>by rw [upd_ne (nNo e hln)];exact s910 _ _ (d89.keep _ _ (nNo e pH) (s8 _ _ e))
   ·have tk:∀ b zs,H10 b=some (.tup zs)→(upd H10 ln (.lst (us++[V.ref t]))) b=some (.tup zs):=fun b zs e=>by
     rw [upd_ne (fun z=>by rw [z,hln10] at e;cases e)];exact e
    exact Paired.snoc (((hN8.mono fun b xs e=>Drawn.tup d89 hp8 ho8 e).mono (tupsS s910)).mono tk) ⟨t,tp,ws,rfl,tk _ _ ht10,tk _ _ (s910 _ _ htp),(hPs.mono (tupsS s910)).mono tk⟩
   ·rw [upd_ne (Ne.symm nw),List.map_append]
    exact s910 _ _ (d89.keep _ _ (Ne.symm plw) hlw8)
   ·refine ⟨fun n' hn'=>?_,?_,fun n' hn'=>?_,fun n' hn'=>?_⟩
    ·rcases List.mem_append.mp hn' with z | z
     ·exact gn4.each _ z
     ·rw [List.mem_singleton.mp z];exact ⟨wx,n1,n4,gdp,kn⟩
    ·rw [List.map_append,List.nodup_append]
     exact ⟨gn4.nd,by simp,fun a ha b hb e=>nx (by have z:b=x:=List.mem_singleton.mp hb;rw [← z,← e];exact ha)⟩
    ·rcases List.mem_append.mp hn' with z | z
     ·exact gn4.few _ z
     ·rw [List.mem_singleton.mp z];exact pl
    ·rcases List.mem_append.mp hn' with z | z
     ·exact gn4.calls _ z
     ·rw [List.mem_singleton.mp z];exact hc
   ·rw [List.length_append,nl];rfl
  ·rintro σ H4 ⟨nms,us,x9,x10,x11,rfl,s4,hln4,hN4,hlw4,gn4,nl⟩
   rw [rangeV_len] at nl
   exact ⟨_,rfl,q ln nms us H4 s4 hln hln4 hN4 gn4 (by omega)⟩
end
end K72
namespace K72
open PySem L2 Md
abbrev MKNames (K:W.Frag) (D f:Addr) (fd:FuncData):Prop:=MDef K D "names" "Book.names" s_Book_names ["self"] f fd
def spKNames (C B D:Addr):Sp:=fun vs H Q _=>∃ (p k:Addr) (rows:List (Str×List Str)) (ns:List Nam),vs=[.ref p]∧BookAt C B D H p k rows ns∧GoodNames rows ns∧∀ (l:Addr) (us:List V) (H':Hp),H l=none→Same H H'→H' l=some (.lst us)→NamesT H' ns us→Q (.ref l) H'
theorem pairs_of {H:Hp}:∀ {ps:List (List Str×Str)}{us ws:List V},DeedsV H (ps.map (·.1)) us→Paired (fun (p:V×V) v=>∃ q:Addr,v=.ref q∧H q=some (.tup [p.1,p.2])) (us.zip ((ps.map (·.2)).map V.str)) ws→PrsV H ps ws
 | [],_,_,.nil,.nil=>.nil
 | p :: ps,_,_,.cons ⟨t,e,h⟩ r,.cons ⟨q,e2,h2⟩ r2=>by
  subst e
  exact .cons ⟨q,t,e2,h2,h⟩ (pairs_of r r2)
section
variable {P:Program} {w:World} {K:W.Frag} {mg:Str→Option Value} {base:Heap}
abbrev nKN:List Str:=["self","triples","word","board","deeds"]
theorem scKN:FnScope nKN ["self"] (defScope s_Book_names):=⟨rfl,rfl,rfl,by decide +kernel,rfl,by decide +kernel,by decide +kernel⟩
theorem ok_knames {f B C D fP fD:Addr}{fd fdP fdD:FuncData}(F:Fun K "names" "Book.names" s_Book_names f fd) (TD:TxtKn K D) (TB:TxtBd K B) (MP:MBPlaces K B fP fdP) (MD:MBDeeds K B fD fdD) (list:mg "list"=none) (tuple:mg "tuple"=none) (zip:mg "zip"=none):FnOk P w K mg base CX0 2 f fd ["self"] (spKNames C B D):=by
 have GP:FnOk P w K mg base CX0 1 fP fdP ["self"] (spBPlaces C B):=ok_bplaces MP.fn TB
 have GD:FnOk P w K mg base CX0 1 fD fdD ["self"] (spBDeeds C B):=ok_bdeeds MD.fn TB list
 refine F.ok scKN (fun vs H Q E h=>?_) (fun cdv A outer s H vs Q E hr h=>?_)
 ·obtain ⟨p,k,rows,ns,rfl,_⟩:=h
  rfl
 ·obtain ⟨p,k,rows,ns,rfl,bk,gn,q⟩:=h
  have nd:=scKN.nd
  have hu:=hu_of hr
  obtain ⟨dx,bo,mo,o,bvs,mvs,h1,h2,h3,h4,h5,h6⟩:=bk.ex
  refine' ⟨_,(pS (ps_set (i:=1) nd rfl (Or.inl rfl) (pe_lst pa_nil))
   (pS (ps_for PassesOwn.never rfl (pi_items (pe_fld (pv 0) rfl)) (pg_tup rfl (gC (pg_name (i:=2) nd rfl (Or.inl rfl)) (gC (pg_name (i:=3) nd rfl (Or.inl rfl)) pgs_nil)))
    (pS (ps_set (i:=4) nd rfl (Or.inl rfl) (pe_tupleZip rfl (by rfl) tuple (by rfl) zip (pC (pe_meth0 (pv 3) TB.cl MD.me GD hr MD.b .nil pass0) (pC (pe_dget hu (pe_fld (pv 0) rfl) (pv 2) (fun _ _=>rfl)) pa_nil))))
   (pss_one (ps_expr (pe_bm PySem.F.plainAttrs_list PySem.F.slot_list_append PySem.F.type_list_append mt_append (pv 1) (pC (pe_tup (pC (pv 2) (pC (pe_meth0 (pv 3) TB.cl MP.me GP hr MP.b .nil pass0) (pC (pv 4) pa_nil)))) pa_nil))))))
   (pss_one (ps_ret (pv 1))))),?_⟩
  refine ⟨Nat.zero_le _,fun l hl=>?_⟩
  have s1:Same H (upd H l (.lst [])):=snew hl
  refine ⟨_,rfl,p,D,dx,_,_,rfl,s1 _ _ h1,TD.cl,TD.nO,fldsK_o _ _ _,bo,o,bvs,rfl,s1 _ _ h3,for_items (fun i σ H'=>∃ (us:List V) (x y z:Option V),σ=[some (.ref p),some (.ref l),x,y,z]∧Same H H'∧H' l=some (.lst us)∧NamesT H' (ns.take i) us)
   ⟨[],none,none,none,rfl,s1,uS,by rw [List.take_zero];exact .nil⟩ (fun i σ H' _ ⟨_,_,_,_,_,s,_⟩=>s _ _ h3) ?_ ?_⟩
  ·rintro i pr t σ H2 hi ⟨us,x,y,z,rfl,s2,hl2,hN2⟩ ht
   obtain ⟨n,hn,e1,yb,e2,bd⟩:=paired_at h4 hi
   have hmem:n∈ns:=List.mem_of_getElem? hn
   have gnn:=gn.each n hmem
   have s23:Same H2 (upd H2 t (.tup [kV pr.1,pr.2])):=snew ht
   have ht3:(upd H2 t (.tup [kV pr.1,pr.2])) t=some (.tup [.str n.1,.ref yb]):=by rw [uS,e1,e2];rfl
   generalize upd H2 t (.tup [kV pr.1,pr.2])=H3 at s23 ht3
   have s3:=s2.trans s23
   refine ⟨t,_,rfl,SqT.of ht3,rfl,_,_,rfl,_,_,rfl,rfl,?_⟩
   have bd3:=bd.mono s3
   obtain ⟨dxb,tb,usb,hb1,_⟩:=bd3.ex
   obtain ⟨mv,hmv,lm,rfl,hlm,_⟩:=h6.val gn.nd hmem
   refine ⟨_,rfl,yb,dxb,_,rfl,hb1,no_bdeeds _ _ _,yb,k,rows,n.2.1,_,rfl,bd3,fun ld us4 hld hD4=>?_⟩
   have s34:Same H3 (upd H3 ld (.lst us4)):=snew hld
   have hld4:(upd H3 ld (.lst us4)) ld=some (.lst us4):=uS
   have hD4':=hD4.mono s34
   generalize upd H3 ld (.lst us4)=H4 at s34 hld4 hD4'
   have s4:=s3.trans s34
   refine ⟨_,rfl,p,D,dx,_,_,rfl,s4 _ _ h1,TD.cl,TD.nM,fldsK_m _ _ _,_,rfl,mo,_,rfl,(by rw [← hmv];exact DGet.k (k:=Sum.inr n.1) (s4 _ _ h5)),ld,lm,_,_,rfl,SqL.of hld4,SqL.of (s4 _ _ hlm),fun tz ws H5 htz s45 htz5 hz5=>?_⟩
   have s5:=s4.trans s45
   have hP5:PrsV H5 n.2.2 ws:=pairs_of (hD4'.mono s45) hz5
   have bd5:=bd.mono s5
   obtain ⟨dxb5,tb5,usb5,hb5,_⟩:=bd5.ex
   have hl5:=s45 _ _ (s34 _ _ (s23 _ _ hl2))
   refine ⟨_,rfl,.inl ⟨rfl,_,SqL.of hl5⟩,_,rfl,_,rfl,yb,dxb5,_,rfl,hb5,no_bplaces _ _ _,yb,k,rows,n.2.1,_,rfl,bd5,_,rfl,sL (by show 3≤100000;decide),fun t6 ht6=>?_⟩
   have s56:Same H5 (upd H5 t6 (.tup [.str n.1,.int n.2.1,.ref tz])):=snew ht6
   have ht6':(upd H5 t6 (.tup [.str n.1,.int n.2.1,.ref tz])) t6=some (.tup [.str n.1,.int n.2.1,.ref tz]):=uS
   generalize upd H5 t6 (.tup [.str n.1,.int n.2.1,.ref tz])=H6 at s56 ht6'
   have hl6:=s56 _ _ hl5
   have ul:us.length≤8:=by
    have a:=Paired.length hN2
    rw [List.length_take] at a
    have b:=gn.few
    omega
   have s26:=(s23.trans s34).trans (s45.trans s56)
   have tk:∀ b zs,H6 b=some (.tup zs)→(upd H6 l (.lst (us++[V.ref t6]))) b=some (.tup zs):=fun b zs e=>by
    rw [upd_ne (fun z=>by rw [z,hl6] at e;cases e)];exact e
   refine ⟨l,_,_,rfl,rfl,hl6,small_lt (by omega),us++[.ref t6],_,_,_,rfl,fun b u e=>?_,uS,?_⟩
   ·rw [upd_ne (nNo e hl)];exact s56 _ _ (s5 _ _ e)
   ·rw [List.take_add_one,hn]
    exact Paired.snoc ((hN2.mono (tupsS s26)).mono tk) ⟨t6,tz,ws,rfl,tk _ _ ht6',tk _ _ (s56 _ _ htz5),(hP5.mono (tupsS s56)).mono tk⟩
  ·rintro σ H2 ⟨us,x,y,z,rfl,s2,hl2,hN2⟩
   have bl:bvs.length=ns.length:=(Paired.length h4).symm
   rw [bl,List.take_length] at hN2
   exact ⟨_,rfl,q l us H2 hl s2 hl2 hN2⟩
end
end K72
namespace K72
open PySem L2 Md
structure WsAt (H:Hp) (a:Addr) (ws:List Str):Prop where
 at_:H a=some (.lst (ws.map V.str))
 few:ws.length≤1000
 sh:∀ x∈ws,x.length≤1000
theorem WsAt.mono {H H':Hp}{a:Addr}{ws:List Str}(h:WsAt H a ws) (s:Same H H'):WsAt H' a ws:=⟨s _ _ h.at_,h.few,h.sh⟩
def isWordV:V→Bool
 | .str x=>isWord x
 | _=>false
def kindRowB:List Str→Bool
 | w :: r=>decide (w="kind")&&(r.all isWord&&(decide (r.length=1) || (decide (2<r.length)&&decide (r.getD 1 ""="under"))))
 | []=>false
theorem kindRow_cons (w:Str) (r:List Str):kindRowB (w :: r)=(decide (w="kind")&&(r.all isWord&&(decide (r.length=1) || (decide (2<r.length)&&decide (r.getD 1 ""="under"))))):=rfl
def figs:List Str:=["1","2","3","4"]
def nameRowB:List Str→Bool
 | [a,b,c]=>decide (a="name")&&(isWord b&&decide (c∈figs))
 | _=>false
def deedRowB (ws:List Str):Bool:=decide (ws.getD 0 ""="deed")&&(decide (5≤ws.length)&&(decide (ws.getD (ws.length - 2) ""="gives")&&(ws.drop 1).all isWord))
def spAW:Sp:=fun vs H Q _=>∃ (a:Addr) (ws:List Str),vs=[.ref a]∧WsAt H a ws∧∀ H',Same H H'→Q (.bl (ws.all isWord)) H'
def spKR:Sp:=fun vs H Q _=>∃ (a:Addr) (ws:List Str),vs=[.ref a]∧WsAt H a ws∧ws≠[]∧∀ H',Same H H'→Q (.bl (kindRowB ws)) H'
def spNR:Sp:=fun vs H Q _=>∃ (a:Addr) (ws:List Str),vs=[.ref a]∧WsAt H a ws∧ws≠[]∧∀ H',Same H H'→Q (.bl (nameRowB ws)) H'
def spDR:Sp:=fun vs H Q _=>∃ (a:Addr) (ws:List Str),vs=[.ref a]∧WsAt H a ws∧ws≠[]∧∀ H',Same H H'→Q (.bl (deedRowB ws)) H'
theorem at_str {ws:List Str}{k:Nat}{x:Str}(h:ws[k]?=some x):atI (ws.map V.str) (k:Int)=some (.str x):=atI_nat (by rw [List.getElem?_map,h];rfl)
theorem at_neg {ws:List Str}{k:Nat}{x:Str} (h1:1≤k) (h2:k≤ws.length) (h:ws[ws.length - k]?=some x):atI (ws.map V.str) (-(k:Int))=some (.str x):=by
 have e:ixN (ws.map V.str).length (-(k:Int))=some (ws.length - k):=by
  unfold ixN
  rw [List.length_map,if_neg (by omega),if_pos (by omega)]
  congr 1
  omega
 unfold atI
 rw [e]
 show (ws.map V.str)[ws.length - k]?=_
 rw [List.getElem?_map,h]
 rfl
theorem cut_mid (ws:List Str) (j k:Nat) (h:j + k≤ws.length) (hk:1≤k):cutV (ws.map V.str) (some (j:Int)) (some (-(k:Int)))=((ws.drop j).take (ws.length - (j + k))).map V.str:=by
 unfold cutV
 rw [HT.sIx_nat,← List.map_drop,← List.map_take,List.length_map]
 have e:HT.sIx ws.length ws.length (some (-(k:Int)))=ws.length - k:=by
  show (if -(k:Int)<0 then (-(k:Int) + (ws.length:Int)).toNat else min (-(k:Int)).toNat ws.length)=_
  rw [if_pos (by omega)]
  omega
 rw [e,Nat.min_eq_left (by omega),show ws.length - k - j=ws.length - (j + k) by omega]
theorem cut_from (ws:List Str) (k:Nat):cutV (ws.map V.str) (some (k:Int)) none=(ws.drop k).map V.str:=by
 unfold cutV
 rw [HT.sIx_nat,HT.sIx_none,← List.map_drop,← List.map_take,List.length_map]
 congr 1
 by_cases h:k≤ws.length
 ·rw [Nat.min_eq_left h,List.take_of_length_le (by rw [List.length_drop];exact Nat.le_refl _)]
 ·rw [Nat.min_eq_right (by omega),List.drop_of_length_le (Nat.le_refl _),List.drop_of_length_le (by omega),List.take_nil]
section
variable {P:Program} {w:World} {K:W.Frag} {mg:Str→Option Value} {base:Heap}
theorem nd_tx:(["text"]:List Str).Nodup:=by decide +kernel
theorem scFAW:FnScope ["texts"] ["texts"] (defScope s_are_words):=⟨rfl,rfl,rfl,by decide +kernel,rfl,by decide +kernel,by decide +kernel⟩
theorem ok_arewords {f fW:Addr}{fd fdW:FuncData}(F:Def K mg "are_words" s_are_words ["texts"] f fd) (all:mg "all"=none) (DW:Def K mg "is_word" s_is_word ["text"] fW fdW) (GW:FnOk P w K mg base CX0 1 fW fdW ["text"] spIsWord):FnOk P w K mg base CX0 2 f fd ["texts"] spAW:=by
 refine F.fn.ok scFAW (fun vs H Q E h=>?_) (fun cdv A outer s H vs Q E hr h=>?_)
 ·obtain ⟨a,ws,rfl,_⟩:=h
  rfl
 ·obtain ⟨a,ws,rfl,hw,q⟩:=h
  refine' ⟨_,pss_one (ps_ret (pe_callB (call_all rfl) (by rfl) all PyProof.Rows.boot_all (pC ?eC pa_nil))),?_⟩
  case eC=>exact (pe_comp ["text"] [] [] (fun _=>compT_ok (osc:=defScope s_are_words) (on:=["texts"]) (by decide +kernel) rfl rfl rfl) (pi_list (pv 0)) (fun C s H fp=>pg_name (i:=0) nd_tx rfl (Or.inl rfl) (Or.inr rfl)) (fun C s H fp=>pts_nil) (fun C s H fp=>pe_callD DW GW hr (pC (pv 0) pa_nil)))
  refine ⟨_,rfl,a,rfl,⟨_,SqL.of hw.at_⟩,comp_rel (runs_list (xs:=ws.map V.str)) (sL (by rw [List.length_map];have:=hw.few;omega)) (fun _=>true) (fun _ x v _=>v=.bl (isWordV x)) (fun _ _ _ _ _ _ z=>z) (fun H' s'=>SqL.of (s' _ _ hw.at_)) (fun x H' R s' hx hR=>hR H' (Same.refl _)) ?_ ?_⟩
  ·intro D x H' R s' _ _ hx _ hR
   obtain ⟨y,hy,rfl⟩:=List.mem_map.mp hx
   exact ⟨_,rfl,y,rfl,hw.sh y hy,fun H2 s2=>hR _ H2 s2 rfl⟩
  ·intro D H' ys hD s' hl hP
   rw [List.filter_eq_self.mpr (fun _ _=>rfl)] at hP
   have e:=paired_eq hP
   rw [List.map_map] at e
   refine ⟨D,ws.map isWord,rfl,SqL.of (by rw [hl,e,List.map_map];rfl),?_⟩
   have e2:(ws.map isWord).all id=ws.all isWord:=by rw [List.all_map];rfl
   show Q (.bl ((ws.map isWord).all id)) H'
   rw [e2]
   exact q H' s'
theorem scFKR:FnScope ["words"] ["words"] (defScope s_is_kind_row):=⟨rfl,rfl,rfl,by decide +kernel,rfl,by decide +kernel,by decide +kernel⟩
theorem ok_kindrow {f fA:Addr}{fd fdA:FuncData}(F:Def K mg "is_kind_row" s_is_kind_row ["words"] f fd) (len:mg "len"=none) (DA:Def K mg "are_words" s_are_words ["texts"] fA fdA) (GA:FnOk P w K mg base CX0 2 fA fdA ["texts"] spAW):FnOk P w K mg base CX0 3 f fd ["words"] spKR:=by
 refine F.fn.ok scFKR (fun vs H Q E h=>?_) (fun cdv A outer s H vs Q E hr h=>?_)
 ·obtain ⟨a,ws,rfl,_⟩:=h
  rfl
 ·obtain ⟨a,ws,rfl,hw,hn,q⟩:=h
  refine' ⟨_,(pS (ps_if (PW.pt (pw_or (pt_cmpR op_ne (pe_ix (r:=rIxL K) ix_list (pv 0) pe_int (fun _ _=>rfl)) pe_str (nomark _)) (pw_or1 (pt_not (pt_val (pe_callD DA GA hr (pC (pe_slice (r:=rSlL K) sl_list (pv 0) (po_some pe_int) po_none) pa_nil))))))) (pss_one (ps_ret pe_bl)) pss_nil)
   (pss_one (ps_ret (pe_or (pe_cmpR op_eq (pe_callB call_len_seq (by rfl) len PySem.boot_len (pC (pv 0) pa_nil)) pe_int (nomark _)) (pe_one (pe_and (pe_cmpR op_gt (pe_callB call_len_seq (by rfl) len PySem.boot_len (pC (pv 0) pa_nil)) pe_int (nomark _)) (pe_one (pe_cmpR op_eq (pe_ix (r:=rIxL K) ix_list (pv 0) pe_int (fun _ _=>rfl)) pe_str (nomark _))))))))),?_⟩
  rcases ws with _ | ⟨x,r⟩
  ·exact absurd rfl hn
  have a0:atI ((x :: r).map V.str) 0=some (.str x):=at_str (ws:=x :: r) (k:=0) rfl
  refine ⟨_,rfl,a,_,_,_,rfl,rfl,SqL.of hw.at_,a0,rfl,_,rfl,?_⟩
  by_cases h1:x="kind"
  ·rw [show (!decide (V.str x=V.str "kind"))=false by rw [h1,decide_eq_true rfl];rfl]
   refine iteF ⟨_,rfl,_,rfl,a,_,rfl,SqL.of hw.at_,fun p hp=>?_⟩
   have s1:Same H (upd H p (.lst (cutV ((x :: r).map V.str) (some 1) none))):=snew hp
   have h2:(upd H p (.lst (cutV ((x :: r).map V.str) (some 1) none))) p=some (.lst (r.map V.str)):=by rw [uS];exact congrArg (fun z=>some (HO.lst z)) (cut_from (x :: r) 1)
   generalize upd H p (.lst (cutV ((x :: r).map V.str) (some 1) none))=H1 at s1 h2 ⊢
   refine ⟨p,r,rfl,⟨h2,by have:=hw.few;rw [List.length_cons] at this;omega,fun y hy=>hw.sh y (List.mem_cons_of_mem _ hy)⟩,fun H2 s2=>⟨_,rfl,?_⟩⟩
   have s02:=s1.trans s2
   have q:=q H2 s02
   rw [kindRow_cons] at q
   rw [decide_eq_true h1,Bool.true_and] at q
   cases ha:r.all isWord with
   | false =>
    rw [ha] at q
    exact iteT q
   | true =>
    rw [ha,Bool.true_and] at q
    have hl2:=SqL.of (K:=K) (s02 _ _ hw.at_)
    have hln:((x :: r).map V.str).length=r.length + 1:=by rw [List.length_map,List.length_cons]
    refine iteF ⟨_,rfl,a,_,rfl,.inl hl2,rfl,_,rfl,?_⟩
    rw [hln]
    by_cases e2:r.length=1
    ·rw [decide_eq_true e2,Bool.true_or] at q
     rw [decide_eq_true (show V.int ((r.length + 1:Nat):Int)=V.int 2 by rw [e2];rfl)]
     exact iteT q
    ·rw [decide_eq_false e2,Bool.false_or] at q
     rw [decide_eq_false (fun z=>e2 (by have:=V.int.inj z;omega))]
     refine iteF ⟨_,rfl,a,_,rfl,.inl hl2,_,_,rfl,rfl,_,rfl,?_⟩
     rw [hln]
     by_cases e3:2<r.length
     ·rw [decide_eq_true e3,Bool.true_and] at q
      rw [decide_eq_true (show (3:Int)<((r.length + 1:Nat):Int) by omega)]
      obtain ⟨y,hy⟩:∃ y,r[1]?=some y:=⟨r[1],List.getElem?_eq_getElem (by omega)⟩
      rw [List.getD_eq_getElem?_getD,hy] at q
      refine iteT ⟨_,rfl,a,_,_,_,rfl,rfl,hl2,at_str (ws:=x :: r) (k:=2) (by rw [List.getElem?_cons_succ];exact hy),rfl,?_⟩
      rw [show decide (V.str y=V.str "under")=decide (y="under") from decide_eq_decide.mpr ⟨fun z=>V.str.inj z,fun z=>by rw [z]⟩]
      exact q
     ·rw [decide_eq_false e3,Bool.false_and] at q
      rw [decide_eq_false (show ¬ (3:Int)<((r.length + 1:Nat):Int) by omega)]
      exact iteF q
  ·rw [show (!decide (V.str x=V.str "kind"))=true by rw [decide_eq_false (fun z=>h1 (V.str.inj z))];rfl]
   have q:=q H (Same.refl _)
   rw [kindRow_cons] at q
   rw [decide_eq_false h1,Bool.false_and] at q
   exact iteT q
def FigT (K:W.Frag) (mg:Str→Option Value):Prop:=∃ a,mg "FIGURES"=some (.ref a)∧∀ H,SqT K H a (figs.map V.str)
theorem scFNR:FnScope ["words"] ["words"] (defScope s_is_name_row):=⟨rfl,rfl,rfl,by decide +kernel,rfl,by decide +kernel,by decide +kernel⟩
theorem in_figs (c:Str):inV (.str c) (figs.map V.str)=decide (c∈figs):=in_strs c figs
theorem nameRow_len {ws:List Str}(h:ws.length≠3):nameRowB ws=false:=by
 rcases ws with _ | ⟨a,_ | ⟨b,_ | ⟨c,_ | ⟨d,r⟩⟩⟩⟩
 ·rfl
 ·rfl
 ·rfl
 ·exact absurd rfl h
 ·rfl
theorem ok_namerow {f fW:Addr}{fd fdW:FuncData}(F:Def K mg "is_name_row" s_is_name_row ["words"] f fd) (len:mg "len"=none) (FG:FigT K mg) (DW:Def K mg "is_word" s_is_word ["text"] fW fdW) (GW:FnOk P w K mg base CX0 1 fW fdW ["text"] spIsWord):FnOk P w K mg base CX0 2 f fd ["words"] spNR:=by
 refine F.fn.ok scFNR (fun vs H Q E h=>?_) (fun cdv A outer s H vs Q E hr h=>?_)
 ·obtain ⟨a,ws,rfl,_⟩:=h
  rfl
 ·obtain ⟨a,ws,rfl,hw,hn,q⟩:=h
  obtain ⟨fg,mgF,hF⟩:=FG
  refine' ⟨_,(pss_one (ps_ret (pe_and (pe_cmpR op_eq (pe_callB call_len_seq (by rfl) len PySem.boot_len (pC (pv 0) pa_nil)) pe_int (nomark _)) (pe_and (pe_cmpR op_eq (pe_ix (r:=rIxL K) ix_list (pv 0) pe_int (fun _ _=>rfl)) pe_str (nomark _)) (pe_and (pe_callD DW GW hr (pC (pe_ix (r:=rIxL K) ix_list (pv 0) pe_int (fun _ _=>rfl)) pa_nil)) (pe_one (pe_cmpR (r:=rIn K false) op_in_seq (pe_ix (r:=rIxL K) ix_list (pv 0) pe_int (fun _ _=>rfl)) (pe_glob (v:=.ref fg) (by rfl) mgF rfl) (by with_unfolding_all rfl)))))))),?_⟩
  have hl:=SqL.of (K:=K) hw.at_
  refine ⟨_,rfl,a,_,rfl,.inl hl,rfl,_,rfl,?_⟩
  rw [List.length_map]
  by_cases e:ws.length=3
  ·obtain ⟨x,y,z,rfl⟩:∃ x y z,ws=[x,y,z]:=by
    rcases ws with _ | ⟨x,_ | ⟨y,_ | ⟨z,_ | ⟨d,r⟩⟩⟩⟩
    ·cases e
    ·cases e
    ·cases e
    ·exact ⟨x,y,z,rfl⟩
    ·simp at e
   have q1:∀ H',Same H H'→Q (.bl (decide (x="name")&&(isWord y&&decide (z∈figs)))) H':=q
   rw [decide_eq_true (show V.int (([x,y,z]:List Str).length:Int)=V.int 3 from rfl)]
   refine iteT ⟨_,rfl,a,_,_,_,rfl,rfl,hl,at_str (ws:=[x,y,z]) (k:=0) rfl,rfl,_,rfl,?_⟩
   rw [show decide (V.str x=V.str "name")=decide (x="name") from decide_eq_decide.mpr ⟨fun z=>V.str.inj z,fun z=>by rw [z]⟩]
   by_cases h1:x="name"
   ·rw [decide_eq_true h1] at q1 ⊢
    rw [Bool.true_and] at q1
    refine iteT ⟨_,rfl,a,_,_,_,rfl,rfl,hl,at_str (ws:=[x,y,z]) (k:=1) rfl,y,rfl,hw.sh y (by simp),fun H1 s1=>⟨_,rfl,?_⟩⟩
    have q1:=q1 H1 s1
    cases hy:isWord y with
    | false =>
     rw [hy] at q1
     exact iteF q1
    | true =>
     rw [hy,Bool.true_and,← in_figs] at q1
     exact iteT ⟨_,rfl,a,_,_,_,rfl,rfl,SqL.of (s1 _ _ hw.at_),at_str (ws:=[x,y,z]) (k:=2) rfl,fg,_,rfl,.inr (hF H1),rfl,by decide +kernel,q1⟩
   ·rw [decide_eq_false h1] at q1 ⊢
    exact iteF (q1 H (Same.refl _))
  ·have q:=q H (Same.refl _)
   rw [nameRow_len e] at q
   rw [decide_eq_false (fun z=>e (by have:=V.int.inj z;omega))]
   exact iteF q
theorem scFDR:FnScope ["words"] ["words"] (defScope s_is_deed_row):=⟨rfl,rfl,rfl,by decide +kernel,rfl,by decide +kernel,by decide +kernel⟩
theorem ok_deedrow {f fA:Addr}{fd fdA:FuncData}(F:Def K mg "is_deed_row" s_is_deed_row ["words"] f fd) (len:mg "len"=none) (DA:Def K mg "are_words" s_are_words ["texts"] fA fdA) (GA:FnOk P w K mg base CX0 2 fA fdA ["texts"] spAW):FnOk P w K mg base CX0 3 f fd ["words"] spDR:=by
 refine F.fn.ok scFDR (fun vs H Q E h=>?_) (fun cdv A outer s H vs Q E hr h=>?_)
 ·obtain ⟨a,ws,rfl,_⟩:=h
  rfl
 ·obtain ⟨a,ws,rfl,hw,hn,q⟩:=h
  refine' ⟨_,(pS (ps_if (PW.pt (pw_or (pt_cmpR op_ne (pe_ix (r:=rIxL K) ix_list (pv 0) pe_int (fun _ _=>rfl)) pe_str (nomark _)) (pw_or1 (pt_cmpR op_lt (pe_callB call_len_seq (by rfl) len PySem.boot_len (pC (pv 0) pa_nil)) pe_int (nomark _))))) (pss_one (ps_ret pe_bl)) pss_nil)
   (pss_one (ps_ret (pe_and (pe_cmpR op_eq (pe_ix (r:=rIxL K) ix_list (pv 0) (pe_un un_neg pe_int) (fun _ _=>rfl)) pe_str (nomark _)) (pe_one (pe_callD DA GA hr (pC (pe_slice (r:=rSlL K) sl_list (pv 0) (po_some pe_int) po_none) pa_nil))))))),?_⟩
  have hl:=SqL.of (K:=K) hw.at_
  obtain ⟨x,hx⟩:∃ x,ws[0]?=some x:=⟨ws[0]'(List.length_pos_iff.mpr hn),List.getElem?_eq_getElem _⟩
  unfold deedRowB at q
  rw [List.getD_eq_getElem?_getD,hx,Option.getD_some] at q
  refine ⟨_,rfl,a,_,_,_,rfl,rfl,hl,at_str (k:=0) hx,rfl,_,rfl,?_⟩
  by_cases h1:x="deed"
  ·rw [show (!decide (V.str x=V.str "deed"))=false by rw [h1,decide_eq_true rfl];rfl]
   rw [decide_eq_true h1,Bool.true_and] at q
   refine iteF ⟨_,rfl,a,_,rfl,.inl hl,_,_,rfl,rfl,_,rfl,?_⟩
   rw [List.length_map]
   by_cases h5:5≤ws.length
   ·rw [decide_eq_true h5,Bool.true_and] at q
    rw [decide_eq_false (show ¬ ((ws.length:Nat):Int)<5 by omega)]
    obtain ⟨y,hy⟩:∃ y,ws[ws.length - 2]?=some y:=⟨ws[ws.length - 2]'(by omega),List.getElem?_eq_getElem _⟩
    rw [List.getD_eq_getElem?_getD,hy,Option.getD_some] at q
    refine iteF ⟨_,rfl,_,rfl,a,_,_,_,rfl,rfl,hl,at_neg (k:=2) (by decide) (by omega) hy,rfl,_,rfl,?_⟩
    rw [show decide (V.str y=V.str "gives")=decide (y="gives") from decide_eq_decide.mpr ⟨fun z=>V.str.inj z,fun z=>by rw [z]⟩]
    by_cases h2:y="gives"
    ·rw [decide_eq_true h2] at q ⊢
     rw [Bool.true_and] at q
     refine iteT ⟨_,rfl,_,rfl,a,_,rfl,hl,fun p hp=>?_⟩
     have s1:Same H (upd H p (.lst (cutV (ws.map V.str) (some 1) none))):=snew hp
     have h3:(upd H p (.lst (cutV (ws.map V.str) (some 1) none))) p=some (.lst ((ws.drop 1).map V.str)):=by rw [uS];exact congrArg (fun z=>some (HO.lst z)) (cut_from ws 1)
     generalize upd H p (.lst (cutV (ws.map V.str) (some 1) none))=H1 at s1 h3 ⊢
     exact ⟨p,ws.drop 1,rfl,⟨h3,by rw [List.length_drop];have:=hw.few;omega,fun y hy=>hw.sh y (List.mem_of_mem_drop hy)⟩,fun H2 s2=>q H2 (s1.trans s2)⟩
    ·rw [decide_eq_false h2] at q ⊢
     exact iteF (q H (Same.refl _))
   ·rw [decide_eq_false h5,Bool.false_and] at q
    rw [decide_eq_true (show ((ws.length:Nat):Int)<5 by omega)]
    exact iteT (q H (Same.refl _))
  ·rw [show (!decide (V.str x=V.str "deed"))=true by rw [decide_eq_false (fun z=>h1 (V.str.inj z))];rfl]
   rw [decide_eq_false h1,Bool.false_and] at q
   exact iteT (q H (Same.refl _))
def spKO:Sp:=fun vs H Q _=>∃ (a:Addr) (ws:List Str) (x:Str),vs=[.ref a]∧WsAt H a ws∧ws[1]?=some x∧∀ t u H',Same H H'→H' t=some (.tup [.str x,.ref u])→H' u=some (.lst ((ws.drop 3).map V.str))→H u=none→Q (.ref t) H'
def spNO:Sp:=fun vs H Q _=>∃ (a:Addr) (ws:List Str) (x c:Str) (n:Int),vs=[.ref a]∧WsAt H a ws∧ws[1]?=some x∧ws[2]?=some c∧PySem.intText? c=some n∧c.length≤640∧∀ t H',Same H H'→H' t=some (.tup [.str x,.int n])→Q (.ref t) H'
def spDO:Sp:=fun vs H Q _=>∃ (a:Addr) (ws:List Str) (m:Str),vs=[.ref a]∧WsAt H a ws∧4≤ws.length∧ws[ws.length - 1]?=some m∧∀ t c H',Same H H'→H' t=some (.tup [.ref c,.str m])→H' c=some (.tup (((ws.drop 2).take (ws.length - 4)).map V.str))→Q (.ref t) H'
theorem scKO:FnScope ["words"] ["words"] (defScope s_kind_of):=⟨rfl,rfl,rfl,by decide +kernel,rfl,by decide +kernel,by decide +kernel⟩
theorem ok_kindof {f:Addr}{fd:FuncData}(F:Def K mg "kind_of" s_kind_of ["words"] f fd):FnOk P w K mg base CX0 1 f fd ["words"] spKO:=by
 refine F.fn.ok scKO (fun vs H Q E h=>?_) (fun cdv A outer s H vs Q E hr h=>?_)
 ·obtain ⟨a,ws,x,rfl,_⟩:=h
  rfl
 ·obtain ⟨a,ws,x,rfl,hw,hx,q⟩:=h
  refine' ⟨_,(pss_one (ps_ret (pe_tup (pC (pe_ix (r:=rIxL K) ix_list (pv 0) pe_int (fun _ _=>rfl)) (pC (pe_slice (r:=rSlL K) sl_list (pv 0) (po_some pe_int) po_none) pa_nil))))),?_⟩
  have hl:=SqL.of (K:=K) hw.at_
  refine ⟨_,rfl,a,_,_,_,rfl,rfl,hl,at_str (k:=1) hx,_,rfl,_,rfl,a,_,rfl,hl,fun u hu=>⟨sL (by show 2≤100000;decide),fun t ht=>?_⟩⟩
  have s1:Same H (upd H u (.lst (cutV (ws.map V.str) (some 3) none))):=snew hu
  have h3:(upd H u (.lst (cutV (ws.map V.str) (some 3) none))) u=some (.lst ((ws.drop 3).map V.str)):=by rw [uS];exact congrArg (fun z=>some (HO.lst z)) (cut_from ws 3)
  exact q t u _ (s1.trans (snew ht)) uS (snew ht _ _ h3) hu
theorem scNO:FnScope ["words"] ["words"] (defScope s_name_of):=⟨rfl,rfl,rfl,by decide +kernel,rfl,by decide +kernel,by decide +kernel⟩
theorem ok_nameof {f:Addr}{fd:FuncData}(F:Def K mg "name_of" s_name_of ["words"] f fd) (int:mg "int"=none):FnOk P w K mg base CX0 1 f fd ["words"] spNO:=by
 refine F.fn.ok scNO (fun vs H Q E h=>?_) (fun cdv A outer s H vs Q E hr h=>?_)
 ·obtain ⟨a,ws,x,c,n,rfl,_⟩:=h
  rfl
 ·obtain ⟨a,ws,x,c,n,rfl,hw,hx,hc,hn,hz,q⟩:=h
  refine' ⟨_,(pss_one (ps_ret (pe_tup (pC (pe_ix (r:=rIxL K) ix_list (pv 0) pe_int (fun _ _=>rfl)) (pC (pe_callTy call_intS (by rfl) int PyProof.Rows.boot_int (pC (pe_ix (r:=rIxL K) ix_list (pv 0) pe_int (fun _ _=>rfl)) pa_nil)) pa_nil))))),?_⟩
  have hl:=SqL.of (K:=K) hw.at_
  exact ⟨_,rfl,a,_,_,_,rfl,rfl,hl,at_str (k:=1) hx,_,rfl,a,_,_,_,rfl,rfl,hl,at_str (k:=2) hc,c,n,rfl,hn,hz,sL (by show 2≤100000;decide),fun t ht=>q t _ (snew ht) uS⟩
theorem scDO:FnScope ["words"] ["words"] (defScope s_deed_of):=⟨rfl,rfl,rfl,by decide +kernel,rfl,by decide +kernel,by decide +kernel⟩
theorem ok_deedof {f:Addr}{fd:FuncData}(F:Def K mg "deed_of" s_deed_of ["words"] f fd) (tuple:mg "tuple"=none):FnOk P w K mg base CX0 1 f fd ["words"] spDO:=by
 refine F.fn.ok scDO (fun vs H Q E h=>?_) (fun cdv A outer s H vs Q E hr h=>?_)
 ·obtain ⟨a,ws,m,rfl,_⟩:=h
  rfl
 ·obtain ⟨a,ws,m,rfl,hw,h4,hm,q⟩:=h
  refine' ⟨_,(pss_one (ps_ret (pe_tup (pC (pe_callTy call_tuple_of (by rfl) tuple PyProof.Rows.boot_tuple (pC (pe_slice (r:=rSlL K) sl_list (pv 0) (po_some pe_int) (po_some (pe_un un_neg pe_int))) pa_nil)) (pC (pe_ix (r:=rIxL K) ix_list (pv 0) (pe_un un_neg pe_int) (fun _ _=>rfl)) pa_nil))))),?_⟩
  have hl:=SqL.of (K:=K) hw.at_
  refine ⟨_,rfl,_,rfl,_,rfl,_,rfl,a,_,rfl,hl,fun p hp=>?_⟩
  have s1:Same H (upd H p (.lst (cutV (ws.map V.str) (some 2) (some (-2))))):=snew hp
  have h3:(upd H p (.lst (cutV (ws.map V.str) (some 2) (some (-2))))) p=some (.lst (((ws.drop 2).take (ws.length - 4)).map V.str)):=by rw [uS];exact congrArg (fun z=>some (HO.lst z)) (cut_mid ws 2 2 (by omega) (by decide))
  generalize upd H p (.lst (cutV (ws.map V.str) (some 2) (some (-2))))=H1 at s1 h3
  refine ⟨p,_,rfl,.inl ⟨SqL.of h3,fun c hc=>?_⟩⟩
  have s2:Same H1 (upd H1 c (.tup (((ws.drop 2).take (ws.length - 4)).map V.str))):=snew hc
  have h4:(upd H1 c (.tup (((ws.drop 2).take (ws.length - 4)).map V.str))) c=some (.tup (((ws.drop 2).take (ws.length - 4)).map V.str)):=uS
  generalize upd H1 c (.tup (((ws.drop 2).take (ws.length - 4)).map V.str))=H2 at s2 h4 ⊢
  exact ⟨_,rfl,_,rfl,a,_,_,_,rfl,rfl,SqL.of (s2 _ _ (s1 _ _ hw.at_)),at_neg (k:=1) (by decide) (by omega) hm,sL (by show 2≤100000;decide),fun t ht=>q t c _ ((s1.trans s2).trans (snew ht)) uS (snew ht _ _ h4)⟩
end
end K72
namespace K72
open PySem L2 Md
abbrev Row:=Str×List Str
def addD (x:Str) (c:List Str) (m:Str):List Nam→Option (List Nam)
 | []=>none
 | n :: r=>if n.1=x then (if c.length=n.2.1 then some ((n.1,n.2.1,n.2.2++[(c,m)]):: r) else none) else (addD x c m r).map (n :: ·)
theorem addD_at {x:Str}{c:List Str}{m:Str}:∀ {ns ns':List Nam},addD x c m ns=some ns'→∃ (j:Nat) (n:Nam),ns[j]?=some n∧n.1=x∧(∀ i,i<j→∀ n',ns[i]?=some n'→n'.1≠x)∧c.length=n.2.1∧ns'=ns.set j (n.1,n.2.1,n.2.2++[(c,m)])
 | [],_,h=>by cases h
 | n :: r,ns',h=>by
  unfold addD at h
  by_cases e:n.1=x
  ·rw [if_pos e] at h
   by_cases e2:c.length=n.2.1
   ·rw [if_pos e2] at h
    exact ⟨0,n,rfl,e,fun i hi=>absurd hi (Nat.not_lt_zero _),e2,(Option.some.inj h).symm⟩
   ·rw [if_neg e2] at h
    cases h
  ·rw [if_neg e] at h
   obtain ⟨r',h1,h2⟩:=Option.map_eq_some_iff.mp h
   obtain ⟨j,n',a1,a2,a3,a4,a5⟩:=addD_at h1
   refine ⟨j + 1,n',by rw [List.getElem?_cons_succ];exact a1,a2,fun i hi n2 h3=>?_,a4,by rw [← h2,a5];rfl⟩
   rcases i with _ | i
   ·rw [List.getElem?_cons_zero] at h3
    rw [← Option.some.inj h3]
    exact e
   ·rw [List.getElem?_cons_succ] at h3
    exact a3 i (by omega) n2 h3
def figN (c:Str):Nat:=if c="1" then 1 else if c="2" then 2 else if c="3" then 3 else 4
theorem fig_int {c:Str}(h:c∈figs):PySem.intText? c=some ((figN c:Nat):Int)∧c.length≤640:=by
 have h:c="1"∨c="2"∨c="3"∨c="4":=by
  unfold figs at h
  simpa using h
 rcases h with rfl | rfl | rfl | rfl <;> exact ⟨by decide +kernel,by decide +kernel⟩
def stepW (rows:List Row) (ns:List Nam) (ws:List Str):Option (List Row×List Nam):=
 if kindRowB ws=true then (if ns=[] then some (rows++[(ws.getD 1 "",ws.drop 3)],ns) else none)
 else if nameRowB ws=true then (if rows=[] then none else some (rows,ns++[(ws.getD 1 "",figN (ws.getD 2 ""),[])]))
 else if deedRowB ws=true then (addD (ws.getD 1 "") ((ws.drop 2).take (ws.length - 4)) (ws.getD (ws.length - 1) "") ns).map fun z=>(rows,z)
 else none
def runW:List Row→List Nam→List (List Str)→Option (List Row×List Nam)
 | rows,ns,[]=>some (rows,ns)
 | rows,ns,ws :: r=>(stepW rows ns ws).bind fun z=>runW z.1 z.2 r
theorem paired_mem {α β:Type}{F G:α→β→Prop}:∀ {l:List α}{m:List β},Paired F l m→(∀ x v,x∈l→F x v→G x v)→Paired G l m
 | _,_,.nil,_=>.nil
 | _,_,.cons r t,h=>.cons (h _ _ List.mem_cons_self r) (paired_mem t fun x v hx=>h x v (List.mem_cons_of_mem _ hx))
theorem set_at {α:Type}{l:List α}{j:Nat}{a:α}(h:l[j]?=some a):l.set j a=l:=by
 refine List.ext_getElem? fun i=>?_
 by_cases e:j=i
 ·subst e
  rw [List.getElem?_set_self (List.getElem?_eq_some_iff.mp h).1,h]
 ·rw [List.getElem?_set_ne e]
def RowL (O:List Addr) (H:Hp) (r:Row) (v:V):Prop:=∃ t u,v=.ref t∧H t=some (.tup [.str r.1,.ref u])∧H u=some (.lst (r.2.map V.str))∧u∉O
def NmR (H:Hp) (n:Nam×Addr) (v:V):Prop:=∃ t us,v=.ref t∧H t=some (.tup [.str n.1.1,.int n.1.2.1,.ref n.2])∧H n.2=some (.lst us)∧PrsV H n.1.2.2 us
structure RdS (H0 H:Hp) (lr ln:Addr) (rows:List Row) (nds:List (Nam×Addr)) (vr vn:List V):Prop where
 sm:Same H0 H
 own:∀ d∈lr :: ln :: nds.map (·.2),H0 d=none
 nd:(lr :: ln :: nds.map (·.2)).Nodup
 hr:H lr=some (.lst vr)
 hn:H ln=some (.lst vn)
 rw_:Paired (RowL (lr :: ln :: nds.map (·.2)) H) rows vr
 nm:Paired (NmR H) nds vn
section
variable {H0 H H':Hp} {lr ln:Addr} {rows:List Row} {nds:List (Nam×Addr)} {vr vn:List V}
theorem RdS.some_ (h:RdS H0 H lr ln rows nds vr vn) {d:Addr}(hd:d∈lr :: ln :: nds.map (·.2)):∃ us,H d=some (.lst us):=by
 rcases List.mem_cons.mp hd with rfl | hd
 ·exact ⟨_,h.hr⟩
 rcases List.mem_cons.mp hd with rfl | hd
 ·exact ⟨_,h.hn⟩
 obtain ⟨x,hx,rfl⟩:=List.mem_map.mp hd
 obtain ⟨j,hj⟩:=List.mem_iff_getElem?.mp hx
 obtain ⟨v,_,t,us,_,_,e,_⟩:=paired_get h.nm hj
 exact ⟨us,e⟩
theorem RdS.mono (h:RdS H0 H lr ln rows nds vr vn) (s:Same H H'):RdS H0 H' lr ln rows nds vr vn :=
 ⟨h.sm.trans s,h.own,h.nd,s _ _ h.hr,s _ _ h.hn,Paired.mapP h.rw_ fun _ _ z=>(by
  obtain ⟨t,u,e,a,b,c⟩:=z
  exact ⟨t,u,e,s _ _ a,s _ _ b,c⟩),Paired.mapP h.nm fun _ _ z=>(by
  obtain ⟨t,us,e,a,b,c⟩:=z
  exact ⟨t,us,e,s _ _ a,s _ _ b,c.mono (tupsS s)⟩)⟩
theorem RdS.keepT (h:RdS H0 H lr ln rows nds vr vn) {q:Addr}(hq:q∈lr :: ln :: nds.map (·.2)) (xs:List V):∀ b ys,H b=some (.tup ys)→upd H q (.lst xs) b=some (.tup ys):=by
 obtain ⟨us,e⟩:=h.some_ hq
 intro b ys hb
 rw [upd_ne (fun z=>by rw [z,e] at hb;cases hb)]
 exact hb
theorem RdS.sm_upd (h:RdS H0 H lr ln rows nds vr vn) {q:Addr}(hq:q∈lr :: ln :: nds.map (·.2)) (o:HO):Same H0 (upd H q o):=fun b u e=>by
 rw [upd_ne (fun z=>by rw [z,h.own q hq] at e;cases e)]
 exact h.sm _ _ e
theorem RdS.rows_upd (h:RdS H0 H lr ln rows nds vr vn) {q:Addr}(hq:q∈lr :: ln :: nds.map (·.2)) (xs:List V):Paired (RowL (lr :: ln :: nds.map (·.2)) (upd H q (.lst xs))) rows vr:=Paired.mapP h.rw_ fun _ _ z=>by
 obtain ⟨t,u,e,a,b,c⟩:=z
 exact ⟨t,u,e,h.keepT hq xs _ _ a,by rw [upd_ne (fun z=>c (by rw [z];exact hq))];exact b,c⟩
theorem RdS.addRow (h:RdS H0 H lr ln rows nds vr vn) {r:Row}{t u:Addr}(ht:H t=some (.tup [.str r.1,.ref u])) (hu:H u=some (.lst (r.2.map V.str))) (nu:u∉lr :: ln :: nds.map (·.2)):RdS H0 (upd H lr (.lst (vr++[.ref t]))) lr ln (rows++[r]) nds (vr++[.ref t]) vn:=by
 have m:lr∈lr :: ln :: nds.map (·.2):=List.mem_cons_self
 obtain ⟨n1,n2⟩:=List.nodup_cons.mp h.nd
 refine ⟨h.sm_upd m _,h.own,h.nd,uS,by rw [upd_ne (fun z=>n1 (by rw [← z];exact List.mem_cons_self))];exact h.hn,Paired.snoc (h.rows_upd m _) ⟨t,u,rfl,h.keepT m _ _ _ ht,by rw [upd_ne (fun z=>nu (by rw [z];exact m))];exact hu,nu⟩,?_⟩
 refine paired_mem h.nm fun x v hx z=>?_
 obtain ⟨t,us,e,a,b,c⟩:=z
 exact ⟨t,us,e,h.keepT m _ _ _ a,by rw [upd_ne (fun z=>n1 (by rw [← z];exact List.mem_cons_of_mem _ (List.mem_map.mpr ⟨x,hx,rfl⟩)))];exact b,c.mono (h.keepT m _)⟩
theorem RdS.addName {Hb:Hp}(h:RdS H0 Hb lr ln rows nds vr vn) (s:Same Hb H) {e t:Addr}{x:Str}{k:Nat}(ne:Hb e=none) (ht:H t=some (.tup [.str x,.int k,.ref e])) (he:H e=some (.lst [])):
  RdS H0 (upd H ln (.lst (vn++[.ref t]))) lr ln rows (nds++[((x,k,[]),e)]) vr (vn++[.ref t]):=by
 have h':=h.mono s
 have m:ln∈lr :: ln :: nds.map (·.2):=List.mem_cons_of_mem _ List.mem_cons_self
 have no:e∉lr :: ln :: nds.map (·.2):=fun z=>by
  obtain ⟨us,q⟩:=h.some_ z
  rw [ne] at q
  cases q
 have eO:lr :: ln :: (nds++[(((x,k,[]):Nam),e)]).map (·.2)=(lr :: ln :: nds.map (·.2))++[e]:=by rw [List.map_append];rfl
 obtain ⟨n1,n2⟩:=List.nodup_cons.mp h.nd
 have nln:lr≠ln:=fun z=>n1 (by rw [z];exact List.mem_cons_self)
 have eln:e≠ln:=fun z=>no (by rw [z];exact m)
 have e0:H0 e=none:=h.sm.free ne
 refine ⟨h'.sm_upd m _,?_,?_,by rw [upd_ne nln];exact h'.hr,uS,?_,Paired.snoc (paired_mem h'.nm fun y v hy z=>?_) ⟨t,[],rfl,h'.keepT m _ _ _ ht,by rw [upd_ne eln];exact he,.nil⟩⟩
 ·rw [eO]
  intro d hd
  rcases List.mem_append.mp hd with hd | hd
  ·exact h.own d hd
  ·rw [List.mem_singleton.mp hd]
   exact e0
 ·rw [eO]
  exact List.nodup_append.mpr ⟨h.nd,by simp,fun a ha b hb z=>no (by rw [← List.mem_singleton.mp hb,← z];exact ha)⟩
 ·rw [eO]
  have hb:=h.rw_
  refine paired_idx (Paired.length hb) fun i r v hr hv=>?_
  obtain ⟨v',hv',t',u,e1,a,b,c⟩:=paired_get hb hr
  rw [hv] at hv'
  cases hv'
  refine ⟨t',u,e1,h'.keepT m _ _ _ (s _ _ a),by rw [upd_ne (fun z=>c (by rw [z];exact m))];exact s _ _ b,fun z=>?_⟩
  rcases List.mem_append.mp z with z | z
  ·exact c z
  ·rw [List.mem_singleton.mp z,ne] at b
   cases b
 ·obtain ⟨t',us,e1,a,b,c⟩:=z
  exact ⟨t',us,e1,h'.keepT m _ _ _ a,by rw [upd_ne (fun z=>(List.nodup_cons.mp n2).1 (by rw [← z];exact List.mem_map.mpr ⟨y,hy,rfl⟩))];exact b,c.mono (h'.keepT m _)⟩
theorem RdS.addDeed (h:RdS H0 H lr ln rows nds vr vn) {j:Nat}{n:Nam}{d t:Addr}{us:List V}{p:List Str×Str}(hj:nds[j]?=some (n,d)) (hd:H d=some (.lst us)) (hp:PrsV H n.2.2 us) (ht:PrV H p (.ref t)):
  RdS H0 (upd H d (.lst (us++[.ref t]))) lr ln rows (nds.set j ((n.1,n.2.1,n.2.2++[p]),d)) vr vn:=by
 have hjl:j<nds.length:=(List.getElem?_eq_some_iff.mp hj).1
 have md:d∈nds.map (·.2):=List.mem_map.mpr ⟨_,List.mem_of_getElem? hj,rfl⟩
 have m:d∈lr :: ln :: nds.map (·.2):=List.mem_cons_of_mem _ (List.mem_cons_of_mem _ md)
 have eM:(nds.set j ((n.1,n.2.1,n.2.2++[p]),d)).map (·.2)=nds.map (·.2):=by
  rw [List.map_set]
  exact set_at (by rw [List.getElem?_map,hj];rfl)
 obtain ⟨n1,n2⟩:=List.nodup_cons.mp h.nd
 obtain ⟨n3,n4⟩:=List.nodup_cons.mp n2
 refine ⟨h.sm_upd m _,by rw [eM];exact h.own,by rw [eM];exact h.nd,by rw [upd_ne (fun z=>n1 (by rw [z];exact List.mem_cons_of_mem _ md))];exact h.hr,by rw [upd_ne (fun z=>n3 (by rw [z];exact md))];exact h.hn,by rw [eM];exact h.rows_upd m _,?_⟩
 have hl:=Paired.length h.nm
 refine paired_idx (by rw [List.length_set];exact hl) fun i x v hx hv=>?_
 obtain ⟨t',us',e1,a,b,c⟩:NmR H (nds[i]'(by have:=(List.getElem?_eq_some_iff.mp hx).1;rw [List.length_set] at this;exact this)) v:=by
  obtain ⟨v',hv',z⟩:=paired_get h.nm (List.getElem?_eq_getElem (by have:=(List.getElem?_eq_some_iff.mp hx).1;rw [List.length_set] at this;exact this))
  rw [hv] at hv'
  cases hv'
  exact z
 have hil:i<nds.length:=by have:=(List.getElem?_eq_some_iff.mp hx).1;rw [List.length_set] at this;exact this
 by_cases e:i=j
 ·subst e
  have e2:nds[i]=(n,d):=by rw [List.getElem?_eq_getElem hil] at hj;exact Option.some.inj hj
  rw [List.getElem?_set_self hil] at hx
  cases hx
  rw [e2] at a b c
  refine ⟨t',us++[.ref t],e1,h.keepT m _ _ _ a,uS,?_⟩
  exact Paired.snoc (hp.mono (h.keepT m _)) (by
   obtain ⟨t2,tc,z1,z2,z3⟩:=ht
   exact ⟨t2,tc,z1,h.keepT m _ _ _ z2,h.keepT m _ _ _ z3⟩)
 ·rw [List.getElem?_set_ne (fun z=>e z.symm),List.getElem?_eq_getElem hil] at hx
  cases hx
  refine ⟨t',us',e1,h.keepT m _ _ _ a,?_,c.mono (h.keepT m _)⟩
  rw [upd_ne (fun z=>e ?_)]
  ·exact b
  ·have e3:(nds.map (·.2))[i]?=(nds.map (·.2))[j]?:=by
    rw [List.getElem?_map,List.getElem?_map,hj,List.getElem?_eq_getElem hil]
    show some (nds[i].2)=some d
    rw [z]
   exact (List.getElem?_inj (by rw [List.length_map];exact hil) n4).mp e3
end
def HeadV (H:Hp) (y:Str) (v:V):Prop:=∃ t r,v=.ref t∧H t=some (.tup (.str y :: r))
def spFN:Sp:=fun vs H Q _=>∃ (l:Addr) (x:Str) (ys:List Str) (us:List V) (j:Nat) (v:V),vs=[.ref l,.str x]∧H l=some (.lst us)∧us.length≤100000∧Paired (HeadV H) ys us∧ys[j]?=some x∧(∀ i,i<j→ys[i]?≠some x)∧us[j]?=some v∧Q v H
section
variable {P:Program} {w:World} {K:W.Frag} {mg:Str→Option Value} {base:Heap}
abbrev nFN:List Str:=["names","word","name"]
theorem scFN:FnScope nFN ["names","word"] (defScope s_first_named):=⟨rfl,rfl,rfl,by decide +kernel,rfl,by decide +kernel,by decide +kernel⟩
theorem ok_firstnamed {f:Addr}{fd:FuncData}(F:Def K mg "first_named" s_first_named ["names","word"] f fd):FnOk P w K mg base CX0 1 f fd ["names","word"] spFN:=by
 refine F.fn.ok scFN (fun vs H Q E h=>?_) (fun cdv A outer s H vs Q E hr h=>?_)
 ·obtain ⟨l,x,ys,us,j,v,rfl,_⟩:=h
  rfl
 ·obtain ⟨l,x,ys,us,j,v,rfl,hl,few,hP,hj,hf,hv,q⟩:=h
  have nd:=scFN.nd
  refine' ⟨_,(pS (ps_for PassesOwn.never rfl (pi_list (pv 0)) (pg_name (i:=2) nd rfl (Or.inl rfl)) (pss_one (ps_if (pt_cmpR op_eq (pe_ix (r:=rIxT K) ix_tup (pv 2) pe_int (fun _ _=>rfl)) (pv 1) (nomark _)) (pss_one (ps_ret (pv 2))) pss_nil)))
   (pss_one (ps_ret pe_non))),?_⟩
  let Iv:Nat→St→Hp→Prop:=fun i σ H'=>H'=H∧i≤j∧∃ nv:Option V,σ=[some (.ref l),some (.str x),nv]
  refine ⟨_,rfl,l,rfl,⟨_,SqL.of hl⟩,for_runs (runs_list (xs:=us)) Iv ⟨rfl,Nat.zero_le _,none,rfl⟩ (fun i σ H' _ h0=>by obtain ⟨rfl,_⟩:=h0;exact SqL.of hl) ?_ ?_⟩
  ·rintro i u σ H' hi ⟨rfl,hij,nv,rfl⟩
   obtain ⟨y,hy,t,r,rfl,ht⟩:=paired_at hP hi
   refine ⟨_,rfl,t,_,_,_,rfl,rfl,SqT.of ht,atI_nat (j:=0) rfl,_,rfl,rfl,_,rfl,?_⟩
   rw [show decide (V.str y=V.str x)=decide (y=x) from decide_eq_decide.mpr ⟨fun z=>V.str.inj z,fun z=>by rw [z]⟩]
   by_cases e:y=x
   ·rw [decide_eq_true e]
    have eij:i=j:=by
     by_cases c:i<j
     ·exact absurd (by rw [hy,e]) (hf i c)
     ·omega
    subst eij
    rw [hi] at hv
    cases hv
    exact iteT ⟨_,rfl,q⟩
   ·rw [decide_eq_false e]
    refine iteF ⟨rfl,?_,_,rfl⟩
    by_cases c:i=j
    ·subst c
     rw [hy] at hj
     exact absurd (Option.some.inj hj) e
    ·omega
  ·rintro σ H' ⟨rfl,hlj,_⟩
   have:=(List.getElem?_eq_some_iff.mp hv).1
   omega
end
end K72
namespace K72
open PySem L2 Md
def dsum:List Nam→Nat
 | []=>0
 | n :: r=>n.2.2.length + dsum r
theorem addD_sum {x:Str}{c:List Str}{m:Str}:∀ {ns ns':List Nam},addD x c m ns=some ns'→dsum ns'=dsum ns + 1∧ns'.length=ns.length
 | [],_,h=>by cases h
 | n :: r,ns',h=>by
  unfold addD at h
  by_cases e:n.1=x
  ·rw [if_pos e] at h
   by_cases e2:c.length=n.2.1
   ·rw [if_pos e2] at h
    rw [← Option.some.inj h]
    exact ⟨by show (n.2.2++[(c,m)]).length + dsum r=n.2.2.length + dsum r + 1;rw [List.length_append];show n.2.2.length + 1 + dsum r=_;omega,rfl⟩
   ·rw [if_neg e2] at h
    cases h
  ·rw [if_neg e] at h
   obtain ⟨r',h1,h2⟩:=Option.map_eq_some_iff.mp h
   obtain ⟨a,b⟩:=addD_sum h1
   rw [← h2]
   exact ⟨by show n.2.2.length + dsum r'=n.2.2.length + dsum r + 1;omega,by rw [List.length_cons,List.length_cons,b]⟩
theorem dsum_mem:∀ {ns:List Nam}{n:Nam},n∈ns→n.2.2.length≤dsum ns
 | [],_,h=>nomatch h
 | m :: r,n,h=>by
  rcases List.mem_cons.mp h with rfl | h
  ·exact Nat.le_add_right _ _
  ·have:=dsum_mem h
   show _≤m.2.2.length + dsum r
   omega
theorem dsum_app (n:Nam):∀ ns:List Nam,dsum (ns++[n])=dsum ns + n.2.2.length
 | []=>by show n.2.2.length + 0=0 + n.2.2.length;omega
 | m :: r=>by show m.2.2.length + dsum (r++[n])=m.2.2.length + dsum r + n.2.2.length;rw [dsum_app n r];omega
def tot (rows:List Row) (ns:List Nam):Nat:=rows.length + ns.length + dsum ns
theorem step_tot {rows rows':List Row}{ns ns':List Nam}{ws:List Str}(h:stepW rows ns ws=some (rows',ns')):tot rows' ns'=tot rows ns + 1:=by
 unfold stepW at h
 unfold tot
 split at h
 ·split at h
  ·cases h
   rw [List.length_append]
   show rows.length + 1 + _ + _=_
   omega
  ·cases h
 ·split at h
  ·split at h
   ·cases h
   ·cases h
    rw [List.length_append,dsum_app]
    show rows.length + (ns.length + 1) + (dsum ns + 0)=_
    omega
  ·split at h
   ·obtain ⟨z,h1,h2⟩:=Option.map_eq_some_iff.mp h
    cases h2
    obtain ⟨a,b⟩:=addD_sum h1
    omega
   ·cases h
def Kp (O:List Addr) (H H':Hp):Prop:=∀ b o,b∉O→H b=some o→H' b=some o
theorem Kp.same {O:List Addr}{H H':Hp}(s:Same H H'):Kp O H H':=fun b o _ e=>s b o e
theorem Kp.trans {O:List Addr}{H H' H2:Hp}(a:Kp O H H') (b:Kp O H' H2):Kp O H H2:=fun c o n e=>b c o n (a c o n e)
theorem Kp.upd_ {O:List Addr}{H:Hp}{q:Addr}{o:HO}(hq:q∈O):Kp O H (upd H q o):=fun b u n e=>by rw [upd_ne (fun z=>n (by rw [z];exact hq))];exact e
abbrev own (lr ln:Addr) (nds:List (Nam×Addr)):List Addr:=lr :: ln :: nds.map (·.2)
def spTD:Sp:=fun vs H Q _=>∃ (He:Hp) (lr ln a:Addr) (rows:List Row) (nds:List (Nam×Addr)) (vr vn:List V) (ws:List Str) (ns':List Nam),vs=[.ref ln,.ref a]∧RdS He H lr ln rows nds vr vn∧WsAt H a ws∧5≤ws.length ∧
 addD (ws.getD 1 "") ((ws.drop 2).take (ws.length - 4)) (ws.getD (ws.length - 1) "") (nds.map (·.1))=some ns'∧tot rows (nds.map (·.1))≤10000 ∧
 ∀ H' nds',RdS He H' lr ln rows nds' vr vn→nds'.map (·.1)=ns'→nds'.map (·.2)=nds.map (·.2)→Kp (own lr ln nds) H H'→Q (.bl true) H'
section
variable {P:Program} {w:World} {K:W.Frag} {mg:Str→Option Value} {base:Heap}
abbrev nTD:List Str:=["names","words","name","deed"]
theorem scTD:FnScope nTD ["names","words"] (defScope s_take_deed):=⟨rfl,rfl,rfl,by decide +kernel,rfl,by decide +kernel,by decide +kernel⟩
theorem ok_takedeed {f fF fD:Addr}{fd fdF fdD:FuncData}(F:Def K mg "take_deed" s_take_deed ["names","words"] f fd) (len:mg "len"=none) (DF:Def K mg "first_named" s_first_named ["names","word"] fF fdF) (GF:FnOk P w K mg base CX0 1 fF fdF ["names","word"] spFN)
  (DD:Def K mg "deed_of" s_deed_of ["words"] fD fdD) (GD:FnOk P w K mg base CX0 1 fD fdD ["words"] spDO):FnOk P w K mg base CX0 2 f fd ["names","words"] spTD:=by
 refine F.fn.ok scTD (fun vs H Q E h=>?_) (fun cdv A outer s H vs Q E hr h=>?_)
 ·obtain ⟨He,lr,ln,a,rows,nds,vr,vn,ws,ns',rfl,_⟩:=h
  rfl
 ·obtain ⟨He,lr,ln,a,rows,nds,vr,vn,ws,ns',rfl,hR,hw,h5,hA,ht,q⟩:=h
  have nd:=scTD.nd
  refine' ⟨_,(pS (ps_set (i:=2) nd rfl (Or.inl rfl) (pe_callD DF GF hr (pC (pv 0) (pC (pe_ix (r:=rIxL K) ix_list (pv 1) pe_int (fun _ _=>rfl)) pa_nil))))
   (pS (ps_set (i:=3) nd rfl (Or.inl rfl) (pe_callD DD GD hr (pC (pv 1) pa_nil)))
   (pS (ps_if (PW.pt (pw_or (pt_cmpR op_isN (pv 2) pe_non (nomark _)) (pw_or1 (pt_cmpR op_ne (pe_callB call_len_seq (by rfl) len PySem.boot_len (pC (pe_ix (r:=rIxT K) ix_tup (pv 3) pe_int (fun _ _=>rfl)) pa_nil)) (pe_ix (r:=rIxT K) ix_tup (pv 2) pe_int (fun _ _=>rfl)) (nomark _))))) (pss_one (ps_ret pe_bl)) pss_nil)
   (pS (ps_expr (pe_bm PySem.F.plainAttrs_list PySem.F.slot_list_append PySem.F.type_list_append mt_append (pe_ix (r:=rIxT K) ix_tup (pv 2) pe_int (fun _ _=>rfl)) (pC (pv 3) pa_nil)))
   (pss_one (ps_ret pe_bl)))))),?_⟩
  obtain ⟨x,hx⟩:∃ x,ws[1]?=some x:=⟨ws[1]'(by omega),List.getElem?_eq_getElem _⟩
  obtain ⟨m,hm⟩:∃ m,ws[ws.length - 1]?=some m:=⟨ws[ws.length - 1]'(by omega),List.getElem?_eq_getElem _⟩
  rw [List.getD_eq_getElem?_getD,hx,Option.getD_some,List.getD_eq_getElem?_getD,hm,Option.getD_some] at hA
  obtain ⟨j,n,a1,a2,a3,a4,a5⟩:=addD_at hA
  obtain ⟨⟨n',d⟩,hj,e1⟩:∃ z,nds[j]?=some z∧z.1=n:=by
   rw [List.getElem?_map] at a1
   exact Option.map_eq_some_iff.mp a1
  dsimp only at e1
  subst e1
  obtain ⟨v,hv,t,us,rfl,h1,h2,h3⟩:=paired_get hR.nm hj
  have hl:=SqL.of (K:=K) hw.at_
  have few:=Paired.length hR.nm
  have tt:=ht
  unfold tot at tt
  rw [List.length_map] at tt
  refine ⟨_,rfl,_,rfl,a,_,_,_,rfl,rfl,hl,at_str (k:=1) hx,ln,x,(nds.map (·.1)).map (·.1),vn,j,_,rfl,hR.hn,by omega,?_,?_,?_,hv,?_⟩
  ·refine paired_idx (by rw [List.length_map,List.length_map];exact few) fun i y v hy hv=>?_
   rw [List.map_map,List.getElem?_map] at hy
   obtain ⟨z,hz,rfl⟩:=Option.map_eq_some_iff.mp hy
   obtain ⟨v',hv',t,us,e,h1,_⟩:=paired_get hR.nm hz
   rw [hv] at hv'
   cases hv'
   exact ⟨t,_,e,h1⟩
  ·rw [List.getElem?_map,a1]
   exact congrArg some a2
  ·intro i hi z
   rw [List.getElem?_map] at z
   obtain ⟨n2,hn2,e2⟩:=Option.map_eq_some_iff.mp z
   exact a3 i hi n2 hn2 e2
  refine ⟨_,rfl,a,ws,m,rfl,hw,by omega,hm,fun t2 c H1 s1 g1 g2=>?_⟩
  refine ⟨_,rfl,rfl,_,rfl,iteF ⟨_,rfl,t2,_,_,_,rfl,rfl,SqT.of g1,atI_nat (j:=0) rfl,c,_,rfl,.inr (SqT.of g2),_,rfl,t,_,_,_,rfl,rfl,SqT.of (s1 _ _ h1),atI_nat (j:=1) rfl,rfl,_,rfl,?_⟩⟩
  rw [List.length_map,decide_eq_true (by rw [a4])]
  have hR1:=hR.mono s1
  have h31:=h3.mono (tupsS s1)
  have ul:us.length<sizeLine:=small_lt (by
   have l1:n'.2.2.length=us.length:=Paired.length h3
   have l2:n'.2.2.length≤dsum (nds.map (·.1)):=dsum_mem (List.mem_of_getElem? a1)
   omega)
  have g3:=hR1.addDeed (t:=t2) (p:=((ws.drop 2).take (ws.length - 4),m)) hj (s1 _ _ h2) h31 ⟨t2,c,rfl,g1,g2⟩
  have md:d∈own lr ln nds:=List.mem_cons_of_mem _ (List.mem_cons_of_mem _ (List.mem_map.mpr ⟨_,List.mem_of_getElem? hj,rfl⟩))
  refine iteF ⟨_,rfl,t,_,_,_,rfl,rfl,SqT.of (s1 _ _ h1),atI_nat (j:=2) rfl,.inl ⟨rfl,_,SqL.of (s1 _ _ h2)⟩,_,rfl,d,us,_,rfl,rfl,s1 _ _ h2,ul,q _ _ g3 ?_ ?_ ((Kp.same s1).trans (Kp.upd_ md))⟩
  ·rw [List.map_set,a5]
  ·rw [List.map_set]
   exact set_at (by rw [List.getElem?_map,hj];rfl)
def spTR:Sp:=fun vs H Q _=>∃ (He:Hp) (lr ln a:Addr) (rows rows':List Row) (nds:List (Nam×Addr)) (vr vn:List V) (ws:List Str) (ns':List Nam),vs=[.ref lr,.ref ln,.ref a]∧RdS He H lr ln rows nds vr vn∧WsAt H a ws∧ws≠[] ∧
 stepW rows (nds.map (·.1)) ws=some (rows',ns')∧tot rows (nds.map (·.1))≤10000 ∧
 ∀ H' nds' vr' vn',RdS He H' lr ln rows' nds' vr' vn'→nds'.map (·.1)=ns'→(∀ d∈own lr ln nds',d∈own lr ln nds∨H d=none)→Kp (own lr ln nds) H H'→Q (.bl true) H'
abbrev pTR:List Str:=["rows","names","words"]
theorem scTR:FnScope pTR pTR (defScope s_take_row):=⟨rfl,rfl,rfl,by decide +kernel,rfl,by decide +kernel,by decide +kernel⟩
theorem kindRow_len {ws:List Str}(h:kindRowB ws=true):2≤ws.length:=by
 rcases ws with _ | ⟨x,r⟩
 ·cases h
 rw [kindRow_cons,Bool.and_eq_true,Bool.and_eq_true,Bool.or_eq_true,Bool.and_eq_true] at h
 have h:=h.2.2
 rw [List.length_cons]
 rcases h with h | h
 ·have:=of_decide_eq_true h;omega
 ·have:=of_decide_eq_true h.1;omega
theorem nameRow_at {ws:List Str}(h:nameRowB ws=true):∃ x y z,ws=[x,y,z]∧z∈figs:=by
 rcases ws with _ | ⟨x,_ | ⟨y,_ | ⟨z,_ | ⟨d,r⟩⟩⟩⟩
 ·cases h
 ·cases h
 ·cases h
 ·have h:(decide (x="name")&&(isWord y&&decide (z∈figs)))=true:=h
  rw [Bool.and_eq_true,Bool.and_eq_true] at h
  exact ⟨x,y,z,rfl,of_decide_eq_true h.2.2⟩
 ·cases h
theorem deedRow_len {ws:List Str}(h:deedRowB ws=true):5≤ws.length:=by
 unfold deedRowB at h
 rw [Bool.and_eq_true,Bool.and_eq_true] at h
 exact of_decide_eq_true h.2.1
theorem ok_takerow {f fK fKo fN fNo fD fT:Addr}{fd fdK fdKo fdN fdNo fdD fdT:FuncData}(F:Def K mg "take_row" s_take_row pTR f fd) (len:mg "len"=none)
  (DK:Def K mg "is_kind_row" s_is_kind_row ["words"] fK fdK) (GK:FnOk P w K mg base CX0 3 fK fdK ["words"] spKR) (DKo:Def K mg "kind_of" s_kind_of ["words"] fKo fdKo) (GKo:FnOk P w K mg base CX0 1 fKo fdKo ["words"] spKO)
  (DN:Def K mg "is_name_row" s_is_name_row ["words"] fN fdN) (GN:FnOk P w K mg base CX0 2 fN fdN ["words"] spNR) (DNo:Def K mg "name_of" s_name_of ["words"] fNo fdNo) (GNo:FnOk P w K mg base CX0 1 fNo fdNo ["words"] spNO)
  (DD:Def K mg "is_deed_row" s_is_deed_row ["words"] fD fdD) (GD:FnOk P w K mg base CX0 3 fD fdD ["words"] spDR) (DT:Def K mg "take_deed" s_take_deed ["names","words"] fT fdT) (GT:FnOk P w K mg base CX0 2 fT fdT ["names","words"] spTD):FnOk P w K mg base CX0 4 f fd pTR spTR:=by
 refine F.fn.ok scTR (fun vs H Q E h=>?_) (fun cdv A outer s H vs Q E hr h=>?_)
 ·obtain ⟨He,lr,ln,a,rows,rows',nds,vr,vn,ws,ns',rfl,_⟩:=h
  rfl
 ·obtain ⟨He,lr,ln,a,rows,rows',nds,vr,vn,ws,ns',rfl,hR,hw,hne,hS,ht,q⟩:=h
  have nd:=scTR.nd
  have hr1:Room 1 _:=hr.mono (by decide)
  have hr2:Room 2 _:=hr.mono (by decide)
  refine' ⟨_,(pS (ps_if (pt_val (pe_callD DK GK hr (pC (pv 2) pa_nil))) (pS (ps_expr (pe_bm PySem.F.plainAttrs_list PySem.F.slot_list_append PySem.F.type_list_append mt_append (pv 0) (pC (pe_callD DKo GKo hr1 (pC (pv 2) pa_nil)) pa_nil)))
   (pss_one (ps_ret (pe_notL (pv 1))))) pss_nil)
   (pS (ps_if (pt_val (pe_callD DN GN hr2 (pC (pv 2) pa_nil))) (pS (ps_expr (pe_bm PySem.F.plainAttrs_list PySem.F.slot_list_append PySem.F.type_list_append mt_append (pv 1) (pC (pe_op op_catA (pe_callD DNo GNo hr1 (pC (pv 2) pa_nil)) (pe_tup (pC (pe_lst pa_nil) pa_nil))) pa_nil)))
   (pss_one (ps_ret (pe_cmpR op_gt (pe_callB call_len_seq (by rfl) len PySem.boot_len (pC (pv 0) pa_nil)) pe_int (nomark _))))) pss_nil)
   (pss_one (ps_ret (pe_and (pe_callD DD GD hr (pC (pv 2) pa_nil)) (pe_one (pe_callD DT GT hr2 (pC (pv 1) (pC (pv 2) pa_nil))))))))),?_⟩
  have tt:=ht
  unfold tot at tt
  rw [List.length_map] at tt
  have fr:=Paired.length hR.rw_
  have fn:=Paired.length hR.nm
  unfold stepW at hS
  refine ⟨_,rfl,a,ws,rfl,hw,hne,fun H1 s1=>⟨_,rfl,?_⟩⟩
  have hR1:=hR.mono s1
  have hw1:=hw.mono s1
  by_cases k1:kindRowB ws=true
  ·rw [if_pos k1] at hS
   rw [k1]
   have k2:=kindRow_len k1
   obtain ⟨x,hx⟩:∃ x,ws[1]?=some x:=⟨ws[1]'(by omega),List.getElem?_eq_getElem _⟩
   by_cases ne:nds.map (·.1)=[]
   ·rw [if_pos ne,List.getD_eq_getElem?_getD,hx,Option.getD_some] at hS
    have nE:nds=[]:=List.map_eq_nil_iff.mp ne
    cases hS
    refine iteT ⟨_,rfl,.inl ⟨rfl,_,SqL.of hR1.hr⟩,_,rfl,a,ws,x,rfl,hw1,hx,fun t u H2 s2 g1 g2 gu=>?_⟩
    have hR2:=hR1.mono s2
    have nu:u∉own lr ln nds:=fun z=>by
     obtain ⟨us,e⟩:=hR1.some_ z
     rw [gu] at e
     cases e
    have hR3:=hR2.addRow (r:=(x,ws.drop 3)) g1 g2 nu
    refine ⟨lr,vr,_,rfl,rfl,hR2.hr,small_lt (by omega),_,rfl,_,.inl ⟨vn,SqL.of hR3.hn,rfl⟩,?_⟩
    have vE:vn=[]:=by rw [nE] at fn;exact List.length_eq_zero_iff.mp fn.symm
    rw [vE]
    exact q _ nds _ _ hR3 rfl (fun d hd=>.inl hd) ((Kp.same (s1.trans s2)).trans (Kp.upd_ List.mem_cons_self))
   ·rw [if_neg ne] at hS
    cases hS
  ·rw [if_neg k1] at hS
   have k1:=eq_false_of_ne_true k1
   rw [k1]
   refine iteF ⟨_,rfl,a,ws,rfl,hw1,hne,fun H2 s2=>⟨_,rfl,?_⟩⟩
   have s02:=s1.trans s2
   have hR2:=hR1.mono s2
   have hw2:=hw1.mono s2
   by_cases k2:nameRowB ws=true
   ·rw [if_pos k2] at hS
    rw [k2]
    obtain ⟨x,y,z,rfl,hz⟩:=nameRow_at k2
    by_cases re:rows=[]
    ·rw [if_pos re] at hS
     cases hS
    rw [if_neg re] at hS
    cases hS
    obtain ⟨i1,i2⟩:=fig_int hz
    refine iteT ⟨_,rfl,.inl ⟨rfl,_,SqL.of hR2.hn⟩,_,rfl,a,[x,y,z],y,z,_,rfl,hw2,rfl,rfl,i1,i2,fun t H3 s3 g1=>⟨Nat.zero_le _,fun e he=>⟨sL (by show 1≤100000;decide),fun t2 ht2=>?_⟩⟩⟩
    have hR3:=hR2.mono s3
    have s34:Same H3 (upd H3 e (.lst [])):=snew he
    have g2:(upd H3 e (.lst [])) e=some (.lst []):=uS
    generalize upd H3 e (.lst [])=H4 at s34 g2 ht2 ⊢
    have s45:Same H4 (upd H4 t2 (.tup [.ref e])):=snew ht2
    have g3:(upd H4 t2 (.tup [.ref e])) t2=some (.tup [.ref e]):=uS
    generalize upd H4 t2 (.tup [.ref e])=H5 at s45 g3 ⊢
    refine rCatA_of (K:=K) (s45 _ _ (s34 _ _ g1)) g3 (sL (by show 2 + 1≤100000;decide)) fun p H6 s56 g4=>?_
    have s36:=s34.trans (s45.trans s56)
    have hR6:=hR3.addName (e:=e) (t:=p) (x:=y) (k:=figN z) s36 he g4 (s56 _ _ (s45 _ _ g2))
    refine ⟨ln,vn,_,rfl,rfl,(hR3.mono s36).hn,small_lt (by omega),_,rfl,lr,vr,rfl,.inl (SqL.of hR6.hr),_,_,rfl,rfl,?_⟩
    have vE:0<vr.length:=by rw [← fr];exact List.length_pos_iff.mpr re
    show Q (.bl (decide ((0:Int)<((vr.length:Nat):Int)))) _
    rw [decide_eq_true (show (0:Int)<((vr.length:Nat):Int) by omega)]
    refine q _ _ _ _ hR6 ?_ ?_ ((Kp.same (s02.trans (s3.trans s36))).trans (Kp.upd_ (List.mem_cons_of_mem _ List.mem_cons_self)))
    ·rw [List.map_append]
     rfl
    ·intro d hd
     have eO:own lr ln (nds++[(((y,figN z,[]):Nam),e)])=own lr ln nds++[e]:=by show lr :: ln :: (nds++_).map _=_;rw [List.map_append];rfl
     rw [eO] at hd
     rcases List.mem_append.mp hd with hd | hd
     ·exact .inl hd
     ·rw [List.mem_singleton.mp hd]
      exact .inr ((s02.trans s3).free he)
   ·rw [if_neg k2] at hS
    have k2:=eq_false_of_ne_true k2
    rw [k2]
    by_cases k3:deedRowB ws=true
    ·rw [if_pos k3] at hS
     obtain ⟨z,hz,e⟩:=Option.map_eq_some_iff.mp hS
     cases e
     refine iteF ⟨_,rfl,a,ws,rfl,hw2,hne,fun H3 s3=>⟨_,rfl,?_⟩⟩
     rw [k3]
     refine iteT ⟨_,rfl,_,rfl,He,lr,ln,a,rows,nds,vr,vn,ws,_,rfl,hR2.mono s3,hw2.mono s3,deedRow_len k3,hz,ht,fun H4 nds' r1 r2 r3 r4=>?_⟩
     exact q H4 nds' _ _ r1 r2 (fun d hd=>.inl (by rw [show own lr ln nds'=own lr ln nds by unfold own;rw [r3]] at hd;exact hd)) ((Kp.same (s02.trans s3)).trans r4)
    ·rw [if_neg k3] at hS
     cases hS
end
end K72
namespace K72
open PySem L2 Md
theorem mk_kindsG {K:W.Frag}{C:Addr}{Hx:Hp}{xb dx l:Addr}{rows:List (Str×List Str)}{R:Hp→Prop}{E:XK}(nx:Hx xb=none) (ndx:Hx dx=none) (hR:RowsG K Hx l rows) (g:Good rows) (h:∀ H',Same Hx H'→KindsAt C H' xb rows→R H'):
  spInit K C [.ref xb,.ref l] (upd (upd Hx dx (.own xb)) xb (.ins C dx [])) (fun v H3=>v=.non∧R H3) E:=by
 have s34:Same Hx (upd (upd Hx dx (.own xb)) xb (.ins C dx [])):=fun b o e=>by
  have e1:(upd Hx dx (.own xb)) b=some o:=by rw [upd_ne (nNo e ndx)];exact e
  rw [upd_ne (nNo e nx)];exact e1
 exact ⟨xb,dx,l,rows,rfl,uS,hR.mono s34,g,fun H4 kd keep=>⟨rfl,h H4 (fun b o e=>keep b o (nNo e nx) (s34 _ _ e)) kd⟩⟩
theorem BookZ.sub {Z Z':Addr→Prop}{C B D:Addr}{H:Hp}{p k:Addr}{rows:List (Str×List Str)}{ns:List Nam}(h:BookZ Z C B D H p k rows ns) (s:∀ b,Z' b→Z b):BookZ Z' C B D H p k rows ns:=by
 obtain ⟨dx,bo,mo,o,bvs,mvs,h1,h2,h3,h4,h5,h6⟩:=h.ex
 exact ⟨dx,bo,mo,o,bvs,mvs,h1,h2,h3,h4,h5,h6.imp fun n v z=>by
  obtain ⟨l,e,b,c⟩:=z
  exact ⟨l,e,b,fun y=>c (s _ y)⟩⟩
theorem mk_bookZ {K:W.Frag}{C B D:Addr}{Hx:Hp}{pb db k l:Addr}{rows:List (Str×List Str)}{ns:List Nam}{R:Hp→Prop}{E:XK}(nb:Hx pb=none) (ndb:Hx db=none) (kd:KindsAt C Hx k rows) (g:Good rows) (hN:NamesAt K Hx l ns) (gn:GoodNames rows ns) (h:∀ H',Same Hx H'→BookZ (fun b=>∃ o,Hx b=some o) C B D H' pb k rows ns→R H'):
  spKInit K C B D [.ref pb,.ref k,.ref l] (upd (upd Hx db (.own pb)) pb (.ins D db [])) (fun v H3=>v=.non∧R H3) E:=by
 have s34:Same Hx (upd (upd Hx db (.own pb)) pb (.ins D db [])):=fun b o e=>by
  have e1:(upd Hx db (.own pb)) b=some o:=by rw [upd_ne (nNo e ndb)];exact e
  rw [upd_ne (nNo e nb)];exact e1
 obtain ⟨b,vs,hl,hp⟩:=hN
 exact ⟨pb,db,k,l,rows,ns,rfl,uS,kd.mono s34,g,⟨b,vs,hl.mono s34,Paired.mapP hp fun _ _ z=>z.mono s34⟩,gn,fun H4 bk keep=>⟨rfl,h H4 (fun b o e=>keep b o (nNo e nb) (s34 _ _ e)) (bk.sub fun b z=>by
  obtain ⟨o,e⟩:=z
  exact ⟨o,s34 _ _ e⟩)⟩⟩
structure RowT (t:Str) (ws:List Str):Prop where
 sp:Txt.split t " "=ws
 ne:ws≠[]
 few:ws.length≤1000
 sh:∀ x∈ws,x.length≤1000
 len:t.length≤1000
structure TextOk (x:Str) (rows:List Row) (ns:List Nam) (ts:List Str) (wss:List (List Str)):Prop where
 sp:Txt.split x "\n"=ts
 len:x.length≤100000
 few:ts.length≤9000
 rw_:Paired RowT ts wss
 run:runW [] [] wss=some (rows,ns)
def spRB (C B D:Addr):Sp:=fun vs H Q _=>∃ (x:Str) (rows:List Row) (ns:List Nam) (ts:List Str) (wss:List (List Str)),vs=[.str x]∧TextOk x rows ns ts wss∧Good rows∧GoodNames rows ns ∧
 ∀ H' p k,Same H H'→H p=none→BookZ (fun b=>∃ o,H b=some o) C B D H' p k rows ns→Q (.ref p) H'
theorem sp_nl:(("\n":Str).length == 0)=false:=by decide +kernel
theorem sp_bl:((" ":Str).length == 0)=false:=by decide +kernel
section
variable {P:Program} {w:World} {K:W.Frag} {mg:Str→Option Value} {base:Heap}
abbrev nRB:List Str:=["text","rows","names","number","row"]
theorem scRB:FnScope nRB ["text"] (defScope s_read_book):=⟨rfl,rfl,rfl,by decide +kernel,rfl,by decide +kernel,by decide +kernel⟩
set_option maxHeartbeats 8000000 in
theorem ok_readbook {f C B D fT fI fKI:Addr}{fd fdT fdI fdKI:FuncData}(F:Def K mg "read_book" s_read_book ["text"] f fd) (enum:mg "enumerate"=none)
  (DT:Def K mg "take_row" s_take_row pTR fT fdT) (GT:FnOk P w K mg base CX0 4 fT fdT pTR spTR)
  (M:Mk K C fI) (mgC:mg "Kinds"=some (.ref C)) (bI:Binds K fdI ["self","rows"] []) (GI:FnOk P w K mg base CX0 4 fI fdI ["self","rows"] (spInit K C))
  (MD:Mk K D fKI) (mgD:mg "Book"=some (.ref D)) (bD:Binds K fdKI pKI []) (GD:FnOk P w K mg base CX0 6 fKI fdKI pKI (spKInit K C B D)):
  FnOk P w K mg base CX0 8 f fd ["text"] (spRB C B D):=by
 refine F.fn.ok scRB (fun vs H Q E h=>?_) (fun cdv A outer s H vs Q E hr h=>?_)
 ·obtain ⟨x,rows,ns,ts,wss,rfl,_⟩:=h
  rfl
 ·obtain ⟨x,rows,ns,ts,wss,rfl,tx,g,gn,q⟩:=h
  have nd:=scRB.nd
  have hr4:Room 4 _:=hr.mono (by decide)
  have hr5:Room 5 _:=hr.mono (by decide)
  have hr7:Room 7 _:=hr.mono (by decide)
  refine' ⟨_,(pS (ps_set (i:=1) nd rfl (Or.inl rfl) (pe_lst pa_nil))
   (pS (ps_set (i:=2) nd rfl (Or.inl rfl) (pe_lst pa_nil))
   (pS (ps_for PassesOwn.never rfl (pi_enum1 (by rfl) enum (pC (pe_bm PySem.F.plainAttrs_str PySem.F.slot_str_split PySem.F.type_str_split mt_split (pv 0) (pC pe_str pa_nil)) pa_nil)) (pg_tup rfl (gC (pg_name (i:=3) nd rfl (Or.inl rfl)) (gC (pg_name (i:=4) nd rfl (Or.inl rfl)) pgs_nil)))
    (pss_one (ps_if (pt_not (pt_val (pe_callD DT GT hr4 (pC (pv 1) (pC (pv 2) (pC (pe_bm PySem.F.plainAttrs_str PySem.F.slot_str_split PySem.F.type_str_split mt_split (pv 4) (pC pe_str pa_nil)) pa_nil)))))) pss_never pss_nil)))
   (pss_one (ps_ret (pe_make MD GD hr7 rfl mgD bD .nil pass0 (pC (pe_make M GI hr5 rfl mgC bI .nil pass0 (pC (pv 1) pa_nil)) (pC (pv 2) pa_nil)))))))),?_⟩
  refine ⟨Nat.zero_le _,fun lr hlr=>⟨Nat.zero_le _,fun ln hln=>?_⟩⟩
  have s1:Same H (upd H lr (.lst [])):=snew hlr
  have s2:Same (upd H lr (.lst [])) (upd (upd H lr (.lst [])) ln (.lst [])):=snew hln
  have h1:(upd (upd H lr (.lst [])) ln (.lst [])) lr=some (.lst []):=s2 _ _ uS
  have h2:(upd (upd H lr (.lst [])) ln (.lst [])) ln=some (.lst []):=uS
  have nrn:lr≠ln:=fun z=>by rw [← z,uS] at hln;cases hln
  have lnH:H ln=none:=s1.free hln
  have s02:=s1.trans s2
  generalize upd (upd H lr (.lst [])) ln (.lst [])=H2 at s2 h1 h2 s02 ⊢
  have R2:RdS H H2 lr ln [] [] [] []:=⟨s02,fun d hd=>by
   rcases List.mem_cons.mp hd with rfl | hd
   ·exact hlr
   rw [List.mem_singleton.mp hd]
   exact lnH,by simp [nrn],h1,h2,.nil,.nil⟩
  have xl:=tx.len
  have tf:=tx.few
  have tw:=Paired.length tx.rw_
  refine ⟨_,rfl,rfl,x,"\n",rfl,rfl,sp_nl,sL (by omega),by rw [tx.sp];exact sL (by omega),fun ls hls=>?_⟩
  rw [tx.sp]
  have s3:Same H2 (upd H2 ls (.lst (ts.map V.str))):=snew hls
  have h3:(upd H2 ls (.lst (ts.map V.str))) ls=some (.lst (ts.map V.str)):=uS
  generalize upd H2 ls (.lst (ts.map V.str))=H3 at s3 h3 ⊢
  have nls:ls∉own lr ln []:=fun z=>by
   obtain ⟨us,e⟩:=R2.some_ z
   rw [hls] at e
   cases e
  refine ⟨ls,_,rfl,SqL.of h3,for_pairs (fun i σ H'=>∃ (rs:List Row) (nds:List (Nam×Addr)) (vr vn:List V) (a b:Option V),σ=[some (.str x),some (.ref lr),some (.ref ln),a,b]∧RdS H H' lr ln rs nds vr vn∧H' ls=some (.lst (ts.map V.str))∧ls∉own lr ln nds∧runW rs (nds.map (·.1)) (wss.drop i)=some (rows,ns)∧tot rs (nds.map (·.1))=i)
   ⟨[],[],[],[],none,none,rfl,R2.mono s3,h3,nls,tx.run,rfl⟩ (fun i σ H' _ z=>by obtain ⟨_,_,_,_,_,_,_,_,e,_⟩:=z;exact SqL.of e) ?_ ?_⟩
  ·rintro i pr t σ H4 hi ⟨rs,nds,vr,vn,a,b,rfl,R4,h4,n4,run4,tot4⟩ ht
   obtain ⟨e1,e2⟩:=enumV1_get hi
   rw [List.getElem?_map] at e2
   obtain ⟨y,hy,e2⟩:=Option.map_eq_some_iff.mp e2
   obtain ⟨ws,hws,rt⟩:=paired_get tx.rw_ hy
   have s45:Same H4 (upd H4 t (.tup [pr.1,pr.2])):=snew ht
   have h5:(upd H4 t (.tup [pr.1,pr.2])) t=some (.tup [pr.1,.str y]):=by rw [uS,e2]
   generalize upd H4 t (.tup [pr.1,pr.2])=H5 at s45 h5 ⊢
   refine ⟨t,_,rfl,SqT.of h5,rfl,_,_,rfl,_,_,rfl,rfl,?_⟩
   have yl:=rt.len
   refine ⟨_,rfl,_,rfl,_,rfl,rfl,y," ",rfl,rfl,sp_bl,sL (by omega),by rw [rt.sp];have:=rt.few;exact sL (by omega),fun pw hpw=>?_⟩
   rw [rt.sp]
   have s56:Same H5 (upd H5 pw (.lst (ws.map V.str))):=snew hpw
   have h6:(upd H5 pw (.lst (ws.map V.str))) pw=some (.lst (ws.map V.str)):=uS
   generalize upd H5 pw (.lst (ws.map V.str))=H6 at s56 h6 ⊢
   have R6:=(R4.mono s45).mono s56
   rw [List.drop_eq_getElem_cons (by have:=(List.getElem?_eq_some_iff.mp hws).1;exact this)] at run4
   have ew:wss[i]'((List.getElem?_eq_some_iff.mp hws).1)=ws:=(List.getElem?_eq_some_iff.mp hws).2
   rw [ew] at run4
   obtain ⟨⟨rs',ns'⟩,st,run5⟩:=Option.bind_eq_some_iff.mp (show (stepW rs (nds.map (·.1)) ws).bind (fun z=>runW z.1 z.2 (wss.drop (i + 1)))=some (rows,ns) from run4)
   have il:i<ts.length:=(List.getElem?_eq_some_iff.mp hy).1
   refine ⟨H,lr,ln,pw,rs,rs',nds,vr,vn,ws,ns',rfl,R6,⟨h6,rt.few,rt.sh⟩,rt.ne,st,by omega,fun H7 nds' vr' vn' R7 e7 ow kp=>⟨_,rfl,iteF ?_⟩⟩
   have h46:=s56 _ _ (s45 _ _ h4)
   refine ⟨rs',nds',vr',vn',_,_,rfl,R7,kp _ _ n4 h46,fun z=>?_,by rw [e7];exact run5,?_⟩
   ·rcases ow _ z with z | z
    ·exact n4 z
    ·rw [h46] at z
     cases z
   ·rw [e7,step_tot st,tot4]
  ·rintro σ H4 ⟨rs,nds,vr,vn,a,b,rfl,R4,h4,n4,run4,tot4⟩
   rw [enumV1_len,List.length_map,tw,List.drop_length] at run4
   cases run4
   refine ⟨_,rfl,?_⟩
   intro xb dxb nx ndx nex
   refine mk_kindsG nx ndx ⟨true,vr,SqL.of R4.hr,Paired.mapP R4.rw_ fun r v z=>?_⟩ g fun H5 s45 kd=>?_
   ·obtain ⟨t,u,e,h1,h2,_⟩:=z
    exact ⟨t,u,e,SqT.of h1,.inr (SqL.of h2)⟩
   refine ⟨_,rfl,?_⟩
   intro pb db nb ndb neb
   have R5:=R4.mono s45
   refine mk_bookZ nb ndb kd g ⟨true,vn,SqL.of R5.hn,?_⟩ gn fun H6 s56 bk=>?_
   ·refine paired_idx (by rw [List.length_map];exact Paired.length R5.nm) fun i n v hn hv=>?_
    rw [List.getElem?_map] at hn
    obtain ⟨z,hz,rfl⟩:=Option.map_eq_some_iff.mp hn
    obtain ⟨v',hv',t,us,e,h1,h2,h3⟩:=paired_get R5.nm hz
    rw [hv] at hv'
    cases hv'
    exact ⟨t,z.2,true,us,e,h1,SqL.of h2,h3⟩
   ·have s05:=R4.sm.trans s45
    exact q H6 pb xb (s05.trans s56) (s05.free nb) (bk.sub fun b z=>by
     obtain ⟨o,e⟩:=z
     exact ⟨o,s05 _ _ e⟩)
end
end K72
namespace K72
open PySem L2 Md
theorem str_assoc (a b c:Str):(a++b)++c=a++(b++c):=by
 show (⟨(a.cps++b.cps)++c.cps⟩:Str)=⟨a.cps++(b.cps++c.cps)⟩
 rw [Array.append_assoc]
def fR (r:Str) (us:List Str):Str:=us.foldl (fun r u=>(r++" ")++u) r
theorem glued_fR:∀ (us:List Str) (x:Str),Builtin.Str.glued " " (x :: us)=fR x us
 | [],x=>rfl
 | u :: us,x=>glued_fR us ((x++" ")++u)
def kRowT (w:Str) (ups:List Str):Str:=if ups.isEmpty then "kind "++w else fR (("kind "++w)++" under") ups
def dRowT (w:Str) (c:List Str) (m:Str):Str:=(fR ("deed "++w) c++" gives ")++m
def nRowT (n:Nam):Str:=(("name "++n.1)++" ")++Str.ofString (toString (n.2.1:Int))
theorem k_glued1 (w:Str):Builtin.Str.glued " " ["kind",w]="kind "++w:=by
 rw [glued_fR]
 show ((("kind":Str)++" ")++w)=_
 rw [show (("kind":Str)++" ")="kind " by decide +kernel]
theorem k_glued2 (w:Str) (ups:List Str):Builtin.Str.glued " " (((["kind",w]:List Str)++(["under"]:List Str))++ups)=fR (("kind "++w)++" under") ups:=by
 show Builtin.Str.glued " " ("kind" :: w :: "under" :: ups)=_
 rw [glued_fR]
 show fR (((((("kind":Str)++" ")++w)++" ")++"under")) ups=_
 rw [show (("kind":Str)++" ")="kind " by decide +kernel,str_assoc ("kind "++w) " " "under",show ((" ":Str)++"under")=" under" by decide +kernel]
theorem d_glued (w:Str) (c:List Str) (m:Str):Builtin.Str.glued " " (((["deed",w]:List Str)++c)++(["gives",m]:List Str))=dRowT w c m:=by
 show Builtin.Str.glued " " ("deed" :: w :: (c++(["gives",m]:List Str)))=_
 rw [glued_fR]
 show fR ((("deed":Str)++" ")++w) (c++(["gives",m]:List Str))=_
 rw [show (("deed":Str)++" ")="deed " by decide +kernel]
 unfold fR dRowT
 rw [List.foldl_append]
 show ((((fR ("deed "++w) c++" ")++"gives")++" ")++m)=_
 rw [str_assoc (fR ("deed "++w) c) " " "gives",str_assoc (fR ("deed "++w) c) (" "++"gives") " ",show (((" ":Str)++"gives")++" ")=" gives " by decide +kernel]
theorem fR_len:∀ {us:List Str}{r:Str},(∀ u∈us,u.length≤8)→(fR r us).length≤r.length + 9 * us.length
 | [],r,_=>by show r.length≤_;omega
 | u :: us,r,h=>by
  have h1:=fR_len (us:=us) (r:=(r++" ")++u) fun x hx=>h x (.tail _ hx)
  have h2:=h u (.head _)
  rw [strLen_append,strLen_append] at h1
  have h3:(" ":Str).length=1:=by decide +kernel
  show (fR ((r++" ")++u) us).length≤_
  rw [List.length_cons]
  omega
theorem kRow_len {w:Str}{ups:List Str}(hw:w.length≤8) (hl:ups.length≤8) (h:∀ u∈ups,u.length≤8):(kRowT w ups).length≤100:=by
 have h3:("kind ":Str).length=5:=by decide +kernel
 have h4:(" under":Str).length=6:=by decide +kernel
 unfold kRowT
 split
 ·rw [strLen_append];omega
 ·have h1:=fR_len (r:=("kind "++w)++" under") h
  rw [strLen_append,strLen_append] at h1
  omega
theorem dRow_len {w m:Str}{c:List Str}(hw:w.length≤8) (hm:m.length≤8) (hl:c.length≤4) (h:∀ u∈c,u.length≤8):(dRowT w c m).length≤100:=by
 have h3:("deed ":Str).length=5:=by decide +kernel
 have h4:(" gives ":Str).length=7:=by decide +kernel
 have h1:=fR_len (r:="deed "++w) h
 unfold dRowT
 rw [strLen_append] at h1
 rw [strLen_append,strLen_append]
 omega
theorem num_len:∀ {n:Nat},1≤n→n≤4→(Str.ofString (toString (n:Int))).length≤1
 | 1,_,_=>by decide +kernel
 | 2,_,_=>by decide +kernel
 | 3,_,_=>by decide +kernel
 | 4,_,_=>by decide +kernel
 | 0,h,_=>by omega
 | n + 5,_,h=>by omega
theorem nRow_len {n:Nam}(hw:n.1.length≤8) (h1:1≤n.2.1) (h4:n.2.1≤4):(nRowT n).length≤100:=by
 have a:=num_len h1 h4
 have h3:("name ":Str).length=5:=by decide +kernel
 have h5:(" ":Str).length=1:=by decide +kernel
 unfold nRowT
 rw [strLen_append,strLen_append,strLen_append]
 omega
def kRows (rows:List (Str×List Str)):List Str:=rows.map fun r=>kRowT r.1 r.2
theorem kRows_len {rows:List (Str×List Str)}(g:Good rows):∀ y∈kRows rows,y.length≤100:=fun y hy=>by
 obtain ⟨r,hr,e⟩:=List.mem_map.mp hy
 rw [← e]
 refine kRow_len (word_len (g.word r hr)).2 (g.few r hr) fun u hu=>?_
 obtain ⟨r',hr',e'⟩:=List.mem_map.mp (g.known r hr u hu)
 rw [← e'];exact (word_len (g.word r' hr')).2
end K72
namespace K72
open PySem L2 Md
def spKRow:Sp:=fun vs H Q _=>∃ (w:Str) (t:Addr) (ups:List Str),vs=[.str w,.ref t]∧H t=some (.tup (ups.map V.str))∧w.length≤8∧ups.length≤8∧(∀ u∈ups,u.length≤8)∧∀ H',Same H H'→Q (.str (kRowT w ups)) H'
def spDRow:Sp:=fun vs H Q _=>∃ (w m:Str) (t:Addr) (c:List Str),vs=[.str w,.ref t,.str m]∧H t=some (.tup (c.map V.str))∧w.length≤8∧m.length≤8∧c.length≤4∧(∀ u∈c,u.length≤8)∧∀ H',Same H H'→Q (.str (dRowT w c m)) H'
end K72
namespace K72
open PySem L2 Md
theorem comp_txt {α:Type}{K:W.Frag}{J:It}{vs:List V}{Ok:Hp→Prop}(R:Runs J vs Ok) {js:List Nat}{te:TE}{σ:St}{Q:VK}{H1:Hp}(hz:vs.length≤1000) {xs:List α}(F:α→Str) (Pa:α→V→V→Prop)
  (hp:Paired (fun x v=>∃ t a b,v=.ref t∧H1 t=some (.tup [a,b])∧Pa x a b) xs vs) (hok:∀ H,Same H1 H→Ok H)
  (he:∀ x a b H' (R:VK),Same H1 H'→x∈xs→Pa x a b→(∀ H'',Same H' H''→R (.str (F x)) H'')→te (some a :: some b :: js.map fun j=>(σ[j]?).join) H' R)
  (hd:∀ D H',H1 D=none→Same H1 H'→H' D=some (.lst ((xs.map F).map V.str))→Q (.ref D) H'):compBody 2 js (g2 K 0 1) tTrue te σ Q J H1:=by
 have vl:=Paired.length hp
 refine comp_runs R (sL (by omega)) (fun D i ys σ' H=>H1 D=none∧Same H1 H∧H D=some (.lst ys)∧ys=((xs.take i).map F).map V.str∧∃ o u,σ'=o :: u :: js.map fun j=>(σ[j]?).join) ?_ ?_ ?_ ?_
 ·intro D hD
  exact ⟨hD,snew hD,uS,by rw [List.take_zero];rfl,none,none,rfl⟩
 ·rintro D i ys σ' H hi ⟨hD,hs,hl,q,_⟩
  refine ⟨hok H hs,?_⟩
  rw [q,List.length_map,List.length_map,List.length_take]
  omega
 ·rintro D i v ys σ' H hD hx ⟨_,hs,hl,q,o,u,rfl⟩
  obtain ⟨x,hxi,t,a,b,rfl,hxt,pa⟩:=paired_at hp hx
  refine g2_at (SqT.of (hs _ _ hxt)) ?_
  refine he x a b H _ hs (List.mem_of_getElem? hxi) pa fun H4 s4=>?_
  have hD4:=s4 _ _ hl
  refine ⟨hD4,hD,fun b o e=>by rw [upd_ne (nNo e hD)];exact s4 _ _ (hs _ _ e),uS,?_,_,_,rfl⟩
  rw [List.take_add_one,hxi,q,List.map_append,List.map_append]
  rfl
 ·rintro D ys σ' H hD ⟨_,hs,hl,q,_⟩
  rw [← vl,List.take_length] at q
  exact hd D H hD hs (by rw [hl,q])
def KPa (H:Hp) (r:Str×List Str) (a b:V):Prop:=a=.str r.1∧∃ t,b=.ref t∧H t=some (.tup (r.2.map V.str))
theorem rows_pa {H:Hp}{rows:List (Str×List Str)}{vs:List V}(h:Paired (RowV H) rows vs):Paired (fun x v=>∃ t a b,v=V.ref t∧H t=some (.tup [a,b])∧KPa H x a b) rows vs:=Paired.mapP h fun r v ⟨t,t2,e,h1,h2⟩=>⟨t,_,_,e,h1,rfl,t2,rfl,h2⟩
theorem wlen {rows:List (Str×List Str)}(g:Good rows):∀ x∈rows.map (·.1),x.length≤8:=fun x hx=>by
 obtain ⟨r,hr,e⟩:=List.mem_map.mp hx
 rw [← e];exact (word_len (g.word r hr)).2
theorem nd_wu:(["word","ups"]:List Str).Nodup:=by decide +kernel
end K72
namespace K72
open PySem L2 Md
theorem fR_take {ups:List Str}{i:Nat}{u r:Str}(h:ups[i]?=some u):fR r (ups.take (i + 1))=(fR r (ups.take i)++" ")++u:=by
 unfold fR
 rw [List.take_add_one,h]
 exact List.foldl_append ..
theorem fR_small {ups:List Str}{r:Str}(hr:r.length≤100) (hl:ups.length≤8) (h:∀ u∈ups,u.length≤8) (i:Nat):(fR r (ups.take i)).length≤200:=by
 have:=fR_len (r:=r) (us:=ups.take i) fun u hu=>h u (List.mem_of_mem_take hu)
 rw [List.length_take] at this
 omega
section
variable {P:Program} {w:World} {K:W.Frag} {mg:Str→Option Value} {base:Heap}
abbrev nLK:List Str:=["word","ups","row","up"]
theorem scLK:FnScope nLK ["word","ups"] (defScope s__law_kind_row):=⟨rfl,rfl,rfl,by decide +kernel,rfl,by decide +kernel,by decide +kernel⟩
theorem ok_lkrow {f:Addr}{fd:FuncData}(F:Def K mg "_law_kind_row" s__law_kind_row ["word","ups"] f fd) (len:mg "len"=none):FnOk P w K mg base CX0 1 f fd ["word","ups"] spKRow:=by
 refine F.fn.ok scLK (fun vs H Q E h=>?_) (fun cdv A outer s H vs Q E hr h=>?_)
 ·obtain ⟨x,t,ups,rfl,_⟩:=h
  rfl
 ·obtain ⟨x,t,ups,rfl,ht,hx,hl,hu8,q⟩:=h
  have nd:=scLK.nd
  refine' ⟨_,(pS (ps_set (i:=2) nd rfl (Or.inl rfl) (pe_op op_add_str pe_str (pv 0)))
   (pss_cut (ps_if (pt_cmpR op_gt (pe_callB call_len_seq (by rfl) len PySem.boot_len (pC (pv 1) pa_nil)) pe_int (nomark _)) (pss_one (ps_set (i:=2) nd rfl (Or.inl rfl) (pe_op op_add_str (pv 2) pe_str))) pss_nil)
   (pS (ps_for PassesOwn.never rfl (pi_tup (pv 1)) (pg_name (i:=3) nd rfl (Or.inl rfl)) (pss_one (ps_set (i:=2) nd rfl (Or.inl rfl) (pe_op op_add_str (pe_op op_add_str (pv 2) pe_str) (pv 3)))))
   (pss_one (ps_ret (pv 2)))))),?_⟩
  have e1:(" ":Str).length=1:=by decide +kernel
  have ek:("kind ":Str).length=5:=by decide +kernel
  have eu:(" under":Str).length=6:=by decide +kernel
  refine ⟨_,rfl,_,_,rfl,rfl,sL (by omega),?_⟩
  refine ⟨fun σ' H'=>∃ r0:Str,σ'=[some (.str x),some (.ref t),some (.str r0),none]∧H'=H∧r0.length≤100∧fR r0 ups=kRowT x ups,?_,?_⟩
  ·refine ⟨_,rfl,t,_,rfl,.inr (SqT.of ht),_,_,rfl,rfl,_,rfl,ite2 (fun z=>?_) (fun z=>?_)⟩
   ·have ne:ups.isEmpty=false:=by
     cases ups with
     | nil=>exact absurd z (by decide)
     | cons=>rfl
    refine ⟨_,rfl,_,_,rfl,rfl,sL (by rw [strLen_append];omega),_,rfl,rfl,by rw [strLen_append,strLen_append];omega,?_⟩
    unfold kRowT
    rw [ne]
    rfl
   ·have e:ups=[]:=by
     cases ups with
     | nil=>rfl
     | cons a r=>exact absurd (by rw [decide_eq_true_eq,List.length_map,List.length_cons];omega) z
    subst e
    exact ⟨_,rfl,rfl,by rw [strLen_append];omega,rfl⟩
  ·rintro σ' H' ⟨r0,rfl,rfl,hr0,er⟩
   refine ⟨_,rfl,t,rfl,⟨_,SqT.of ht⟩,for_runs (runs_tup (xs:=ups.map V.str)) (fun i σ H1=>∃ y:Option V,σ=[some (.str x),some (.ref t),some (.str (fR r0 (ups.take i))),y]∧H1=H')
    ⟨none,by rw [List.take_zero];rfl,rfl⟩ (fun i σ H' _ ⟨_,_,e⟩=>by rw [e];exact SqT.of ht) ?_ ?_⟩
   ·rintro i v σ H' hi ⟨y,rfl,rfl⟩
    rw [List.getElem?_map] at hi
    obtain ⟨u,hu,rfl⟩:=Option.map_eq_some_iff.mp hi
    have:=fR_small hr0 hl hu8 i
    have u8:=hu8 u (List.mem_of_getElem? hu)
    refine ⟨_,rfl,_,_,rfl,rfl,sL (by omega),_,rfl,_,_,rfl,rfl,sL (by rw [strLen_append];omega),some (.str u),?_,rfl⟩
    rw [fR_take hu]
    rfl
   ·rintro σ H' ⟨y,rfl,rfl⟩
    rw [List.length_map,List.take_length,er]
    exact ⟨_,rfl,q _ (Same.refl _)⟩
abbrev nLD:List Str:=["word","deed","made","row","kind"]
theorem scLD:FnScope nLD ["word","deed","made"] (defScope s__law_deed_row):=⟨rfl,rfl,rfl,by decide +kernel,rfl,by decide +kernel,by decide +kernel⟩
theorem ok_ldrow {f:Addr}{fd:FuncData}(F:Def K mg "_law_deed_row" s__law_deed_row ["word","deed","made"] f fd):FnOk P w K mg base CX0 1 f fd ["word","deed","made"] spDRow:=by
 refine F.fn.ok scLD (fun vs H Q E h=>?_) (fun cdv A outer s H vs Q E hr h=>?_)
 ·obtain ⟨x,m,t,c,rfl,_⟩:=h
  rfl
 ·obtain ⟨x,m,t,c,rfl,ht,hx,hm,hl,hu8,q⟩:=h
  have nd:=scLD.nd
  refine' ⟨_,(pS (ps_set (i:=3) nd rfl (Or.inl rfl) (pe_op op_add_str pe_str (pv 0)))
   (pS (ps_for PassesOwn.never rfl (pi_tup (pv 1)) (pg_name (i:=4) nd rfl (Or.inl rfl)) (pss_one (ps_set (i:=3) nd rfl (Or.inl rfl) (pe_op op_add_str (pe_op op_add_str (pv 3) pe_str) (pv 4)))))
   (pss_one (ps_ret (pe_op op_add_str (pe_op op_add_str (pv 3) pe_str) (pv 2)))))),?_⟩
  have e1:(" ":Str).length=1:=by decide +kernel
  have ek:("deed ":Str).length=5:=by decide +kernel
  have eu:(" gives ":Str).length=7:=by decide +kernel
  refine ⟨_,rfl,_,_,rfl,rfl,sL (by omega),?_⟩
  have hr0:(("deed ":Str)++x).length≤100:=by rw [strLen_append];omega
  refine ⟨_,rfl,t,rfl,⟨_,SqT.of ht⟩,for_runs (runs_tup (xs:=c.map V.str)) (fun i σ H'=>∃ y:Option V,σ=[some (.str x),some (.ref t),some (.str m),some (.str (fR ("deed "++x) (c.take i))),y]∧H'=H)
   ⟨none,by rw [List.take_zero];rfl,rfl⟩ (fun i σ H' _ ⟨_,_,e⟩=>by rw [e];exact SqT.of ht) ?_ ?_⟩
  ·rintro i v σ H' hi ⟨y,rfl,rfl⟩
   rw [List.getElem?_map] at hi
   obtain ⟨u,hu,rfl⟩:=Option.map_eq_some_iff.mp hi
   have:=fR_small hr0 (by omega) hu8 i
   have u8:=hu8 u (List.mem_of_getElem? hu)
   refine ⟨_,rfl,_,_,rfl,rfl,sL (by omega),_,rfl,_,_,rfl,rfl,sL (by rw [strLen_append];omega),some (.str u),?_,rfl⟩
   rw [fR_take hu]
   rfl
  ·rintro σ H' ⟨y,rfl,rfl⟩
   rw [List.length_map,List.take_length]
   have:=fR_small hr0 (by omega) hu8 c.length
   rw [List.take_length] at this
   exact ⟨_,rfl,_,_,rfl,rfl,sL (by omega),_,rfl,_,_,rfl,rfl,sL (by rw [strLen_append];omega),q _ (Same.refl _)⟩
end
end K72
namespace K72
open PySem L2 Md
def figS (n:Nat):Str:=Str.ofString (toString (n:Int))
def kW (r:Row):List Str:="kind" :: r.1 :: (if r.2.isEmpty then [] else "under" :: r.2)
def nW (n:Nam):List Str:=["name",n.1,figS n.2.1]
def dW (x:Str) (c:List Str) (m:Str):List Str:=((["deed",x]:List Str)++c)++(["gives",m]:List Str)
theorem kW_glued (r:Row):kRowT r.1 r.2=Builtin.Str.glued " " (kW r):=by
 unfold kRowT kW
 cases h:r.2.isEmpty with
 | true=>exact (k_glued1 r.1).symm
 | false=>exact (k_glued2 r.1 r.2).symm
theorem nW_glued (n:Nam):nRowT n=Builtin.Str.glued " " (nW n):=by
 unfold nW
 rw [glued_fR]
 show _=(((("name":Str)++" ")++n.1)++" ")++figS n.2.1
 rw [show (("name":Str)++" ")="name " by decide +kernel]
 rfl
theorem dW_glued (x:Str) (c:List Str) (m:Str):dRowT x c m=Builtin.Str.glued " " (dW x c m):=(d_glued x c m).symm
theorem low_not {c:Nat}(h:¬ (97≤c∧c≤122)) {x:Str}(hx:isWord x=true):c∉x.cps.toList:=fun z=>by
 have:=((isWord_iff x).mp hx).2 c z
 unfold isLow at this
 exact h (of_decide_eq_true this)
def Fine (x:Str):Prop:=32∉x.cps.toList∧10∉x.cps.toList∧x.length≤8
theorem fine_word {x:Str}(h:isWord x=true):Fine x:=⟨low_not (by decide) h,low_not (by decide) h,(word_len h).2⟩
theorem fine_fig {n:Nat} (h1:1≤n) (h4:n≤4):Fine (figS n):=by
 have h:n=1∨n=2∨n=3∨n=4:=by omega
 unfold Fine
 rcases h with rfl | rfl | rfl | rfl <;> decide +kernel
theorem fig_in {n:Nat} (h1:1≤n) (h4:n≤4):figS n∈figs∧figN (figS n)=n:=by
 have h:n=1∨n=2∨n=3∨n=4:=by omega
 rcases h with rfl | rfl | rfl | rfl <;> exact ⟨by decide +kernel,by decide +kernel⟩
theorem glued_free {c d:Nat}(cd:d≠c):∀ {xs:List Str},(∀ x∈xs,d∉x.cps.toList)→d∉(Builtin.Str.glued (sgn c) xs).cps.toList:=by
 intro xs h
 rw [StrLaws.glued_eq_join]
 induction xs with
 | nil=>exact fun z=>nomatch z
 | cons x r ih =>
  cases r with
  | nil=>exact h x List.mem_cons_self
  | cons y r =>
   rw [join_two]
   intro z
   rcases List.mem_append.mp z with z | z
   ·exact h x List.mem_cons_self z
   rcases List.mem_cons.mp z with z | z
   ·exact cd z
   ·exact ih (fun u hu=>h u (List.mem_cons_of_mem _ hu)) z
theorem glued_len {c B:Nat}:∀ {xs:List Str},(∀ x∈xs,x.length≤B)→(Builtin.Str.glued (sgn c) xs).length≤xs.length * (B + 1):=by
 intro xs h
 rw [StrLaws.glued_eq_join]
 induction xs with
 | nil=>exact Nat.zero_le _
 | cons x r ih =>
  have hx:=h x List.mem_cons_self
  cases r with
  | nil =>
   show x.length≤1 * (B + 1)
   omega
  | cons y r =>
   have e:(Str.join (sgn c) (x :: y :: r)).length=x.length + 1 + (Str.join (sgn c) (y :: r)).length:=by
    show (x++sgn c++Str.join (sgn c) (y :: r)).length=_
    rw [strLen_append,strLen_append]
    rfl
   have:=ih (fun u hu=>h u (List.mem_cons_of_mem _ hu))
   rw [e,List.length_cons,Nat.succ_mul]
   omega
theorem row_of {t:Str}{ws:List Str}(e:t=Builtin.Str.glued " " ws) (hne:ws≠[]) (few:ws.length≤100) (h:∀ x∈ws,Fine x):RowT t ws∧10∉t.cps.toList:=by
 have b:(" ":Str)=sgn 32:=rfl
 have l8:∀ x∈ws,x.length≤8:=fun x hx=>(h x hx).2.2
 rw [e,b]
 refine ⟨⟨split_glued hne fun p hp=>(h p hp).1,hne,by omega,fun x hx=>by have:=l8 x hx;omega,?_⟩,glued_free (by decide) fun x hx=>(h x hx).2.1⟩
 have:=glued_len (c:=32) l8
 omega
theorem kW_row {r:Row}(hw:isWord r.1=true) (hl:r.2.length≤8) (hu:∀ u∈r.2,isWord u=true):RowT (kRowT r.1 r.2) (kW r)∧10∉(kRowT r.1 r.2).cps.toList:=by
 refine row_of (kW_glued r) (List.cons_ne_nil _ _) ?_ fun x hx=>?_
 ·unfold kW
  split
  ·show 2≤100;decide
  ·show r.2.length + 1 + 1 + 1≤100;omega
 ·rcases List.mem_cons.mp hx with rfl | hx
  ·unfold Fine;decide +kernel
  rcases List.mem_cons.mp hx with rfl | hx
  ·exact fine_word hw
  split at hx
  ·exact nomatch hx
  ·rcases List.mem_cons.mp hx with rfl | hx
   ·unfold Fine;decide +kernel
   ·exact fine_word (hu x hx)
theorem nW_row {n:Nam}(hw:isWord n.1=true) (h1:1≤n.2.1) (h4:n.2.1≤4):RowT (nRowT n) (nW n)∧10∉(nRowT n).cps.toList:=by
 refine row_of (nW_glued n) (List.cons_ne_nil _ _) (by show 3≤100;decide) fun x hx=>?_
 rcases List.mem_cons.mp hx with rfl | hx
 ·unfold Fine;decide +kernel
 rcases List.mem_cons.mp hx with rfl | hx
 ·exact fine_word hw
 rw [List.mem_singleton.mp hx]
 exact fine_fig h1 h4
theorem dW_row {x m:Str}{c:List Str}(hw:isWord x=true) (hl:c.length≤4) (hc:∀ u∈c,isWord u=true) (hm:isWord m=true):RowT (dRowT x c m) (dW x c m)∧10∉(dRowT x c m).cps.toList:=by
 refine row_of (dW_glued x c m) (by unfold dW;exact List.append_ne_nil_of_right_ne_nil _ (List.cons_ne_nil _ _)) (by unfold dW;rw [List.length_append,List.length_append];show 2 + c.length + 2≤100;omega) fun y hy=>?_
 rcases List.mem_append.mp hy with hy | hy
 ·rcases List.mem_append.mp hy with hy | hy
  ·rcases List.mem_cons.mp hy with rfl | hy
   ·unfold Fine;decide +kernel
   ·rw [List.mem_singleton.mp hy]
    exact fine_word hw
  ·exact fine_word (hc y hy)
 ·rcases List.mem_cons.mp hy with rfl | hy
  ·unfold Fine;decide +kernel
  ·rw [List.mem_singleton.mp hy]
   exact fine_word hm
theorem word_under:isWord "under"=true:=by decide +kernel
theorem word_gives:isWord "gives"=true:=by decide +kernel
theorem ne_nk:¬ (("name":Str)="kind"):=by decide +kernel
theorem ne_dk:¬ (("deed":Str)="kind"):=by decide +kernel
theorem ne_dn:¬ (("deed":Str)="name"):=by decide +kernel
theorem kW_kind {r:Row}(hw:isWord r.1=true) (hu:∀ u∈r.2,isWord u=true):kindRowB (kW r)=true:=by
 unfold kW
 rw [kindRow_cons,decide_eq_true rfl,Bool.true_and,Bool.and_eq_true]
 cases h:r.2 with
 | nil=>exact ⟨by show ([r.1].all isWord)=true;rw [List.all_cons,hw];rfl,rfl⟩
 | cons a l =>
  rw [h] at hu
  refine ⟨?_,?_⟩
  ·show ((r.1 :: "under" :: a :: l).all isWord)=true
   rw [List.all_eq_true]
   intro x hx
   rcases List.mem_cons.mp hx with rfl | hx
   ·exact hw
   rcases List.mem_cons.mp hx with rfl | hx
   ·exact word_under
   ·exact hu x hx
  ·rw [Bool.or_eq_true,Bool.and_eq_true]
   refine .inr ⟨decide_eq_true ?_,decide_eq_true rfl⟩
   show 2<l.length + 1 + 1 + 1
   omega
theorem step_kind {rows:List Row}{r:Row}(hw:isWord r.1=true) (hu:∀ u∈r.2,isWord u=true):stepW rows [] (kW r)=some (rows++[r],[]):=by
 unfold stepW
 rw [if_pos (kW_kind hw hu),if_pos rfl]
 unfold kW
 rcases r with ⟨x,us⟩
 cases us with
 | nil=>rfl
 | cons a l=>rfl
theorem kind_no {w:Str}(h:¬ w="kind") (r:List Str):kindRowB (w :: r)=false:=by rw [kindRow_cons,decide_eq_false h,Bool.false_and]
theorem step_name {rows:List Row}{ns:List Nam}{n:Nam}(hr:rows≠[]) (hw:isWord n.1=true) (h1:1≤n.2.1) (h4:n.2.1≤4):stepW rows ns (nW n)=some (rows,ns++[(n.1,n.2.1,[])]):=by
 obtain ⟨a,b⟩:=fig_in h1 h4
 have k:nameRowB (nW n)=true:=by
  show (decide (("name":Str)="name")&&(isWord n.1&&decide (figS n.2.1∈figs)))=true
  rw [decide_eq_true rfl,hw,decide_eq_true a]
  rfl
 unfold stepW
 rw [show kindRowB (nW n)=false from kind_no ne_nk _,if_neg (by decide),if_pos k,if_neg hr]
 show some (rows,ns++[(n.1,figN (figS n.2.1),[])])=_
 rw [b]
theorem dW_at (x m:Str) (c:List Str):(dW x c m).getD 1 ""=x∧((dW x c m).drop 2).take ((dW x c m).length - 4)=c∧(dW x c m).getD ((dW x c m).length - 1) ""=m∧(dW x c m).length=c.length + 4∧(dW x c m).getD ((dW x c m).length - 2) ""="gives":=by
 have l:(dW x c m).length=c.length + 4:=by
  unfold dW
  rw [List.length_append,List.length_append]
  show 2 + c.length + 2=_
  omega
 have e:dW x c m=(("deed" :: x :: (c++(["gives",m]:List Str))):List Str):=rfl
 refine ⟨rfl,?_,?_,l,?_⟩
 ·rw [l,e]
  show (c++(["gives",m]:List Str)).take (c.length + 4 - 4)=c
  rw [Nat.add_sub_cancel,List.take_left']
  rfl
 ·rw [l,e,List.getD_eq_getElem?_getD,show c.length + 4 - 1=c.length + 1 + 2 by omega]
  show ((c++(["gives",m]:List Str))[c.length + 1]?).getD ""=m
  rw [List.getElem?_append_right (by omega),show c.length + 1 - c.length=1 by omega]
  rfl
 ·rw [l,e,List.getD_eq_getElem?_getD,show c.length + 4 - 2=c.length + 2 by omega]
  show ((c++(["gives",m]:List Str))[c.length]?).getD ""="gives"
  rw [List.getElem?_append_right (by omega),Nat.sub_self]
  rfl
theorem name_noD {w:Str}(h:¬ w="name") (r:List Str):nameRowB (w :: r)=false:=by
 rcases r with _ | ⟨b,_ | ⟨c,_ | ⟨d,r⟩⟩⟩
 ·rfl
 ·rfl
 ·show (decide (w="name")&&_)=false
  rw [decide_eq_false h,Bool.false_and]
 ·rfl
theorem step_deed {rows:List Row}{ns ns':List Nam}{x m:Str}{c:List Str}(hw:isWord x=true) (hc:∀ u∈c,isWord u=true) (hm:isWord m=true) (h1:1≤c.length) (ha:addD x c m ns=some ns'):stepW rows ns (dW x c m)=some (rows,ns'):=by
 obtain ⟨a1,a2,a3,a4,a5⟩:=dW_at x m c
 have k:deedRowB (dW x c m)=true:=by
  unfold deedRowB
  rw [Bool.and_eq_true,Bool.and_eq_true,Bool.and_eq_true]
  refine ⟨decide_eq_true rfl,decide_eq_true (by rw [a4];omega),decide_eq_true a5,?_⟩
  show ((x :: (c++(["gives",m]:List Str))).all isWord)=true
  rw [List.all_eq_true]
  intro y hy
  rcases List.mem_cons.mp hy with rfl | hy
  ·exact hw
  rcases List.mem_append.mp hy with hy | hy
  ·exact hc y hy
  rcases List.mem_cons.mp hy with rfl | hy
  ·exact word_gives
  ·rw [List.mem_singleton.mp hy]
   exact hm
 unfold stepW
 rw [show kindRowB (dW x c m)=false from kind_no ne_dk _,if_neg (by decide),show nameRowB (dW x c m)=false from name_noD ne_dn _,if_neg (by decide),if_pos k,a1,a2,a3,ha]
 rfl
theorem run_app:∀ (l:List (List Str)) {rows:List Row}{ns:List Nam}{m:List (List Str)},runW rows ns (l++m)=(runW rows ns l).bind fun z=>runW z.1 z.2 m
 | [],_,_,_=>rfl
 | a :: l,rows,ns,m=>by
  show (stepW rows ns a).bind (fun z=>runW z.1 z.2 (l++m))=((stepW rows ns a).bind fun z=>runW z.1 z.2 l).bind fun z=>runW z.1 z.2 m
  cases stepW rows ns a with
  | none=>rfl
  | some z=>exact run_app l
theorem run_kinds:∀ {rs:List Row}{rows:List Row},(∀ r∈rs,isWord r.1=true∧∀ u∈r.2,isWord u=true)→runW rows [] (rs.map kW)=some (rows++rs,[])
 | [],rows,_=>by rw [List.append_nil];rfl
 | r :: rs,rows,h=>by
  obtain ⟨a,b⟩:=h r List.mem_cons_self
  show (stepW rows [] (kW r)).bind (fun z=>runW z.1 z.2 (rs.map kW))=_
  rw [step_kind a b]
  show runW (rows++[r]) [] (rs.map kW)=_
  rw [run_kinds fun x hx=>h x (List.mem_cons_of_mem _ hx),List.append_assoc]
  rfl
theorem run_one {rows rows':List Row}{ns ns':List Nam}{l:List (List Str)}{ws:List Str}{z:List Row×List Nam}(h:runW rows ns l=some (rows',ns')) (s:stepW rows' ns' ws=some z):runW rows ns (l++[ws])=some z:=by
 rw [run_app,h]
 show (stepW rows' ns' ws).bind (fun z=>runW z.1 z.2 [])=_
 rw [s]
 rfl
theorem addD_map {x:Str}{c:List Str}{m:Str} (f f':Nam→Nam):∀ {ord:List Nam},(∀ n∈ord,(f n).1=n.1)→(∀ n∈ord,n.1≠x→f' n=f n)→(∀ n∈ord,n.1=x→c.length=(f n).2.1∧f' n=((f n).1,(f n).2.1,(f n).2.2++[(c,m)]))→(ord.map (·.1)).Nodup→x∈ord.map (·.1)→addD x c m (ord.map f)=some (ord.map f')
 | [],_,_,_,_,h=>nomatch h
 | n :: r,h1,h2,h3,nd,hx=>by
  obtain ⟨n1,n2⟩:=List.nodup_cons.mp (show (n.1 :: r.map (·.1)).Nodup from nd)
  show (if (f n).1=x then _ else _)=_
  rw [h1 n List.mem_cons_self]
  by_cases e:n.1=x
  ·obtain ⟨a,b⟩:=h3 n List.mem_cons_self e
   rw [if_pos e,if_pos a,List.map_cons,b,h1 n List.mem_cons_self]
   refine congrArg (fun z=>some (_ :: z)) ?_
   refine List.map_congr_left fun y hy=>(h2 y (List.mem_cons_of_mem _ hy) fun z=>n1 ?_).symm
   rw [e,← z]
   exact List.mem_map.mpr ⟨y,hy,rfl⟩
  ·rw [if_neg e,addD_map f f' (fun y hy=>h1 y (List.mem_cons_of_mem _ hy)) (fun y hy=>h2 y (List.mem_cons_of_mem _ hy)) (fun y hy=>h3 y (List.mem_cons_of_mem _ hy)) n2 (by
    rcases List.mem_cons.mp (show x∈n.1 :: r.map (·.1) from hx) with z | z
    ·exact absurd z.symm e
    ·exact z),List.map_cons,h2 n List.mem_cons_self e]
   rfl
theorem text_ok {rows:List Row}{ns:List Nam}{ts:List Str}{wss:List (List Str)}(hne:ts≠[]) (few:ts.length≤900) (h:Paired (fun t ws=>(RowT t ws∧10∉t.cps.toList)∧t.length≤100) ts wss) (run:runW [] [] wss=some (rows,ns)):TextOk (Builtin.Str.glued "\n" ts) rows ns ts wss:=by
 have b:("\n":Str)=sgn 10:=rfl
 have all:∀ t∈ts,10∉t.cps.toList∧t.length≤100:=fun t ht=>by
  obtain ⟨i,hi⟩:=List.mem_iff_getElem?.mp ht
  obtain ⟨ws,_,z⟩:=paired_get h hi
  exact ⟨z.1.2,z.2⟩
 rw [b]
 have:=glued_len (c:=10) fun t ht=>(all t ht).2
 exact ⟨split_glued hne fun t ht=>(all t ht).1,by omega,by omega,Paired.mapP h fun _ _ z=>z.1.1,run⟩
end K72
namespace K72
open PySem L2 Md
def pairD (p:List Str×Str):Dt:=.tuple [datC p.1,.str p.2]
def nameD (n:Nam):Dt:=.tuple [.str n.1,.int n.2.1,.tuple (n.2.2.map pairD)]
theorem reps_pairs {K:W.Frag}{H:Hp}:∀ {ps:List (List Str×Str)}{vs:List V},PrsV H ps vs→Reps K H vs (ps.map pairD)
 | _,_,.nil=>.nil
 | _,_,.cons ⟨t,tc,e,h1,h2⟩ r=>by
  subst e
  exact .cons (.tuple (SqT.of h1) (.cons (rep_call h2) (.cons (.str _) .nil))) (reps_pairs r)
theorem reps_names {K:W.Frag}{H:Hp}:∀ {ns:List Nam}{vs:List V},NamesT H ns vs→Reps K H vs (ns.map nameD)
 | _,_,.nil=>.nil
 | _,_,.cons ⟨t,tp,vs,e,h1,h2,h3⟩ r=>by
  subst e
  exact .cons (.tuple (SqT.of h1) (.cons (.str _) (.cons (.int _) (.cons (.tuple (SqT.of h2) (reps_pairs h3)) .nil)))) (reps_names r)
theorem ok_pairD (n:Nat) {p:List Str×Str}(h:∀ x∈p.1,isWord x=true) (h2:isWord p.2=true):W.kqdOk (n + 2) (pairD p)=true:=by
 unfold pairD
 rw [W.kqdOk]
 simp [ok_call n h,ok_str (n + 1) h2]
theorem ok_nameD (n:Nat) {rows:List (Str×List Str)}(g:Good rows) {m:Nam}(h:GoodName rows m):W.kqdOk (n + 4) (nameD m)=true:=by
 unfold nameD
 rw [W.kqdOk]
 have hp:W.kqdOk (n + 3) (.tuple (m.2.2.map pairD))=true:=by
  rw [W.kqdOk,List.all_eq_true]
  intro z hz
  obtain ⟨p,hp,rfl⟩:=List.mem_map.mp hz
  exact ok_pairD n (fun x hx=>good_words g x ((h.deeds.call p.1 (List.mem_map.mpr ⟨p,hp,rfl⟩)).known x hx)) (good_words g _ (h.made p hp))
 have hi:W.kqdOk (n + 3) (.int m.2.1)=true:=by rw [W.kqdOk]
 simp [ok_str (n + 3) h.word,hp,hi]
theorem ok_namesD {rows:List (Str×List Str)}(g:Good rows) {ns:List Nam}(h:∀ n∈ns,GoodName rows n):W.kqdOk 9 (.list (ns.map nameD))=true:=by
 show (ns.map nameD).all (W.kqdOk 8)=true
 rw [List.all_eq_true]
 intro z hz
 obtain ⟨m,hm,rfl⟩:=List.mem_map.mp hz
 exact ok_nameD 4 g (h m hm)
theorem rep_dl {K:W.Frag}{H:Hp}{l:Addr}{ds:List (List Str)}{us:List V}(h:H l=some (.lst us)) (d:DeedsV H ds us):Rep K H (.ref l) (.list (ds.map datC)):=.list (SqL.of h) (reps_deeds d)
theorem ok_dl {ds:List (List Str)}(h:∀ d∈ds,∀ x∈d,isWord x=true):W.kqdOk 9 (.list (ds.map datC))=true:=by
 rw [W.kqdOk]
 exact ok_deeds 7 h
theorem rep_rows {K:W.Frag}{H:Hp}{l:Addr}{rows:List (Str×List Str)}(h:RowsAt H l rows):Rep K H (.ref l) (.list (rows.map kRowD)):=by
 obtain ⟨vs,a,q⟩:=h
 exact .list (SqL.of a) (reps_krows q)
theorem names_comp {K:W.Frag}{l:Addr}{H1:Hp}{ns:List Nam}{us:List V}{σ:St}{Q:VK}{te:TE}(hl:H1 l=some (.lst us)) (hN:NamesT H1 ns us) (few:ns.length≤100)
  (he:∀ (t tp:Addr) (x:Str) (m:Nat) H' (R:VK),H' t=some (.tup [.str x,.int m,.ref tp])→R (.str x) H'→te [some (.ref t)] H' R)
  (hd:∀ D H',H1 D=none→Same H1 H'→H' D=some (.lst ((ns.map (·.1)).map V.str))→Q (.ref D) H'):compBody 1 [] (gName 0) tTrue te σ Q (Itl K l) H1:=by
 have ul:us.length≤100:=by have:=Paired.length hN;omega
 refine comp_rel (runs_list (xs:=us)) (sL (by omega)) (fun _=>true) (fun _ x v _=>∀ n,NameT H1 n x→v=.str n.1) (fun _ _ _ _ _ _ h=>h) (fun H' s=>s.seq (SqL.of hl)) ?_ ?_ ?_
 ·intro x H3 R _ _ hR'
  exact hR' H3 (Same.refl _)
 ·intro D x H3 R s3 _ _ hx _ hR'
  obtain ⟨i,hi⟩:=List.mem_iff_getElem?.mp hx
  obtain ⟨n,hn,t,tp,vs,rfl,ht,_⟩:=paired_at hN hi
  refine he t tp n.1 n.2.1 H3 R (s3 _ _ ht) (hR' _ _ (Same.refl _) fun n' h'=>?_)
  obtain ⟨t',tp',vs',e1,e2,_⟩:=h'
  cases e1
  rw [ht] at e2
  have e2:=Option.some.inj e2
  injection e2 with e2
  injection e2 with e2 _
 ·intro D H3 ys hD s23 hlD hpD
  rw [List.filter_eq_self.mpr (fun _ _=>rfl)] at hpD
  have eys:ys=(ns.map (·.1)).map V.str:=by
   have:∀ {ns:List Nam} {vs ys:List V},NamesT H1 ns vs→Paired (fun x v=>∀ n,NameT H1 n x→v=.str n.1) vs ys→ys=(ns.map (·.1)).map V.str:=by
    intro ns vs ys a
    induction a generalizing ys with
    | nil=>intro b;cases b;rfl
    | cons h t ih =>
     intro b
     cases b with
     | cons h' t'=>rw [List.map_cons,List.map_cons,h' _ h,ih t']
   exact this hN hpD
  subst eys
  exact hd D H3 hD s23 hlD
theorem pair_comp {K:W.Frag}{l:Addr}{H1:Hp}{ps:List (List Str×Str)}{us:List V}{σ:St}{Q:VK}{te:TE}(f:V→V) (hl:H1 l=some (.tup us)) (hP:PrsV H1 ps us) (few:us.length≤100)
  (he:∀ (t:Addr) (x y:V) H' (R:VK),H1 t=some (.tup [x,y])→H' t=some (.tup [x,y])→R (f (.ref t)) H'→te [some (.ref t)] H' R)
  (hd:∀ D H',H1 D=none→Same H1 H'→H' D=some (.lst (us.map f))→Q (.ref D) H'):compBody 1 [] (gName 0) tTrue te σ Q (Itt K l) H1:=by
 refine comp_val (runs_tup (xs:=us)) (sL (by omega)) (fun _=>true) f (fun H' s=>SqT.of (s _ _ hl)) ?_ ?_ ?_
 ·intro x H3 R _ _ hR'
  exact hR' H3 (Same.refl _)
 ·intro x H3 R s3 hx _ hR'
  obtain ⟨i,hi⟩:=List.mem_iff_getElem?.mp hx
  obtain ⟨p,_,t,tc,rfl,ht,_⟩:=paired_at hP hi
  exact he t _ _ H3 R ht (s3 _ _ ht) (hR' _ (Same.refl _))
 ·intro D H3 hD s23 hlD
  rw [List.filter_eq_self.mpr (fun _ _=>rfl)] at hlD
  exact hd D H3 hD s23 hlD
end K72
namespace K72
open PySem L2 Md
abbrev Lf:=(Nam×Addr)×Int
def wt (e:Lf):Nat:=((e.1.1.2.2.length:Int) + 1 - e.2).toNat
def mu:List Lf→Nat
 | []=>0
 | e :: r=>wt e + mu r
theorem mu_app:∀ (a b:List Lf),mu (a++b)=mu a + mu b
 | [],b=>(Nat.zero_add _).symm
 | e :: a,b=>by
  show wt e + mu (a++b)=wt e + mu a + mu b
  rw [mu_app a b]
  omega
theorem mu_le:∀ {l:List Lf},(∀ e∈l,e.1.1.2.2.length≤64∧e.2=-1)→mu l≤l.length * 66
 | [],_=>Nat.le_refl _
 | e :: l,h=>by
  have:=mu_le fun x hx=>h x (List.mem_cons_of_mem _ hx)
  obtain ⟨a,b⟩:=h e List.mem_cons_self
  have w:wt e≤66:=by unfold wt;omega
  rw [List.length_cons,Nat.succ_mul]
  show wt e + mu l≤_
  omega
def setC (c:Str→Nat) (x:Str) (k:Nat):Str→Nat:=fun y=>if y=x then k else c y
theorem setC_eq (c:Str→Nat) (x:Str) (k:Nat):setC c x k x=k:=if_pos rfl
theorem setC_ne {c:Str→Nat}{x y:Str}{k:Nat}(h:y≠x):setC c x k y=c y:=if_neg h
def tkN (c:Str→Nat) (n:Nam):Nam:=(n.1,n.2.1,n.2.2.take (c n.1))
structure MixP (rows:List Row) (ns:List Nam) (lf:List Lf) (ord:List Nam) (c:Str→Nat) (wss:List (List Str)):Prop where
 sub:∀ e∈lf,e.1.1∈ns
 rng:∀ e∈lf,-1≤e.2∧(0≤e.2→e.1.1∈ord∧c e.1.1.1=e.2.toNat∧e.2<(e.1.1.2.2.length:Int))∧(e.2<0→e.1.1.1∉ord.map (·.1))
 nd:(lf.map (·.1.1.1)).Nodup
 os:∀ n∈ord,n∈ns
 on:(ord.map (·.1)).Nodup
 ful:∀ n∈ord,n.1∉lf.map (·.1.1.1)→n.2.2.length≤c n.1
 run:runW rows [] wss=some (rows,ord.map (tkN c))
theorem same_name {ns:List Nam}(nd:(ns.map (·.1)).Nodup) {a b:Nam}(ha:a∈ns) (hb:b∈ns) (h:a.1=b.1):a=b:=by
 obtain ⟨i,hi⟩:=List.mem_iff_getElem?.mp ha
 obtain ⟨j,hj⟩:=List.mem_iff_getElem?.mp hb
 have il:i<(ns.map (·.1)).length:=by rw [List.length_map];exact (List.getElem?_eq_some_iff.mp hi).1
 have e:i=j:=(List.getElem?_inj il nd).mp (by rw [List.getElem?_map,List.getElem?_map,hi,hj];exact congrArg some h)
 rw [e,hj] at hi
 exact (Option.some.inj hi).symm
theorem MixP.step {rows:List Row}{ns:List Nam}{A B:List Lf}{e:Lf}{ord ord':List Nam}{c c':Str→Nat}{wss wss':List (List Str)}(h:MixP rows ns (A++e :: B) ord c wss) (ndN:(ns.map (·.1)).Nodup)
  (h1:e.1.1∈ord') (h2:c' e.1.1.1=(e.2 + 1).toNat) (h3:∀ x,x≠e.1.1.1→c' x=c x) (h4:∀ n∈ord',n∈ord∨n=e.1.1) (h5:∀ n∈ord,n∈ord') (h6:(ord'.map (·.1)).Nodup) (h7:runW rows [] wss'=some (rows,ord'.map (tkN c'))):
  (e.2 + 1<(e.1.1.2.2.length:Int)→MixP rows ns (A++(e.1,e.2 + 1):: B) ord' c' wss')∧((e.1.1.2.2.length:Int)≤e.2 + 1→MixP rows ns (A++B) ord' c' wss'):=by
 have me:e∈A++e :: B:=List.mem_append.mpr (.inr List.mem_cons_self)
 have hE:=h.rng e me
 have nd:=h.nd
 rw [List.map_append,List.map_cons] at nd
 obtain ⟨ndA,ndE,dis⟩:=List.nodup_append.mp nd
 obtain ⟨eB,ndB⟩:=List.nodup_cons.mp ndE
 have eA:e.1.1.1∉A.map (·.1.1.1):=fun z=>dis _ z _ List.mem_cons_self rfl
 have oth:∀ x,(x∈A∨x∈B)→x∈A++e :: B∧x.1.1.1≠e.1.1.1:=fun x hx=>by
  rcases hx with hx | hx
  ·exact ⟨List.mem_append.mpr (.inl hx),fun z=>eA (by rw [← z];exact List.mem_map.mpr ⟨x,hx,rfl⟩)⟩
  ·exact ⟨List.mem_append.mpr (.inr (List.mem_cons_of_mem _ hx)),fun z=>eB (by rw [← z];exact List.mem_map.mpr ⟨x,hx,rfl⟩)⟩
 have rg:∀ x,(x∈A∨x∈B)→-1≤x.2∧(0≤x.2→x.1.1∈ord'∧c' x.1.1.1=x.2.toNat∧x.2<(x.1.1.2.2.length:Int))∧(x.2<0→x.1.1.1∉ord'.map (·.1)):=fun x hx=>by
  obtain ⟨m,ne⟩:=oth x hx
  obtain ⟨a,b,d⟩:=h.rng x m
  refine ⟨a,fun z=>?_,fun z y=>?_⟩
  ·obtain ⟨b1,b2,b3⟩:=b z
   exact ⟨h5 _ b1,by rw [h3 _ ne];exact b2,b3⟩
  ·obtain ⟨n,hn,e1⟩:=List.mem_map.mp y
   rcases h4 n hn with hn | hn
   ·exact d z (List.mem_map.mpr ⟨n,hn,e1⟩)
   ·exact ne (by rw [← e1,hn])
 have os':∀ n∈ord',n∈ns:=fun n hn=>(h4 n hn).elim (h.os n) fun z=>by rw [z];exact h.sub e me
 refine ⟨fun hk=>⟨fun x hx=>?_,fun x hx=>?_,?_,os',h6,fun n hn nl=>?_,h7⟩,fun hk=>⟨fun x hx=>?_,fun x hx=>?_,?_,os',h6,fun n hn nl=>?_,h7⟩⟩
 ·rcases List.mem_append.mp hx with hx | hx
  ·exact h.sub x (oth x (.inl hx)).1
  rcases List.mem_cons.mp hx with rfl | hx
  ·exact h.sub e me
  ·exact h.sub x (oth x (.inr hx)).1
 ·rcases List.mem_append.mp hx with hx | hx
  ·exact rg x (.inl hx)
  rcases List.mem_cons.mp hx with rfl | hx
  ·exact ⟨by have:=hE.1;show -1≤e.2 + 1;omega,fun _=>⟨h1,h2,hk⟩,fun z=>absurd z (by have:=hE.1;show ¬ e.2 + 1<0;omega)⟩
  ·exact rg x (.inr hx)
 ·rw [List.map_append,List.map_cons]
  exact nd
 ·have nl':n.1∉A.map (·.1.1.1)∧n.1≠e.1.1.1∧n.1∉B.map (·.1.1.1):=by
   rw [List.map_append,List.map_cons] at nl
   exact ⟨fun z=>nl (List.mem_append.mpr (.inl z)),fun z=>nl (List.mem_append.mpr (.inr (by rw [z];exact List.mem_cons_self))),fun z=>nl (List.mem_append.mpr (.inr (List.mem_cons_of_mem _ z)))⟩
  rw [h3 _ nl'.2.1]
  rcases h4 n hn with hn | hn
  ·refine h.ful n hn fun z=>?_
   rw [List.map_append,List.map_cons] at z
   rcases List.mem_append.mp z with z | z
   ·exact nl'.1 z
   rcases List.mem_cons.mp z with z | z
   ·exact nl'.2.1 z
   ·exact nl'.2.2 z
  ·exact absurd (by rw [hn]) nl'.2.1
 ·rcases List.mem_append.mp hx with hx | hx
  ·exact h.sub x (oth x (.inl hx)).1
  ·exact h.sub x (oth x (.inr hx)).1
 ·rcases List.mem_append.mp hx with hx | hx
  ·exact rg x (.inl hx)
  ·exact rg x (.inr hx)
 ·rw [List.map_append]
  exact List.nodup_append.mpr ⟨ndA,ndB,fun a ha b hb=>dis a ha b (List.mem_cons_of_mem _ hb)⟩
 ·by_cases e1:n.1=e.1.1.1
  ·have:n=e.1.1:=same_name ndN (os' n hn) (h.sub e me) e1
   rw [this,h2]
   omega
  ·rw [h3 _ e1]
   rcases h4 n hn with hn | hn
   ·refine h.ful n hn fun z=>nl ?_
    rw [List.map_append,List.map_cons] at z
    rw [List.map_append]
    rcases List.mem_append.mp z with z | z
    ·exact List.mem_append.mpr (.inl z)
    rcases List.mem_cons.mp z with z | z
    ·exact absurd z e1
    ·exact List.mem_append.mpr (.inr z)
   ·exact absurd (by rw [hn]) e1
theorem MixP.name {rows:List Row}{ns:List Nam}{A B:List Lf}{e:Lf}{ord:List Nam}{c:Str→Nat}{wss:List (List Str)}(h:MixP rows ns (A++e :: B) ord c wss) (hr:rows≠[]) (gn:GoodNames rows ns) (he:e.2<0):∃ c':Str→Nat,
  (e.2 + 1<(e.1.1.2.2.length:Int)→MixP rows ns (A++(e.1,e.2 + 1):: B) (ord++[e.1.1]) c' (wss++[nW e.1.1]))∧((e.1.1.2.2.length:Int)≤e.2 + 1→MixP rows ns (A++B) (ord++[e.1.1]) c' (wss++[nW e.1.1])):=by
 have me:e∈A++e :: B:=List.mem_append.mpr (.inr List.mem_cons_self)
 obtain ⟨r1,_,r2⟩:=h.rng e me
 have no:=r2 he
 have g:=gn.each _ (h.sub e me)
 refine ⟨setC c e.1.1.1 0,h.step gn.nd (List.mem_append.mpr (.inr List.mem_cons_self)) (by rw [setC_eq];omega) (fun x hx=>setC_ne hx) (fun n hn=>(List.mem_append.mp hn).imp id List.mem_singleton.mp) (fun n hn=>List.mem_append.mpr (.inl hn)) ?_ ?_⟩
 ·rw [List.map_append]
  exact List.nodup_append.mpr ⟨h.on,by simp,fun a ha b hb z=>no (by rw [show e.1.1.1=a from (z.trans (List.mem_singleton.mp hb)).symm];exact ha)⟩
 ·refine run_one h.run ?_
  rw [step_name hr g.word g.one g.four,List.map_append]
  congr 3
  ·refine List.map_congr_left fun n hn=>?_
   unfold tkN
   rw [setC_ne fun z=>no (by rw [← z];exact List.mem_map.mpr ⟨n,hn,rfl⟩)]
  ·show [_]=[tkN _ e.1.1]
   unfold tkN
   rw [setC_eq,List.take_zero]
theorem MixP.deed {rows:List Row}{ns:List Nam}{A B:List Lf}{e:Lf}{ord:List Nam}{c:Str→Nat}{wss:List (List Str)}{p:List Str×Str}(h:MixP rows ns (A++e :: B) ord c wss) (g:Good rows) (gn:GoodNames rows ns) (he:0≤e.2) (hp:e.1.1.2.2[e.2.toNat]?=some p):∃ c':Str→Nat,
  (e.2 + 1<(e.1.1.2.2.length:Int)→MixP rows ns (A++(e.1,e.2 + 1):: B) ord c' (wss++[dW e.1.1.1 p.1 p.2]))∧((e.1.1.2.2.length:Int)≤e.2 + 1→MixP rows ns (A++B) ord c' (wss++[dW e.1.1.1 p.1 p.2])):=by
 have me:e∈A++e :: B:=List.mem_append.mpr (.inr List.mem_cons_self)
 obtain ⟨r1,r2,_⟩:=h.rng e me
 obtain ⟨o1,o2,o3⟩:=r2 he
 have gN:=gn.each _ (h.sub e me)
 have pm:p∈e.1.1.2.2:=List.mem_of_getElem? hp
 have gc:=gN.deeds.call p.1 (List.mem_map.mpr ⟨p,pm,rfl⟩)
 refine ⟨setC c e.1.1.1 (e.2 + 1).toNat,h.step gn.nd o1 (setC_eq _ _ _) (fun x hx=>setC_ne hx) (fun n hn=>.inl hn) (fun n hn=>hn) h.on (run_one h.run (step_deed gN.word (fun u hu=>good_words g u (gc.known u hu)) (good_words g _ (gN.made p pm)) (by rw [gc.len];exact gN.one) ?_))⟩
 refine addD_map (tkN c) (tkN _) (fun _ _=>rfl) (fun n hn ne=>?_) (fun n hn e1=>?_) h.on (List.mem_map.mpr ⟨_,o1,rfl⟩)
 ·unfold tkN
  rw [setC_ne ne]
 ·have:n=e.1.1:=same_name gn.nd (h.os n hn) (h.sub e me) e1
  rw [this]
  refine ⟨gc.len,?_⟩
  unfold tkN
  rw [setC_eq,o2,show (e.2 + 1).toNat=e.2.toNat + 1 by omega,List.take_add_one,hp]
  rfl
theorem MixP.ends {rows:List Row}{ns ord:List Nam}{c:Str→Nat}{wss:List (List Str)}(h:MixP rows ns [] ord c wss) (gn:GoodNames rows ns):runW rows [] wss=some (rows,ord)∧GoodNames rows ord:=by
 have e:ord.map (tkN c)=ord:=by
  conv=>rhs;rw [← List.map_id ord]
  refine List.map_congr_left fun n hn=>?_
  unfold tkN
  rw [List.take_of_length_le (h.ful n hn fun z=>nomatch z)]
  rfl
 refine ⟨by rw [h.run,e],?_,fun n hn=>gn.each n (h.os n hn),h.on⟩
 have:=Graph.nodup_le h.on (k:=ns.map (·.1)) fun x hx=>by
  obtain ⟨n,hn,e⟩:=List.mem_map.mp hx
  exact List.mem_map.mpr ⟨n,h.os n hn,e⟩
 rw [List.length_map,List.length_map] at this
 exact Nat.le_trans this gn.few
theorem MixP.init {rows:List Row}{ns:List Nam}{lf:List Lf}(gn:GoodNames rows ns) (e:lf.map (·.1.1)=ns) (h:∀ x∈lf,x.2=-1):MixP rows ns lf [] (fun _=>0) []:=by
 refine ⟨fun x hx=>by rw [← e];exact List.mem_map.mpr ⟨x,hx,rfl⟩,fun x hx=>?_,?_,(fun n hn=>nomatch hn),List.nodup_nil,(fun n hn=>nomatch hn),rfl⟩
 ·have:=h x hx
  exact ⟨by omega,fun z=>by omega,fun _ z=>nomatch z⟩
 ·have z:=gn.nd
  rw [← e,List.map_map] at z
  exact z
end K72
namespace K72
open PySem L2 Md
def LeftV (H:Hp) (e:Lf) (v:V):Prop:=∃ a,v=.ref a∧H a=some (.lst [.ref e.1.2,.int e.2])∧NameT H e.1.1 (.ref e.1.2)
theorem noS (ts:List Str):∀ t k,HO.lst (ts.map V.str)≠.lst [.ref t,.int k]:=fun t k z=>by
 injection z with z
 cases ts with
 | nil=>cases z
 | cons x r=>injection z with z;cases z
theorem noR {vs:List V}(h:∀ v∈vs,∃ t,v=.ref t):∀ t k,HO.lst vs≠.lst [.ref t,.int k]:=fun t k z=>by
 injection z with z
 obtain ⟨t',e⟩:=h (.int k) (by rw [z];simp)
 cases e
theorem noP {o:HO}(h:PotO o):∀ t k,o≠.lst [.ref t,.int k]:=fun t k z=>by
 obtain ⟨r,b,e,_⟩:=h
 rw [e] at z
 injection z with z
 injection z with z
 cases z
theorem left_keep {H H':Hp}{q:Addr}{o:HO}{lf:List Lf}{vl:List V}(hq:H q=some o) (no:∀ t k,o≠.lst [.ref t,.int k]) (nt:∀ xs,o≠.tup xs) (s:∀ b u,b≠q→H b=some u→H' b=some u) (h:Paired (LeftV H) lf vl):Paired (LeftV H') lf vl:=Paired.mapP h fun e v z=>by
 obtain ⟨a,e1,h1,h2⟩:=z
 exact ⟨a,e1,s _ _ (fun z=>by rw [z,hq] at h1;exact no _ _ (Option.some.inj h1)) h1,h2.mono fun b xs hb=>s _ _ (fun z=>by rw [z,hq] at hb;exact nt _ (Option.some.inj hb)) hb⟩
theorem left_same {H H':Hp}{lf:List Lf}{vl:List V}(s:Same H H') (h:Paired (LeftV H) lf vl):Paired (LeftV H') lf vl:=Paired.mapP h fun e v z=>by
 obtain ⟨a,e1,h1,h2⟩:=z
 exact ⟨a,e1,s _ _ h1,h2.mono (tupsS s)⟩
theorem left_refs {H:Hp}{lf:List Lf}{vl:List V}(h:Paired (LeftV H) lf vl):∀ v∈vl,∃ t,v=.ref t:=fun v hv=>by
 obtain ⟨i,hi⟩:=List.mem_iff_getElem?.mp hv
 obtain ⟨_,_,a,e,_⟩:=paired_at h hi
 exact ⟨a,e⟩
theorem names_refs {H:Hp}{ns:List Nam}{vs:List V}(h:NamesT H ns vs):∀ v∈vs,∃ t,v=.ref t:=fun v hv=>by
 obtain ⟨i,hi⟩:=List.mem_iff_getElem?.mp hv
 obtain ⟨_,_,t,_,_,e,_⟩:=paired_at h hi
 exact ⟨t,e⟩
structure MixH (H0 H:Hp) (p lr lo ll:Addr) (ts:List Str) (ord:List Nam) (vo:List V) (lf:List Lf) (vl:List V):Prop where
 dr:Drawn p H0 H
 n1:H0 lr=none
 n2:H0 lo=none
 n3:H0 ll=none
 e1:lr≠lo
 e2:lr≠ll
 e3:lo≠ll
 hr:H lr=some (.lst (ts.map V.str))
 ho:H lo=some (.lst vo)
 hl:H ll=some (.lst vl)
 no:NamesT H ord vo
 lv:Paired (LeftV H) lf vl
section
variable {H0 H H':Hp} {p lr lo ll:Addr} {ts:List Str} {ord:List Nam} {vo vl:List V} {lf:List Lf} {o0:HO}
theorem tup_lst {q:Addr}{xs ys:List V}(hq:H q=some (.lst xs)):∀ b zs,H b=some (.tup zs)→upd H q (.lst ys) b=some (.tup zs):=fun b zs e=>by
 rw [upd_ne (fun z=>by rw [z,hq] at e;cases e)]
 exact e
theorem MixH.same (h:MixH H0 H p lr lo ll ts ord vo lf vl) (s:Same H H'):MixH H0 H' p lr lo ll ts ord vo lf vl:=⟨h.dr.same s,h.n1,h.n2,h.n3,h.e1,h.e2,h.e3,s _ _ h.hr,s _ _ h.ho,s _ _ h.hl,h.no.mono (tupsS s),left_same s h.lv⟩
theorem MixH.draw (h:MixH H0 H p lr lo ll ts ord vo lf vl) (hp:H0 p=some o0) (d:Drawn p H H'):MixH H0 H' p lr lo ll ts ord vo lf vl:=by
 obtain ⟨o,ep,eo⟩:=h.dr.pot
 have ne:∀ {q},H0 q=none→q≠p:=fun hq z=>by rw [z,hp] at hq;cases hq
 exact ⟨h.dr.trans d,h.n1,h.n2,h.n3,h.e1,h.e2,h.e3,d.keep _ _ (ne h.n1) h.hr,d.keep _ _ (ne h.n2) h.ho,d.keep _ _ (ne h.n3) h.hl,h.no.mono fun b xs e=>Drawn.tup d ep eo e,left_keep ep (noP eo) (fun xs z=>by obtain ⟨_,_,e,_⟩:=eo;rw [e] at z;cases z) d.keep h.lv⟩
theorem MixH.row (h:MixH H0 H p lr lo ll ts ord vo lf vl) (hp:H0 p=some o0) (t:Str):MixH H0 (upd H lr (.lst (ts.map V.str++[.str t]))) p lr lo ll (ts++[t]) ord vo lf vl:=by
 have s:∀ b o,b≠lr→H b=some o→(upd H lr (.lst (ts.map V.str++[.str t]))) b=some o:=fun b o hb e=>by rw [upd_ne hb];exact e
 exact ⟨h.dr.sub (o':=.lst []) s h.n1 (nNo hp h.n1),h.n1,h.n2,h.n3,h.e1,h.e2,h.e3,by rw [uS,List.map_append];rfl,s _ _ (Ne.symm h.e1) h.ho,s _ _ (Ne.symm h.e2) h.hl,h.no.mono (tup_lst h.hr),left_keep h.hr (noS _) (fun xs z=>by cases z) s h.lv⟩
theorem MixH.ord_ (h:MixH H0 H p lr lo ll ts ord vo lf vl) (hp:H0 p=some o0) {n:Nam}{t:Addr}(hn:NameT H n (.ref t)):MixH H0 (upd H lo (.lst (vo++[.ref t]))) p lr lo ll ts (ord++[n]) (vo++[.ref t]) lf vl:=by
 have s:∀ b o,b≠lo→H b=some o→(upd H lo (.lst (vo++[.ref t]))) b=some o:=fun b o hb e=>by rw [upd_ne hb];exact e
 exact ⟨h.dr.sub (o':=.lst []) s h.n2 (nNo hp h.n2),h.n1,h.n2,h.n3,h.e1,h.e2,h.e3,s _ _ h.e1 h.hr,uS,s _ _ (Ne.symm h.e3) h.hl,Paired.snoc (h.no.mono (tup_lst h.ho)) (hn.mono (tup_lst h.ho)),left_keep h.ho (noR (names_refs h.no)) (fun xs z=>by cases z) s h.lv⟩
theorem MixH.left (h:MixH H0 H p lr lo ll ts ord vo lf vl) (hp:H0 p=some o0) {lf':List Lf}{vl':List V}(hv:Paired (LeftV H) lf' vl'):MixH H0 (upd H ll (.lst vl')) p lr lo ll ts ord vo lf' vl':=by
 have s:∀ b o,b≠ll→H b=some o→(upd H ll (.lst vl')) b=some o:=fun b o hb e=>by rw [upd_ne hb];exact e
 exact ⟨h.dr.sub (o':=.lst []) s h.n3 (nNo hp h.n3),h.n1,h.n2,h.n3,h.e1,h.e2,h.e3,s _ _ h.e2 h.hr,s _ _ h.e3 h.ho,uS,h.no.mono (tup_lst h.hl),left_keep h.hl (noR (left_refs h.lv)) (fun xs z=>by cases z) s hv⟩
end
def lfD (e:Lf):Dt:=.list [nameD e.1.1,.int e.2]
theorem reps_left {K:W.Frag}{H:Hp}:∀ {lf:List Lf}{vl:List V},Paired (LeftV H) lf vl→Reps K H vl (lf.map lfD)
 | _,_,.nil=>.nil
 | _,_,.cons z r=>by
  obtain ⟨a,rfl,h1,h2⟩:=z
  have:=reps_names (K:=K) (H:=H) (.cons h2 .nil)
  cases this with
  | cons x _=>exact .cons (.list (SqL.of h1) (.cons x (.cons (.int _) .nil))) (reps_left r)
theorem ok_lfD {rows:List (Str×List Str)}(g:Good rows) {lf:List Lf}(h:∀ e∈lf,GoodName rows e.1.1):W.kqdOk 9 (.list (lf.map lfD))=true:=by
 show (lf.map lfD).all (W.kqdOk 8)=true
 rw [List.all_eq_true]
 intro z hz
 obtain ⟨e,he,rfl⟩:=List.mem_map.mp hz
 show ([nameD e.1.1,.int e.2].all (W.kqdOk 7))=true
 rw [List.all_cons,ok_nameD 3 g (h e he)]
 rfl
def RowsOk (ts:List Str) (wss:List (List Str)):Prop:=Paired (fun t ws=>(RowT t ws∧10∉t.cps.toList)∧t.length≤100) ts wss
def spMix:Sp:=fun vs H Q _=>∃ (p ln:Addr) (rows:List Row) (ns:List Nam) (us:List V),vs=[.ref p,.ref ln]∧(∃ o,H p=some o∧PotO o)∧Good rows∧H ln=some (.lst us)∧NamesT H ns us∧GoodNames rows ns ∧
 ∀ (t lr lo:Addr) (ts:List Str) (wss:List (List Str)) (ord:List Nam) (vo:List V) (H':Hp),Drawn p H H'→H' t=some (.tup [.ref lr,.ref lo])→H' lr=some (.lst (ts.map V.str))→H' lo=some (.lst vo)→NamesT H' ord vo→GoodNames rows ord→RowsOk ts wss→runW rows [] wss=some (rows,ord)→ts.length≤600→Q (.ref t) H'
structure TxtMx (mg:Str→Option Value):Prop where
 len:mg "len"=none
 str:mg "str"=none
theorem nd_nm2:(["name"]:List Str).Nodup:=by decide +kernel
theorem ixN_of {n j:Nat}(h:j<n):ixN n (j:Int)=some j:=by
 unfold ixN
 rw [if_pos (by omega),if_pos (by omega),Int.toNat_natCast]
theorem drop_mid {α:Type}{a b:List α}{x:α}{j:Nat}(h:a.length=j):(a++x :: b).drop (j + 1)=b:=by
 rw [List.drop_append,List.drop_of_length_le (by omega),h,show j + 1 - j=1 by omega]
 rfl
theorem set_mid {α:Type}{l:List α}{j:Nat}{x y:α}(h:l[j]?=some x):l=l.take j++x :: l.drop (j + 1)∧l.set j y=l.take j++y :: l.drop (j + 1)∧(l.take j++y :: l.drop (j + 1)).eraseIdx j=l.take j++l.drop (j + 1):=by
 have hj:=(List.getElem?_eq_some_iff.mp h).1
 have e:=(List.getElem?_eq_some_iff.mp h).2
 refine ⟨?_,?_,?_⟩
 ·conv=>lhs;rw [← List.take_append_drop j l,List.drop_eq_getElem_cons hj,e]
 ·rw [List.set_eq_take_append_cons_drop,if_pos hj]
 ·have lt:(l.take j).length=j:=by rw [List.length_take];omega
  rw [List.eraseIdx_append_of_length_le (by omega),lt,Nat.sub_self]
  rfl
section
variable {P:Program} {w:World} {K:W.Frag} {mg:Str→Option Value} {base:Heap}
abbrev nMx:List Str:=["pot","names","rows","order","left","at","name","number"]
theorem scMx:FnScope nMx ["pot","names"] (defScope s__law_mixed):=⟨rfl,rfl,rfl,by decide +kernel,rfl,by decide +kernel,by decide +kernel⟩
set_option maxHeartbeats 16000000 in
theorem ok_mixed {f fT fD:Addr}{fd fdT fdD:FuncData}(F:Def K mg "_law_mixed" s__law_mixed ["pot","names"] f fd) (T:TxtMx mg) (DT:Def K mg "_law_take" s__law_take ["pot","many"] fT fdT) (GT:FnOk P w K mg base CX0 1 fT fdT ["pot","many"] spTake)
  (DD:Def K mg "_law_deed_row" s__law_deed_row ["word","deed","made"] fD fdD):FnOk P w K mg base CX0 2 f fd ["pot","names"] spMix:=by
 have GD:FnOk P w K mg base CX0 1 fD fdD ["word","deed","made"] spDRow:=ok_ldrow DD
 refine F.fn.ok scMx (fun vs H Q E h=>?_) (fun cdv A outer s H vs Q E hr h=>?_)
 ·obtain ⟨p,ln,rows,ns,us,rfl,_⟩:=h
  rfl
 ·obtain ⟨p,ln,rows,ns,us,rfl,⟨o0,hp0,ho0⟩,g,hln,hN,gn,q⟩:=h
  have nd:=scMx.nd
  have hu:=hr.units
  have rne:rows≠[]:=fun z=>by have:=g.ne;rw [z] at this;exact absurd this (by decide)
  refine' ⟨_,(pS (ps_set (i:=2) nd rfl (Or.inl rfl) (pe_lst pa_nil))
   (pS (ps_set (i:=3) nd rfl (Or.inl rfl) (pe_lst pa_nil))
   (pS ?eL
   (pS (ps_while PassesOwn.never (pt_cmpR (op_neD hu) (pv 4) (pe_lst pa_nil) (nomark _))
    (pS (ps_set (i:=5) nd rfl (Or.inl rfl) (pe_callD DT GT hr (pC (pv 0) (pC (pe_callB call_len_seq (by rfl) T.len PySem.boot_len (pC (pv 4) pa_nil)) pa_nil))))
   (pS (ps_asg (pe_ix (r:=rIxL K) ix_list (pv 4) (pv 5) (fun _ _=>rfl)) (pg_lst rfl (gC (pg_name (i:=6) nd rfl (Or.inl rfl)) (gC (pg_name (i:=7) nd rfl (Or.inl rfl)) pgs_nil))))
   (pss_cut (ps_if (pt_cmpR op_lt (pv 7) pe_int (nomark _))
     (pS (ps_expr (pe_bm PySem.F.plainAttrs_list PySem.F.slot_list_append PySem.F.type_list_append mt_append (pv 2) (pC (pe_op op_add_str (pe_op op_add_str (pe_op op_add_str pe_str (pe_ix (r:=rIxT K) ix_tup (pv 6) pe_int (fun _ _=>rfl))) pe_str) (pe_callTy call_str_int (by rfl) T.str PyProof.Rows.boot_str (pC (pe_ix (r:=rIxT K) ix_tup (pv 6) pe_int (fun _ _=>rfl)) pa_nil))) pa_nil)))
   (pss_one (ps_expr (pe_bm PySem.F.plainAttrs_list PySem.F.slot_list_append PySem.F.type_list_append mt_append (pv 3) (pC (pv 6) pa_nil)))))
     (pss_one (ps_expr (pe_bm PySem.F.plainAttrs_list PySem.F.slot_list_append PySem.F.type_list_append mt_append (pv 2) (pC (pe_callD DD GD hr (pC (pe_ix (r:=rIxT K) ix_tup (pv 6) pe_int (fun _ _=>rfl)) (pC (pe_ix (r:=rIxT K) ix_tup (pe_ix (r:=rIxT K) ix_tup (pe_ix (r:=rIxT K) ix_tup (pv 6) pe_int (fun _ _=>rfl)) (pv 7) (fun _ _=>rfl)) pe_int (fun _ _=>rfl)) (pC (pe_ix (r:=rIxT K) ix_tup (pe_ix (r:=rIxT K) ix_tup (pe_ix (r:=rIxT K) ix_tup (pv 6) pe_int (fun _ _=>rfl)) (pv 7) (fun _ _=>rfl)) pe_int (fun _ _=>rfl)) pa_nil)))) pa_nil)))))
   (pS (ps_asg (pe_lst (pC (pv 6) (pC (pe_op op_add (pv 7) pe_int) pa_nil))) (pg_sub (pv 4) (pv 5) set_list))
   (pss_one (ps_if (pt_cmpR op_ge (pe_op op_add (pv 7) pe_int) (pe_callB call_len_seq (by rfl) T.len PySem.boot_len (pC (pe_ix (r:=rIxT K) ix_tup (pv 6) pe_int (fun _ _=>rfl)) pa_nil)) (nomark _)) (pss_one (ps_expr (pe_bm PySem.F.plainAttrs_list PySem.F.slot_list_pop PySem.F.type_list_pop mt_popAt (pv 4) (pC (pv 5) pa_nil)))) pss_nil)))))))
   (pss_one (ps_ret (pe_tup (pC (pv 2) (pC (pv 3) pa_nil))))))))),?_⟩
  case eL=>exact (ps_setComp (k:=4) ["name"] [] [] nd rfl rfl (fun _=>compT_ok (osc:=defScope s__law_mixed) (on:=nMx) (by decide +kernel) rfl rfl rfl) (pi_list (pv 1)) (fun C s H fp=>pg_name (i:=0) nd_nm2 rfl (Or.inl rfl) (Or.inr rfl)) (fun C s H fp=>pts_nil) (fun C s H fp=>pe_lst (pC (pv 0) (pC (pe_un un_neg pe_int) pa_nil))))
  have few:=gn.few
  have ul:us.length=ns.length:=(Paired.length hN).symm
  refine ⟨Nat.zero_le _,fun lr hlr=>⟨Nat.zero_le _,fun lo hlo=>?_⟩⟩
  have s1:Same H (upd H lr (.lst [])):=snew hlr
  have s2:Same (upd H lr (.lst [])) (upd (upd H lr (.lst [])) lo (.lst [])):=snew hlo
  have h2r:(upd (upd H lr (.lst [])) lo (.lst [])) lr=some (.lst []):=s2 _ _ uS
  have h2o:(upd (upd H lr (.lst [])) lo (.lst [])) lo=some (.lst []):=uS
  have nro:lr≠lo:=fun z=>by rw [← z,uS] at hlo;cases hlo
  have loH:H lo=none:=s1.free hlo
  have s02:=s1.trans s2
  generalize upd (upd H lr (.lst [])) lo (.lst [])=H2 at s2 h2r h2o s02 ⊢
  refine ⟨_,rfl,ln,rfl,⟨_,SqL.of (s02 _ _ hln)⟩,comp_runs (runs_list (xs:=us)) (sL (by omega)) (fun D i ys σ' H'=>Same H2 H'∧H' D=some (.lst ys)∧∃ (lf:List Lf) (x:Option V),lf.map (·.1.1)=ns.take i∧(∀ e∈lf,e.2=-1)∧Paired (LeftV H') lf ys∧σ'=[x])
   (fun D hD=>⟨snew hD,uS,[],none,by rw [List.take_zero];rfl,(fun e h=>nomatch h),.nil,rfl⟩) (fun D i ys σ' H' hi z=>by
    obtain ⟨a,_,lf,_,c,_,d,_⟩:=z
    have c:=congrArg List.length c
    rw [List.length_map,List.length_take] at c
    have d:=Paired.length d
    exact ⟨SqL.of (a _ _ (s02 _ _ hln)),by omega⟩) ?_ ?_⟩
  ·rintro D i v ys σ' H3 hD hi ⟨s23,hD3,lf,x,c1,c2,c3,rfl⟩
   obtain ⟨n,hn,t,tp,vs,rfl,ht,htp,hP⟩:=paired_at hN hi
   have s03:=s02.trans s23
   refine ⟨_,rfl,_,rfl,sL (by show 2≤100000;decide),fun a ha=>?_⟩
   have s34:Same H3 (upd H3 a (.lst [.ref t,.int (-1)])):=snew ha
   have h4:(upd H3 a (.lst [.ref t,.int (-1)])) a=some (.lst [.ref t,.int (-1)]):=uS
   generalize upd H3 a (.lst [.ref t,.int (-1)])=H4 at s34 h4 ⊢
   have hD4:=s34 _ _ hD3
   have up:∀ b o,b≠D→H4 b=some o→(upd H4 D (.lst (ys++[V.ref a]))) b=some o:=fun b o hb e=>by rw [upd_ne hb];exact e
   have c34:=left_same s34 c3
   have nT:NameT H4 n (.ref t):=NameT.mono ⟨t,tp,vs,rfl,ht,htp,hP⟩ (tupsS (s03.trans s34))
   refine ⟨hD4,fun b o e=>up _ _ (nNo e hD) (s34 _ _ (s23 _ _ e)),uS,lf++[((n,t),-1)],_,?_,fun e he=>?_,left_keep hD4 (noR (left_refs c34)) (fun xs z=>by cases z) up (Paired.snoc c34 ⟨a,rfl,h4,nT⟩),rfl⟩
   ·rw [List.map_append,c1,List.take_add_one,hn]
    rfl
   ·rcases List.mem_append.mp he with he | he
    ·exact c2 e he
    ·rw [List.mem_singleton.mp he]
  rintro ll vl0 σ' H3 hll ⟨s23,hl3,lf0,x,c1,c2,c3,rfl⟩
  rw [ul,List.take_length] at c1
  have s03:=s02.trans s23
  have nrl:lr≠ll:=nNo h2r hll
  have nol:lo≠ll:=nNo h2o hll
  have llH:H ll=none:=s02.free hll
  have M3:MixH H H3 p lr lo ll [] [] [] lf0 vl0:=⟨(Drawn.refl ⟨o0,hp0,ho0⟩).same s03,hlr,loH,llH,nro,nrl,nol,s23 _ _ h2r,s23 _ _ h2o,hl3,.nil,c3⟩
  have P3:=MixP.init gn c1 c2
  have l64:∀ e∈lf0,e.1.1.2.2.length≤64∧e.2=-1:=fun e he=>by
   have:=(gn.each e.1.1 (P3.sub e he)).deeds.few
   rw [List.length_map] at this
   exact ⟨this,c2 e he⟩
  have m0:=mu_le l64
  have l0:lf0.length≤8:=by have:=congrArg List.length c1;rw [List.length_map] at this;omega
  clear s23 c3 hl3
  refine ⟨fun m σ H'=>∃ (ts:List Str) (wss:List (List Str)) (ord:List Nam) (vo vl:List V) (lf:List Lf) (c:Str→Nat) (x5 x6 x7:Option V),m=mu lf∧σ=[some (.ref p),some (.ref ln),some (.ref lr),some (.ref lo),some (.ref ll),x5,x6,x7]∧MixH H H' p lr lo ll ts ord vo lf vl∧MixP rows ns lf ord c wss∧RowsOk ts wss∧ts.length + mu lf≤600,
   ⟨mu lf0,[],[],[],[],vl0,lf0,_,none,none,none,rfl,rfl,M3,P3,.nil,by rw [List.length_nil];omega⟩,?_⟩
  rintro m σ H4 ⟨ts,wss,ord,vo,vl,lf,c,x5,x6,x7,rfl,rfl,M4,P4,R4,tl⟩
  refine ⟨_,rfl,Nat.zero_le _,fun e he=>?_⟩
  have s45:Same H4 (upd H4 e (.lst [])):=snew he
  have h5:(upd H4 e (.lst [])) e=some (.lst []):=uS
  generalize upd H4 e (.lst [])=H5 at s45 h5 ⊢
  have M5:=M4.same s45
  refine ⟨.list (lf.map lfD),.list [],.list (SqL.of M5.hl) (reps_left M5.lv),.list (SqL.of h5) .nil,ok_lfD g fun e he=>gn.each _ (P4.sub e he),rfl,_,rfl,?_⟩
  have ll1:=Paired.length M5.lv
  rcases lf with _ | ⟨e0,lfr⟩
  ·rw [dEq_pos (by rfl)]
   obtain ⟨r1,r2⟩:=P4.ends gn
   refine iteF ⟨_,rfl,_,rfl,sL (by show 2≤100000;decide),fun t ht=>?_⟩
   have s56:=snew (o:=.tup [.ref lr,.ref lo]) ht
   have M6:=M5.same s56
   exact q t lr lo ts wss ord vo _ M6.dr uS M6.hr M6.ho M6.no r2 R4 r1 (by omega)
  rw [dEq_neg (by intro z;injection z with z;cases z)]
  have pos:0<vl.length:=by rw [← ll1];exact Nat.succ_pos _
  generalize e0 :: lfr=lf at P4 tl M5 ll1 M4
  refine iteT ⟨fun σ' H'=>∃ (ts:List Str) (wss:List (List Str)) (ord:List Nam) (vo vl:List V) (lf':List Lf) (c:Str→Nat) (x5 x6 x7:Option V),mu lf' + 1≤mu lf∧σ'=[some (.ref p),some (.ref ln),some (.ref lr),some (.ref lo),some (.ref ll),x5,x6,x7]∧MixH H H' p lr lo ll ts ord vo lf' vl∧MixP rows ns lf' ord c wss∧RowsOk ts wss∧ts.length + mu lf'≤600,?_,?_⟩
  ·rintro σ' H6 ⟨ts,wss,ord,vo,vl,lf',c,x5,x6,x7,hm,rfl,M,P,R,tl⟩
   exact ⟨mu lf',by omega,ts,wss,ord,vo,vl,lf',c,x5,x6,x7,rfl,rfl,M,P,R,tl⟩
  ·obtain ⟨o5,hp5,ho5⟩:=M5.dr.pot
   have vl8:vl.length≤100000:=by
    have a:=Graph.nodup_le P4.nd (k:=ns.map (·.1)) fun x hx=>by
     obtain ⟨e,he,e1⟩:=List.mem_map.mp hx
     exact List.mem_map.mpr ⟨_,P4.sub e he,e1⟩
    rw [List.length_map,List.length_map] at a
    omega
   refine ⟨_,rfl,_,rfl,ll,_,rfl,.inl (SqL.of M5.hl),p,_,o5,rfl,hp5,ho5,by omega,by omega,fun v o6 hv0 hv1 ho6=>?_⟩
   obtain ⟨j,rfl⟩:∃ j:Nat,v=(j:Int):=⟨v.toNat,by omega⟩
   have M6:=M5.draw hp0 (Drawn.upd ho6)
   generalize upd H5 p o6=H6 at M6 ⊢
   have jl:j<vl.length:=by omega
   obtain ⟨v0,hv⟩:∃ v,vl[j]?=some v:=⟨vl[j],List.getElem?_eq_getElem jl⟩
   obtain ⟨⟨⟨n,t⟩,k⟩,he,a,rfl,ha,hT⟩:=paired_at M6.lv hv
   have mem:=List.mem_of_getElem? he
   have gN:=gn.each n (P4.sub _ mem)
   have nw:=(word_len gN.word).2
   have n1:=gN.one
   have n4:=gN.four
   obtain ⟨lE,_,_⟩:=set_mid (y:=((n,t),k + 1)) he
   have P4':MixP rows ns (lf.take j++((n,t),k):: lf.drop (j + 1)) ord c wss:=by rw [← lE];exact P4
   have muE:mu lf=mu (lf.take j) + (wt ((n,t),k) + mu (lf.drop (j + 1))):=by
    conv=>lhs;rw [lE,mu_app]
    rfl
   have wp:1≤wt ((n,t),k):=by
    obtain ⟨_,r2,r3⟩:=P4.rng _ mem
    unfold wt
    by_cases z:0≤k
    ·have:=(r2 z).2.2
     show 1≤((n.2.2.length:Int) + 1 - k).toNat
     have this:k<(n.2.2.length:Int):=this
     omega
    ·show 1≤((n.2.2.length:Int) + 1 - k).toNat
     omega
   have vo8:vo.length≤8:=by
    have a:=Paired.length M6.no
    have b:=Graph.nodup_le P4.on (k:=ns.map (·.1)) fun x hx=>by
     obtain ⟨n,hn,e⟩:=List.mem_map.mp hx
     exact List.mem_map.mpr ⟨n,P4.os n hn,e⟩
    rw [List.length_map,List.length_map] at b
    omega
   have hT:NameT H6 n (.ref t):=hT
   obtain ⟨t',tp,vs,et,ht,htp,hP⟩:=id hT
   cases et
   refine ⟨_,rfl,_,rfl,ll,_,_,_,rfl,rfl,SqL.of M6.hl,atI_nat hv,a,_,rfl,SqL.of ha,rfl,_,_,rfl,_,_,rfl,rfl,?_⟩
   refine ⟨fun σ' H'=>∃ (ts':List Str) (wss':List (List Str)) (ord':List Nam) (vo':List V) (c':Str→Nat),σ'=[some (.ref p),some (.ref ln),some (.ref lr),some (.ref lo),some (.ref ll),some (.int j),some (.ref t),some (.int k)]∧MixH H H' p lr lo ll ts' ord' vo' lf vl∧RowsOk ts' wss'∧ts'.length=ts.length + 1 ∧
    (k + 1<(n.2.2.length:Int)→MixP rows ns (lf.take j++((n,t),k + 1):: lf.drop (j + 1)) ord' c' wss')∧((n.2.2.length:Int)≤k + 1→MixP rows ns (lf.take j++lf.drop (j + 1)) ord' c' wss'),?_,?_⟩
   ·refine ⟨_,rfl,_,_,rfl,rfl,_,rfl,ite2 (fun z=>?_) (fun z=>?_)⟩
    ·have kn:k<0:=of_decide_eq_true z
     obtain ⟨c',p1,p2⟩:=P4'.name rne gn kn
     have e1:(" ":Str).length=1:=by decide +kernel
     have ek:("name ":Str).length=5:=by decide +kernel
     have nl:=num_len n1 n4
     refine ⟨_,rfl,.inl ⟨rfl,_,SqL.of M6.hr⟩,_,rfl,t,_,_,_,rfl,rfl,SqT.of ht,atI_nat (j:=0) rfl,_,_,rfl,rfl,sL (by omega),_,_,rfl,rfl,sL (by rw [strLen_append];omega),_,rfl,t,_,_,_,rfl,rfl,SqT.of ht,atI_nat (j:=1) rfl,(n.2.1:Int),rfl,int_log (by omega),_,_,rfl,rfl,sL (by rw [strLen_append,strLen_append];show _ + (Str.ofString (toString (n.2.1:Int))).length≤_;omega),lr,_,_,rfl,rfl,M6.hr,small_lt (by rw [List.length_map];omega),?_⟩
     have M7:=M6.row hp0 (nRowT n)
     have hT7:NameT (upd H6 lr (.lst (ts.map V.str++[.str (nRowT n)]))) n (.ref t):=hT.mono (tup_lst M6.hr)
     refine ⟨_,rfl,.inl ⟨rfl,_,SqL.of M7.ho⟩,_,rfl,lo,vo,_,rfl,rfl,M7.ho,small_lt (by omega),?_⟩
     exact ⟨ts++[nRowT n],wss++[nW n],ord++[n],vo++[V.ref t],c',rfl,M7.ord_ hp0 hT7,Paired.snoc R4 ⟨nW_row gN.word n1 n4,nRow_len nw n1 n4⟩,by rw [List.length_append];rfl,p1,p2⟩
    ·have kn:0≤k:=by
      have:¬ k<0:=fun y=>z (decide_eq_true y)
      omega
     obtain ⟨_,r2,_⟩:=P4.rng _ mem
     obtain ⟨_,_,kl⟩:=r2 kn
     have kl:k<(n.2.2.length:Int):=kl
     obtain ⟨d,hd⟩:∃ d,n.2.2[k.toNat]?=some d:=⟨n.2.2[k.toNat]'(by omega),List.getElem?_eq_getElem _⟩
     obtain ⟨c',p1,p2⟩:=P4'.deed g gn kn hd
     have dm:=List.mem_of_getElem? hd
     have gc:=gN.deeds.call d.1 (List.mem_map.mpr ⟨d,dm,rfl⟩)
     obtain ⟨vq,hvq,tq,tc,rfl,hq1,hq2⟩:=paired_get hP hd
     have atK:atI vs k=some (.ref tq):=by
      rw [show k=((k.toNat:Nat):Int) by omega]
      exact atI_nat hvq
     have c8:∀ u∈d.1,u.length≤8:=fun u hu=>wlen g u (gc.known u hu)
     have m8:d.2.length≤8:=wlen g _ (gN.made d dm)
     have cl:d.1.length≤4:=by rw [gc.len];exact n4
     refine ⟨_,rfl,.inl ⟨rfl,_,SqL.of M6.hr⟩,_,rfl,t,_,_,_,rfl,rfl,SqT.of ht,atI_nat (j:=0) rfl,_,rfl,t,_,_,_,rfl,rfl,SqT.of ht,atI_nat (j:=2) rfl,_,rfl,tp,_,_,_,rfl,rfl,SqT.of htp,atK,tq,_,_,_,rfl,rfl,SqT.of hq1,atI_nat (j:=0) rfl,_,rfl,t,_,_,_,rfl,rfl,SqT.of ht,atI_nat (j:=2) rfl,_,rfl,tp,_,_,_,rfl,rfl,SqT.of htp,atK,tq,_,_,_,rfl,rfl,SqT.of hq1,atI_nat (j:=1) rfl,n.1,d.2,tc,d.1,rfl,hq2,nw,m8,cl,c8,fun H7 s67=>?_⟩
     have M7:=M6.same s67
     exact ⟨lr,_,_,rfl,rfl,M7.hr,small_lt (by rw [List.length_map];omega),ts++[dRowT n.1 d.1 d.2],wss++[dW n.1 d.1 d.2],ord,vo,c',rfl,M7.row hp0 _,Paired.snoc R4 ⟨dW_row gN.word cl (fun u hu=>good_words g u (gc.known u hu)) (good_words g _ (gN.made d dm)),dRow_len nw m8 cl c8⟩,by rw [List.length_append];rfl,p1,p2⟩
   ·rintro σ' H7 ⟨ts',wss',ord',vo',c',rfl,M7,R7,tl7,p1,p2⟩
    refine ⟨_,rfl,_,rfl,_,_,rfl,rfl,sL (by show 2≤100000;decide),fun a2 ha2=>?_⟩
    have s78:Same H7 (upd H7 a2 (.lst [.ref t,.int (k + 1)])):=snew ha2
    have h8:(upd H7 a2 (.lst [.ref t,.int (k + 1)])) a2=some (.lst [.ref t,.int (k + 1)]):=uS
    generalize upd H7 a2 (.lst [.ref t,.int (k + 1)])=H8 at s78 h8 ⊢
    have M8:=M7.same s78
    obtain ⟨v8,hv8,_,_,_,hT8⟩:=paired_get M8.lv he
    obtain ⟨_,vS,vX⟩:=set_mid (y:=V.ref a2) hv
    have L8:Paired (LeftV H8) (lf.take j++((n,t),k + 1):: lf.drop (j + 1)) (vl.take j++.ref a2 :: vl.drop (j + 1)):=pr_app (pr_take j M8.lv) (.cons ⟨a2,rfl,h8,hT8⟩ (pr_drop (j + 1) M8.lv))
    refine ⟨_,rfl,_,rfl,ll,_,_,j,rfl,rfl,M8.hl,ixN_of jl,?_⟩
    rw [vS]
    have M9:=M8.left hp0 L8
    have hT9:NameT (upd H8 ll (.lst (vl.take j++.ref a2 :: vl.drop (j + 1)))) n (.ref t):=hT8.mono (tup_lst M8.hl)
    generalize upd H8 ll (.lst (vl.take j++.ref a2 :: vl.drop (j + 1)))=H9 at M9 hT9 ⊢
    obtain ⟨t9,tp9,vs9,et9,ht9,htp9,hP9⟩:=hT9
    cases et9
    have vl9:vs9.length=n.2.2.length:=(Paired.length hP9).symm
    refine ⟨_,rfl,_,_,rfl,rfl,_,rfl,t,_,_,_,rfl,rfl,SqT.of ht9,atI_nat (j:=2) rfl,tp9,_,rfl,.inr (SqT.of htp9),_,_,rfl,rfl,_,rfl,ite2 (fun z=>?_) (fun z=>?_)⟩
    ·have z:(vs9.length:Int)≤k + 1:=of_decide_eq_true z
     have jt:(vl.take j).length=j:=by rw [List.length_take];omega
     refine ⟨_,rfl,.inl ⟨rfl,_,SqL.of M9.hl⟩,_,rfl,ll,_,_,j,_,rfl,rfl,M9.hl,by omega,by omega,?_,List.getElem?_append_right (by omega) |>.trans (by rw [jt,Nat.sub_self];rfl),?_⟩
     ·rw [List.length_append,List.length_cons,jt,List.length_drop]
      exact (ixN_seq (ixN_of (by omega))).1
     rw [vX]
     have L9:Paired (LeftV H9) (lf.take j++lf.drop (j + 1)) (vl.take j++vl.drop (j + 1)):=by
      have lt:(lf.take j).length=j:=by rw [List.length_take];omega
      have a:=pr_take j M9.lv
      have b:=pr_drop (j + 1) M9.lv
      rw [List.take_left' lt,List.take_left' jt] at a
      rw [drop_mid lt,drop_mid jt] at b
      exact pr_app a b
     refine ⟨ts',wss',ord',vo',_,_,c',_,_,_,?_,rfl,M9.left hp0 L9,p2 (by omega),R7,?_⟩
     ·rw [muE,mu_app]
      omega
     ·rw [mu_app]
      omega
    ·have z:¬ (vs9.length:Int)≤k + 1:=fun y=>z (decide_eq_true y)
     refine ⟨ts',wss',ord',vo',_,_,c',_,_,_,?_,rfl,M9,p1 (by omega),R7,?_⟩
     ·rw [muE,mu_app]
      show mu (lf.take j) + (wt ((n,t),k + 1) + mu (lf.drop (j + 1))) + 1≤_
      have:wt ((n,t),k + 1) + 1=wt ((n,t),k):=by
       unfold wt at wp ⊢
       show ((n.2.2.length:Int) + 1 - (k + 1)).toNat + 1=((n.2.2.length:Int) + 1 - k).toNat
       have wp:1≤((n.2.2.length:Int) + 1 - k).toNat:=wp
       omega
      omega
     ·rw [mu_app]
      show _ + (mu (lf.take j) + (wt ((n,t),k + 1) + mu (lf.drop (j + 1))))≤_
      have:wt ((n,t),k + 1) + 1=wt ((n,t),k):=by
       unfold wt at wp ⊢
       show ((n.2.2.length:Int) + 1 - (k + 1)).toNat + 1=((n.2.2.length:Int) + 1 - k).toNat
       have wp:1≤((n.2.2.length:Int) + 1 - k).toNat:=wp
       omega
      omega
end
end K72
namespace K72
open PySem L2 Md
def spLaw (K:W.Frag):Sp:=fun vs H Q _=>∃ (a:Addr) (ns:List Int),vs=[.ref a]∧SqL K H a (ns.map V.int)∧ns.length≤63∧∀ H',Q (.bl true) H'
theorem nd_pr2:(["pair"]:List Str).Nodup:=by decide +kernel
theorem paired_map {α β γ:Type}{F:β→γ→Prop}(f:α→β) (h:α→γ):∀ {l:List α},(∀ x∈l,F (f x) (h x))→Paired F (l.map f) (l.map h)
 | [],_=>.nil
 | x :: r,z=>.cons (z x List.mem_cons_self) (paired_map f h fun y hy=>z y (List.mem_cons_of_mem _ hy))
theorem kinds_text {rows:List Row}{ord:List Nam}{ts:List Str}{wss:List (List Str)}(g:Good rows) (r:RowsOk ts wss) (tl:ts.length≤600) (run:runW rows [] wss=some (rows,ord)):TextOk (Builtin.Str.glued "\n" (kRows rows++ts)) rows ord (kRows rows++ts) (rows.map kW++wss):=by
 have up:∀ r∈rows,∀ u∈r.2,isWord u=true:=fun r hr u hu=>good_words g u (g.known r hr u hu)
 refine text_ok ?_ ?_ (pr_app (paired_map _ _ fun r hr=>⟨kW_row (g.word r hr) (g.few r hr) (up r hr),kRow_len (word_len (g.word r hr)).2 (g.few r hr) fun u hu=>(word_len (up r hr u hu)).2⟩) r) ?_
 ·intro z
  have:=congrArg List.length z
  have h:=g.ne
  rw [List.length_append] at this
  unfold kRows at this
  rw [List.length_map] at this
  have:rows.length + ts.length=0:=this
  omega
 ·have h:=g.le
  rw [List.length_append]
  unfold kRows
  rw [List.length_map]
  omega
 ·rw [run_app,run_kinds fun r hr=>⟨g.word r hr,up r hr⟩]
  exact run
structure TxtL72 (mg:Str→Option Value):Prop where
 len:mg "len"=none
 list:mg "list"=none
section
variable {P:Program} {w:World} {K:W.Frag} {mg:Str→Option Value} {base:Heap}
abbrev nLaw:List Str:=["script","pot","rows","names","more","order","book","word","places","pairs"]
theorem scLaw:FnScope nLaw ["script"] (defScope s_law):=⟨rfl,rfl,rfl,by decide +kernel,rfl,by decide +kernel,by decide +kernel⟩
set_option maxHeartbeats 16000000 in
theorem ok_law {f C B D fP fR fA fN fX fKR fB fKW fKN fKK fKB fKM fBP fBD fRw:Addr}{fd fdP fdR fdA fdN fdX fdKR fdB fdKW fdKN fdKK fdKB fdKM fdBP fdBD fdRw:FuncData}(F:Def K mg "law" s_law ["script"] f fd) (T:TxtL72 mg) (TD:TxtKn K D) (TB:TxtBd K B) (TC:TxtC K C)
  (DP:Def K mg "_law_pot" s__law_pot ["script","k"] fP fdP) (GP:FnOk P w K mg base CX0 1 fP fdP ["script","k"] (spPot K))
  (DR:Def K mg "_law_rows" s__law_rows ["pot","most"] fR fdR) (GR:FnOk P w K mg base CX0 4 fR fdR ["pot","most"] spRowsL) (DA:Def K mg "_law_above" s__law_above ["rows"] fA fdA) (GA:FnOk P w K mg base CX0 1 fA fdA ["rows"] spLAbove)
  (DN:Def K mg "_law_names" s__law_names pNs fN fdN) (GN:FnOk P w K mg base CX0 4 fN fdN pNs (spNames K)) (DX:Def K mg "_law_mixed" s__law_mixed ["pot","names"] fX fdX) (GX:FnOk P w K mg base CX0 2 fX fdX ["pot","names"] spMix)
  (DK:Def K mg "_law_kind_row" s__law_kind_row ["word","ups"] fKR fdKR) (DB:Def K mg "read_book" s_read_book ["text"] fB fdB) (GB:FnOk P w K mg base CX0 8 fB fdB ["text"] (spRB C B D))
  (MW:MKWords K D fKW fdKW) (GW:FnOk P w K mg base CX0 1 fKW fdKW ["self"] (spKWords C B D)) (MN:MKNames K D fKN fdKN) (GNm:FnOk P w K mg base CX0 2 fKN fdKN ["self"] (spKNames C B D)) (MK:MKKinds K D fKK fdKK) (GK:FnOk P w K mg base CX0 1 fKK fdKK ["self"] (spKKinds C B D))
  (MB:MKBoard K D fKB fdKB) (GBo:FnOk P w K mg base CX0 2 fKB fdKB ["self","word"] (spKBoard C B D)) (MM:MKMakes K D fKM fdKM) (GM:FnOk P w K mg base CX0 2 fKM fdKM ["self","word"] (spKMakes C B D))
  (MBP:MBPlaces K B fBP fdBP) (MBD:MBDeeds K B fBD fdBD) (MR:MDef K C "rows" "Kinds.rows" s_Kinds_rows ["self"] fRw fdRw):
  FnOk P w K mg base CX0 9 f fd ["script"] (spLaw K):=by
 have GBP:FnOk P w K mg base CX0 1 fBP fdBP ["self"] (spBPlaces C B):=ok_bplaces MBP.fn TB
 have GBD:FnOk P w K mg base CX0 1 fBD fdBD ["self"] (spBDeeds C B):=ok_bdeeds MBD.fn TB T.list
 have GRw:FnOk P w K mg base CX0 1 fRw fdRw ["self"] (spRowsOf C):=ok_rowsOf MR.fn TC T.list
 have GKR:FnOk P w K mg base CX0 1 fKR fdKR ["word","ups"] spKRow:=ok_lkrow DK T.len
 refine F.fn.ok scLaw (fun vs H Q E h=>?_) (fun cdv A outer s H vs Q E hr h=>?_)
 ·obtain ⟨a,ns,rfl,_⟩:=h
  rfl
 ·obtain ⟨a,ns,rfl,hS,hlen,q⟩:=h
  have nd:=scLaw.nd
  have hu:=hr.units
  have hr1:Room 1 _:=hr.mono (by decide)
  have hr2:Room 2 _:=hr.mono (by decide)
  have hr4:Room 4 _:=hr.mono (by decide)
  refine' ⟨_,(pS (ps_set (i:=1) nd rfl (Or.inl rfl) (pe_callD DP GP hr1 (pC (pv 0) (pC pe_int pa_nil))))
   (pS (ps_set (i:=2) nd rfl (Or.inl rfl) (pe_callD DR GR hr4 (pC (pv 1) (pC pe_int pa_nil))))
   (pS (ps_set (i:=3) nd rfl (Or.inl rfl) (pe_callD DN GN hr4 (pC (pv 0) (pC pe_int (pC (pv 2) (pC (pe_callD DA GA hr1 (pC (pv 2) pa_nil)) (pC pe_int (pC pe_int (pC pe_int pa_nil)))))))))
   (pS (ps_asg (pe_callD DX GX hr2 (pC (pe_callD DP GP hr1 (pC (pv 0) (pC pe_int pa_nil))) (pC (pv 3) pa_nil))) (pg_tup rfl (gC (pg_name (i:=4) nd rfl (Or.inl rfl)) (gC (pg_name (i:=5) nd rfl (Or.inl rfl)) pgs_nil))))
   (pS (ps_set (i:=6) nd rfl (Or.inl rfl) (pe_callD DB GB hr (pC (pe_bm PySem.F.plainAttrs_str PySem.F.slot_str_join PySem.F.type_str_join mt_join pe_str (pC (pe_op op_cat ?eC (pv 4)) pa_nil)) pa_nil)))
   (pS (ps_if (PW.pt (pw_or (pt_cmpR (op_neD hu) (pe_meth0 (pe_meth0 (pv 6) TD.cl MK.me GK hr1 MK.b .nil pass0) TC.cl MR.me GRw hr1 MR.b .nil pass0) (pv 2) (nomark _)) (pw_or1 (pt_cmpR (op_neD hu) (pe_meth0 (pv 6) TD.cl MW.me GW hr1 MW.b .nil pass0) ?e1 (nomark _))))) (pss_one (ps_ret pe_bl)) pss_nil)
   (pS (ps_for PassesOwn.never rfl (pi_list (pv 5)) (pg_tup rfl (gC (pg_name (i:=7) nd rfl (Or.inl rfl)) (gC (pg_name (i:=8) nd rfl (Or.inl rfl)) (gC (pg_name (i:=9) nd rfl (Or.inl rfl)) pgs_nil))))
    (pS (ps_if (PW.pt (pw_or (pt_cmpR op_ne (pe_meth0 (pe_meth (pv 6) TD.cl MB.me GBo hr2 MB.b .nil pass0 (pC (pv 7) pa_nil)) TB.cl MBP.me GBP hr1 MBP.b .nil pass0) (pv 8) (nomark _)) (pw_or1 (pt_cmpR (op_neD hu) (pe_meth0 (pe_meth (pv 6) TD.cl MB.me GBo hr2 MB.b .nil pass0 (pC (pv 7) pa_nil)) TB.cl MBD.me GBD hr1 MBD.b .nil pass0) ?e2 (nomark _))))) (pss_one (ps_ret pe_bl)) pss_nil)
   (pss_one (ps_if (pt_cmpR (op_neD hu) (pe_meth (pv 6) TD.cl MM.me GM hr2 MM.b .nil pass0 (pC (pv 7) pa_nil)) ?e3 (nomark _)) (pss_one (ps_ret pe_bl)) pss_nil))))
   (pss_one (ps_ret (pe_cmpR (op_eqD hu) (pe_meth0 (pv 6) TD.cl MN.me GNm hr2 MN.b .nil pass0) (pv 5) (nomark _))))))))))),?_⟩
  case eC=>exact (pe_comp ["word","ups"] [] [] (fun _=>compT_ok (osc:=defScope s_law) (on:=nLaw) (by decide +kernel) rfl rfl rfl) (pi_list (pv 2)) (fun C s H fp=>pg_two (K:=K) (i:=0) (j:=1) rfl rfl nd_wu rfl rfl (Or.inl rfl) (Or.inl rfl) (Or.inr rfl) (Or.inr rfl)) (fun C s H fp=>pts_nil) (fun C s H fp=>pe_callD DK GKR hr1 (pC (pv 0) (pC (pv 1) pa_nil))))
  case e1=>exact (pe_comp ["name"] [] [] (fun _=>compT_ok (osc:=defScope s_law) (on:=nLaw) (by decide +kernel) rfl rfl rfl) (pi_list (pv 5)) (fun C s H fp=>pg_name (i:=0) nd_nm2 rfl (Or.inl rfl) (Or.inr rfl)) (fun C s H fp=>pts_nil) (fun C s H fp=>pe_ix (r:=rIxT K) ix_tup (pv 0) pe_int (fun _ _=>rfl)))
  case e2=>exact (pe_comp ["pair"] [] [] (fun _=>compT_ok (osc:=defScope s_law) (on:=nLaw) (by decide +kernel) rfl rfl rfl) (pi_tup (pv 9)) (fun C s H fp=>pg_name (i:=0) nd_pr2 rfl (Or.inl rfl) (Or.inr rfl)) (fun C s H fp=>pts_nil) (fun C s H fp=>pe_ix (r:=rIxT K) ix_tup (pv 0) pe_int (fun _ _=>rfl)))
  case e3=>exact (pe_comp ["pair"] [] [] (fun _=>compT_ok (osc:=defScope s_law) (on:=nLaw) (by decide +kernel) rfl rfl rfl) (pi_tup (pv 9)) (fun C s H fp=>pg_name (i:=0) nd_pr2 rfl (Or.inl rfl) (Or.inr rfl)) (fun C s H fp=>pts_nil) (fun C s H fp=>pe_ix (r:=rIxT K) ix_tup (pv 0) pe_int (fun _ _=>rfl)))
  refine ⟨_,rfl,a,0,ns,rfl,hS,by omega,by decide,by decide,fun p o hp ho=>?_⟩
  have s1:Same H (upd H p o):=snew hp
  have hp1:(upd H p o) p=some o:=uS
  generalize upd H p o=H1 at s1 hp1
  refine ⟨_,rfl,p,24,rfl,⟨o,hp1,ho⟩,by decide,by decide,fun l rows H2 d12 hl hR2 g _=>?_⟩
  have s02:Same H H2:=fun b u e=>d12.keep _ _ (nNo e hp) (s1 _ _ e)
  refine ⟨_,rfl,_,rfl,_,rfl,l,rows,rfl,hR2,g,fun aa avs H3 s23 haa hA=>?_⟩
  have s03:=s02.trans s23
  have hR3:=rowsAt_mono hR2 s23
  refine ⟨a,l,aa,1,8,7,400000,ns,rows,avs,rfl,s03.seq hS,by omega,by decide,hR3,g,haa,hA,by decide,by decide,by decide,fun ln nms us H4 s34 hln hln4 hN4 nm4 nl=>?_⟩
  have gn:GoodNames rows nms:=⟨nl,nm4.each,nm4.nd⟩
  have hR4:=rowsAt_mono hR3 s34
  have s04:=s03.trans s34
  refine ⟨_,rfl,a,10,ns,rfl,s04.seq hS,by omega,by decide,by decide,fun p2 o2 hp2 ho2=>?_⟩
  have s45:Same H4 (upd H4 p2 o2):=snew hp2
  have hp5:(upd H4 p2 o2) p2=some o2:=uS
  generalize upd H4 p2 o2=H5 at s45 hp5
  refine ⟨_,rfl,p2,ln,rows,nms,us,rfl,⟨o2,hp5,ho2⟩,g,s45 _ _ hln4,hN4.mono (tupsS s45),gn,fun t lr lo ts wss ord vo H6 d56 ht hlr hlo hNo gO rO run tl=>?_⟩
  have s46:Same H4 H6:=fun b u e=>d56.keep _ _ (nNo e hp2) (s45 _ _ e)
  have hR6:=rowsAt_mono hR4 s46
  refine ⟨t,_,rfl,SqT.of ht,rfl,_,_,rfl,_,_,rfl,rfl,?_⟩
  obtain ⟨vs,hvs,hP⟩:=id hR6
  have vl:=Paired.length hP
  have gle:=g.le
  have few:=gO.few
  refine ⟨rfl,_,rfl,l,rfl,⟨_,SqL.of hvs⟩,comp_txt (runs_list (xs:=vs)) (by omega) (fun r=>kRowT r.1 r.2) (KPa H6) (rows_pa hP) (fun H' s=>SqL.of (s _ _ hvs)) ?_ fun lk H7 hlk s67 hlk7=>?_⟩
  ·rintro x a b H' R s' hx ⟨rfl,t,rfl,ht⟩ hR
   exact ⟨_,rfl,_,rfl,x.1,t,x.2,rfl,s' _ _ ht,(word_len (g.word x hx)).2,g.few x hx,fun u hu=>wlen g u (g.known x hx u hu),hR⟩
  have kl:(kRows rows).length≤24:=by unfold kRows;rw [List.length_map];exact gle
  refine ⟨_,rfl,lk,lr,_,_,rfl,rfl,hlk7,s67 _ _ hlr,sL (by show ((kRows rows).map V.str).length + _≤_;rw [List.length_map,List.length_map];omega),fun l3 hl3=>?_⟩
  have s78:Same H7 (upd H7 l3 (.lst ((kRows rows).map V.str++ts.map V.str))):=snew hl3
  have h8:(upd H7 l3 (.lst ((kRows rows).map V.str++ts.map V.str))) l3=some (.lst ((kRows rows++ts).map V.str)):=by rw [uS,List.map_append]
  have s68:=s67.trans s78
  have tx:=kinds_text g rO tl run
  have e1:("\n":Str).length=1:=by decide +kernel
  have l100:∀ y∈kRows rows++ts,y.length≤100:=fun y hy=>by
   rcases List.mem_append.mp hy with hy | hy
   ·exact kRows_len g y hy
   ·obtain ⟨i,hi⟩:=List.mem_iff_getElem?.mp hy
    obtain ⟨_,_,z⟩:=paired_get rO hi
    exact z.2
  refine ⟨_,l3,_,100,rfl,rfl,h8,l100,by rw [e1,List.length_append];omega,?_⟩
  refine ⟨_,rows,ord,_,_,rfl,tx,g,gO,fun H9 pb k s89 _ bkz=>?_⟩
  have bk:=bkz.at_
  have s69:=s68.trans s89
  have hlo9:=s69 _ _ hlo
  have hN9:=hNo.mono (tupsS s69)
  have hR9:=rowsAt_mono hR6 s69
  obtain ⟨dx,bo,mo,o9,bvs,mvs,h1,h2,h3,h4,h5,h6⟩:=bk.ex
  obtain ⟨dxk,dk,ak,okk,oak,kvs,avs',hk1,_⟩:=h2.ex
  have okw:W.kqdOk 9 (.list ((ord.map (·.1)).map W.Dat.str))=true:=ok_dat fun x hx=>by
   obtain ⟨n,hn,e⟩:=List.mem_map.mp hx
   rw [← e];exact (gO.each n hn).word
  have okn:=ok_namesD g gO.each
  have okr:=ok_krows g
  refine ⟨_,rfl,pb,dx,_,rfl,h1,no_kkinds _ _ _,pb,k,rows,ord,rfl,bk,k,dxk,_,rfl,hk1,no_rowsM _ _,k,rows,rfl,h2,g,fun lq H10 hlq s910 hR10=>?_⟩
  refine ⟨_,rfl,.list (rows.map kRowD),.list (rows.map kRowD),rep_rows hR10,rep_rows (rowsAt_mono hR9 s910),okr,okr,_,rfl,?_⟩
  rw [dEq_self]
  refine iteF ?_
  refine ⟨_,rfl,pb,dx,_,rfl,s910 _ _ h1,no_kwords _ _ _,pb,k,rows,ord,rfl,bk.mono s910,fun lw hlw=>?_⟩
  have s1011:Same H10 (upd H10 lw (.lst ((ord.map (·.1)).map V.str))):=snew hlw
  have hlw11:(upd H10 lw (.lst ((ord.map (·.1)).map V.str))) lw=some (.lst ((ord.map (·.1)).map V.str)):=uS
  generalize upd H10 lw (.lst ((ord.map (·.1)).map V.str))=H11 at s1011 hlw11
  have s911:=s910.trans s1011
  refine ⟨_,rfl,lo,rfl,⟨_,SqL.of (s911 _ _ hlo9)⟩,names_comp (s911 _ _ hlo9) (hN9.mono (tupsS s911)) (by omega) (fun t tp x m H' R ht hRx=>⟨_,rfl,t,_,_,_,rfl,rfl,SqT.of ht,rfl,hRx⟩) fun lc H12 hlc s1112 hlc12=>?_⟩
  refine ⟨.list ((ord.map (·.1)).map W.Dat.str),.list ((ord.map (·.1)).map W.Dat.str),.list (SqL.of (s1112 _ _ hlw11)) (reps_strs _),.list (SqL.of hlc12) (reps_strs _),okw,okw,_,rfl,?_⟩
  rw [dEq_self]
  refine iteF ?_
  have s912:=s911.trans s1112
  have hlo12:=s912 _ _ hlo9
  refine ⟨_,rfl,lo,rfl,⟨_,SqL.of hlo12⟩,for_runs (runs_list (xs:=vo)) (fun i σ H'=>∃ x7 x8 x9:Option V,σ=[some (.ref a),some (.ref p),some (.ref l),some (.ref ln),some (.ref lr),some (.ref lo),some (.ref pb),x7,x8,x9]∧Same H9 H')
   ⟨none,none,none,rfl,s912⟩ (fun i σ H' _ z=>by obtain ⟨_,_,_,_,s⟩:=z;exact SqL.of (s _ _ hlo9)) ?_ ?_⟩
  ·rintro i v σ H5 hi ⟨x7,x8,x9,rfl,s5⟩
   obtain ⟨n,hn,t,tp,vs,rfl,ht,htp,hP⟩:=paired_at hN9 hi
   have hmem:n∈ord:=List.mem_of_getElem? hn
   have gnn:=gO.each n hmem
   have vl:vs.length≤64:=by
    have a:=Paired.length hP
    have b:=gnn.deeds.few
    rw [List.length_map] at b
    omega
   refine ⟨t,_,rfl,SqT.of (s5 _ _ ht),rfl,_,_,rfl,_,_,rfl,_,_,rfl,rfl,?_⟩
   refine ⟨_,rfl,pb,dx,_,rfl,s5 _ _ h1,no_kboard _ _ _,_,rfl,pb,k,rows,ord,n,rfl,bk.mono s5,gO.nd,hmem,fun yb bd5=>?_⟩
   obtain ⟨dxb,tb,usb,hb1,_⟩:=id bd5.ex
   refine ⟨yb,dxb,_,rfl,hb1,no_bplaces _ _ _,yb,k,rows,n.2.1,_,rfl,bd5,_,rfl,rfl,_,rfl,?_⟩
   rw [decide_eq_true (rfl:V.int (n.2.1:Int)=V.int (n.2.1:Int))]
   refine iteF ?_
   refine ⟨_,rfl,pb,dx,_,rfl,s5 _ _ h1,no_kboard _ _ _,_,rfl,pb,k,rows,ord,n,rfl,bk.mono s5,gO.nd,hmem,fun yb bd6=>?_⟩
   obtain ⟨dxb,tb,usb,hb1,_⟩:=id bd6.ex
   have okd:=ok_dl fun d hd x hx=>good_words g x ((gnn.deeds.call d hd).known x hx)
   have okm:W.kqdOk 9 (.list ((n.2.2.map (·.2)).map W.Dat.str))=true:=ok_dat fun x hx=>by
    obtain ⟨pr,hpr,e⟩:=List.mem_map.mp hx
    rw [← e];exact good_words g _ (gnn.made pr hpr)
   refine ⟨yb,dxb,_,rfl,hb1,no_bdeeds _ _ _,yb,k,rows,n.2.1,_,rfl,bd6,fun ld usd hld hD=>?_⟩
   have s67:Same H5 (upd H5 ld (.lst usd)):=snew hld
   have hld7:(upd H5 ld (.lst usd)) ld=some (.lst usd):=uS
   have hD7:=hD.mono s67
   generalize upd H5 ld (.lst usd)=H7 at s67 hld7 hD7
   have s7:=s5.trans s67
   have htp7:=s7 _ _ htp
   have hP7:PrsV H7 n.2.2 vs:=hP.mono (tupsS s7)
   refine ⟨_,rfl,tp,rfl,⟨_,SqT.of htp7⟩,pair_comp (fsP H7) htp7 hP7 (by omega) (fun t' x y H' R ht' ht'' hR'=>⟨_,rfl,t',_,_,_,rfl,rfl,SqT.of ht'',rfl,by rw [fsP_at ht'] at hR';exact hR'⟩) fun lx H8 hlx s78 hlx8=>?_⟩
   refine ⟨.list ((n.2.2.map (·.1)).map datC),.list ((n.2.2.map (·.1)).map datC),rep_dl (s78 _ _ hld7) (hD7.mono s78),rep_dl hlx8 ((pairs_fst hP7).mono s78),okd,okd,_,rfl,?_⟩
   rw [dEq_self]
   refine iteF ?_
   have s8:=s7.trans s78
   refine ⟨_,rfl,pb,dx,_,rfl,s8 _ _ h1,no_kmakes _ _ _,_,rfl,pb,k,rows,ord,n,rfl,bk.mono s8,gO.nd,hmem,fun lm hlm=>?_⟩
   have s89':Same H8 (upd H8 lm (.lst ((n.2.2.map (·.2)).map V.str))):=snew hlm
   have hlm9:(upd H8 lm (.lst ((n.2.2.map (·.2)).map V.str))) lm=some (.lst ((n.2.2.map (·.2)).map V.str)):=uS
   generalize upd H8 lm (.lst ((n.2.2.map (·.2)).map V.str))=H9' at s89' hlm9
   have s9':=s8.trans s89'
   have htp8:=s9' _ _ htp
   have hP8:PrsV H9' n.2.2 vs:=hP.mono (tupsS s9')
   refine ⟨_,rfl,tp,rfl,⟨_,SqT.of htp8⟩,pair_comp (snP H9') htp8 hP8 (by omega) (fun t' x y H' R ht' ht'' hR'=>⟨_,rfl,t',_,_,_,rfl,rfl,SqT.of ht'',rfl,by rw [snP_at ht'] at hR';exact hR'⟩) fun ly H10' hly s910' hly9=>?_⟩
   rw [pairs_snd hP8] at hly9
   refine ⟨.list ((n.2.2.map (·.2)).map W.Dat.str),.list ((n.2.2.map (·.2)).map W.Dat.str),.list (SqL.of (s910' _ _ hlm9)) (reps_strs _),.list (SqL.of hly9) (reps_strs _),okm,okm,_,rfl,?_⟩
   rw [dEq_self]
   exact iteF ⟨_,_,_,rfl,s9'.trans s910'⟩
  ·rintro σ H5 ⟨x7,x8,x9,rfl,s5⟩
   refine ⟨_,rfl,pb,dx,_,rfl,s5 _ _ h1,no_knames _ _ _,pb,k,rows,ord,rfl,bk.mono s5,gO,fun lf fs H6 hlf s56 hlf6 hN6=>?_⟩
   have s6:=s5.trans s56
   refine ⟨_,rfl,.list (ord.map nameD),.list (ord.map nameD),.list (SqL.of hlf6) (reps_names hN6),.list (SqL.of (s6 _ _ hlo9)) (reps_names (hN9.mono (tupsS s6))),okn,okn,?_⟩
   rw [dEq_self]
   exact q _
end
end K72
namespace K72
open PySem L2
theorem md {K:W.Frag}{C:Addr}{m q:Str}{st:Stmt}{ps:List Str}{f:Addr}{fd:FuncData}(T:Mp K C m q st f fd) (b:Binds K fd ps []):MDef K C m q st ps f fd:=⟨T.fn,b,T.a,T.i,T.fn.kp⟩
def tq:=@tp
set_option maxHeartbeats 4000000 in
theorem all_mk {l:W.OpenLaw}{w:World}{K:W.Frag}{h:Heap}{mg:Str→Option Value}{fa C B D f_mI f_mH f_mR f_bI f_bP f_bD f_kI f_kC f_kK f_kW f_kB f_kM f_kN f_w f_cr f_cu f_fa f_en f_fr f_aa f_P f_T f_Le f_W f_Ws f_U f_R f_A f_ic f_cd f_de f_pl f_ch f_pa f_ns f_cm f_aw f_fk f_fn f_fd f_ko f_no f_do f_f1 f_td f_tr f_rb f_lk f_ld f_mx f_L:Addr}{d_mI d_mH d_mR d_bI d_bP d_bD d_kI d_kC d_kK d_kW d_kB d_kM d_kN d_w d_cr d_cu d_fa d_en d_fr d_aa d_P d_T d_Le d_W d_Ws d_U d_R d_A d_ic d_cd d_de d_pl d_ch d_pa d_ns d_cm d_aw d_fk d_fn d_fd d_ko d_no d_do d_f1 d_td d_tr d_rb d_lk d_ld d_mx d_L:FuncData}(X:K.In h) (G:h.Ns mainGlobals mg) (hfa:mg "law"=some (.ref fa))
  {T_LETTERS T_MOST_LETTERS T_MOST_KINDS T_MOST_UPS T_MOST_PLACES T_MOST_DEEDS T_MOST_NAMES:Tok}
  (TC:Cp K "Kinds" C)
  (TB:Cp K "Board" B)
  (TD:Cp K "Book" D)
  (T_mI:Mp K C "__init__" "Kinds.__init__" s_Kinds___init__ f_mI d_mI)
  (T_mH:Mp K C "has" "Kinds.has" s_Kinds_has f_mH d_mH)
  (T_mR:Mp K C "rows" "Kinds.rows" s_Kinds_rows f_mR d_mR)
  (T_bI:Mp K B "__init__" "Board.__init__" s_Board___init__ f_bI d_bI)
  (T_bP:Mp K B "places" "Board.places" s_Board_places f_bP d_bP)
  (T_bD:Mp K B "deeds" "Board.deeds" s_Board_deeds f_bD d_bD)
  (T_kI:Mp K D "__init__" "Book.__init__" s_Book___init__ f_kI d_kI)
  (T_kC:Mp K D "check_name" "Book.check_name" s_Book_check_name f_kC d_kC)
  (T_kK:Mp K D "kinds" "Book.kinds" s_Book_kinds f_kK d_kK)
  (T_kW:Mp K D "words" "Book.words" s_Book_words f_kW d_kW)
  (T_kB:Mp K D "board" "Book.board" s_Book_board f_kB d_kB)
  (T_kM:Mp K D "makes" "Book.makes" s_Book_makes f_kM d_kM)
  (T_kN:Mp K D "names" "Book.names" s_Book_names f_kN d_kN)
  (T_w:Tp K "is_word" s_is_word f_w d_w)
  (T_cr:Tp K "check_rows" s_check_rows f_cr d_cr)
  (T_cu:Tp K "check_ups" s_check_ups f_cu d_cu)
  (T_fa:Tp K "first_among" s_first_among f_fa d_fa)
  (T_en:Tp K "endless" s_endless f_en d_en)
  (T_fr:Tp K "find_ring" s_find_ring f_fr d_fr)
  (T_aa:Tp K "all_above" s_all_above f_aa d_aa)
  (T_P:Tp K "_law_pot" s__law_pot f_P d_P)
  (T_T:Tp K "_law_take" s__law_take f_T d_T)
  (T_Le:Tp K "_law_letters" s__law_letters f_Le d_Le)
  (T_W:Tp K "_law_word" s__law_word f_W d_W)
  (T_Ws:Tp K "_law_words" s__law_words f_Ws d_Ws)
  (T_U:Tp K "_law_ups" s__law_ups f_U d_U)
  (T_R:Tp K "_law_rows" s__law_rows f_R d_R)
  (T_A:Tp K "_law_above" s__law_above f_A d_A)
  (T_ic:Tp K "is_call" s_is_call f_ic d_ic)
  (T_cd:Tp K "check_deeds" s_check_deeds f_cd d_cd)
  (T_de:Tp K "_law_deeds" s__law_deeds f_de d_de)
  (T_pl:Tp K "_law_places" s__law_places f_pl d_pl)
  (T_ch:Tp K "_law_chain" s__law_chain f_ch d_ch)
  (T_pa:Tp K "_law_pairs" s__law_pairs f_pa d_pa)
  (T_ns:Tp K "_law_names" s__law_names f_ns d_ns)
  (T_cm:Tp K "check_makes" s_check_makes f_cm d_cm)
  (T_aw:Tp K "are_words" s_are_words f_aw d_aw)
  (T_fk:Tp K "is_kind_row" s_is_kind_row f_fk d_fk)
  (T_fn:Tp K "is_name_row" s_is_name_row f_fn d_fn)
  (T_fd:Tp K "is_deed_row" s_is_deed_row f_fd d_fd)
  (T_ko:Tp K "kind_of" s_kind_of f_ko d_ko)
  (T_no:Tp K "name_of" s_name_of f_no d_no)
  (T_do:Tp K "deed_of" s_deed_of f_do d_do)
  (T_f1:Tp K "first_named" s_first_named f_f1 d_f1)
  (T_td:Tp K "take_deed" s_take_deed f_td d_td)
  (T_tr:Tp K "take_row" s_take_row f_tr d_tr)
  (T_rb:Tp K "read_book" s_read_book f_rb d_rb)
  (T_lk:Tp K "_law_kind_row" s__law_kind_row f_lk d_lk)
  (T_ld:Tp K "_law_deed_row" s__law_deed_row f_ld d_ld)
  (T_mx:Tp K "_law_mixed" s__law_mixed f_mx d_mx)
  (T_L:Tp K "law" s_law f_L d_L)
  (n_ups_of:W.findIn K (.ref C) "ups_of"=some none)
  (n_above_of:W.findIn K (.ref C) "above_of"=some none)
  (n_book_B:W.findIn K (.ref B) "book"=some none)
  (n_width_B:W.findIn K (.ref B) "width"=some none)
  (n_stands_B:W.findIn K (.ref B) "stands"=some none)
  (n_has_B:W.findIn K (.ref B) "has"=some none)
  (n_book_D:W.findIn K (.ref D) "book"=some none)
  (n_board_of_D:W.findIn K (.ref D) "board_of"=some none)
  (n_made_of_D:W.findIn K (.ref D) "made_of"=some none)
  (n_has_D:W.findIn K (.ref D) "has"=some none)
  (n_deeds_D:W.findIn K (.ref D) "deeds"=some none)
  (g_FG:W.nsIn K mainGlobals "FIGURES"=some (some (.ref FG)))
  (l_FG:K.lookup FG=some { cls:=.type "tuple",dict:=dd_FG,data:=.seq #[.str "1" t1_FG,.str "2" t2_FG,.str "3" t3_FG,.str "4" t4_FG] n_FG,slots:=sl_FG })
  (g_LETTERS:W.nsIn K mainGlobals "LETTERS"=some (some (.str Md.letters T_LETTERS)))
  (g_MOST_LETTERS:W.nsIn K mainGlobals "MOST_LETTERS"=some (some (.int 8 T_MOST_LETTERS)))
  (g_MOST_KINDS:W.nsIn K mainGlobals "MOST_KINDS"=some (some (.int 24 T_MOST_KINDS)))
  (g_MOST_UPS:W.nsIn K mainGlobals "MOST_UPS"=some (some (.int 8 T_MOST_UPS)))
  (g_MOST_PLACES:W.nsIn K mainGlobals "MOST_PLACES"=some (some (.int 4 T_MOST_PLACES)))
  (g_MOST_DEEDS:W.nsIn K mainGlobals "MOST_DEEDS"=some (some (.int 64 T_MOST_DEEDS)))
  (g_MOST_NAMES:W.nsIn K mainGlobals "MOST_NAMES"=some (some (.int 8 T_MOST_NAMES)))
  (z_len:W.nsIn K mainGlobals "len"=some none)
  (z_all:W.nsIn K mainGlobals "all"=some none)
  (z_list:W.nsIn K mainGlobals "list"=some none)
  (z_tuple:W.nsIn K mainGlobals "tuple"=some none)
  (z_range:W.nsIn K mainGlobals "range"=some none)
  (z_int:W.nsIn K mainGlobals "int"=some none)
  (z_str:W.nsIn K mainGlobals "str"=some none)
  (z_enumerate:W.nsIn K mainGlobals "enumerate"=some none)
  (z_zip:W.nsIn K mainGlobals "zip"=some none)
  : ∃ fd:FuncData,(∀ (s:Shared) (v:Value),BindsTo s fd ⟨[v],[]⟩ [("script",v)])∧∀ base:Heap,K.In base→base.Ns mainGlobals mg→FnOk l.prog w K mg base CX0 9 fa fd ["script"] (spLaw K):=by
 have e:=hfa.symm.trans (W.mg_of X G T_L.a)
 cases e
 obtain ⟨_,_,_,_,_,_,rfl⟩:=Tp.ex T_L.fn
 have mgC_LETTERS:=W.mg_of X G g_LETTERS
 have mgC_MOST_LETTERS:=W.mg_of X G g_MOST_LETTERS
 have mgC_MOST_KINDS:=W.mg_of X G g_MOST_KINDS
 have mgC_MOST_UPS:=W.mg_of X G g_MOST_UPS
 have mgC_MOST_PLACES:=W.mg_of X G g_MOST_PLACES
 have mgC_MOST_DEEDS:=W.mg_of X G g_MOST_DEEDS
 have mgC_MOST_NAMES:=W.mg_of X G g_MOST_NAMES
 have mgN_len:=W.mg_none_of X G z_len
 have mgN_all:=W.mg_none_of X G z_all
 have mgN_list:=W.mg_none_of X G z_list
 have mgN_tuple:=W.mg_none_of X G z_tuple
 have mgN_range:=W.mg_none_of X G z_range
 have mgN_int:=W.mg_none_of X G z_int
 have mgN_str:=W.mg_none_of X G z_str
 have mgN_enumerate:=W.mg_none_of X G z_enumerate
 have mgN_zip:=W.mg_none_of X G z_zip
 obtain ⟨aC,pg,hd,po,sa,mk,kc⟩:=TC
 have mgC:=W.mg_of X G aC
 have M:Mk K C f_mI:=⟨mk,T_mI.a,T_mI.i,kc⟩
 obtain ⟨aB,pg_B,hd_B,po_B,sa_B,mk_B,kc_B⟩:=TB
 have mgB:=W.mg_of X G aB
 have M_B:Mk K B f_bI:=⟨mk_B,T_bI.a,T_bI.i,kc_B⟩
 obtain ⟨aD,pg_D,hd_D,po_D,sa_D,mk_D,kc_D⟩:=TD
 have mgD:=W.mg_of X G aD
 have M_D:Mk K D f_kI:=⟨mk_D,T_kI.a,T_kI.i,kc_D⟩
 have F_mI:=T_mI.fn
 have b_mI:=bn2 "self" "rows" T_mI.fn
 have a_mH:=T_mH.a
 have M_mH:=md T_mH (bn2 "self" "word" T_mH.fn)
 have M_mR:=md T_mR (bn1 "self" T_mR.fn)
 have F_bI:=T_bI.fn
 have b_bI:=bn4 "self" "kinds" "places" "deeds" T_bI.fn
 have M_bP:=md T_bP (bn1 "self" T_bP.fn)
 have a_bD:=T_bD.a
 have M_bD:=md T_bD (bn1 "self" T_bD.fn)
 have F_kI:=T_kI.fn
 have b_kI:=bn3 "self" "kinds" "names" T_kI.fn
 have M_kC:=md T_kC (bn2 "self" "word" T_kC.fn)
 have M_kK:=md T_kK (bn1 "self" T_kK.fn)
 have M_kW:=md T_kW (bn1 "self" T_kW.fn)
 have M_kB:=md T_kB (bn2 "self" "word" T_kB.fn)
 have M_kM:=md T_kM (bn2 "self" "word" T_kM.fn)
 have M_kN:=md T_kN (bn1 "self" T_kN.fn)
 have D_w:=df X G T_w (bn1 "text" T_w.fn)
 have D_cr:=df X G T_cr (bn1 "rows" T_cr.fn)
 have D_cu:=df X G T_cu (bn1 "ups_of" T_cu.fn)
 have D_fa:=df X G T_fa (bn2 "words" "others" T_fa.fn)
 have D_en:=df X G T_en (bn1 "ups_of" T_en.fn)
 have D_fr:=df X G T_fr (bn1 "ups_of" T_fr.fn)
 have D_aa:=df X G T_aa (bn2 "ups_of" "word" T_aa.fn)
 have D_P:=df X G T_P (bn2 "script" "k" T_P.fn)
 have D_T:=df X G T_T (bn2 "pot" "many" T_T.fn)
 have D_Le:=df X G T_Le (bn1 "number" T_Le.fn)
 have D_W:=df X G T_W (bn2 "pot" "words" T_W.fn)
 have D_Ws:=df X G T_Ws (bn2 "pot" "many" T_Ws.fn)
 have D_U:=df X G T_U (bn3 "pot" "k" "shape" T_U.fn)
 have D_R:=df X G T_R (bn2 "pot" "most" T_R.fn)
 have D_A:=df X G T_A (bn1 "rows" T_A.fn)
 have D_ic:=df X G T_ic (bn3 "kinds" "places" "call" T_ic.fn)
 have D_cd:=df X G T_cd (bn3 "kinds" "places" "deeds" T_cd.fn)
 have D_de:=df X G T_de (bn5 "pot" "rows" "above" "places" "most" T_de.fn)
 have D_pl:=df X G T_pl (bn3 "pot" "many" "most" T_pl.fn)
 have D_ch:=df X G T_ch (bn4 "pot" "above" "call" "most" T_ch.fn)
 have D_pa:=df X G T_pa (bn5 "pot" "rows" "above" "places" "most" T_pa.fn)
 have D_ns:=df X G T_ns (bn7 "script" "at" "rows" "above" "most" "few" "calls" T_ns.fn)
 have D_cm:=df X G T_cm (bn2 "kinds" "makes" T_cm.fn)
 have D_aw:=df X G T_aw (bn1 "texts" T_aw.fn)
 have D_fk:=df X G T_fk (bn1 "words" T_fk.fn)
 have D_fn:=df X G T_fn (bn1 "words" T_fn.fn)
 have D_fd:=df X G T_fd (bn1 "words" T_fd.fn)
 have D_ko:=df X G T_ko (bn1 "words" T_ko.fn)
 have D_no:=df X G T_no (bn1 "words" T_no.fn)
 have D_do:=df X G T_do (bn1 "words" T_do.fn)
 have D_f1:=df X G T_f1 (bn2 "names" "word" T_f1.fn)
 have D_td:=df X G T_td (bn2 "names" "words" T_td.fn)
 have D_tr:=df X G T_tr (bn3 "rows" "names" "words" T_tr.fn)
 have D_rb:=df X G T_rb (bn1 "text" T_rb.fn)
 have D_lk:=df X G T_lk (bn2 "word" "ups" T_lk.fn)
 have D_ld:=df X G T_ld (bn3 "word" "deed" "made" T_ld.fn)
 have D_mx:=df X G T_mx (bn2 "pot" "names" T_mx.fn)
 have D_L:=df X G T_L (bn1 "script" T_L.fn)
 have TK:TxtK mg:=⟨⟨_,mgC_LETTERS⟩,⟨_,mgC_MOST_LETTERS⟩,⟨_,mgC_MOST_KINDS⟩,⟨_,mgC_MOST_UPS⟩,mgN_len,mgN_all,mgN_list,mgN_tuple⟩
 have TR:TxtR mg:=⟨mgN_range,mgN_int,mgN_len,mgN_tuple,mgN_list⟩
 have TC:TxtC K C:=⟨⟨pg,hd,po,sa⟩,n_ups_of,n_above_of⟩
 have TBd:TxtBd K B:=⟨⟨pg_B,hd_B,po_B,sa_B⟩,n_book_B,n_width_B,n_stands_B⟩
 have TBm:TxtBm mg:=⟨⟨_,mgC_MOST_PLACES⟩,⟨_,mgC_MOST_DEEDS⟩,mgN_len,mgN_all,mgN_tuple,mgN_list,mgN_enumerate⟩
 have hBC:B≠C:=fun z=>by rw [z,a_mH] at n_has_B;cases n_has_B
 have TKn:TxtKn K D:=⟨⟨pg_D,hd_D,po_D,sa_D⟩,n_book_D,n_board_of_D,n_made_of_D⟩
 have hDC:D≠C:=fun z=>by rw [z,a_mH] at n_has_D;cases n_has_D
 have hDB:D≠B:=fun z=>by rw [z,a_bD] at n_deeds_D;cases n_deeds_D
 have TDd:TxtD mg:=⟨mgN_len,mgN_range,mgN_tuple⟩
 have TFG:FigT K mg:=⟨FG,W.mg_of X G g_FG,fun H=>.inr ⟨_,_,_,l_FG,rfl,rfl,sL (by show 4≤100000;decide),.cons ⟨_,rfl⟩ (.cons ⟨_,rfl⟩ (.cons ⟨_,rfl⟩ (.cons ⟨_,rfl⟩ .nil)))⟩⟩
 exact ⟨_,fun s v=>.of_eq rfl,fun base _ _=>have GI:=ok_init (P:=l.prog) (w:=w) (base:=base) F_mI TK TC D_cr D_w D_cu D_fr D_en D_fa D_aa;have GB:=ok_binit (P:=l.prog) (w:=w) (base:=base) F_bI TBm TBd TC D_cd D_ic M_mH hBC;have GP:=ok_pot (P:=l.prog) (w:=w) (base:=base) D_P mgN_len;have GT:=ok_take (P:=l.prog) (w:=w) (base:=base) D_T;have GR:=ok_rowsL (P:=l.prog) (w:=w) (base:=base) D_R D_T D_U D_Ws D_W D_Le TR;have GW:=ok_word (P:=l.prog) (w:=w) (base:=base) D_W D_T D_Le mgN_len;have GLA:=ok_labove (P:=l.prog) (w:=w) (base:=base) D_A mgN_len;have GDe:=ok_deedsD (P:=l.prog) (w:=w) (base:=base) D_de D_T TDd;have GPl:=ok_places D_pl D_T GT;have GCh:=ok_chain D_ch TDd D_T GT;have GPa:=ok_pairs D_pa TDd D_T GT D_de GDe D_ch GCh;have GNs:=ok_names D_ns TDd D_P GP D_T GT D_W GW D_pl GPl D_pa GPa;have GKI:=ok_kinit F_kI TK ⟨_,mgC_MOST_NAMES⟩ TKn hDC hDB D_w M_B mgB b_bI GB D_cm (ok_cmakes D_cm TC M_mH);have GIW:=ok_isword D_w TK;have GAW:=ok_arewords D_aw mgN_all D_w GIW;have GFK:=ok_kindrow D_fk mgN_len D_aw GAW;have GFN:=ok_namerow D_fn mgN_len TFG D_w GIW;have GFD:=ok_deedrow D_fd mgN_len D_aw GAW;have GKO:=ok_kindof D_ko;have GNO:=ok_nameof D_no mgN_int;have GDO:=ok_deedof D_do mgN_tuple;have GF1:=ok_firstnamed D_f1;have GTD:=ok_takedeed D_td mgN_len D_f1 GF1 D_do GDO;have GTR:=ok_takerow D_tr mgN_len D_fk GFK D_ko GKO D_fn GFN D_no GNO D_fd GFD D_td GTD;have GRB:=ok_readbook D_rb mgN_enumerate D_tr GTR M mgC b_mI GI M_D mgD b_kI GKI;have GKN:=ok_knames (C:=C) M_kN.fn TKn TBd M_bP M_bD mgN_list mgN_tuple mgN_zip;have GMx:=ok_mixed D_mx ⟨mgN_len,mgN_str⟩ D_T GT D_ld;ok_law D_L ⟨mgN_len,mgN_list⟩ TKn TBd TC D_P GP D_R GR D_A GLA D_ns GNs D_mx GMx D_lk D_rb GRB M_kW (ok_kwords M_kW.fn TKn mgN_list) M_kN GKN M_kK (ok_kkinds M_kK.fn TKn) M_kB (ok_kboard M_kB.fn TKn M_kC) M_kM (ok_kmakes M_kM.fn TKn M_kC mgN_list) M_bP M_bD M_mR⟩
theorem walk {l:W.OpenLaw}{q:Program}{loose:List Str}{XP:(Str→Option Value)→Heap→Prop}{YP:World→Heap→Prop}{d:DefRec}{K:Params→W.Frag}(hn:l.most=some 63) (hdf:d.params.defaults=[])
  (hY:∀ (w:World) (h:Heap),YP w h→(K w.params).In h)
  (F:∀ (w:World) (mg:Str→Option Value) (fa:Addr) (h:Heap),(K w.params).In h→h.Ns mainGlobals mg→mg d.name=some (.ref fa) →
   ∃ fd:FuncData,(∀ (s:Shared) (u:Value),BindsTo s fd ⟨[u],[]⟩ [("script",u)])∧∀ base:Heap,(K w.params).In base→base.Ns mainGlobals mg→FnOk l.prog w (K w.params) mg base CX0 9 fa fd ["script"] (spLaw (K w.params))):
  W.WalkO q loose XP YP l.row.toRowW d [] (fun f vs=>PySem.call f vs):=
 L2.walk_of (n:=63) (k:=9) (x:="script") (CX:=fun _=>CX0) (sp:=fun w=>spLaw (K w.params)) hn (by decide) hdf ⟨rfl,by decide,by decide,rfl⟩ hY F (fun _ _ a ns hl _ hS=>⟨a,ns,rfl,hS,hl,fun _=>rfl⟩) fun _ _ _ _ _ z=>z
end K72
namespace PySem.W.Fast
def tw1864838182396022740:=0
def tw10055383572376319721:=0
def tw15204691731464925654:=0
def tw8346391625553556066:=0
def tw13633229154860264581:=0
def tw6483456292580565433:=0
def tw11491729672453702267:=0
def tw17782598244906778321:=0
def tw15949774267110377692:=0
def tw5788438175143067719:=0
def tw15175200806023837733:=0
def tw7585195811631786859:=0
def tw8871103815434005304:=0
def tw13816620209596973550:=0
def tw10125651035778086999:=0
def tw2077384792076641333:=0
def tw11086522701424865216:=0
def tw3654882776008417285:=0
def tw4002024370291764592:=0
def tw5900693865102962189:=0
def tw16241739839283052887:=0
def tw7442348744413252832:=0
def tw16777376829839467888:=0
def tw10431889526834119930:=0
def tw14509256025899991004:=0
def tw5468830516435453157:=0
def tw11861890730564767360:=0
def tw4443654405371448626:=0
def tw10091026030514057103:=0
def tw12947487504557055852:=0
def tw2596422870487358484:=0
def tw17473168779992422748:=0
def tw13903911888790880755:=0
def tw2146026667289279555:=0
def tw15562716728028649186:=0
def tw10304268067008965566:=0
def tw16834133649704748445:=0
def tw17066311876422545621:=0
def tw12681904158967475136:=0
def tw6445532091389114056:=0
def tw13920001646561924277:=0
def tw173478869755824418:=0
def tw17613776083446694572:=0
def tw7373788098324214615:=0
def tw14599857927616976755:=0
def tw4249121176176212390:=0
def tw18108889175954851017:=0
def tw2198151426724196380:=0
def tw3821142242080101559:=0
def tw10492442194128366054:=0
def tw9696890862959956793:=0
def tw8810053638749588909:=0
def tw16663553459722995308:=0
def tw11196348334319486215:=0
def tw12171943055723934484:=0
def tw7028259489037467424:=0
def tw5035484304330128919:=0
def tw17792136944143760026:=0
def tw16149457828239489478:=0
def tw12815307502579075773:=0
def tw2082815332982959043:=0
def tw8497218571519508791:=0
def tw6121090885884543268:=0
def tw1222574927092518743:=0
def tw14259968162224372467:=0
def tw9120827578019163476:=0
def tw602208659992133750:=0
def tw7430879816985290336:=0
def tw6839115115540761350:=0
def tw7782277153724892509:=0
def tw14573420790562184588:=0
def tw8525196932193496254:=0
def tw16931038505749596770:=0
def tw15905668313831128246:=0
def tw5635507999899946323:=0
def tw8380718706879541601:=0
def tw18286613966676394338:=0
def tw16334477768585293175:=0
def tw11442147040751481712:=0
def tw18313671030803851238:=0
def tw8854539277769162268:=0
def tw9334118915158346442:=0
def tw6772183362026877971:=0
def tw844613430973644398:=0
def tw1821435842181096706:=0
def tw14624812213244682982:=0
def tw17503049097357446365:=0
def tw8658573047633036375:=0
def tw1926734979144228632:=0
def tw4220720868333824164:=0
def tw5949830372134413696:=0
def tw675543647278115239:=0
def tw14690756358502948609:=0
def tw4879517547668175221:=0
def tw4538659953691725670:=0
def tw13452840869389787163:=0
def tw3994038512589111246:=0
def tw3761531113942965071:=0
def tw3448339440299806445:=0
def tw4039775528443154807:=0
def tw5869497145102032294:=0
def tw7487815147125322270:=0
def tw15108917152297802126:=0
def tw4078999625120331186:=0
def tw2588085729997194658:=0
def tw1509281243840344982:=0
def tw7579392025578219428:=0
def tw18365356464082882395:=0
def tw896706748876407915:=0
def tw6272597159221831645:=0
def tw13918137502770089653:=0
def tw17307707885255561919:=0
def tw11788703364718193381:=0
def tw4754601018259086048:=0
def tw6301373945520090889:=0
def tw13342615491200126137:=0
def tw8919912514618484826:=0
def tw6701393415153090788:=0
def tw16226574933008787595:=0
def tw166559354850214066:=0
def tw16756752829711316347:=0
def tw4464467572906621720:=0
def tw285207214181983838:=0
def tw17177864134906092456:=0
def tw13293715870148356090:=0
def tw10941840005903854367:=0
def tw15192969080885955075:=0
def tw1905143866473259604:=0
def tw9320595347416984893:=0
def tw12133300903875567396:=0
def tw16175614598999694957:=0
def tw9815397835171453872:=0
def tw320586391142114528:=0
def tw647583397017885154:=0
def tw4528052731493963588:=0
def tw7398409322637939439:=0
def tw2148231571621789350:=0
def tw9910807605413863667:=0
def tw1213579770554603901:=0
def tw9084622809407885163:=0
def tw2527722834446758953:=0
def tw17182130989862383650:=0
def tw4622952203754434078:=0
def tw5515534913064710230:=0
def tw576363591401063967:=0
def tw10414846291437150889:=0
def tw17876566814256567625:=0
def tw5544759861824044883:=0
def tw13083074795654457041:=0
def tw10156109822814509753:=0
def tw17322737622715224474:=0
def tw18200186023706223477:=0
def tw16658690887727594011:=0
def tw5784147775442886267:=0
def tw10775165804899441106:=0
def tw3758905089756477429:=0
def tw3751212056712623941:=0
def tw16912860973233220653:=0
def tw12851369913113353492:=0
def tw2865523014338464176:=0
def tw609193655116791662:=0
def tw6857386004798439731:=0
def tw12030176994396075343:=0
def tw10842836387713470239:=0
def tw7328637772826060823:=0
def tw16790511701557540116:=0
def tw10311037500712200589:=0
def tw15132507939191715360:=0
def tw9950438102961866987:=0
def tw17366723161943655018:=0
def tw1829274415640609223:=0
def tw16407449291926479000:=0
def tw16111295558399223722:=0
def tw11730095332205934276:=0
def tw12823614975279109335:=0
def tw14171475162814249876:=0
def tw4652165259040881957:=0
def tw808147546648918648:=0
def tw3377785090695232042:=0
def tw2911717655215661677:=0
def tw14348471783930905078:=0
def tw12784113430569941129:=0
def tw12692873221406738468:=0
def tw4539499427751858237:=0
def tw17435798443137339563:=0
def tw10146859797974547257:=0
def tw16096788118200994341:=0
def tw6255003989499453571:=0
def tw18176244348999766097:=0
def tw15670096522292245668:=0
def tw12564917145879153212:=0
def tw13513485300283398888:=0
def tw955561770988645423:=0
def tw7590979708945953253:=0
def tw5585435599581445807:=0
def tw14031614645479702215:=0
def tw15976068565762012834:=0
def tw17812325041419535130:=0
def tw18148904549812184110:=0
def tw4268469601379230700:=0
def tw482236328428401569:=0
def tw3873497012697972243:=0
def tw1328819739652180440:=0
def tw8600946162174739991:=0
def tw2276261391021224721:=0
def tw18348400099038048795:=0
def tw15770016852774873483:=0
def tw13183663430137597869:=0
def tw13831067340156164205:=0
def tw3193933150068624532:=0
def tw8364787212140581734:=0
def tw7890567448708891165:=0
def tw7404430694831200074:=0
def tw17444029488944618808:=0
def tw16721983614146909872:=0
def tw15078519559780293436:=0
def tw13360356578860607566:=0
def tw12252992815027580262:=0
def tw9160801526894420594:=0
def tw18024162710459267800:=0
def tw6761234585377001822:=0
def tw10308456735753849944:=0
def tw12824387363797727117:=0
def tw635742491812241798:=0
def tw18017456089608624517:=0
def tw10974913331271802607:=0
def tw13744718616166441700:=0
def tw14254517601500386410:=0
def tw13166515465043356248:=0
def tw7715084091967916917:=0
def tw14538272621022131849:=0
def tw3628598394880767537:=0
def tw2665863939497902968:=0
def tw7826739843308875559:=0
def tw8036799619120545818:=0
def tw857418866012224036:=0
def tw7098306269108995664:=0
def tw12433787388689053853:=0
def tw5641434518716615264:=0
def tw2919689956634495428:=0
def tw11990807545530673607:=0
def tw12903147368155818851:=0
def tw12408751154273538650:=0
def tw17808328561673584402:=0
def tw16527438790761777475:=0
def tw5141202676732986581:=0
def tw3900664859844808226:=0
def tw359628235990133893:=0
def tw12916120530280055157:=0
def tw4479697246218313655:=0
def tw3989400453391731411:=0
def tw5805800352361364839:=0
def tw8340147817516024660:=0
def tw990759835688135273:=0
def tw11688351044032141737:=0
def tw4088039006921563571:=0
def tw18302251705113041154:=0
def tw9047611643764390711:=0
def tw13666376334758428859:=0
def tw14611096166696652849:=0
def tw16834128377155904528:=0
def tw9404863529443082690:=0
def tw14111297261146250393:=0
def tw9830494888133056698:=0
def tw9342556318392287744:=0
def tw2157706446270158091:=0
def tw1266527641964659930:=0
def tw3699274019837604515:=0
def tw4682201360460401263:=0
def tw3032366663030375876:=0
def tw17317677906931305468:=0
def tw15712611425407212973:=0
def tw12152747560237557835:=0
def tw3724622675542829560:=0
def tw6196150124530469482:=0
def tw15263645754762685730:=0
def tw6735197958313637454:=0
def tw6059115673433896151:=0
def tw5595732970860063234:=0
def tw11773219335883587477:=0
def tw6520967104151731876:=0
def tw16589128924803557178:=0
def tw15173295454163326347:=0
def tw139794768662291789:=0
def tw1895829527622030590:=0
def tw5533665238965212956:=0
def tw17587455593097359134:=0
def tw1886951187086885938:=0
def tw10986004971346784467:=0
def tw11109990334050295377:=0
def tw6084351084106527631:=0
def tw15279511101775752463:=0
def tw838456635437792800:=0
def tw2309200257202285203:=0
def tw3489454435557106180:=0
def tw7479087704023978551:=0
def tw17561350152154066583:=0
def tw13513907170026901627:=0
def tw803238278057595465:=0
def tw4017952341343638229:=0
def tw17023897043305334704:=0
def tw16981448449630144973:=0
def tw11721603424099095661:=0
def tw6933296048084589660:=0
def tw1771309632396675537:=0
def tw11660842335445388779:=0
def tw1467035343303187546:=0
def tw782037055647034037:=0
def tw2819334421571766720:=0
def tw12379874818902923745:=0
def tw17071189666624225378:=0
def tw802671967123789664:=0
def tw4529576591961100364:=0
def tw15188649701985271330:=0
def tw12994170130309258968:=0
def tw4964877736496097635:=0
def tw3201255288670724257:=0
def tw16415486270061452940:=0
def tw11758868255864369754:=0
def tw11568214909953200679:=0
def tw1055208282471128857:=0
def tw12948291842983532030:=0
def tw12652882235962825121:=0
def tw7239311444676900320:=0
def tw3770481914328353183:=0
def tw16463985721974460523:=0
def tw3544810604285360754:=0
def tw16754465931554799741:=0
def tw4907134011352887150:=0
def tw16795633262662844723:=0
def tw18391015324363233546:=0
def tw158826702232997946:=0
def tw6838667211222085980:=0
def tw2176150786166727977:=0
def tw16015794260695155612:=0
def tw11449564158803234239:=0
def tw638400956794443677:=0
def tw7142245467991464932:=0
def tw13153352506228744489:=0
def tw11477891876113657195:=0
def tw6467151697739234411:=0
def tw7987939401705742166:=0
def tw7825433976776701277:=0
def tw3824905056715752246:=0
def tw17648904235828801285:=0
def tw17646942312856428726:=0
def tw12004943527180508806:=0
def tw3869378172106014769:=0
def tw8229263502778901774:=0
def tw8011651803090332605:=0
def tw6807918344985213393:=0
def tw11233793736289099631:=0
def tw8981059620835980557:=0
def tw14406058990471607602:=0
def tw10359119494790160496:=0
def tw2551966707862216315:=0
def tw14595227358086152038:=0
def tw2021197084306272461:=0
def tw17150686314617500667:=0
def tw638928810766222460:=0
def tw13802809357110246230:=0
def tw13185988254218453388:=0
def tw5476733981745290478:=0
def tw2524700730817508677:=0
def tw4412845198088328376:=0
def tw18188447455512764799:=0
def tw13610609642671182294:=0
def tw2373713001895720261:=0
def tw17704208462370832349:=0
def tw3144957020278394432:=0
def tw16677172678831744548:=0
def tw16084640082846690395:=0
def tw13508752096390354923:=0
def tw11194190051433654:=0
def tw9529616711186716662:=0
def tw188561569756564638:=0
def tw15855781394421151811:=0
def tw2262909099813002387:=0
def tw1931261988079105995:=0
def tw15551630136941872411:=0
def tw11331376631785856860:=0
def tw3448862144896519685:=0
def tw17491382503447139181:=0
def tw16283847642237831002:=0
def tw11698533117208722247:=0
def tw12645265546291127254:=0
def tw8017100880642867265:=0
def tw7744763555462907357:=0
def tw4252781052843802783:=0
def tw3531000661803684604:=0
def tw2112667355915980314:=0
def tw1616392541210255475:=0
def tw13362333681419503312:=0
def tw12059458033833640378:=0
def tw10899987978552498975:=0
def tw12293625272788127374:=0
def tw7555910084615075993:=0
def tw4341639998336459218:=0
def tw7705590544768788765:=0
def tw5899092964411278625:=0
end PySem.W.Fast
open PySem PySem.W PyProof.Rows
set_option maxRecDepth 100000 in
set_option maxHeartbeats 0 in
theorem PySem.Challenge.cw_manydeeds_k72_books_read_holds : PySem.Challenge.rw_manydeeds_k72_books_read.Holds := by
 w_on;o_law;k_head;(case hw=>w_witness2)
 k_fill
 refine K72.walk (l:=PySem.Challenge.rw_manydeeds_k72_books_read) rfl rfl (fun w h Y=>W.kIn_of Y) ?F
 case F =>
  intro w mg fa h KX G hmg
  refine' K72.all_mk KX G hmg ?_ ?_ ?_ ?_ ?_ ?_ ?_ ?_ ?_ ?_ ?_ ?_ ?_ ?_ ?_ ?_ ?_ ?_ ?_ ?_ ?_ ?_ ?_ ?_ ?_ ?_ ?_ ?_ ?_ ?_ ?_ ?_ ?_ ?_ ?_ ?_ ?_ ?_ ?_ ?_ ?_ ?_ ?_ ?_ ?_ ?_ ?_ ?_ ?_ ?_ ?_ ?_ ?_ ?_ ?_ ?_ ?_ ?_ ?_ ?_ ?_ ?_ ?_ ?_ ?_ ?_ ?_ ?_ ?_ ?_ ?_ ?_ ?_ ?_ ?_ ?_ ?_ ?_ ?_ ?_ ?_ ?_ ?_
  any_goals first | exact L2.tp (by k_is) (by k_is) (by k_is) (by k_is) | exact L2.mp (by k_is) (by k_is) (by k_is) (by k_is) (by k_is) | exact ⟨by k_is,by k_is,by k_is,by k_is,by k_is,by k_is,by k_is⟩ | k_is
