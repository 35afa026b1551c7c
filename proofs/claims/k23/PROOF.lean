import PyProof.Rows.All
import Wide.All
import OpenK.AllK
import Wide.FinOn
import Lean
import PyProof.EqAt
import PyProof.EqKinds
import PyProof.TupleCall
import PySem.Challenge.RW_manydeeds_k23_lineups_known
set_option Elab.async false
set_option linter.all false
set_option maxRecDepth 100000
namespace L2
open PySem PySem.Spec PyProof.Rows
abbrev Key:=Sum Int Str
def keyIs:Key→Value→Bool
 | .inl k,v=>Value.isInt k v
 | .inr x,v=>Value.isStrOf x v
def keyH (w:World):Key→Int
 | .inl k=>hashInt k
 | .inr x=>hashStr w x
theorem Zcj:∀ {k:Key}{v:Value},keyIs k v=true→(∃ i t,k=Sum.inl i∧v=Value.int i t)∨(∃ x t,k=Sum.inr x∧v=Value.str x t)
 | .inl i,v,h=>by
  obtain ⟨t,e⟩:=Value.isInt_shape (k:=i) (v:=v) h
  exact .inl ⟨i,t,rfl,e⟩
 | .inr x,v,h=>by
  obtain ⟨t,e⟩:=Value.isStrOf_shape (x:=x) (v:=v) h
  exact .inr ⟨x,t,rfl,e⟩
theorem keyIs_int (i:Int) (t:Tok):keyIs (.inl i) (.int i t)=true:=by simp [keyIs,Value.isInt]
theorem keyIs_str (x:Str) (t:Tok):keyIs (.inr x) (.str x t)=true:=by simp [keyIs,Value.isStrOf]
theorem key_ll (a b:Int):decide ((Sum.inl a:Key)=Sum.inl b)=(a == b):=by
 by_cases e:a=b
 ·subst e;simp
 ·have h:¬ (Sum.inl a:Key)=Sum.inl b:=fun q=>e (Sum.inl.inj q)
  rw [decide_eq_false h]
  exact (beq_eq_false_iff_ne.mpr e).symm
theorem key_rr (a b:Str):decide ((Sum.inr a:Key)=Sum.inr b)=decide (a=b):=by
 by_cases e:a=b
 ·subst e;simp
 ·have h:¬ (Sum.inr a:Key)=Sum.inr b:=fun q=>e (Sum.inr.inj q)
  rw [decide_eq_false h,decide_eq_false e]
theorem key_lr (a:Int) (b:Str):decide ((Sum.inl a:Key)=Sum.inr b)=false:=decide_eq_false (fun q=>nomatch q)
theorem key_rl (a:Str) (b:Int):decide ((Sum.inr a:Key)=Sum.inl b)=false:=decide_eq_false (fun q=>nomatch q)
def Zb6 (prog:Program) (w:World):PySem.KeyKind prog w Key where
 is:=keyIs
 hash:=keyH w
 inj:=fun v a b ha hb=>by
  rcases Zcj ha with ⟨i,t,rfl,rfl⟩ | ⟨x,t,rfl,rfl⟩
  ·rcases Zcj hb with ⟨j,u,rfl,e⟩ | ⟨y,u,rfl,e⟩
   ·injection e with e1 _;rw [e1]
   ·exact nomatch e
  ·rcases Zcj hb with ⟨j,u,rfl,e⟩ | ⟨y,u,rfl,e⟩
   ·exact nomatch e
   ·injection e with e1 _;rw [e1]
 byValue:=fun k v h=>by
  rcases Zcj h with ⟨i,t,rfl,rfl⟩ | ⟨x,t,rfl,rfl⟩ <;> rfl
 pyHash:=fun hv h=>by
  rcases Zcj hv with ⟨i,t,rfl,rfl⟩ | ⟨x,t,rfl,rfl⟩
  ·exact wpAny_pyHash_int h
  ·exact wpAny_pyHash_str h
 eqBool:=fun hu hv h=>by
  rcases Zcj hu with ⟨i,t,rfl,rfl⟩ | ⟨x,t,rfl,rfl⟩
  ·rcases Zcj hv with ⟨j,u,rfl,rfl⟩ | ⟨y,u,rfl,rfl⟩
   ·rw [key_ll] at h;exact wpAny_eqBool_int h
   ·rw [key_lr] at h;exact SeqAt.EqAt.int_str i t y u _ _ _ _ h
  ·rcases Zcj hv with ⟨j,u,rfl,rfl⟩ | ⟨y,u,rfl,rfl⟩
   ·rw [key_rl] at h;exact SeqAt.EqAt.str_int x t j u _ _ _ _ h
   ·rw [key_rr] at h;exact wpAny_eqBool_str h
 «strs»:=fun k x t v h=>by
  rcases Zcj h with ⟨i,u,rfl,e⟩ | ⟨y,u,rfl,e⟩
  ·exact nomatch e
  ·injection e with e1 _
   subst e1
   cases v <;> rfl
theorem mixKind_int (prog:Program) (w:World) (i:Int) (t:Tok):(Zb6 prog w).is (.inl i) (.int i t)=true:=keyIs_int i t
theorem mixKind_str (prog:Program) (w:World) (x:Str) (t:Tok):(Zb6 prog w).is (.inr x) (.str x t)=true:=keyIs_str x t
end L2
namespace L2
open PySem PySem.Spec PyProof.Rows
inductive V where
 | non | bl (b:Bool) | int (i:Int) | str (x:Str) | byt (b:Array UInt8) | flt (b:UInt64) | ref (a:Addr) | ty (n:String)
 deriving DecidableEq
def Zcy:V→Value→Prop
 | .non,u=>u=Value.none
 | .bl b,u=>u=Value.bool b
 | .int i,u=>∃ t,u=Value.int i t
 | .str x,u=>∃ t,u=Value.str x t
 | .byt b,u=>∃ t,u=Value.bytes b t
 | .flt b,u=>∃ t,u=Value.float b t
 | .ref a,u=>u=Value.ref a
 | .ty n,u=>u=Value.type n
abbrev Zcg:List V→List Value→Prop:=Paired Zcy
theorem Zcg.length {xs:List V}{us:List Value}(r:Zcg xs us):xs.length=us.length:=Paired.length r
theorem Zcg.get:∀ {xs:List V}{us:List Value}{i:Nat}{x:V},Zcg xs us→xs[i]?=some x→∃ u,us[i]?=some u∧Zcy x u
 | _,_,_,_,.nil,e=>by simp at e
 | _,_,0,_,.cons r _,e=>by simp at e;subst e;exact ⟨_,rfl,r⟩
 | _,_,i + 1,x,.cons _ t,e=>by
  obtain ⟨u,h1,h2⟩:=Zcg.get (i:=i) (x:=x) t (by simpa using e)
  exact ⟨u,by simpa using h1,h2⟩
theorem Zcg.set {x:V}{u:Value}(r:Zcy x u):∀ {xs:List V}{us:List Value}(i:Nat),Zcg xs us→Zcg (xs.set i x) (us.set i u)
 | _,_,_,.nil=>.nil
 | _,_,0,.cons _ t=>.cons r t
 | _,_,i + 1,.cons q t=>.cons q (Zcg.set r i t)
theorem Zcg.append:∀ {xs ys:List V}{us ws:List Value},Zcg xs us→Zcg ys ws→Zcg (xs++ys) (us++ws)
 | _,_,_,_,.nil,s=>s
 | _,_,_,_,.cons r t,s=>.cons r (Zcg.append t s)
theorem Zcg.take:∀ {xs:List V}{us:List Value}(n:Nat),Zcg xs us→Zcg (xs.take n) (us.take n)
 | _,_,0,_=>.nil
 | _,_,_ + 1,.nil=>.nil
 | _,_,n + 1,.cons r t=>.cons r (Zcg.take n t)
theorem Zcg.drop:∀ {xs:List V}{us:List Value}(n:Nat),Zcg xs us→Zcg (xs.drop n) (us.drop n)
 | _,_,0,r=>r
 | _,_,_ + 1,.nil=>.nil
 | _,_,n + 1,.cons _ t=>Zcg.drop n t
def RelO:Option V→Option Value→Prop
 | some v,some u=>Zcy v u
 | none,none=>True
 | _,_=>False
def KV {κ:Type}:List (κ×V)→List (κ×Value)→Prop:=Paired fun (p:κ×V) (q:κ×Value)=>p.1=q.1∧Zcy p.2 q.2
def kV:Key→V
 | .inl i=>.int i
 | .inr x=>.str x
inductive HO where
 | lst (xs:List V)
 | tup (xs:List V)
 | dK (kvs:List (Key×V)) | dT (kvs:List (List Key×V))
 | set (S:Int→Bool) (n:Nat)
 | ins (C dx:Addr) (fs:List (Str×V))
 | own (x:Addr)
 | xd (fs:List (Str×V))
 | met (f x:Addr)
 | rng (lo hi:Int)
 | frz (o:Obj) (u:HO)
 | tbl (ps:Array Value)
 | ext (φ:Heap→Prop)
abbrev Hp:=Addr→Option HO
def upd (H:Hp) (a:Addr) (o:HO):Hp:=fun b=>if b=a then some o else H b
theorem uS {H:Hp}{a:Addr}{o:HO}:upd H a o a=some o:=by unfold upd;rw [if_pos rfl]
theorem Zac {H:Hp}{a b:Addr}{o:HO}(h:b≠a):upd H a o b=H b:=by unfold upd;rw [if_neg h]
theorem upd_upd {H:Hp}{a:Addr}{o u:HO}:upd (upd H a o) a u=upd H a u:=by
 funext b;unfold upd;split <;> rfl
theorem ne_of {H:Hp}{a b:Addr}{o u:HO}(h:H a=some o) (h':H b=some u) (d:o≠u):a≠b:=by
 intro e;subst e;rw [h] at h';exact d (Option.some.inj h')
theorem nNo {H:Hp}{a b:Addr}{o:HO}(h:H a=some o) (h':H b=none):a≠b:=by
 intro e;subst e;rw [h] at h';cases h'
section
variable (P:Program) (w:World)
def Zcv (H:Hp) (h:Heap) (a:Addr):HO→Prop
 | .lst xs=>xs.length≤sizeLine∧∃ (its:List Value) (n:Nat),Zcg xs its∧h.get? a=some { cls:=.type "list",data:=.seq its.toArray n }
 | .tup xs=>xs.length≤sizeLine∧∃ its:List Value,Zcg xs its∧IsTup h a its.toArray
 | .dK kvs=>kvs.length≤sizeLine∧(a == sysModules)=false∧∃ vs,KV kvs vs∧h.DictOf (Zb6 P w) a vs
 | .dT kvs=>kvs.length≤sizeLine∧(a == sysModules)=false∧∃ xs:List (List Key×Addr×Value),
   Paired (fun (p:List Key×V) (q:List Key×Addr×Value)=>p.1=q.1∧H q.2.1=some (.tup (p.1.map kV))∧Zcy p.2 q.2.2) kvs xs ∧
   ∃ o es ep,h.get? a=some o∧o.ExactDict∧o.data=.dict es ep∧es.toList=xs.map (entryOfKey (tupleKind (Zb6 P w)))∧(xs.map (·.1)).Nodup
 | .set S n=>h.SetOf (intKind P w) a S n
 | .ins C dx fs=>H dx=some (.own a)∧fs.length≤1000∧dx≠a∧h.get? a=some (PySem.W.instObj C dx) ∧
   ∃ mA,h.Ns1 dx mA∧(∀ f,RelO (fs.lookup f) (mA f))∧PySem.Within mA (fs.map (·.1))
 | .own _=>∃ o,h.get? a=some o
 | .xd fs=>∃ mA,h.Ns1 a mA∧∀ f,RelO (fs.lookup f) (mA f)
 | .rng lo hi=>∃ t u v,h.get? a=some { cls:=.type "range",data:=.fields #[.int lo t,.int hi u,.int 1 v] }
 | .frz o u=>h.get? a=some o∧Zcv H h a u
 | .tbl ps=>h.get? a=some { cls:=.none,data:=.fields ps }
 | .met f x=>h.get? a=some (PySem.W.methodObj (.ref f) (.ref x))
 | .ext φ=>φ h∧(∃ o,h.get? a=some o)∧∀ h1 h2:Heap,φ h1→(∀ o,h1.get? a=some o→h2.get? a=some o)→φ h2
def HOk (H:Hp) (h:Heap):Prop:=∀ a o,H a=some o→Zcv P w H h a o
end
section
variable {P:Program} {w:World} {H H':Hp} {h h':Heap} {a:Addr} {o:HO}
theorem Zcv.lt (x:Zcv P w H h a o):a<h.objs.size:=by
 cases o with
 | lst xs=>obtain ⟨_,_,_,_,e⟩:=x;exact Heap.lt_size e
 | tup xs=>obtain ⟨_,_,_,p⟩:=x;exact p.lt
 | dK kvs=>obtain ⟨_,_,_,_,o,_,_,e,_⟩:=x;exact Heap.lt_size e
 | dT kvs=>obtain ⟨_,_,_,_,o,_,_,e,_⟩:=x;exact Heap.lt_size e
 | set S n=>obtain ⟨o,_,_,_,e,_⟩:=x;exact Heap.lt_size e
 | ins C dx fs=>obtain ⟨_,_,_,e,_⟩:=x;exact Heap.lt_size e
 | own y=>obtain ⟨_,e⟩:=x;exact Heap.lt_size e
 | xd fs=>obtain ⟨_,⟨_,_,_,e,_⟩,_⟩:=x;exact Heap.lt_size e
 | rng lo hi=>obtain ⟨_,_,_,e⟩:=x;exact Heap.lt_size e
 | frz ob u=>obtain ⟨e,_⟩:=x;exact Heap.lt_size e
 | tbl ps=>exact Heap.lt_size (show h.get? a=some _ from x)
 | met f y=>exact Heap.lt_size (show h.get? a=some _ from x)
 | ext φ=>obtain ⟨_,⟨_,e⟩,_⟩:=x;exact Heap.lt_size e
theorem Paired.mapP {α β:Type}{F G:α→β→Prop}:∀ {l₁:List α}{l₂:List β},Paired F l₁ l₂→(∀ a b,F a b→G a b)→Paired G l₁ l₂
 | _,_,.nil,_=>.nil
 | _,_,.cons r t,f=>.cons (f _ _ r) (Paired.mapP t f)
theorem Zcv.stay (x:Zcv P w H h a o) (k:∀ b u,(b=a∨H b=some (.own a))→h.get? b=some u→h'.get? b=some u)
  (ho:∀ b,H b=some (.own a)→H' b=some (.own a)) (ht:∀ b xs,H b=some (.tup xs)→H' b=some (.tup xs)):Zcv P w H' h' a o:=by
 induction o with
 | lst xs=>obtain ⟨z,its,n,r,e⟩:=x;exact ⟨z,its,n,r,k _ _ (.inl rfl) e⟩
 | tup xs=>obtain ⟨z,its,r,ob,e,c⟩:=x;exact ⟨z,its,r,ob,k _ _ (.inl rfl) e,c⟩
 | dK kvs=>obtain ⟨z,y,vs,r,ob,es,ep,e,c⟩:=x;exact ⟨z,y,vs,r,ob,es,ep,k _ _ (.inl rfl) e,c⟩
 | dT kvs =>
  obtain ⟨z,y,xs,r,ob,es,ep,e,c⟩:=x
  exact ⟨z,y,xs,Paired.mapP r fun p q z=>⟨z.1,ht _ _ z.2.1,z.2.2⟩,ob,es,ep,k _ _ (.inl rfl) e,c⟩
 | set S n=>obtain ⟨ob,es,ep,t,e,c⟩:=x;exact ⟨ob,es,ep,t,k _ _ (.inl rfl) e,c⟩
 | ins C dx fs =>
  obtain ⟨d,z,ne,e,mA,⟨od,es,ep,e2,c⟩,r⟩:=x
  exact ⟨ho _ d,z,ne,k _ _ (.inl rfl) e,mA,⟨od,es,ep,k _ _ (.inr d) e2,c⟩,r⟩
 | own y=>obtain ⟨ob,e⟩:=x;exact ⟨ob,k _ _ (.inl rfl) e⟩
 | xd fs=>obtain ⟨mA,⟨od,es,ep,e,c⟩,r⟩:=x;exact ⟨mA,⟨od,es,ep,k _ _ (.inl rfl) e,c⟩,r⟩
 | rng lo hi=>obtain ⟨t,u,v,e⟩:=x;exact ⟨t,u,v,k _ _ (.inl rfl) e⟩
 | frz ob u ih=>obtain ⟨e,q⟩:=x;exact ⟨k _ _ (.inl rfl) e,ih q⟩
 | tbl ps =>
  have e:h.get? a=some { cls:=.none,data:=.fields ps }:=x
  show h'.get? a=some { cls:=.none,data:=.fields ps }
  exact k a _ (.inl rfl) e
 | met f y =>
  have e:h.get? a=some (PySem.W.methodObj (.ref f) (.ref y)):=x
  show h'.get? a=some (PySem.W.methodObj (.ref f) (.ref y))
  exact k a _ (.inl rfl) e
 | ext φ=>obtain ⟨p,⟨o,e⟩,st⟩:=x;exact ⟨st _ _ p fun o q=>k _ _ (.inl rfl) q,⟨o,k _ _ (.inl rfl) e⟩,st⟩
theorem HOk.lt (x:HOk P w H h) (e:H a=some o):a<h.objs.size:=(x a o e).lt
theorem HOk.fresh (x:HOk P w H h) (e:h.objs.size≤a):H a=none:=by
 cases q:H a with
 | none=>rfl
 | some u=>exact absurd (Nat.lt_of_lt_of_le (x.lt q) e) (Nat.lt_irrefl _)
theorem HOk.kept (x:HOk P w H h) (k:∀ b u,h.get? b=some u→h'.get? b=some u):HOk P w H h':=fun a o e =>
 (x a o e).stay (fun b u _ q=>k b u q) (fun _ q=>q) fun _ _ q=>q
theorem HOk.laid (x:HOk P w H h) (k:∀ b u,h.get? b=some u→h'.get? b=some u) (hp:h.objs.size≤a) (new:Zcv P w (upd H a o) h' a o):HOk P w (upd H a o) h':=fun b u e=>by
 have hn:=x.fresh hp
 by_cases hb:b=a
 ·subst hb;rw [uS] at e;cases e;exact new
 ·rw [Zac hb] at e
  exact (x b u e).stay (fun c v _ q=>k c v q) (fun c q=>by rw [Zac (nNo q hn)];exact q) fun c xs q=>by rw [Zac (nNo q hn)];exact q
end
def Rd (H:Hp) (a:Addr) (u:HO):Prop:=H a=some u∨∃ o,H a=some (.frz o u)
theorem Rd.ok {P:Program}{w:World}{H:Hp}{h:Heap}{a:Addr}{u:HO}(r:Rd H a u) (x:HOk P w H h):Zcv P w H h a u:=by
 rcases r with r | ⟨o,r⟩
 ·exact x a u r
 ·obtain ⟨_,q⟩:=x a _ r
  exact q
def Mut:Option HO→Prop
 | some (.lst _)=>True
 | some (.dK _)=>True
 | some (.dT _)=>True
 | some (.set _ _)=>True
 | some (.ins _ _ _)=>True
 | some (.ext _)=>True
 | _=>False
section
variable {P:Program} {w:World} {H:Hp} {h h':Heap} {x e:Addr} {o':HO}
theorem HOk.write (ok:HOk P w H h) (mu:Mut (H x)) (he:e=x∨H e=some (.own x)) (k:∀ b u,b≠e→h.get? b=some u→h'.get? b=some u) (heo:∃ u,h'.get? e=some u)
  (new:Zcv P w (upd H x o') h' x o'):HOk P w (upd H x o') h':=fun b u q=>by
 have nown:∀ c y,H c=some (.own y)→c≠x:=fun c y r z=>by subst z;rw [r] at mu;exact mu
 have ntup:∀ c xs,H c=some (.tup xs)→c≠x:=fun c xs r z=>by subst z;rw [r] at mu;exact mu
 by_cases hb:b=x
 ·subst hb;rw [uS] at q;cases q;exact new
 ·rw [Zac hb] at q
  by_cases hbe:b=e
  ·have q':H b=some (.own x):=by
    rcases he with z | z
    ·exact absurd (hbe.trans z) hb
    ·rw [hbe];exact z
   rw [q] at q';cases q'
   obtain ⟨v,hv⟩:=heo
   exact ⟨v,by rw [hbe];exact hv⟩
  ·refine (ok b u q).stay (fun c v hc r=>k c v ?_ r) (fun c r=>by rw [Zac (nown c b r)];exact r) fun c xs r=>by rw [Zac (ntup c xs r)];exact r
   rcases hc with rfl | hc
   ·exact hbe
   ·rintro rfl
    rcases he with z | z
    ·exact nown c b hc z
    ·rw [hc] at z;cases z;exact hb rfl
end
structure Un (fs ex:List Addr) (H H':Hp) (h h':Heap):Prop where
 keep:∀ b o,h.get? b=some o→H b=none→b∉fs→b∉ex→h'.get? b=some o
 slot:∀ b o,h.get? b=some o→H b=none→b∈fs→b∉ex→∃ sl,h'.get? b=some { o with slots:=sl }
 free:∀ b o,h.get? b=some o→H b=none→b∉ex→H' b=none
 there:∀ b o,h.get? b=some o→b∉ex→∃ o',h'.get? b=some o'
 tups:∀ b xs,H b=some (.tup xs)→H' b=some (.tup xs)
 frzs:∀ b o u,H b=some (.frz o u)→H' b=some (.frz o u)
 tbls:∀ b ps,H b=some (.tbl ps)→∃ more,H' b=some (.tbl (ps++more))
section
variable {fs fs' ex ex':List Addr} {H H1 H2:Hp} {h h1 h2 h':Heap} {a x e:Addr} {o:HO}
theorem Un.any (u:Un fs ex H H1 h h1) {b:Addr}{ob:Obj}(q:h.get? b=some ob) (n:H b=none) (hx:b∉ex):∃ sl,h1.get? b=some { ob with slots:=sl }:=by
 by_cases hb:b∈fs
 ·exact u.slot b ob q n hb hx
 ·exact ⟨ob.slots,u.keep b ob q n hb hx⟩
theorem Un.kept (k:∀ b u,h.get? b=some u→h'.get? b=some u):Un fs ex H H h h' :=
 ⟨fun b ob q _ _ _=>k b ob q,fun b ob q _ _ _=>⟨ob.slots,k b ob q⟩,fun _ _ _ n _=>n,fun b ob q _=>⟨ob,k b ob q⟩,fun _ _ q=>q,fun _ _ _ q=>q,fun _ ps q=>⟨#[],by rw [q];simp⟩⟩
theorem Un.refl:Un fs ex H H h h:=Un.kept fun _ _ q=>q
theorem Un.laid (k:∀ b u,h.get? b=some u→h'.get? b=some u) (hp:h.objs.size≤a) (hn:H a=none):Un fs ex H (upd H a o) h h' where
 keep:=fun b u q _ _ _=>k b u q
 slot:=fun b u q _ _ _=>⟨u.slots,k b u q⟩
 free:=fun b u q n _=>by rw [Zac (Nat.ne_of_lt (Nat.lt_of_lt_of_le (Heap.lt_size q) hp))];exact n
 there:=fun b u q _=>⟨u,k b u q⟩
 tups:=fun b xs q=>by rw [Zac (nNo q hn)];exact q
 frzs:=fun b u xs q=>by rw [Zac (nNo q hn)];exact q
 tbls:=fun b ps q=>⟨#[],by rw [Zac (nNo q hn),q];simp⟩
theorem Un.write (mu:Mut (H x)) (he:e=x∨H e=some (.own x)) (k:∀ b u,b≠e→h.get? b=some u→h'.get? b=some u) (heo:∃ u,h'.get? e=some u):Un fs ex H (upd H x o) h h':=by
 have hx:∀ b,H b=none→b≠x:=fun b n z=>by subst z;rw [n] at mu;exact mu
 have hb:∀ b,H b=none→b≠e:=fun b n z=>by
  subst z
  rcases he with r | r
  ·exact hx b n r
  ·rw [n] at r;cases r
 have hm:∀ b u,H b=some u→¬ Mut (some u)→b≠x:=fun b u q nm z=>by subst z;rw [q] at mu;exact nm mu
 refine ⟨fun b u q n _ _=>k b u (hb b n) q,fun b u q n _ _=>⟨u.slots,k b u (hb b n) q⟩,fun b u q n _=>by rw [Zac (hx b n)];exact n,fun b u q _=>?_,
  fun b xs q=>by rw [Zac (hm b _ q fun z=>z)];exact q,fun b u xs q=>by rw [Zac (hm b _ q fun z=>z)];exact q,fun b ps q=>⟨#[],by rw [Zac (hm b _ q fun z=>z),q];simp⟩⟩
 by_cases hbe:b=e
 ·subst hbe;exact heo
 ·exact ⟨u,k b u hbe q⟩
end
def trk (h:Heap) (H:Hp):List Addr:=(List.range h.objs.size).filter fun a=>(H a).isSome
def hidT (h:Heap) (H:Hp):Heap:=PySem.W.hideAll h (trk h H)
theorem hidT_size (h:Heap) (H:Hp):(hidT h H).objs.size=h.objs.size:=PySem.W.hideAll_size _ _
theorem hidT_get {h:Heap}{H:Hp}{b:Addr}{o:Obj}(e:h.get? b=some o) (n:H b=none):(hidT h H).get? b=some o :=
 PySem.W.hideAll_get _ e fun hm=>by
  have q:(H b).isSome=true:=(List.mem_filter.mp hm).2
  rw [n] at q;simp at q
theorem of_hidT {h:Heap}{H:Hp}{b:Addr}{o:Obj}(e:(hidT h H).get? b=some o):h.get? b=some o∧H b=none:=by
 have e':h.get? b=some o:=PySem.W.of_hideAll (trk h H) e
 refine ⟨e',?_⟩
 cases q:H b with
 | none=>rfl
 | some x =>
  have hm:b∈trk h H:=List.mem_filter.mpr ⟨List.mem_range.mpr (Heap.lt_size e'),by simp [q]⟩
  have z:(hidT h H).get? b=none:=PySem.W.hideAll_none (trk h H) hm
  rw [z] at e;cases e
def allNews (g h:Heap) (L:Addr):List (Addr×Obj):=(List.range h.objs.size).filterMap fun a=>if a=L∨(g.get? a).isSome=true then none else (h.get? a).map fun o=>(a,o)
def Zee (g h:Heap) (L d:Addr):List (Addr×Obj):=(allNews g h L).filter fun p=>decide (p.1≠d)
end L2
namespace L2
open PySem PySem.Spec PyProof.Rows
structure Mod (K:PySem.W.Frag) (mg:Str→Option Value) (base:Heap):Prop where
 kin:K.In base
 glob:base.Ns mainGlobals mg
 blt:∃ mb,base.Ns builtinsNs mb∧∀ x:Str,x≠"__name__"→mb x=bootBuiltins x
 nolimit:base.NoLimit
structure Cx where
 prog:Program
 w:World
 K:PySem.W.Frag
 mg:Str→Option Value
 base:Heap
 A:Around
 N:List Str
 s₀:Shared
 H₀:Hp
 env:Env
 outer:List Env
 stack:List Env
 ex:List Addr
 fn:Str→Bool
 calm:Bool
 pn:List (Addr×Obj)
 xe:Value→Shared→Prop
def frs (l:List Env):List Addr:=l.filterMap (·.frame)
abbrev Cx.fs (X:Cx):List Addr:=frs X.outer
def Vis (sc:Scope) (x:Str):Prop:=sc.names.lookup x=some .local∨sc.names.lookup x=some .cell∨sc.names.lookup x=some .free
def Loc (sc:Scope) (x:Str):Prop:=sc.names.lookup x=some .local∨sc.names.lookup x=some .cell
def Look (env:Env) (h:Heap) (m:Str→Option Value) (x:Str) (u:Value):Prop :=
 (env.kindOf x=some .local∧m x=some u)∨((env.kindOf x=some .cell∨env.kindOf x=some .free)∧∃ c,env.cells.lookup x=some c∧h.IsCell c (some u))
structure Cx.Ok (X:Cx):Prop where
 mod:Mod X.K X.mg X.base
 kind:X.env.scope.kind=.function
 glob:X.env.globals=mainGlobals
 blt:X.env.builtins=builtinsNs
 above:X.s₀.heap.objs.size≤X.env.locals
 inj:∀ x y c,X.env.cells.lookup x=some c→X.env.cells.lookup y=some c→x=y
 has:∀ x,(X.env.kindOf x=some .cell∨X.env.kindOf x=some .free)→∃ c,X.env.cells.lookup x=some c
 cab:∀ x c,X.fn x=true→X.env.cells.lookup x=some c→X.s₀.heap.objs.size≤c
 hd:X.calm=true→X.A.handled=none
 frames:X.A.frames=some X.stack
 stk:X.stack=X.outer∨(X.stack=X.env :: X.outer∧X.env.frame=some X.env.locals)
 exf:∀ b∈X.ex,b≠X.env.locals∧∀ x c,X.env.cells.lookup x=some c→c≠b
 bs:∀ b o,X.base.get? b=some o→X.s₀.heap.get? b=some o∧X.H₀ b=none
 bsz:X.base.objs.size≤X.s₀.heap.objs.size
 noex:∀ b o,X.base.get? b=some o→b∉X.ex
 exfs:∀ b∈X.ex,b∉X.fs
 funs:X.s₀.heap.FunFrames X.base X.outer
 frf:∀ b∈X.fs,X.H₀ b=none
structure Inv (X:Cx) (pins:List (Addr×Obj)) (σ:List (Option V)) (H:Hp) (s:Shared):Prop where
 ok:X.Ok
 os:s.os=X.s₀.os
 bare:AllBare s.gens
 base:Un X.fs X.ex X.H₀ H X.s₀.heap s.heap
 loc:∃ m,s.heap.Ns X.env.locals m∧∀ (i:Nat) (x:Str) (v:V),X.N[i]?=some x→σ[i]?=some (some v)→Vis X.env.scope x→∃ u,Zcy v u∧Look X.env s.heap m x u
 cell:∀ x c,X.env.cells.lookup x=some c→∃ v,s.heap.IsCell c v
 free:H X.env.locals=none
 freeC:∀ x c,X.env.cells.lookup x=some c→H c=none
 pin:∀ p∈X.pn++pins,s.heap.get? p.1=some p.2∧H p.1=none∧p.1≠X.env.locals∧p.1∉X.fs∧∀ v,p.2.data≠.cell v
 hok:HOk X.prog X.w H s.heap
 len:σ.length=X.N.length
section
variable {X:Cx} {pins:List (Addr×Obj)} {σ:List (Option V)} {H H':Hp} {s:Shared} {h':Heap}
theorem Cx.Ok.nofr (ok:X.Ok) {b:Addr}{o:Obj}(e:X.base.get? b=some o):b∉X.fs:=fun hb=>by
 have:=(ok.funs.mem hb).1
 rw [e] at this;cases this
theorem Inv.bs (I:Inv X pins σ H s):∀ b o,X.base.get? b=some o→s.heap.get? b=some o∧H b=none:=fun b o e =>
 ⟨I.base.keep b o (I.ok.bs b o e).1 (I.ok.bs b o e).2 (I.ok.nofr e) (I.ok.noex b o e),I.base.free b o (I.ok.bs b o e).1 (I.ok.bs b o e).2 (I.ok.noex b o e)⟩
theorem Inv.bk (I:Inv X pins σ H s):∀ b o,X.base.get? b=some o→s.heap.get? b=some o:=fun b o e=>(I.bs b o e).1
theorem Inv.mod (I:Inv X pins σ H s):Mod X.K X.mg X.base:=I.ok.mod
theorem Inv.kIn (I:Inv X pins σ H s):X.K.In s.heap:=I.ok.mod.kin.keeps I.bk
theorem Inv.lt (I:Inv X pins σ H s):X.env.locals<s.heap.objs.size:=let ⟨_,hn,_⟩:=I.loc;hn.lt
theorem Inv.sz (I:Inv X pins σ H s):X.s₀.heap.objs.size≤s.heap.objs.size:=Nat.le_trans I.ok.above (Nat.le_of_lt I.lt)
theorem Inv.nofs (I:Inv X pins σ H s) {a:Addr}(h:s.heap.objs.size≤a):a∉X.fs:=fun hb=>by
 obtain ⟨_,o,ho,_⟩:=I.ok.funs.mem hb
 exact absurd (Nat.lt_of_lt_of_le (Heap.lt_size ho) (Nat.le_trans I.sz h)) (Nat.lt_irrefl _)
theorem Inv.cne (I:Inv X pins σ H s):∀ x c,X.env.cells.lookup x=some c→c≠X.env.locals:=fun x c e z=>by
 obtain ⟨v,o,ho,hd⟩:=I.cell x c e
 obtain ⟨m,⟨o',es,ep,ho',hd',_⟩,_⟩:=I.loc
 rw [z,ho'] at ho;cases ho;rw [hd'] at hd;cases hd
theorem Inv.funs (I:Inv X pins σ H s):s.heap.FunFrames X.base X.outer:=by
 have all:∀ (l:List Env),(∀ b∈frs l,b∈X.fs)→X.s₀.heap.FunFrames X.base l→s.heap.FunFrames X.base l:=by
  intro l
  induction l with
  | nil=>intro _ _;trivial
  | cons env r ih =>
   intro hs hl
   obtain ⟨hk,⟨L,o,hf,hn,ho,hd⟩,hr⟩:=hl
   have hL:L∈X.fs:=hs L (by unfold frs;rw [List.filterMap_cons,hf];exact List.mem_cons_self)
   obtain ⟨sl,e⟩:=I.base.slot L o ho (I.ok.frf L hL) hL fun z=>I.ok.exfs L z hL
   exact ⟨hk,⟨L,_,hf,hn,e,hd⟩,ih (fun b hb=>hs b (by unfold frs;rw [List.filterMap_cons,hf];exact List.mem_cons_of_mem _ hb)) hr⟩
 exact all X.outer (fun _ hb=>hb) I.ok.funs
theorem Inv.stack (I:Inv X pins σ H s):s.heap.FunFrames X.base X.stack:=by
 rcases I.ok.stk with e | ⟨e,hf⟩
 ·rw [e];exact I.funs
 ·rw [e]
  obtain ⟨m,hn,_⟩:=I.loc
  refine .cons (by rw [I.ok.kind];decide) hf hn ?_ I.funs
  exact Heap.get?_none_of_le (Nat.le_trans I.ok.bsz I.ok.above)
theorem Inv.stkSub (I:Inv X pins σ H s):∀ b∈frs X.stack,b∈X.env.locals :: X.fs:=fun b hb=>by
 rcases I.ok.stk with e | ⟨e,hf⟩
 ·rw [e] at hb;exact List.mem_cons_of_mem _ hb
 ·rw [e] at hb
  unfold frs at hb
  rw [List.filterMap_cons,hf] at hb
  exact hb
theorem Inv.stkFree (I:Inv X pins σ H s):∀ b∈frs X.stack,H b=none:=fun b hb=>by
 rcases List.mem_cons.mp (I.stkSub b hb) with e | hb
 ·rw [e];exact I.free
 ·obtain ⟨_,o,ho,_⟩:=I.ok.funs.mem hb
  exact I.base.free b o ho (I.ok.frf b hb) fun z=>I.ok.exfs b z hb
theorem Inv.step {g':Array GenState}{t':Nat}{d':Drawn}{ch:List Addr}(I:Inv X pins σ H s)
  (hch:∀ b∈ch,(b∈X.ex∨X.s₀.heap.objs.size≤b)∧b≠X.env.locals∧(∀ x c,X.env.cells.lookup x=some c→c≠b)∧∀ p∈X.pn++pins,p.1≠b)
  (keep:∀ b o,b≠X.env.locals→b∉X.fs→b∉ch→s.heap.get? b=some o→H b=none→h'.get? b=some o)
  (slot:∀ b o,b≠X.env.locals→b∈X.fs→b∉ch→s.heap.get? b=some o→H b=none→∃ sl,h'.get? b=some { o with slots:=sl }) (free:∀ b o,b∉ch→s.heap.get? b=some o→H b=none→H' b=none)
  (there:∀ b o,b∉ch→s.heap.get? b=some o→∃ o',h'.get? b=some o')
  (tups:∀ b xs,H b=some (.tup xs)→H' b=some (.tup xs)) (frzs:∀ b o u,H b=some (.frz o u)→H' b=some (.frz o u)) (tbls:∀ b ps,H b=some (.tbl ps)→∃ more,H' b=some (.tbl (ps++more)))
  (ns:∀ m,s.heap.Ns X.env.locals m→h'.Ns X.env.locals m) (hok:HOk X.prog X.w H' h') (hg:AllBare g'):
  Inv X pins σ H' { s with heap:=h',gens:=g',drawn:=d',toks:=t' }:=by
 have neL:∀ b o,X.s₀.heap.get? b=some o→b≠X.env.locals:=fun b o e=>Nat.ne_of_lt (Nat.lt_of_lt_of_le (Heap.lt_size e) I.ok.above)
 have neC:∀ b o,X.s₀.heap.get? b=some o→b∉X.ex→b∉ch:=fun b o e hx hb=>by
  rcases (hch b hb).1 with z | z
  ·exact hx z
  ·exact absurd (Nat.lt_of_lt_of_le (Heap.lt_size e) z) (Nat.lt_irrefl _)
 have cellK:∀ x c,X.env.cells.lookup x=some c→∀ v,s.heap.IsCell c v→h'.IsCell c v:=fun x c e v ⟨o,ho,hd⟩=>by
  have nch:c∉ch:=fun z=>(hch c z).2.2.1 x c e rfl
  by_cases hc:c∈X.fs
  ·obtain ⟨sl,q⟩:=slot c o (I.cne x c e) hc nch ho (I.freeC x c e)
   exact ⟨_,q,hd⟩
  ·exact ⟨o,keep c o (I.cne x c e) hc nch ho (I.freeC x c e),hd⟩
 refine ⟨I.ok,I.os,hg,⟨fun b o e n hb hx=>?_,fun b o e n hb hx=>?_,fun b o e n hx=>?_,fun b o e hx=>?_,fun b xs e=>tups b xs (I.base.tups b xs e),fun b o xs e=>frzs b o xs (I.base.frzs b o xs e),fun b ps e=>?_⟩,?_,fun x c e=>?_,?_,fun x c e=>?_,fun p hp=>?_,hok,I.len⟩
 ·exact keep b o (neL b o e) hb (neC b o e hx) (I.base.keep b o e n hb hx) (I.base.free b o e n hx)
 ·obtain ⟨sl,e1⟩:=I.base.slot b o e n hb hx
  obtain ⟨sl',e2⟩:=slot b _ (neL b o e) hb (neC b o e hx) e1 (I.base.free b o e n hx)
  exact ⟨sl',e2⟩
 ·obtain ⟨o',e1⟩:=I.base.there b o e hx
  exact free b o' (neC b o e hx) e1 (I.base.free b o e n hx)
 ·obtain ⟨o',e1⟩:=I.base.there b o e hx
  exact there b o' (neC b o e hx) e1
 ·obtain ⟨m1,e1⟩:=I.base.tbls b ps e
  obtain ⟨m2,e2⟩:=tbls b _ e1
  exact ⟨m1++m2,by rw [e2,Array.append_assoc]⟩
 ·obtain ⟨m,hn,hl⟩:=I.loc
  refine ⟨m,ns m hn,fun i x v e1 e2 e3=>?_⟩
  obtain ⟨u,r,l⟩:=hl i x v e1 e2 e3
  refine ⟨u,r,?_⟩
  rcases l with l | ⟨k,c,e,z⟩
  ·exact .inl l
  ·exact .inr ⟨k,c,e,cellK x c e _ z⟩
 ·obtain ⟨v,z⟩:=I.cell x c e
  exact ⟨v,cellK x c e v z⟩
 ·obtain ⟨m,⟨o,_,_,ho,_⟩,_⟩:=I.loc
  exact free _ o (fun z=>(hch _ z).2.1 rfl) ho I.free
 ·obtain ⟨v,o,ho,hd⟩:=I.cell x c e
  exact free c o (fun z=>(hch c z).2.2.1 x c e rfl) ho (I.freeC x c e)
 ·obtain ⟨e,n,ne,nf,d⟩:=I.pin p hp
  have nch:p.1∉ch:=fun z=>(hch p.1 z).2.2.2 p hp rfl
  exact ⟨keep p.1 p.2 ne nf nch e n,free p.1 p.2 nch e n,ne,nf,d⟩
theorem Inv.un {t':Nat}(I:Inv X pins σ H s) (u:Un X.fs [] H H' s.heap h') (hok:HOk X.prog X.w H' h'):Inv X pins σ H' { s with heap:=h',toks:=t' }:=by
 obtain ⟨m,⟨o,es,ep,ho,r⟩,_⟩:=id I.loc
 obtain ⟨sl,hL⟩:=u.any ho I.free (by simp)
 exact I.step (g':=s.gens) (d':=s.drawn) (ch:=[]) (fun _ z=>nomatch z) (fun b o _ hb _ e n=>u.keep b o e n hb (by simp)) (fun b o _ hb _ e n=>u.slot b o e n hb (by simp)) (fun b o _ e n=>u.free b o e n (by simp)) (fun b o _ e=>u.there b o e (by simp)) u.tups u.frzs u.tbls (fun m' hm=>by
  obtain ⟨o',es',ep',ho',r'⟩:=hm
  rw [ho] at ho';cases ho'
  exact ⟨_,es',ep',hL,r'⟩) hok I.bare
theorem Inv.call {g':Array GenState}{t':Nat}{d':Drawn}{ch:List Addr}(I:Inv X pins σ H s) (u:Un (frs X.stack) ch H H' s.heap h') (hok:HOk X.prog X.w H' h') (hg:AllBare g')
  (hch:∀ b∈ch,(b∈X.ex∨X.s₀.heap.objs.size≤b)∧b≠X.env.locals∧(∀ x c,X.env.cells.lookup x=some c→c≠b)∧∀ p∈X.pn++pins,p.1≠b):
  Inv X pins σ H' { s with heap:=h',gens:=g',drawn:=d',toks:=t' }:=by
 obtain ⟨m,⟨o,es,ep,ho,r⟩,_⟩:=id I.loc
 obtain ⟨sl,hL⟩:=u.any ho I.free fun z=>(hch _ z).2.1 rfl
 exact I.step (ch:=ch) hch (fun b o hL hb hc e n=>u.keep b o e n (fun z=>(List.mem_cons.mp (I.stkSub b z)).elim hL hb) hc) (fun b o _ _ hc e n=>u.any e n hc) (fun b o hc e n=>u.free b o e n hc) (fun b o hc e=>u.there b o e hc) u.tups u.frzs u.tbls (fun m' hm=>by
  obtain ⟨o',es',ep',ho',r'⟩:=hm
  rw [ho] at ho';cases ho'
  exact ⟨_,es',ep',hL,r'⟩) hok hg
theorem Inv.turned {t':Nat}{it:Addr}(I:Inv X pins σ H s) (k:∀ b o,b≠it→s.heap.get? b=some o→h'.get? b=some o) (hn:H it=none) (hL:it≠X.env.locals)
  (h1:it∈X.ex∨X.s₀.heap.objs.size≤it) (h2:∀ x c,X.env.cells.lookup x=some c→c≠it) (h3:∀ p∈X.pn++pins,p.1≠it):Inv X pins σ H { s with heap:=h',toks:=t' }:=by
 have nit:∀ b u,H b=some u→b≠it:=fun b u e z=>by rw [z,hn] at e;cases e
 refine I.step (g':=s.gens) (d':=s.drawn) (ch:=[it]) (fun b hb=>?_) (fun b o _ _ hc e _=>k b o (fun z=>hc (by simp [z])) e) (fun b o _ _ hc e _=>⟨o.slots,k b o (fun z=>hc (by simp [z])) e⟩) (fun _ _ _ _ n=>n)
  (fun b o hc e=>⟨o,k b o (fun z=>hc (by simp [z])) e⟩) (fun _ _ e=>e) (fun _ _ _ e=>e) (fun b ps e=>⟨#[],by rw [e];simp⟩) (fun m hm=>?_) (fun b u e=>?_) I.bare
 ·have e:b=it:=by simpa using hb
  subst e
  exact ⟨h1,hL,h2,h3⟩
 ·obtain ⟨o,es,ep,ho,r⟩:=hm
  exact ⟨o,es,ep,k _ o (Ne.symm hL) ho,r⟩
 ·refine (I.hok b u e).stay (fun c v hc q=>k c v ?_ q) (fun _ q=>q) fun _ _ q=>q
  rcases hc with z | z
  ·rw [z];exact nit b u e
  ·exact nit c _ z
theorem Inv.tok (I:Inv X pins σ H s) (t:Nat):Inv X pins σ H { s with toks:=t }:=I.un (h':=s.heap) (t':=t) Un.refl I.hok
theorem Inv.kept {t':Nat}(I:Inv X pins σ H s) (k:∀ b u,s.heap.get? b=some u→h'.get? b=some u):Inv X pins σ H { s with heap:=h',toks:=t' }:=I.un (Un.kept k) (I.hok.kept k)
theorem Inv.laid {a:Addr}{o:HO}{t':Nat}(I:Inv X pins σ H s) (k:∀ b u,s.heap.get? b=some u→h'.get? b=some u) (hp:s.heap.objs.size≤a) (new:Zcv X.prog X.w (upd H a o) h' a o):
  Inv X pins σ (upd H a o) { s with heap:=h',toks:=t' }:=I.un (Un.laid k hp (I.hok.fresh hp)) (I.hok.laid k hp new)
theorem Inv.write {x e:Addr}{o:HO}{t':Nat}(I:Inv X pins σ H s) (mu:Mut (H x)) (he:e=x∨H e=some (.own x)) (k:∀ b u,b≠e→s.heap.get? b=some u→h'.get? b=some u) (heo:∃ u,h'.get? e=some u)
  (new:Zcv X.prog X.w (upd H x o) h' x o):Inv X pins σ (upd H x o) { s with heap:=h',toks:=t' }:=I.un (Un.write mu he k heo) (I.hok.write mu he k heo new)
theorem Inv.pins_of {pins':List (Addr×Obj)}(I:Inv X pins σ H s) (h:∀ p∈pins',s.heap.get? p.1=some p.2∧H p.1=none∧p.1≠X.env.locals∧p.1∉X.fs∧∀ v,p.2.data≠.cell v):Inv X pins' σ H s :=
 ⟨I.ok,I.os,I.bare,I.base,I.loc,I.cell,I.free,I.freeC,fun p hp=>(List.mem_append.mp hp).elim (fun z=>I.pin p (List.mem_append_left _ z)) (h p),I.hok,I.len⟩
theorem nodup_ix {N:List Str}(hN:N.Nodup) {i j:Nat}{x:Str}(a:N[i]?=some x) (b:N[j]?=some x):i=j:=by
 obtain ⟨h1,e1⟩:=List.getElem?_eq_some_iff.mp a
 obtain ⟨h2,e2⟩:=List.getElem?_eq_some_iff.mp b
 exact (List.getElem_inj hN).mp (e1.trans e2.symm)
theorem store_ok2 {M:Model}{A:Around}{E:Value→Shared→Prop}{i:Nat}{x:Str}{v:V}{u:Value}{Q:Unit→Shared→Prop}(I:Inv X pins σ H s) (hN:X.N.Nodup) (hi:X.N[i]?=some x) (hx:Loc X.env.scope x) (r:Zcy v u)
  (h:∀ s',Inv X pins (σ.set i (some v)) H s'→(∃ a,Heap.SameBut a s.heap s'.heap∧(a=X.env.locals∨X.env.cells.lookup x=some a))→Q () s') (hf:X.fn x=true∨X.env.scope.names.lookup x=some .local:=by first | exact .inl rfl | exact .inr rfl | assumption):wpAny M A (storeName X.env x u) Q E s:=by
 obtain ⟨m,hn,hl⟩:=id I.loc
 have hcls:(X.env.scope.kind == .class || (X.env.scope.kind == .module&&X.env.locals != X.env.globals))=false:=by rw [I.ok.kind];rfl
 have hiσ:i<σ.length:=by rw [I.len];exact (List.getElem?_eq_some_iff.mp hi).1
 have cne:=I.cne
 have tracked:∀ {a:Addr} {h':Heap},(∃ o,s.heap.get? a=some o∧H a=none)→Heap.SameBut a s.heap h'→HOk X.prog X.w H h':=fun {a h'} ha hs b ob e=>by
  obtain ⟨_,_,hfree⟩:=ha
  refine (I.hok b ob e).stay (fun c w' hc q=>(hs.2 c ?_).trans q) (fun _ q=>q) fun _ _ q=>q
  rintro rfl
  rcases hc with rfl | hc
  ·rw [hfree] at e;cases e
  ·rw [hfree] at hc;cases hc
 rcases hx with hk | hk
 ·refine wpAny_storeName_local hk hn (fun h' hn' hs=>?_) hcls
  obtain ⟨oL,_,_,hoL,_⟩:=id hn
  refine h _ ⟨I.ok,I.os,I.bare,⟨fun b o e n hb hx=>?_,fun b o e n hb hx=>?_,I.base.free,fun b o e hx=>?_,I.base.tups,I.base.frzs,I.base.tbls⟩,⟨_,hn',fun j y v' e1 e2 e3=>?_⟩,fun y c e=>?_,I.free,I.freeC,fun p hp=>?_,tracked ⟨oL,hoL,I.free⟩ hs,by simpa using I.len⟩ ⟨_,hs,.inl rfl⟩
  ·exact (hs.2 b (Nat.ne_of_lt (Nat.lt_of_lt_of_le (Heap.lt_size e) I.ok.above))).trans (I.base.keep b o e n hb hx)
  ·obtain ⟨sl,e1⟩:=I.base.slot b o e n hb hx
   exact ⟨sl,(hs.2 b (Nat.ne_of_lt (Nat.lt_of_lt_of_le (Heap.lt_size e) I.ok.above))).trans e1⟩
  ·obtain ⟨o',e1⟩:=I.base.there b o e hx
   exact ⟨o',(hs.2 b (Nat.ne_of_lt (Nat.lt_of_lt_of_le (Heap.lt_size e) I.ok.above))).trans e1⟩
  ·by_cases hj:j=i
   ·subst hj
    rw [hi] at e1;cases e1
    rw [List.getElem?_set_self hiσ] at e2
    cases e2
    exact ⟨u,r,.inl ⟨hk,by simp⟩⟩
   ·rw [List.getElem?_set_ne (Ne.symm hj)] at e2
    obtain ⟨u',r',q⟩:=hl j y v' e1 e2 e3
    refine ⟨u',r',?_⟩
    rcases q with ⟨k,e⟩ | ⟨k,c,e,z⟩
    ·refine .inl ⟨k,?_⟩
     have:y≠x:=fun e=>hj (nodup_ix hN e1 (e ▸ hi))
     simp [this,e]
    ·exact .inr ⟨k,c,e,z.sameBut hs (cne y c e)⟩
  ·obtain ⟨w',z⟩:=I.cell y c e
   exact ⟨w',z.sameBut hs (cne y c e)⟩
  ·obtain ⟨e,n,ne,nf,d⟩:=I.pin p hp
   exact ⟨(hs.2 p.1 ne).trans e,n,ne,nf,d⟩
 ·have hfn:X.fn x=true:=by
   rcases hf with z | z
   ·exact z
   ·rw [z] at hk;cases hk
  obtain ⟨c,hc⟩:=I.ok.has x (.inl hk)
  obtain ⟨w',z⟩:=I.cell x c hc
  refine wpAny_storeName_cell I.ok.kind hk hc z (fun h' hc' hs=>?_)
  obtain ⟨oc,hoc,hocd⟩:=id z
  refine h { s with heap:=h' } ⟨I.ok,I.os,I.bare,⟨fun b o e n hb hx=>?_,fun b o e n hb hx=>?_,I.base.free,fun b o e hx=>?_,I.base.tups,I.base.frzs,I.base.tbls⟩,⟨m,hn.sameBut hs (Ne.symm (cne x c hc)),fun j y v' e1 e2 e3=>?_⟩,fun y c' e=>?_,I.free,I.freeC,fun p hp=>?_,tracked ⟨oc,hoc,I.freeC x c hc⟩ hs,by simpa using I.len⟩ ⟨c,hs,.inr hc⟩
  ·exact (hs.2 b (Nat.ne_of_lt (Nat.lt_of_lt_of_le (Heap.lt_size e) (I.ok.cab x c hfn hc)))).trans (I.base.keep b o e n hb hx)
  ·obtain ⟨sl,e1⟩:=I.base.slot b o e n hb hx
   exact ⟨sl,(hs.2 b (Nat.ne_of_lt (Nat.lt_of_lt_of_le (Heap.lt_size e) (I.ok.cab x c hfn hc)))).trans e1⟩
  ·obtain ⟨o',e1⟩:=I.base.there b o e hx
   exact ⟨o',(hs.2 b (Nat.ne_of_lt (Nat.lt_of_lt_of_le (Heap.lt_size e) (I.ok.cab x c hfn hc)))).trans e1⟩
  ·by_cases hj:j=i
   ·subst hj
    rw [hi] at e1;cases e1
    rw [List.getElem?_set_self hiσ] at e2
    cases e2
    exact ⟨u,r,.inr ⟨.inl hk,c,hc,hc'⟩⟩
   ·rw [List.getElem?_set_ne (Ne.symm hj)] at e2
    obtain ⟨u',r',q⟩:=hl j y v' e1 e2 e3
    refine ⟨u',r',?_⟩
    rcases q with q | ⟨k,c',e,z'⟩
    ·exact .inl q
    ·refine .inr ⟨k,c',e,z'.sameBut hs ?_⟩
     rintro rfl
     exact hj (nodup_ix hN e1 (I.ok.inj _ _ _ e hc ▸ hi))
  ·by_cases hcc:c'=c
   ·subst hcc;exact ⟨_,hc'⟩
   ·obtain ⟨w2,z2⟩:=I.cell y c' e
    exact ⟨w2,z2.sameBut hs hcc⟩
  ·obtain ⟨e,n,ne,nf,d⟩:=I.pin p hp
   refine ⟨(hs.2 p.1 ?_).trans e,n,ne,nf,d⟩
   intro q
   rw [q,hoc] at e
   have q':oc=p.2:=Option.some.inj e
   exact d w' (by rw [← q'];exact hocd)
theorem store_ok {M:Model}{A:Around}{E:Value→Shared→Prop}{i:Nat}{x:Str}{v:V}{u:Value}{Q:Unit→Shared→Prop}(I:Inv X pins σ H s) (hN:X.N.Nodup) (hi:X.N[i]?=some x) (hx:Loc X.env.scope x) (r:Zcy v u)
  (h:∀ s',Inv X pins (σ.set i (some v)) H s'→Q () s') (hf:X.fn x=true∨X.env.scope.names.lookup x=some .local:=by first | exact .inl rfl | exact .inr rfl | assumption):wpAny M A (storeName X.env x u) Q E s :=
 store_ok2 I hN hi hx r (fun s' I' _=>h s' I') hf
theorem Inv.call' {s':Shared}{ch:List Addr}(I:Inv X pins σ H s) (ho:s'.os=s.os) (u:Un (frs X.stack) ch H H' s.heap s'.heap) (hok:HOk X.prog X.w H' s'.heap) (hg:AllBare s'.gens)
  (hch:∀ b∈ch,(b∈X.ex∨X.s₀.heap.objs.size≤b)∧b≠X.env.locals∧(∀ x c,X.env.cells.lookup x=some c→c≠b)∧∀ p∈X.pn++pins,p.1≠b):Inv X pins σ H' s':=by
 obtain ⟨h',g',d',t',o'⟩:=s'
 have e:o'=s.os:=ho
 subst e
 exact I.call (g':=g') (t':=t') (d':=d') u hok hg hch
end
abbrev XK:=Value→Option Addr→Hp→Prop
abbrev St:=List (Option V)
abbrev VK:=V→Hp→Prop
abbrev TE:=St→Hp→VK→Prop
abbrev TT:=St→Hp→(Bool→Hp→Prop)→Prop
abbrev TA:=St→Hp→(List V→Hp→Prop)→Prop
structure Ends where
 nx:St→Hp→Prop
 rt:VK
 bk:St→Hp→Prop:=fun _ _=>False
 ct:St→Hp→Prop:=fun _ _=>False
abbrev TS:=Ends→St→Hp→Prop
def EP (X:Cx) (pins:List (Addr×Obj)) (σ:St) (Q:VK) (u:Value) (s':Shared):Prop:=∃ v H',Inv X pins σ H' s'∧Zcy v u∧Q v H'
def TP (X:Cx) (pins:List (Addr×Obj)) (σ:St) (Q:Bool→Hp→Prop) (b:Bool) (s':Shared):Prop:=∃ H',Inv X pins σ H' s'∧Q b H'
def AP (X:Cx) (pins:List (Addr×Obj)) (σ:St) (Q:List V→Hp→Prop) (us:List Value) (s':Shared):Prop:=∃ vs H',Inv X pins σ H' s'∧Zcg vs us∧Q vs H'
def SP (X:Cx) (pins:List (Addr×Obj)) (D:Ends) (f:Flow) (s':Shared):Prop :=
 match f with
 | .next=>∃ σ' H',Inv X pins σ' H' s'∧D.nx σ' H'
 | .brk=>∃ σ' H',Inv X pins σ' H' s'∧D.bk σ' H'
 | .cont=>∃ σ' H',Inv X pins σ' H' s'∧D.ct σ' H'
 | .ret u=>∃ v σ' H',Inv X pins σ' H' s'∧Zcy v u∧D.rt v H'
def PE (X:Cx) (e:Expr) (t:TE):Prop :=
 ∀ (pins:List (Addr×Obj)) (s:Shared) (σ:St) (H:Hp) (Q:VK),Inv X pins σ H s→t σ H Q→wpAny (model X.prog X.w) X.A (eval e X.env) (EP X pins σ Q) X.xe s
def PT (X:Cx) (e:Expr) (t:TT):Prop :=
 ∀ (pins:List (Addr×Obj)) (s:Shared) (σ:St) (H:Hp) (Q:Bool→Hp→Prop),Inv X pins σ H s→t σ H Q→wpAny (model X.prog X.w) X.A (isTrue e X.env (eval e X.env)) (TP X pins σ Q) X.xe s
def PW (X:Cx) (e:Expr) (t:TT):Prop :=
 ∀ (whole:Sem Value) (pins:List (Addr×Obj)) (s:Shared) (σ:St) (H:Hp) (Q:Bool→Hp→Prop),Inv X pins σ H s→t σ H Q→wpAny (model X.prog X.w) X.A (isTrue e X.env whole) (TP X pins σ Q) X.xe s
theorem PW.pt {X:Cx}{e:Expr}{t:TT}(h:PW X e t):PT X e t:=h _
def PA (X:Cx) (es:List Expr) (t:TA):Prop :=
 ∀ (pos:Pos) (pins:List (Addr×Obj)) (s:Shared) (σ:St) (H:Hp) (Q:List V→Hp→Prop),Inv X pins σ H s→t σ H Q→wpAny (model X.prog X.w) X.A (spliced (backTo pos (starEach es X.env))) (AP X pins σ Q) X.xe s
def PS (X:Cx) (st:Stmt) (t:TS):Prop :=
 ∀ (pins:List (Addr×Obj)) (s:Shared) (σ:St) (H:Hp) (D:Ends),Inv X pins σ H s→t D σ H→wpAny (model X.prog X.w) X.A (exec st X.env) (SP X pins D) X.xe s
def PSs (X:Cx) (st:List Stmt) (t:TS):Prop :=
 ∀ (pins:List (Addr×Obj)) (s:Shared) (σ:St) (H:Hp) (D:Ends),Inv X pins σ H s→t D σ H→wpAny (model X.prog X.w) X.A (execs st X.env) (SP X pins D) X.xe s
theorem thn {α:Type}{t:Sem α}{Q Q':α→Shared→Prop}{M:Model}{A:Around}{E:Value→Shared→Prop}{s:Shared}(h:wpAny M A t Q E s) (hQ:∀ a s,Q a s→Q' a s):wpAny M A t Q' E s:=wpAny_mono h hQ fun _ _ x=>x
end L2
namespace L2
open PySem PySem.Spec PyProof.Rows
section
variable {X:Cx}
def tVar (i:Nat):TE:=fun σ H Q=>∃ v,σ[i]?=some (some v)∧Q v H
def tC (v:V):TE:=fun _ H Q=>Q v H
theorem pe_var {i:Nat}{x:Str}{pos:Pos}(hN:X.N[i]?=some x) (hv:Vis X.env.scope x) (hd:(x == ("__debug__":Str))=false:=by decide) (hcd:(x == ("__classdict__":Str))=false:=by decide):PE X (.Name x pos) (tVar i):=by
 intro pins s σ H Q I h
 obtain ⟨v,e,h⟩:=h
 obtain ⟨m,hn,hl⟩:=I.loc
 obtain ⟨u,r,l⟩:=hl i x v hN e hv
 have fin:EP X pins σ Q u s:=⟨v,H,I,r,h⟩
 rcases l with ⟨hk,hm⟩ | ⟨hk,c,hc,hcell⟩
 ·exact wpAny_Name (wpAny_loadName_local I.ok.kind hk hn hm fin) hd
 ·rcases hk with hk | hk
  ·exact wpAny_Name (wpAny_loadName_cell I.ok.kind hk hc hcell fin) hd
  ·exact wpAny_Name (wpAny_loadName_free I.ok.kind hk hc hcell fin hcd) hd
theorem Zae {i j pos}:PE X (.Constant (.int i) j pos) (tC (.int i)):=fun _ _ _ H _ I h=>wpAny_Constant_int ⟨.int i,H,I.tok _,⟨_,rfl⟩,h⟩
theorem pe_bl {b j pos}:PE X (.Constant (.bool b) j pos) (tC (.bl b)):=fun _ _ _ H _ I h=>Constant_bool ⟨.bl b,H,I,rfl,h⟩
theorem pe_non {j pos}:PE X (.Constant .none j pos) (tC .non):=fun _ _ _ H _ I h=>Constant_none ⟨.non,H,I,rfl,h⟩
theorem pe_str {x j pos}:PE X (.Constant (.str x) j pos) (tC (.str x)):=fun _ _ _ H _ I h=>Calls.Constant_str ⟨.str x,H,I.tok _,⟨_,rfl⟩,h⟩
def Gl (X:Cx) (x:Str):Prop:=X.env.kindOf x=some .globalImplicit
theorem ld_glob {E:Value→Shared→Prop}{pins:List (Addr×Obj)}{s:Shared}{σ:St}{H:Hp}{x:Str}{u:Value}{pos:Pos}{Q:Value→Shared→Prop}(I:Inv X pins σ H s) (hg:Gl X x) (hm:X.mg x=some u) (h:Q u s)
  (hd:(x == ("__debug__":Str))=false:=by decide):wpAny (model X.prog X.w) X.A (eval (.Name x pos) X.env) Q E s :=
 Calls.Name_function_global I.ok.kind hg (Calls.loadGlobal_global (by rw [I.ok.glob];exact I.mod.glob.keeps I.bk) hm h) hd
theorem ld_blt {E:Value→Shared→Prop}{pins:List (Addr×Obj)}{s:Shared}{σ:St}{H:Hp}{x:Str}{u:Value}{pos:Pos}{Q:Value→Shared→Prop}(I:Inv X pins σ H s) (hg:Gl X x) (hm:X.mg x=none) (hv:bootBuiltins x=some u) (h:Q u s)
  (hn:x≠"__name__":=by decide) (hd:(x == ("__debug__":Str))=false:=by decide):wpAny (model X.prog X.w) X.A (eval (.Name x pos) X.env) Q E s:=by
 obtain ⟨mb,h1,h2⟩:=I.mod.blt
 exact Calls.Name_function_global I.ok.kind hg (Calls.loadGlobal_builtin (by rw [I.ok.glob];exact I.mod.glob.keeps I.bk) hm (by rw [I.ok.blt];exact h1.keeps I.bk) ((h2 x hn).trans hv) h) hd
theorem Zb4 {x:Str}{v:V}{u:Value}{pos:Pos}(hg:Gl X x) (hm:X.mg x=some u) (r:Zcy v u) (hd:(x == ("__debug__":Str))=false:=by decide):PE X (.Name x pos) (tC v):=
 fun _ _ _ H _ I h=>ld_glob I hg hm ⟨v,H,I,r,h⟩ hd
theorem pe_bltn {x:Str}{v:V}{u:Value}{pos:Pos}(hg:Gl X x) (hm:X.mg x=none) (hv:bootBuiltins x=some u) (r:Zcy v u) (hn:x≠"__name__":=by decide) (hd:(x == ("__debug__":Str))=false:=by decide):PE X (.Name x pos) (tC v):=
 fun _ _ _ H _ I h=>ld_blt I hg hm hv ⟨v,H,I,r,h⟩ hn hd
variable {a b:Expr} {ta tb:TE} {pos:Pos}
def PC (X:Cx) (op:CmpOp) (a b:Expr) (t:TE):Prop :=
 ∀ (pins:List (Addr×Obj)) (s:Shared) (σ:St) (H:Hp) (Q:VK),Inv X pins σ H s→t σ H Q →
  wpAny (model X.prog X.w) X.A (eval a X.env) (fun v s₁=>wpAny (model X.prog X.w) X.A (eval b X.env) (fun u s₂=>wpAny (model X.prog X.w) X.A (compareOp op v u) (EP X pins σ Q) X.xe s₂) X.xe s₁) X.xe s
theorem nobehind (b:Expr) {op:CmpOp}(h:op≠.In) (h2:op≠.NotIn):behindInMarks op b=false:=by
 have e1:(op == CmpOp.In)=false:=by cases op <;> first | rfl | exact absurd rfl h
 have e2:(op == CmpOp.NotIn)=false:=by cases op <;> first | rfl | exact absurd rfl h2
 cases b <;> simp [behindInMarks,e1,e2]
def tNotN (ta:TE):TE:=fun σ H Q=>ta σ H fun x H1=>Q (.bl (!decide (x=.non))) H1
theorem Zcy.none_iff {x:V}{v:Value}(r:Zcy x v):(v == Value.none)=decide (x=.non):=by
 cases x with
 | non=>cases r;rfl
 | bl _=>cases r;rfl
 | int _=>obtain ⟨t,rfl⟩:=r;rfl
 | str _=>obtain ⟨t,rfl⟩:=r;rfl
 | byt _=>obtain ⟨t,rfl⟩:=r;rfl
 | flt _=>obtain ⟨t,rfl⟩:=r;rfl
 | ref _=>cases r;rfl
 | ty _=>cases r;rfl
theorem pc_notN {j pos'}(ha:PE X a ta):PC X .IsNot a (.Constant .none j pos') (tNotN ta):=by
 intro pins s σ H Q I h
 refine thn (ha pins s σ H _ I h) fun v s1 ⟨x,H1,I1,r1,q1⟩=>?_
 exact Constant_none (isnot_none_gen ⟨.bl _,H1,I1,by rw [r1.none_iff];rfl,q1⟩)
def tB (t:TE):TT:=fun σ H Q=>t σ H fun x H1=>∃ c,x=.bl c∧Q c H1
theorem pe_cmp {op:CmpOp}{t:TE}(h:PC X op a b t) (h1:behindInMarks op b=false:=by first | exact nobehind _ (by decide) (by decide) | rfl):PE X (.Compare a [op] [b] pos) t:=fun pins s σ H Q I hw=>wpAny_Compare1 (h pins s σ H Q I hw) h1
theorem pt_cmp {op:CmpOp}{t:TE}(h:PC X op a b t) (h1:behindInMarks op b=false:=by first | exact nobehind _ (by decide) (by decide) | rfl):PT X (.Compare a [op] [b] pos) (tB t):=by
 intro pins s σ H Q I hw
 refine wpAny_isTrue_Compare1 (thn (h pins s σ H _ I hw) fun v s1 h1=>thn h1 fun u s2 h2=>thn h2 fun c s3 ⟨x,H1,I1,r1,q1⟩=>?_) h1
 obtain ⟨d,rfl,q⟩:=q1
 cases r1
 exact wpAny_truthy_bool ⟨H1,I1,q⟩
theorem pt_val {e:Expr}{t:TE}(h:PE X e t) (he:∀ whole,isTrue e X.env whole=(do let v ← whole;standAt e.pos;holding [v] (truthy v)):=by intro _;rfl):PT X e (tB t):=by
 intro pins s σ H Q I hw
 refine isTrue_plain (thn (h pins s σ H _ I hw) fun v s1 ⟨x,H1,I1,r1,q1⟩=>?_) (he _)
 obtain ⟨d,rfl,q⟩:=q1
 cases r1
 exact wpAny_truthy_bool ⟨H1,I1,q⟩
variable {tA tB':TT} {Zee:List Expr}
def tAnd (t u:TT):TT:=fun σ H Q=>t σ H fun c H1=>if c=true then u σ H1 Q else Q false H1
def tOr (t u:TT):TT:=fun σ H Q=>t σ H fun c H1=>if c=true then Q true H1 else u σ H1 Q
def tNot (t:TT):TT:=fun σ H Q=>t σ H fun c H1=>Q (!c) H1
theorem pw_and1 (ha:PT X a tA):PW X (.BoolOp .And [a] pos) tA:=by
 intro wh pins s σ H Q I h
 refine isTrue_and (thn (ha pins s σ H Q I h) fun c s1 e=>?_)
 cases c with
 | true=>exact isTrue_and_nil e
 | false=>exact e
theorem pw_or1 (ha:PT X a tA):PW X (.BoolOp .Or [a] pos) tA:=by
 intro wh pins s σ H Q I h
 refine isTrue_or (thn (ha pins s σ H Q I h) fun c s1 e=>?_)
 cases c with
 | false=>exact isTrue_or_nil e
 | true=>exact e
theorem pw_and (ha:PT X a tA) (hb:PW X (.BoolOp .And (b :: Zee) pos) tB'):PW X (.BoolOp .And (a :: b :: Zee) pos) (tAnd tA tB'):=by
 intro wh pins s σ H Q I h
 refine isTrue_and (thn (ha pins s σ H _ I h) fun c s1 ⟨H1,I1,q1⟩=>?_)
 cases c with
 | true=>exact hb wh pins s1 σ H1 Q I1 q1
 | false=>exact ⟨H1,I1,q1⟩
theorem pw_or (ha:PT X a tA) (hb:PW X (.BoolOp .Or (b :: Zee) pos) tB'):PW X (.BoolOp .Or (a :: b :: Zee) pos) (tOr tA tB'):=by
 intro wh pins s σ H Q I h
 refine isTrue_or (thn (ha pins s σ H _ I h) fun c s1 ⟨H1,I1,q1⟩=>?_)
 cases c with
 | true=>exact ⟨H1,I1,q1⟩
 | false=>exact hb wh pins s1 σ H1 Q I1 q1
theorem Zd9 (ha:PT X a tA):PT X (.UnaryOp .Not a pos) (tNot tA):=by
 intro pins s σ H Q I h
 exact isTrue_not (ha pins s σ H (fun c H1=>Q (!c) H1) I h)
def tAndV (ta tb:TE):TE:=fun σ H Q=>ta σ H fun x H1=>∃ c,x=.bl c∧if c=true then tb σ H1 Q else Q (.bl false) H1
def tNotV (ta:TE):TE:=fun σ H Q=>ta σ H fun x H1=>∃ c,x=.bl c∧Q (.bl (!c)) H1
theorem pe_one {op}{t:TE}(h:PE X a t):PE X (.BoolOp op [a] pos) t:=fun pins s σ H Q I hw=>BoolOp_one (h pins s σ H Q I hw)
theorem pe_and (ha:PE X a ta) (hb:PE X (.BoolOp .And (b :: Zee) pos) tb):PE X (.BoolOp .And (a :: b :: Zee) pos) (tAndV ta tb):=by
 intro pins s σ H Q I h
 refine BoolOp_and (thn (ha pins s σ H _ I h) fun v s1 ⟨x,H1,I1,r1,q1⟩=>?_)
 obtain ⟨c,rfl,q1⟩:=q1
 cases r1
 refine wpAny_truthy_bool ?_
 cases c with
 | true=>exact hb pins s1 σ H1 Q I1 q1
 | false=>exact ⟨.bl false,H1,I1,rfl,q1⟩
theorem pe_not (ha:PE X a ta):PE X (.UnaryOp .Not a pos) (tNotV ta):=by
 intro pins s σ H Q I h
 refine UnaryOp_ (thn (ha pins s σ H _ I h) fun v s1 ⟨x,H1,I1,r1,q1⟩=>?_)
 obtain ⟨c,rfl,q1⟩:=q1
 cases r1
 exact not_of (wpAny_truthy_bool ⟨.bl (!c),H1,I1,rfl,q1⟩)
end
end L2
namespace L2
open PySem PySem.Spec PyProof.Rows
def SqL (K:PySem.W.Frag) (H:Hp) (a:Addr) (xs:List V):Prop :=
 Rd H a (.lst xs) ∨
  ∃ (o:Obj) (its:Array Value) (n:Nat),K.lookup a=some o∧o.cls=.type "list"∧o.dict=none∧o.data=.seq its n∧its.size≤sizeLine∧Zcg xs its.toList
def SqT (K:PySem.W.Frag) (H:Hp) (a:Addr) (xs:List V):Prop :=
 Rd H a (.tup xs) ∨
  ∃ (o:Obj) (its:Array Value) (n:Nat),K.lookup a=some o∧o.cls=.type "tuple"∧o.data=.seq its n∧its.size≤sizeLine∧Zcg xs its.toList
def absV:Value→Option V
 | .none=>some .non
 | .bool b=>some (.bl b)
 | .int i _=>some (.int i)
 | .str x _=>some (.str x)
 | .bytes b _=>some (.byt b)
 | .float b _=>some (.flt b)
 | .ref a=>some (.ref a)
 | .type n=>some (.ty n)
 | _=>none
theorem Zcy.abs {x:V}{u:Value}(r:Zcy x u):absV u=some x:=by
 cases x with
 | non=>cases r;rfl
 | bl _=>cases r;rfl
 | int _=>obtain ⟨t,rfl⟩:=r;rfl
 | str _=>obtain ⟨t,rfl⟩:=r;rfl
 | byt _=>obtain ⟨t,rfl⟩:=r;rfl
 | flt _=>obtain ⟨t,rfl⟩:=r;rfl
 | ref _=>cases r;rfl
 | ty _=>cases r;rfl
theorem Zcy.inj {x y:V}{u:Value}(r:Zcy x u) (q:Zcy y u):x=y:=Option.some.inj (r.abs.symm.trans q.abs)
theorem Zcg.inj:∀ {xs ys:List V}{us:List Value},Zcg xs us→Zcg ys us→xs=ys
 | _,_,_,.nil,.nil=>rfl
 | _,_,_,.cons r t,.cons r' t'=>by rw [r.inj r',Zcg.inj t t']
section
variable {X:Cx} {pins:List (Addr×Obj)} {σ:St} {H:Hp} {s:Shared} {a:Addr} {xs ys:List V}
theorem SqL.of {K:PySem.W.Frag}(h:H a=some (.lst xs)):SqL K H a xs:=.inl (.inl h)
theorem SqT.of {K:PySem.W.Frag}(h:H a=some (.tup xs)):SqT K H a xs:=.inl (.inl h)
theorem Inv.list (I:Inv X pins σ H s) (h:SqL X.K H a xs):∃ its:List Value,Zcg xs its∧PlainL s.heap a its.toArray∧xs.length≤sizeLine:=by
 rcases h with h | ⟨o,its,n,hk,hc,hd,hs,hz,r⟩
 ·obtain ⟨z,its,n,r,e⟩:=h.ok I.hok
  exact ⟨its,r,⟨_,n,e,rfl,rfl,rfl⟩,z⟩
 ·refine ⟨its.toList,r,⟨o,n,I.kIn a o hk,hc,hd,by simpa using hs⟩,?_⟩
  have e:=r.length
  simp only [Array.length_toList] at e
  omega
theorem Inv.tuple (I:Inv X pins σ H s) (h:SqT X.K H a xs):∃ its:List Value,Zcg xs its∧IsTup s.heap a its.toArray∧xs.length≤sizeLine:=by
 rcases h with h | ⟨o,its,n,hk,hc,hs,hz,r⟩
 ·obtain ⟨z,its,r,p⟩:=h.ok I.hok
  exact ⟨its,r,p,z⟩
 ·refine ⟨its.toList,r,⟨o,I.kIn a o hk,hc,n,by simpa using hs⟩,?_⟩
  have e:=r.length
  simp only [Array.length_toList] at e
  omega
theorem Inv.list_inj (I:Inv X pins σ H s) (h:SqL X.K H a xs) (h':SqL X.K H a ys):xs=ys:=by
 obtain ⟨its,r,⟨o,n,e,_,_,d⟩,_⟩:=I.list h
 obtain ⟨its',r',⟨o',n',e',_,_,d'⟩,_⟩:=I.list h'
 rw [e] at e';cases e'
 rw [d] at d'
 injection d' with d1 _
 have:its=its':=by simpa using congrArg Array.toList d1
 subst this
 exact r.inj r'
theorem Inv.tuple_inj (I:Inv X pins σ H s) (h:SqT X.K H a xs) (h':SqT X.K H a ys):xs=ys:=by
 obtain ⟨its,r,⟨o,e,_,n,d⟩,_⟩:=I.tuple h
 obtain ⟨its',r',⟨o',e',_,n',d'⟩,_⟩:=I.tuple h'
 rw [e] at e';cases e'
 rw [d] at d'
 injection d' with d1 _
 have:its=its':=by simpa using congrArg Array.toList d1
 subst this
 exact r.inj r'
end
abbrev Cx.wish (X:Cx) (E:Value→Shared→Prop):Cx:={ X with xe:=E }
abbrev Cx.nox (X:Cx):Cx:=X.wish fun _ _=>False
theorem Cx.Ok.wish {X:Cx}(ok:X.Ok) (E:Value→Shared→Prop):(X.wish E).Ok :=
 ⟨ok.mod,ok.kind,ok.glob,ok.blt,ok.above,ok.inj,ok.has,ok.cab,ok.hd,ok.frames,ok.stk,ok.exf,ok.bs,ok.bsz,ok.noex,ok.exfs,ok.funs,ok.frf⟩
theorem Cx.Ok.unwish {X:Cx}{E:Value→Shared→Prop}(ok:(X.wish E).Ok):X.Ok :=
 ⟨ok.mod,ok.kind,ok.glob,ok.blt,ok.above,ok.inj,ok.has,ok.cab,ok.hd,ok.frames,ok.stk,ok.exf,ok.bs,ok.bsz,ok.noex,ok.exfs,ok.funs,ok.frf⟩
section
variable {X:Cx} {pins:List (Addr×Obj)} {σ:St} {H:Hp} {s:Shared} {E:Value→Shared→Prop}
theorem Inv.wish (I:Inv X pins σ H s) (E:Value→Shared→Prop):Inv (X.wish E) pins σ H s:=⟨I.ok.wish E,I.os,I.bare,I.base,I.loc,I.cell,I.free,I.freeC,I.pin,I.hok,I.len⟩
theorem Inv.unwish (I:Inv (X.wish E) pins σ H s):Inv X pins σ H s:=⟨I.ok.unwish,I.os,I.bare,I.base,I.loc,I.cell,I.free,I.freeC,I.pin,I.hok,I.len⟩
theorem SP.unwish {D:Ends}{f:Flow}{s':Shared}(h:SP (X.wish E) pins D f s'):SP X pins D f s':=by
 cases f with
 | next=>obtain ⟨σ',H',I,q⟩:=h;exact ⟨σ',H',I.unwish,q⟩
 | brk=>obtain ⟨σ',H',I,q⟩:=h;exact ⟨σ',H',I.unwish,q⟩
 | cont=>obtain ⟨σ',H',I,q⟩:=h;exact ⟨σ',H',I.unwish,q⟩
 | ret u=>obtain ⟨v,σ',H',I,r,q⟩:=h;exact ⟨v,σ',H',I.unwish,r,q⟩
theorem PSs.nox {st:List Stmt}{t:TS}(h:PSs X.nox st t):PSs X st t:=fun pins s σ H D I hw =>
 wpAny_mono (h pins s σ H D (I.wish _) hw) (fun _ _ q=>q.unwish) fun _ _ z=>False.elim z
end
section
variable {X:Cx} {st:Stmt} {Zee:List Stmt} {t u:TS} {e:Expr} {te:TE} {pos:Pos}
def tNext:TS:=fun D σ H=>D.nx σ H
def tSeq (t u:TS):TS:=fun D σ H=>t { D with nx:=u D } σ H
theorem Zai:PSs X [] tNext:=fun _ _ σ H _ I h=>wpAny_execs_nil ⟨σ,H,I,h⟩
theorem pS (h1:PS X st t) (h2:PSs X Zee u):PSs X (st :: Zee) (tSeq t u):=by
 intro pins s σ H D I h
 refine wpAny_execs_cons (thn (h1 pins s σ H { D with nx:=u D } I h) fun f s1 q=>?_)
 cases f with
 | next =>
  obtain ⟨σ',H',I',q⟩:=q
  exact h2 pins s1 σ' H' D I' q
 | ret v=>exact q
 | brk=>exact q
 | cont=>exact q
theorem Zad (h1:PS X st t):PSs X [st] t:=by
 intro pins s σ H D I h
 refine wpAny_execs_cons (thn (h1 pins s σ H D I h) fun f s1 q=>?_)
 cases f with
 | next=>exact wpAny_execs_nil q
 | ret v=>exact q
 | brk=>exact q
 | cont=>exact q
theorem Inv.quiet {pins:List (Addr×Obj)}{σ:St}{H:Hp}{s:Shared}(I:Inv X pins σ H s):interactive X.env=false:=by simp [interactive,I.ok.kind]
def tDrop (te:TE):TS:=fun D σ H=>te σ H fun _ H1=>D.nx σ H1
theorem Zbg (he:PE X e te) (hs:swapsWith e none pos.line X.env=pure false:=by rfl):PS X (.Expr e pos) (tDrop te):=by
 intro pins s σ H D I h
 exact wpAny_Expr_any (thn (he pins s σ H _ I h) fun v s1 ⟨x,H1,I1,r1,q1⟩=>⟨σ,H1,I1,q1⟩) I.quiet hs
def tRet (te:TE):TS:=fun D σ H=>te σ H D.rt
theorem Zar (he:PE X e te):PS X (.Return (some e) pos) (tRet te):=by
 intro pins s σ H D I h
 exact wpAny_Return_some (thn (he pins s σ H _ I h) fun v s1 ⟨x,H1,I1,r1,q1⟩=>⟨x,σ,H1,I1,r1,q1⟩)
def tIfS (c:TT) (t u:TS):TS:=fun D σ H=>c σ H fun b H1=>if b=true then t D σ H1 else u D σ H1
theorem Za5 {c:Expr}{a b:List Stmt}{tc:TT}(hc:PT X c tc) (ha:PSs X a t) (hb:PSs X b u):PS X (.If c a b pos) (tIfS tc t u):=by
 intro pins s σ H D I h
 refine wpAny_If (thn (hc pins s σ H _ I h) fun d s1 ⟨H1,I1,q1⟩=>?_)
 cases d with
 | true=>exact ha pins s1 σ H1 D I1 q1
 | false=>exact hb pins s1 σ H1 D I1 q1
def tNever:TS:=fun _ _ _=>False
theorem Zb3 {sts:List Stmt}:PSs X sts tNever:=fun _ _ _ _ _ _ h=>h.elim
end
abbrev TG:=V→St→Hp→(St→Hp→Prop)→Prop
abbrev TGs:=List V→St→Hp→(St→Hp→Prop)→Prop
def PG (X:Cx) (target:Expr) (t:TG):Prop :=
 ∀ (pins:List (Addr×Obj)) (s:Shared) (σ:St) (H:Hp) (v:V) (u:Value) (Q:St→Hp→Prop),Inv X pins σ H s→Zcy v u→t v σ H Q →
  wpAny (model X.prog X.w) X.A (assign target X.env u) (fun _ s'=>∃ σ' H',Inv X pins σ' H' s'∧Q σ' H') X.xe s
def PGs (X:Cx) (ts:List Expr) (t:TGs):Prop :=
 ∀ (pins:List (Addr×Obj)) (s:Shared) (σ:St) (H:Hp) (vs:List V) (us:List Value) (Q:St→Hp→Prop),Inv X pins σ H s→Zcg vs us→t vs σ H Q →
  wpAny (model X.prog X.w) X.A (assignInOrder ((assignEach ts X.env).map (·.2)) us) (fun _ s'=>∃ σ' H',Inv X pins σ' H' s'∧Q σ' H') X.xe s
abbrev TSet:=V→V→V→Hp→(Hp→Prop)→Prop
def PSet (X:Cx) (t:TSet):Prop :=
 ∀ (pins:List (Addr×Obj)) (s:Shared) (σ:St) (H:Hp) (o i v:V) (ov iv u:Value) (Q:Hp→Prop),Inv X pins σ H s→Zcy o ov→Zcy i iv→Zcy v u→t o i v H Q →
  wpAny (model X.prog X.w) X.A (setItem ov iv u) (fun _ s'=>∃ H',Inv X pins σ H' s'∧Q H') X.xe s
section
variable {X:Cx} {pos:Pos}
def gName (i:Nat):TG:=fun v σ H Q=>Q (σ.set i (some v)) H
theorem Zaj {i:Nat}{x:Str}(hN:X.N.Nodup) (hi:X.N[i]?=some x) (hx:Loc X.env.scope x) (hf:X.fn x=true∨X.env.scope.names.lookup x=some .local:=by first | exact .inl rfl | exact .inr rfl | assumption):PG X (.Name x pos) (gName i):=by
 intro pins s σ H v u Q I r h
 exact wpAny_assign_Name (store_ok I hN hi hx r (fun s' I'=>⟨_,H,I',h⟩) hf)
def gNil:TGs:=fun vs σ H Q=>vs=[]∧Q σ H
def gCons (t:TG) (u:TGs):TGs:=fun vs σ H Q=>∃ v r,vs=v :: r∧t v σ H fun σ' H'=>u r σ' H' Q
theorem Zer:PGs X [] gNil:=by
 intro pins s σ H vs us Q I r h
 obtain ⟨e,h⟩:=h
 subst e
 cases r
 exact assignInOrder_nil ⟨σ,H,I,h⟩
theorem gC {e:Expr}{es:List Expr}{t:TG}{u:TGs} (h1:PG X e t) (h2:PGs X es u)
  (hs:(assignEach (e :: es) X.env).map (·.2)=assign e X.env :: (assignEach es X.env).map (·.2):=by rfl):PGs X (e :: es) (gCons t u):=by
 intro pins s σ H vs us Q I r h
 obtain ⟨v,vr,e1,h⟩:=h
 subst e1
 cases r with
 | cons r rr =>
  rw [hs]
  refine assignInOrder_cons (thn (h1 pins s σ H _ _ _ I r h) fun _ s1 ⟨σ1,H1,I1,q1⟩=>?_)
  exact h2 pins s1 σ1 H1 _ _ Q I1 rr q1
def gTup (K:PySem.W.Frag) (n:Nat) (t:TGs):TG:=fun v σ H Q=>∃ a xs,v=.ref a∧SqT K H a xs∧xs.length=n∧t xs σ H Q
theorem pg_tup {es:List Expr}{k:Nat}{t:TGs}{n:Nat}(hc:X.calm=true) (h:PGs X es t)
  (hn:(assignEach es X.env).length=n:=by rfl) (hst:(assignEach es X.env).findIdx? (·.1)=none:=by rfl):PG X (.Tuple es k pos) (gTup X.K n t):=by
 intro pins s σ H v u Q I r hw
 obtain ⟨a,xs,e1,hq,hl,hw⟩:=hw
 subst e1
 cases r
 obtain ⟨its,rv,ht,hz⟩:=I.tuple hq
 refine assign_Tuple_tuple (I.ok.hd hc) ht (by simp [hn,← hl,rv.length]) hst fun h' hx=>?_
 have I1:Inv X pins σ H { s with heap:=h' }:=I.kept (t':=s.toks) fun b o e=>hx b o (Nat.ne_of_lt (Heap.lt_size e)) e
 exact h pins _ σ H xs _ Q I1 (by simpa using rv) hw
def gSub (to ti:TE) (t:TSet):TG:=fun v σ H Q=>to σ H fun o H1=>ti σ H1 fun i H2=>t o i v H2 fun H3=>Q σ H3
theorem pg_sub {o i:Expr}{to ti:TE}{t:TSet}(ho:PE X o to) (hi:PE X i ti) (hs:PSet X t)
  (ha:∀ v,assign (.Subscript o i pos) X.env v=(do
   let ov ← holding [v] (eval o X.env)
   let iv ← holding [v,ov] (eval i X.env)
   standAt pos
   holding [v,ov,iv] (setItem ov iv v)
   release [v,ov,iv] []):=by intro _;rfl):PG X (.Subscript o i pos) (gSub to ti t):=by
 intro pins s σ H v u Q I r h
 rw [ha]
 refine wpAny_bind (wpAny_holding (thn (ho pins s σ H _ I h) fun ov s1 ⟨x,H1,I1,r1,q1⟩=>?_))
 refine wpAny_bind (wpAny_holding (thn (hi pins s1 σ H1 _ I1 q1) fun iv s2 ⟨y,H2,I2,r2,q2⟩=>?_))
 refine wpAny_bind (wpAny_standAt (wpAny_bind (wpAny_holding (thn (hs pins s2 σ H2 x y v ov iv u _ I2 r1 r2 r q2) fun _ s3 ⟨H3,I3,q3⟩=>?_))))
 exact wpAny_release ⟨σ,H3,I3,q3⟩
def tAsg (te:TE) (g:TG):TS:=fun D σ H=>te σ H fun x H1=>g x σ H1 D.nx
theorem ps_asg {tg e:Expr}{te:TE}{g:TG}(he:PE X e te) (hg:PG X tg g) (hs:swapsWithSole [tg] e pos.line X.env=pure false:=by rfl) (hw:swappedStores [tg] e X.env=pure none:=by rfl)
  (h1:(assignEach [tg] X.env).map (·.2)=[assign tg X.env]:=by rfl):PS X (.Assign [tg] e pos) (tAsg te g):=by
 intro pins s σ H D I h
 refine wpAny_Assign_stores (thn (he pins s σ H _ I h) fun v s1 ⟨x,H1,I1,r1,q1⟩=>?_) hs hw
 rw [h1]
 exact thn (hg pins s1 σ H1 x v _ I1 r1 q1) fun _ s2 q=>q
theorem Zah {i:Nat}{x:Str}{e:Expr}{te:TE}{pos':Pos}(hN:X.N.Nodup) (hi:X.N[i]?=some x) (hx:Loc X.env.scope x) (he:PE X e te) (hs:swapsWith e (some (.Name x pos')) pos.line X.env=pure false:=by rfl) (hf:X.fn x=true∨X.env.scope.names.lookup x=some .local:=by first | exact .inl rfl | exact .inr rfl | assumption):
  PS X (.Assign [.Name x pos'] e pos) (tAsg te (gName i)):=by
 intro pins s σ H D I h
 refine wpAny_Assign_Name (thn (he pins s σ H _ I h) fun v s1 ⟨y,H1,I1,r1,q1⟩=>?_) hs
 exact store_ok I1 hN hi hx r1 (fun s2 I2=>⟨_,H1,I2,q1⟩) hf
end
section
variable {X:Cx} {pos:Pos}
def tWhile (c:TT) (tb:TS):TS:=fun D σ H=>∃ W:Nat→St→Hp→Prop,(∃ m,W m σ H)∧∀ m σ H,W m σ H →
 c σ H fun b H1=>if b=true then ∃ N:St→Hp→Prop,(∀ σ' H',N σ' H'→∃ m',m'<m∧W m' σ' H')∧tb { D with nx:=N,ct:=N,bk:=D.nx } σ H1 else D.nx σ H1
theorem ps_while {c:Expr}{body:List Stmt}{tc:TT}{tb:TS}(hp:PassesOwn (model X.prog X.w) X.A X.env X.xe) (hc:PT X c tc) (hb:PSs X body tb):PS X (.While c body [] pos) (tWhile tc tb):=by
 intro pins s σ H D I h
 obtain ⟨W,⟨m0,w0⟩,turn⟩:=h
 refine wpAny_While (codeAny_whileLoop (fun n s'=>∃ σ' H',Inv X pins σ' H' s'∧W n σ' H') ?_ m0 ⟨σ,H,I,w0⟩)
 rintro n s1 ⟨σ1,H1,I1,w1⟩
 refine wpAny_passesOwn hp (thn (hc pins s1 σ1 H1 _ I1 (turn n σ1 H1 w1)) fun b s2 ⟨H2,I2,q2⟩=>?_)
 cases b with
 | true =>
  obtain ⟨N,hN,q2⟩:=q2
  rw [if_pos rfl]
  refine wpAny_passesOwn hp (thn (hb pins s2 σ1 H2 _ I2 q2) fun f s3 q3=>?_)
  cases f with
  | next =>
   obtain ⟨σ3,H3,I3,n3⟩:=q3
   obtain ⟨m',hm,w3⟩:=hN σ3 H3 n3
   exact ⟨m',hm,σ3,H3,I3,w3⟩
  | cont =>
   obtain ⟨σ3,H3,I3,n3⟩:=q3
   obtain ⟨m',hm,w3⟩:=hN σ3 H3 n3
   exact ⟨m',hm,σ3,H3,I3,w3⟩
  | brk=>exact q3
  | ret v=>exact q3
 | false =>
  rw [if_neg Bool.false_ne_true]
  exact wpAny_execs_nil ⟨σ1,H2,I2,q2⟩
end
structure It where
 go:Nat→Hp→Prop
 yld:Nat→Hp→V→Hp→Prop
 stop:Nat→Hp→Prop
def FpOk (X:Cx) (pins:List (Addr×Obj)) (H:Hp) (b:Addr):Prop :=
 H b=none∧b≠X.env.locals∧b∉X.fs∧(b∈X.ex∨X.s₀.heap.objs.size≤b)∧(∀ x c,X.env.cells.lookup x=some c→c≠b)∧∀ p∈X.pn++pins,p.1≠b
theorem Inv.fpOk {X:Cx}{pins:List (Addr×Obj)}{σ:St}{H H':Hp}{s:Shared}{b:Addr}(I:Inv X pins σ H s) (hb:s.heap.objs.size≤b) (hn:H' b=none):FpOk X pins H' b:=by
 refine ⟨hn,Nat.ne_of_gt (Nat.lt_of_lt_of_le I.lt hb),I.nofs hb,.inr (Nat.le_trans I.sz hb),fun x c e z=>?_,fun p hp z=>?_⟩
 ·obtain ⟨v,q⟩:=I.cell x c e
  exact absurd (Nat.lt_of_lt_of_le q.lt (by rw [z];exact hb)) (Nat.lt_irrefl _)
 ·exact absurd (Nat.lt_of_lt_of_le (Heap.lt_size (I.pin p hp).1) (by rw [z];exact hb)) (Nat.lt_irrefl _)
structure Turn (P:Program) (w:World) (K:PySem.W.Frag) (tg:Expr) (J:It) (fp:List Addr) (it:Addr) (tn:Nat→Heap→Prop):Prop where
 mem:it∈fp
 obj:∀ i h,tn i h→∀ b∈fp,∃ o,h.get? b=some o∧∀ v,o.data≠.cell v
 keep:∀ i h h',tn i h→(∀ b∈fp,∀ o,h.get? b=some o→h'.get? b=some o)→tn i h'
 item:∀ (X:Cx),X.prog=P→X.w=w→X.K=K→X.calm=true→∀ (i:Nat) (pins:List (Addr×Obj)) (s:Shared) (σ:St) (H:Hp) (E:Value→Shared→Prop),Inv X pins σ H s→(∀ b∈fp,FpOk X pins H b)→tn i s.heap→J.go i H →
  wpAny (model P w) X.A (pyNext (.ref it)) (fun r s1=>∃ u,r=some u ∧
   wpAny (model P w) X.A (letOwnedTupleGo tg (.ref it) u) (fun _ s2=>∃ x H',Inv X pins σ H' s2∧Zcy x u∧J.yld i H x H'∧tn (i + 1) s2.heap∧∀ b∈fp,H' b=none) E s1) E s
 done:∀ (X:Cx),X.prog=P→X.w=w→X.K=K→X.calm=true→∀ (i:Nat) (pins:List (Addr×Obj)) (s:Shared) (σ:St) (H:Hp) (E:Value→Shared→Prop),Inv X pins σ H s→(∀ b∈fp,FpOk X pins H b)→tn i s.heap→J.stop i H →
  wpAny (model P w) X.A (pyNext (.ref it)) (fun r s1=>r=none∧Inv X pins σ H s1) E s
 self:∀ (A:Around) (i:Nat) (s:Shared) (Q:Value→Shared→Prop) (E:Value→Shared→Prop),tn i s.heap→Q (.ref it) s→wpAny (model P w) A (pyIter (.ref it)) Q E s
abbrev TI:=St→Hp→(It→Hp→Prop)→Prop
def PIE (X:Cx) (pins:List (Addr×Obj)) (σ:St) (tg:Expr) (R:It→Hp→Prop) (itv:Value) (s2:Shared):Prop :=
 ∃ (it:Addr) (fp:List Addr) (tn:Nat→Heap→Prop) (J:It) (H':Hp),itv=.ref it∧Inv X pins σ H' s2∧Turn X.prog X.w X.K tg J fp it tn∧tn 0 s2.heap∧(∀ b∈fp,FpOk X pins H' b)∧R J H'
def PI (X:Cx) (tg iter:Expr) (wi:TI):Prop :=
 ∀ (pins:List (Addr×Obj)) (s:Shared) (σ:St) (H:Hp) (R:It→Hp→Prop),Inv X pins σ H s→wi σ H R →
  wpAny (model X.prog X.w) X.A (eval iter X.env) (fun v s1=>wpAny (model X.prog X.w) X.A (pyIter v) (PIE X pins σ tg R) X.xe s1) X.xe s
theorem go_of {M:Model}{A:Around}{E:Value→Shared→Prop}{s:Shared}{tg:Expr}{it:Addr}{u:Value}{o:Obj}{n:String}{vs:Array Value}{Q:Unit→Shared→Prop}(ho:s.heap.get? it=some o) (hc:o.cls=.type n) (hd:o.data=.fields vs)
  (hn:["enumerate","zip","dict_itemiterator","dict_reverseitemiterator","odict_iterator","itertools.zip_longest","itertools.pairwise"].contains n=false) (hQ:Q () s):wpAny M A (letOwnedTupleGo tg (.ref it) u) Q E s:=by
 unfold letOwnedTupleGo
 cases tg <;> first
  | exact wpAny_pure hQ
  | (cases u <;> first
    | exact wpAny_pure hQ
    | (refine wpAny_bind (wpAny_load ho ?_)
       rw [hc,hd]
       show wpAny M A (if (["enumerate","zip","dict_itemiterator","dict_reverseitemiterator","odict_iterator","itertools.zip_longest","itertools.pairwise"].contains n&&vs[0]? == some (rawInt _))=true then _ else _) Q E s
       rw [if_neg (by intro h;rw [hn,Bool.false_and] at h;cases h)]
       exact wpAny_pure hQ))
def Itl (K:PySem.W.Frag) (a:Addr):It :=
 ⟨fun i H=>∃ xs x,SqL K H a xs∧xs[i]?=some x,fun i H x H'=>H'=H∧∀ xs,SqL K H a xs→xs[i]?=some x,fun i H=>∃ xs,SqL K H a xs∧xs.length≤i⟩
def Itt (K:PySem.W.Frag) (a:Addr):It :=
 ⟨fun i H=>∃ xs x,SqT K H a xs∧xs[i]?=some x,fun i H x H'=>H'=H∧∀ xs,SqT K H a xs→xs[i]?=some x,fun i H=>∃ xs,SqT K H a xs∧xs.length≤i⟩
def Itr (lo:Int) (n:Nat):It:=⟨fun i _=>i<n,fun i H x H'=>H'=H∧x=.int (lo + i),fun i _=>n≤i⟩
theorem turn_list {P:Program}{w:World}{K:PySem.W.Frag}{tg:Expr} (a it:Addr):Turn P w K tg (Itl K a) [it] it (fun i h=>h.IsListIter it a i) where
 mem:=by simp
 obj:=fun i h st b hb=>by
  have e:b=it:=by simpa using hb
  subst e
  obtain ⟨o,e,c,d⟩:=st
  exact ⟨o,e,fun v z=>by rw [d] at z;cases z⟩
 keep:=fun i h h' st k=>st.at fun o e=>k it (by simp) o e
 item:=by
  intro X hP hw hK hc i pins s σ H E I hf st hg
  subst hP hw hK
  obtain ⟨xs,x,hq,hx⟩:=hg
  obtain ⟨its,rv,p,hz⟩:=I.list hq
  obtain ⟨u,hu,ru⟩:=rv.get hx
  obtain ⟨f0,f1,f2,f3,f4,f5⟩:=hf it (by simp)
  refine wpAny_pyNext_list_item st p.isList (x:=u) (by simpa using hu) fun h' st' sb=>?_
  have I1:Inv X pins σ H { s with heap:=h' }:=I.turned (t':=s.toks) (fun b o hb e=>(sb.2 b hb).trans e) f0 f1 f3 f4 f5
  obtain ⟨o,e,c,d⟩:=id st'
  exact ⟨u,rfl,go_of (s:={ s with heap:=h' }) e c d (by decide) ⟨x,H,I1,ru,⟨rfl,fun ys hy=>by rw [I.list_inj hy hq];exact hx⟩,st',fun b hb=>(hf b hb).1⟩⟩
 done:=by
  intro X hP hw hK hc i pins s σ H E I hf st hg
  subst hP hw hK
  obtain ⟨xs,hq,hx⟩:=hg
  obtain ⟨its,rv,p,hz⟩:=I.list hq
  obtain ⟨f0,f1,f2,f3,f4,f5⟩:=hf it (by simp)
  have hl:=rv.length
  exact wpAny_pyNext_list_end (I.ok.hd hc) st p.isList (by simp;omega) fun h' eb=>⟨rfl,I.turned (t':=s.toks) (fun b o hb e=>eb b o hb e) f0 f1 f3 f4 f5⟩
 self:=fun _ _ _ _ _ st h=>wpAny_pyIter_listiter st h
theorem turn_tuple {P:Program}{w:World}{K:PySem.W.Frag}{tg:Expr} (a it:Addr):Turn P w K tg (Itt K a) [it] it (fun i h=>h.IsTupleIter it a i) where
 mem:=by simp
 obj:=fun i h st b hb=>by
  have e:b=it:=by simpa using hb
  subst e
  obtain ⟨o,e,c,d⟩:=st
  exact ⟨o,e,fun v z=>by rw [d] at z;cases z⟩
 keep:=fun i h h' st k=>st.at fun o e=>k it (by simp) o e
 item:=by
  intro X hP hw hK hc i pins s σ H E I hf st hg
  subst hP hw hK
  obtain ⟨xs,x,hq,hx⟩:=hg
  obtain ⟨its,rv,p,hz⟩:=I.tuple hq
  obtain ⟨u,hu,ru⟩:=rv.get hx
  obtain ⟨f0,f1,f2,f3,f4,f5⟩:=hf it (by simp)
  refine wpAny_pyNext_tuple_item st (show s.heap.IsTuple a its.toArray from p) (x:=u) (by simpa using hu) fun h' st' sb=>?_
  have I1:Inv X pins σ H { s with heap:=h' }:=I.turned (t':=s.toks) (fun b o hb e=>(sb.2 b hb).trans e) f0 f1 f3 f4 f5
  obtain ⟨o,e,c,d⟩:=id st'
  exact ⟨u,rfl,go_of (s:={ s with heap:=h' }) e c d (by decide) ⟨x,H,I1,ru,⟨rfl,fun ys hy=>by rw [I.tuple_inj hy hq];exact hx⟩,st',fun b hb=>(hf b hb).1⟩⟩
 done:=by
  intro X hP hw hK hc i pins s σ H E I hf st hg
  subst hP hw hK
  obtain ⟨xs,hq,hx⟩:=hg
  obtain ⟨its,rv,p,hz⟩:=I.tuple hq
  obtain ⟨f0,f1,f2,f3,f4,f5⟩:=hf it (by simp)
  have hl:=rv.length
  exact wpAny_pyNext_tuple_end (I.ok.hd hc) st (show s.heap.IsTuple a its.toArray from p) (by simp;omega) fun h' eb=>⟨rfl,I.turned (t':=s.toks) (fun b o hb e=>eb b o hb e) f0 f1 f3 f4 f5⟩
 self:=fun _ _ _ _ _ st h=>wpAny_pyIter_tupleiter st h
theorem turn_range {P:Program}{w:World}{K:PySem.W.Frag}{tg:Expr}(it:Addr) (lo:Int) (n:Nat):Turn P w K tg (Itr lo n) [it] it (fun i h=>IsRangeIter h it (lo + (i:Nat) * 1) ((n:Int) - (i:Nat)) 1) where
 mem:=by simp
 obj:=fun i h st b hb=>by
  have e:b=it:=by simpa using hb
  subst e
  exact ⟨_,st,fun v z=>by
   have z':Data.fields _=Data.cell v:=z
   cases z'⟩
 keep:=fun i h h' st k=>k it (by simp) _ st
 item:=by
  intro X hP hw hK hc i pins s σ H E I hf st hg
  subst hP hw hK
  obtain ⟨f0,f1,f2,f3,f4,f5⟩:=hf it (by simp)
  have W:=Walks.range (prog:=X.prog) (w:=X.w) (I.ok.hd hc) it lo 1 n
  refine W.item i s _ _ hg st fun v h' tk hv st' kk=>?_
  obtain ⟨t,rfl⟩:=hv
  have I1:Inv X pins σ H { s with heap:=h',toks:=tk }:=I.turned (fun b o hb e=>kk b o (by simpa using hb) e) f0 f1 f3 f4 f5
  refine ⟨_,rfl,go_of (s:={ s with heap:=h',toks:=tk }) (n:="range_iterator") st' rfl rfl (by decide) ⟨.int (lo + i),H,I1,⟨t,?_⟩,⟨rfl,rfl⟩,st',fun b hb=>(hf b hb).1⟩⟩
  rw [Int.mul_one]
 done:=by
  intro X hP hw hK hc i pins s σ H E I hf st hg
  subst hP hw hK
  obtain ⟨f0,f1,f2,f3,f4,f5⟩:=hf it (by simp)
  exact wpAny_pyNext_range_end (I.ok.hd hc) st (by have:n≤i:=hg;omega) fun h' eb=>⟨rfl,I.turned (t':=s.toks) (fun b o hb e=>eb b o hb e) f0 f1 f3 f4 f5⟩
 self:=fun _ _ _ _ _ st h=>wpAny_pyIter_rangeiter st h
end L2
namespace L2
open PySem PySem.Spec PyProof.Rows
section
variable {X:Cx} {tg:Expr}
def iList (K:PySem.W.Frag) (tl:TE):TI:=fun σ H R=>tl σ H fun x H1=>∃ a,x=.ref a∧(∃ xs,SqL K H1 a xs)∧R (Itl K a) H1
def iTup (K:PySem.W.Frag) (tl:TE):TI:=fun σ H R=>tl σ H fun x H1=>∃ a,x=.ref a∧(∃ xs,SqT K H1 a xs)∧R (Itt K a) H1
theorem Zcw {l:Expr}{tl:TE}(hl:PE X l tl):PI X tg l (iList X.K tl):=by
 intro pins s σ H R I h
 refine thn (hl pins s σ H _ I h) fun v s1 ⟨x,H1,I1,r1,q1⟩=>?_
 obtain ⟨a,e,⟨xs,hq⟩,q⟩:=q1
 subst e
 cases r1
 obtain ⟨its,rv,p,hz⟩:=I1.list hq
 refine wpAny_pyIter_list p.isList ?_
 refine ⟨s1.heap.objs.size,[s1.heap.objs.size],_,_,H1,rfl,I1.kept (t':=s1.toks) fun b o e=>Heap.get?_push_of_some _ e,turn_list a _,⟨_,Heap.get?_push_size _ rfl,rfl,rfl⟩,fun b hb=>?_,q⟩
 have e:b=s1.heap.objs.size:=by simpa using hb
 subst e
 exact I1.fpOk (Nat.le_refl _) (I1.hok.fresh (Nat.le_refl _))
theorem pi_tup {l:Expr}{tl:TE}(hl:PE X l tl):PI X tg l (iTup X.K tl):=by
 intro pins s σ H R I h
 refine thn (hl pins s σ H _ I h) fun v s1 ⟨x,H1,I1,r1,q1⟩=>?_
 obtain ⟨a,e,⟨xs,hq⟩,q⟩:=q1
 subst e
 cases r1
 obtain ⟨its,rv,p,hz⟩:=I1.tuple hq
 refine wpAny_pyIter_tuple (show s1.heap.IsTuple a its.toArray from p) ?_
 refine ⟨s1.heap.objs.size,[s1.heap.objs.size],_,_,H1,rfl,I1.kept (t':=s1.toks) fun b o e=>Heap.get?_push_of_some _ e,turn_tuple a _,⟨_,Heap.get?_push_size _ rfl,rfl,rfl⟩,fun b hb=>?_,q⟩
 have e:b=s1.heap.objs.size:=by simpa using hb
 subst e
 exact I1.fpOk (Nat.le_refl _) (I1.hok.fresh (Nat.le_refl _))
theorem range_it {pins:List (Addr×Obj)}{σ:St}{H:Hp}{s:Shared}{R:It→Hp→Prop}{E:Value→Shared→Prop}{lo hi:Int}{t u v:Tok}{tk:Nat}(I:Inv X pins σ H s) (h1:-(2 ^ 62)≤lo) (h2:lo<2 ^ 62) (h3:-(2 ^ 62)≤hi) (h4:hi<2 ^ 62)
  (q:R (Itr lo (hi - lo).toNat) H):wpAny (model X.prog X.w) X.A (pyIter (.ref s.heap.objs.size)) (PIE X pins σ tg R) E { s with heap:=s.heap.push { cls:=.type "range",data:=.fields #[.int lo t,.int hi u,.int 1 v] },toks:=tk }:=by
 refine wpAny_pyIter_range (IsRange.new ..) (small_one h1 h2 h3 h4) ?_
 have I1:Inv X pins σ H { s with heap:=s.heap.push { cls:=.type "range",data:=.fields #[.int lo t,.int hi u,.int 1 v] },toks:=tk }:=I.kept fun b o e=>Heap.get?_push_of_some _ e
 refine ⟨(s.heap.push { cls:=.type "range",data:=.fields #[.int lo t,.int hi u,.int 1 v] }).objs.size,[(s.heap.push { cls:=.type "range",data:=.fields #[.int lo t,.int hi u,.int 1 v] }).objs.size],_,_,H,rfl,
  I1.kept (t':=tk) fun b o e=>Heap.get?_push_of_some _ e,turn_range _ lo (hi - lo).toNat,?_,fun b hb=>?_,q⟩
 ·have e1:lo + ((0:Nat):Int) * 1=lo:=by simp
  have e2:(((hi - lo).toNat:Nat):Int) - ((0:Nat):Int)=Builtin.Range.rangeSize lo hi 1:=by rw [rangeSize_one];split <;> omega
  show IsRangeIter _ _ (lo + ((0:Nat):Int) * 1) ((((hi - lo).toNat:Nat):Int) - ((0:Nat):Int)) 1
  rw [e1,e2]
  exact Heap.get?_push_size _ rfl
 ·have e:b=(s.heap.push { cls:=.type "range",data:=.fields #[.int lo t,.int hi u,.int 1 v] }).objs.size:=by simpa using hb
  subst e
  exact I1.fpOk (Nat.le_refl _) (I1.hok.fresh (Nat.le_refl _))
def iRng1 (ta:TA):TI:=fun σ H R=>ta σ H fun vs H1=>∃ j:Int,vs=[.int j]∧-(2 ^ 62)≤j∧j<2 ^ 62∧R (Itr 0 j.toNat) H1
theorem Zcm {a:Expr}{ta:TA}{p pos:Pos}(hg:Gl X "range") (hm:X.mg "range"=none) (ha:PA X [a] ta) (hs:starEach [a] X.env=[(false,eval a X.env)]:=by rfl):PI X tg (.Call (.Name "range" p) [a] [] pos) (iRng1 ta):=by
 intro pins s σ H R I h
 refine Call_ (ld_blt I hg hm boot_range (PyProof.Rows.callWith_type1 (thn (ha pos pins s σ H _ I h) fun us s1 ⟨vs,H1,I1,r1,q1⟩=>?_) hs rfl))
 obtain ⟨j,e,q1,q2,q⟩:=q1
 subst e
 cases r1 with
 | cons r rr =>
  cases rr
  obtain ⟨t,rfl⟩:=r
  exact call_range_1 (range_it I1 (by omega) (by omega) q1 q2 (by simpa using q))
def tFor (wi:TI) (g:TG) (tb:TS):TS:=fun D σ H=>wi σ H fun J H1=>∃ W:Nat→Nat→St→Hp→Prop,(∃ m,W 0 m σ H1)∧∀ i m σ H,W i m σ H →
 (J.stop i H∧D.nx σ H)∨(J.go i H∧∃ N:St→Hp→Prop,(∀ σ' H',N σ' H'→∃ m',m'<m∧W (i + 1) m' σ' H')∧∀ x H',J.yld i H x H'→g x σ H' fun σ2 H2=>tb { D with nx:=N,ct:=N,bk:=D.nx } σ2 H2)
def pinsAt (fp:List Addr) (h:Heap):List (Addr×Obj):=fp.filterMap fun b=>(h.get? b).map fun o=>(b,o)
theorem Zd3 {fp:List Addr}{h:Heap}{b:Addr}{o:Obj}(hb:b∈fp) (e:h.get? b=some o):(b,o)∈pinsAt fp h:=List.mem_filterMap.mpr ⟨b,hb,by rw [e];rfl⟩
theorem of_pinsAt {fp:List Addr}{h:Heap}{p:Addr×Obj}(hp:p∈pinsAt fp h):p.1∈fp∧h.get? p.1=some p.2:=by
 obtain ⟨b,hb,e⟩:=List.mem_filterMap.mp hp
 cases q:h.get? b with
 | none=>rw [q] at e;cases e
 | some o =>
  rw [q] at e
  have e':(b,o)=p:=Option.some.inj e
  subst e'
  exact ⟨hb,q⟩
theorem Inv.pinned {pins:List (Addr×Obj)}{σ:St}{H:Hp}{s:Shared}{fp:List Addr}(I:Inv X pins σ H s) (hf:∀ b∈fp,FpOk X pins H b) (ho:∀ b∈fp,∃ o,s.heap.get? b=some o∧∀ v,o.data≠.cell v):Inv X (pins++pinsAt fp s.heap) σ H s :=
 I.pins_of fun p hp=>(List.mem_append.mp hp).elim (fun z=>I.pin p (List.mem_append_right _ z)) fun z=>by
  obtain ⟨hb,e⟩:=of_pinsAt z
  obtain ⟨f0,f1,f2,_⟩:=hf p.1 hb
  obtain ⟨o,e',d⟩:=ho p.1 hb
  rw [e] at e';cases e'
  exact ⟨e,f0,f1,f2,d⟩
theorem Inv.unpinned {pins pl:List (Addr×Obj)}{σ:St}{H:Hp}{s:Shared}(I:Inv X (pins++pl) σ H s):Inv X pins σ H s:=I.pins_of fun p hp=>I.pin p (List.mem_append_right _ (List.mem_append_left _ hp))
theorem Zdd {iter:Expr}{body:List Stmt}{wi:TI}{g:TG}{tb:TS}{pos:Pos}(hp:PassesOwn (model X.prog X.w) X.A X.env X.xe) (hc:X.calm=true) (hi:PI X tg iter wi) (hg:PG X tg g) (hb:PSs X body tb)
  (hs:∀ x,foldedSetIterable iter X.env x=pure x:=by intro _;rfl):PS X (.For tg iter body [] pos) (tFor wi g tb):=by
 intro pins s σ H D I h
 refine wpAny_For (thn (hi pins s σ H _ I h) fun v s1 h1=>thn h1 fun itv s2 h2=>?_) hs
 obtain ⟨it,fp,tn,J,H2,e,I2,T,st2,f2,W,⟨m0,w0⟩,turn⟩:=h2
 subst e
 have stat:∀ {H':Hp},(∀ b∈fp,H' b=none)→∀ b∈fp,FpOk X pins H' b:=fun hn b hb=>⟨hn b hb,(f2 b hb).2⟩
 refine codeAny_forLoop_any (fun n s'=>∃ i σ' H',Inv X pins σ' H' s'∧tn i s'.heap∧(∀ b∈fp,H' b=none)∧W i n σ' H') ?_ m0 ⟨0,σ,H2,I2,st2,fun b hb=>(f2 b hb).1,w0⟩
 rintro n s3 ⟨i,σ3,H3,I3,st3,fr3,w3⟩
 rcases turn i n σ3 H3 w3 with ⟨stop,qn⟩ | ⟨go,N,hN,step⟩
 ·refine wpAny_passesOwn hp (thn (T.done X rfl rfl rfl hc i pins s3 σ3 H3 X.xe I3 (stat fr3) st3 stop) fun r s4 ⟨hr,I4⟩=>?_)
  subst hr
  exact wpAny_execs_nil ⟨σ3,H3,I4,qn⟩
 ·refine wpAny_passesOwn hp (thn (T.item X rfl rfl rfl hc i pins s3 σ3 H3 X.xe I3 (stat fr3) st3 go) fun r s4 ⟨u,hr,h4⟩=>?_)
  subst hr
  refine wpAny_passesOwn hp (thn h4 fun _ s5 ⟨x,H5,I5,r5,y5,st5,fr5⟩=>?_)
  have I5':=I5.pinned (stat fr5) (T.obj _ _ st5)
  refine wpAny_passesOwn hp (thn (hg _ s5 σ3 H5 x u _ I5' r5 (step x H5 y5)) fun _ s6 ⟨σ6,H6,I6,q6⟩=>?_)
  refine wpAny_passesOwn hp (thn (hb _ s6 σ6 H6 _ I6 q6) fun f s7 q7=>?_)
  have again:∀ {σ7:St} {H7:Hp},Inv X (pins++pinsAt fp s5.heap) σ7 H7 s7→N σ7 H7→∃ m,m<n∧∃ i σ' H',Inv X pins σ' H' s7∧tn i s7.heap∧(∀ b∈fp,H' b=none)∧W i m σ' H':=fun {σ7 H7} I7 n7=>by
   obtain ⟨m',hm,w7⟩:=hN σ7 H7 n7
   refine ⟨m',hm,i + 1,σ7,H7,I7.unpinned,T.keep _ _ _ st5 fun b hb o e=>(I7.pin (b,o) (List.mem_append_right _ (List.mem_append_right _ (Zd3 hb e)))).1,fun b hb=>?_,w7⟩
   obtain ⟨o,e,d⟩:=T.obj _ _ st5 b hb
   exact (I7.pin (b,o) (List.mem_append_right _ (List.mem_append_right _ (Zd3 hb e)))).2.1
  cases f with
  | next=>obtain ⟨σ7,H7,I7,n7⟩:=q7;exact again I7 n7
  | cont=>obtain ⟨σ7,H7,I7,n7⟩:=q7;exact again I7 n7
  | brk=>obtain ⟨σ7,H7,I7,q7⟩:=q7;exact ⟨σ7,H7,I7.unpinned,q7⟩
  | ret v=>obtain ⟨x7,σ7,H7,I7,r7,q7⟩:=q7;exact ⟨x7,σ7,H7,I7.unpinned,r7,q7⟩
end
end L2
namespace L2
open PySem PySem.Spec PyProof.Rows
abbrev R2:=V→V→Hp→VK→Prop
def OpR (X:Cx) (f:Value→Value→Sem Value) (r:R2):Prop :=
 ∀ (pins:List (Addr×Obj)) (s:Shared) (σ:St) (H:Hp) (x y:V) (v u:Value) (Q:VK),Inv X pins σ H s→Zcy x v→Zcy y u→r x y H Q →
  wpAny (model X.prog X.w) X.A (f v u) (EP X pins σ Q) X.xe s
def UnR (X:Cx) (f:Value→Sem Value) (r:V→Hp→VK→Prop):Prop :=
 ∀ (pins:List (Addr×Obj)) (s:Shared) (σ:St) (H:Hp) (x:V) (v:Value) (Q:VK),Inv X pins σ H s→Zcy x v→r x H Q →
  wpAny (model X.prog X.w) X.A (f v) (EP X pins σ Q) X.xe s
def CallR (X:Cx) (f:Value) (r:List V→Hp→VK→Prop):Prop :=
 ∀ (pins:List (Addr×Obj)) (s:Shared) (σ:St) (H:Hp) (xs:List V) (us:List Value) (Q:VK),Inv X pins σ H s→Zcg xs us→r xs H Q →
  wpAny (model X.prog X.w) X.A (call f us) (EP X pins σ Q) X.xe s
def TruR (X:Cx) (r:V→Hp→(Bool→Hp→Prop)→Prop):Prop :=
 ∀ (pins:List (Addr×Obj)) (s:Shared) (σ:St) (H:Hp) (x:V) (v:Value) (Q:Bool→Hp→Prop),Inv X pins σ H s→Zcy x v→r x H Q →
  wpAny (model X.prog X.w) X.A (truthy v) (TP X pins σ Q) X.xe s
def tOp (r:R2) (ta tb:TE):TE:=fun σ H Q=>ta σ H fun x H1=>tb σ H1 fun y H2=>r x y H2 Q
def tUn (r:V→Hp→VK→Prop) (ta:TE):TE:=fun σ H Q=>ta σ H fun x H1=>r x H1 Q
def rI (C:Int→Int→Prop) (g:Int→Int→V):R2:=fun x y H Q=>∃ i j,x=.int i∧y=.int j∧C i j∧Q (g i j) H
def rI0 (g:Int→Int→V):R2:=fun x y H Q=>∃ i j,x=.int i∧y=.int j∧Q (g i j) H
def rU (g:Int→V):V→Hp→VK→Prop:=fun x H Q=>∃ i,x=.int i∧Q (g i) H
section
variable {X:Cx} {a b c:Expr} {ta tb tc:TE} {pos:Pos}
theorem binT (ha:PE X a ta) (hb:PE X b tb) {pins:List (Addr×Obj)}{s:Shared}{σ:St}{H:Hp}{R:V→V→Hp→Prop}(I:Inv X pins σ H s)
  (h:ta σ H fun x H1=>tb σ H1 fun y H2=>R x y H2) {Q:Value→Shared→Prop} {f:Value→Value→Sem Value}
  (hf:∀ v u s2 x y H2,Inv X pins σ H2 s2→Zcy x v→Zcy y u→R x y H2→wpAny (model X.prog X.w) X.A (f v u) Q X.xe s2):
  wpAny (model X.prog X.w) X.A (eval a X.env) (fun v s₁=>wpAny (model X.prog X.w) X.A (eval b X.env) (fun u s₂=>wpAny (model X.prog X.w) X.A (f v u) Q X.xe s₂) X.xe s₁) X.xe s:=by
 refine thn (ha pins s σ H _ I h) fun v s1 ⟨x,H1,I1,r1,q1⟩=>?_
 refine thn (hb pins s1 σ H1 _ I1 q1) fun u s2 ⟨y,H2,I2,r2,q2⟩=>?_
 exact hf v u s2 x y H2 I2 r1 r2 q2
theorem Za8 {op:Operator}{r:R2}(ho:OpR X (binaryOp op) r) (ha:PE X a ta) (hb:PE X b tb):PE X (.BinOp a op b pos) (tOp r ta tb):=by
 intro pins s σ H Q I h
 exact wpAny_BinOp (binT ha hb I h fun v u s2 x y H2 I2 rx ry q=>ho pins s2 σ H2 x y v u Q I2 rx ry q)
theorem pe_un {op:UnaryOp}{r:V→Hp→VK→Prop}(ho:UnR X (unaryOp op) r) (ha:PE X a ta):PE X (.UnaryOp op a pos) (tUn r ta):=by
 intro pins s σ H Q I h
 exact UnaryOp_ (thn (ha pins s σ H _ I h) fun v s1 ⟨x,H1,I1,r1,q1⟩=>ho pins s1 σ H1 x v Q I1 r1 q1)
theorem opI {f:Value→Value→Sem Value}{C:Int→Int→Prop}{g:Int→Int→Int}
  (rule:∀ (i j:Int) (t u:Tok) (s:Shared) (Q:Value→Shared→Prop) (E:Value→Shared→Prop),C i j→Q (.int (g i j) s.toks) { s with toks:=s.toks + 1 }→wpAny (model X.prog X.w) X.A (f (.int i t) (.int j u)) Q E s):
  OpR X f (rI C fun i j=>.int (g i j)):=by
 intro pins s σ H x y v u Q I rx ry h
 obtain ⟨i,j,rfl,rfl,hc,q⟩:=h
 obtain ⟨t,rfl⟩:=rx
 obtain ⟨t',rfl⟩:=ry
 exact rule i j t t' s _ _ hc ⟨.int (g i j),H,I.tok _,⟨_,rfl⟩,q⟩
theorem opI0 {f:Value→Value→Sem Value}{g:Int→Int→Int}
  (rule:∀ (i j:Int) (t u:Tok) (s:Shared) (Q:Value→Shared→Prop) (E:Value→Shared→Prop),Q (.int (g i j) s.toks) { s with toks:=s.toks + 1 }→wpAny (model X.prog X.w) X.A (f (.int i t) (.int j u)) Q E s):
  OpR X f (rI0 fun i j=>.int (g i j)):=by
 intro pins s σ H x y v u Q I rx ry h
 obtain ⟨i,j,rfl,rfl,q⟩:=h
 obtain ⟨t,rfl⟩:=rx
 obtain ⟨t',rfl⟩:=ry
 exact rule i j t t' s _ _ ⟨.int (g i j),H,I.tok _,⟨_,rfl⟩,q⟩
theorem opB0 {f:Value→Value→Sem Value}{g:Int→Int→Bool}
  (rule:∀ (i j:Int) (t u:Tok) (s:Shared) (Q:Value→Shared→Prop) (E:Value→Shared→Prop),Q (.bool (g i j)) s→wpAny (model X.prog X.w) X.A (f (.int i t) (.int j u)) Q E s):
  OpR X f (rI0 fun i j=>.bl (g i j)):=by
 intro pins s σ H x y v u Q I rx ry h
 obtain ⟨i,j,rfl,rfl,q⟩:=h
 obtain ⟨t,rfl⟩:=rx
 obtain ⟨t',rfl⟩:=ry
 exact rule i j t t' s _ _ ⟨.bl (g i j),H,I,rfl,q⟩
def CDiv (i j:Int):Prop:=0<j∧j<1073741824
def CPow (i j:Int):Prop:=0≤j∧j≤1000000∧i.natAbs<2 ^ 64
def CMul (i j:Int):Prop:=(-(2 ^ 64)<i∧i<2 ^ 64)∨(-(2 ^ 64)<j∧j<2 ^ 64)
theorem CMul.ok {i j:Int}(h:CMul i j):IntMulOk i j:=by
 rcases h with ⟨h1,h2⟩ | ⟨h1,h2⟩
 ·exact .of_left (intBits_le_64 h1 h2)
 ·exact .of_right (intBits_le_64 h1 h2)
theorem Zei:OpR X (binaryOp .Add) (rI0 fun i j=>.int (i + j)):=opI0 fun _ _ _ _ _ _ _ q=>add_int q
theorem op_sub:OpR X (binaryOp .Sub) (rI0 fun i j=>.int (i - j)):=opI0 fun _ _ _ _ _ _ _ q=>sub_int q
theorem op_mul:OpR X (binaryOp .Mult) (rI CMul fun i j=>.int (i * j)):=opI fun _ _ _ _ _ _ _ hc q=>mul_int q hc.ok
theorem op_fdiv:OpR X (binaryOp .FloorDiv) (rI CDiv fun i j=>.int (i / j)):=opI fun i j _ _ _ _ _ hc q=>by
 have h1:(0:Int)<j:=hc.1
 have h2:j<1073741824:=hc.2
 exact floordiv_int (by omega) (by rw [Int.fdiv_eq_ediv_of_nonneg i (by omega)];exact q) (.inl (PyProof.noPylong_small (by omega)))
theorem op_mod:OpR X (binaryOp .Mod) (rI (fun _ j=>0<j) fun i j=>.int (i % j)):=opI fun i j _ _ _ _ _ hc q=>by
 have h1:(0:Int)<j:=hc
 exact mod_int' (by omega) (by rw [Int.fmod_eq_emod_of_nonneg i (by omega)];exact q)
theorem op_pow:OpR X (binaryOp .Pow) (rI CPow fun i j=>.int (i ^ j.toNat)):=opI fun _ _ _ _ _ _ _ hc q=>pow_int_small hc.1 hc.2.1 hc.2.2 q
theorem unI {f:Value→Sem Value}{g:Int→Int}
  (rule:∀ (i:Int) (t:Tok) (s:Shared) (Q:Value→Shared→Prop) (E:Value→Shared→Prop),Q (.int (g i) s.toks) { s with toks:=s.toks + 1 }→wpAny (model X.prog X.w) X.A (f (.int i t)) Q E s):
  UnR X f (rU fun i=>.int (g i)):=by
 intro pins s σ H x v Q I rx h
 obtain ⟨i,rfl,q⟩:=h
 obtain ⟨t,rfl⟩:=rx
 exact rule i t s _ _ ⟨.int (g i),H,I.tok _,⟨_,rfl⟩,q⟩
theorem un_neg:UnR X (unaryOp .USub) (rU fun i=>.int (-i)):=unI fun _ _ _ _ _ q=>neg_int q
end
def scal:V→V→Bool
 | .non,.non=>true | .non,.int _=>true | .int _,.non=>true | .non,.bl _=>true | .bl _,.non=>true | .non,.str _=>true | .str _,.non=>true
 | .int _,.int _=>true | .bl _,.bl _=>true | .str _,.str _=>true | .byt _,.byt _=>true
 | .int _,.str _=>true | .str _,.int _=>true | .bl _,.str _=>true | .str _,.bl _=>true
 | _,_=>false
def rEq:R2:=fun x y H Q=>scal x y=true∧Q (.bl (decide (x=y))) H
def rNe:R2:=fun x y H Q=>scal x y=true∧Q (.bl (!decide (x=y))) H
theorem dec_int {i j:Int}:decide (V.int i=V.int j)=(i == j):=by
 rw [Bool.eq_iff_iff]
 simp
theorem dec_bl {i j:Bool}:decide (V.bl i=V.bl j)=(i == j):=by
 rw [Bool.eq_iff_iff]
 simp
theorem dec_str {i j:Str}:decide (V.str i=V.str j)=(i == j):=by
 rw [Bool.eq_iff_iff]
 simp
theorem dec_byt {i j:Array UInt8}:decide (V.byt i=V.byt j)=(i.toList == j.toList):=by
 rw [Bool.eq_iff_iff]
 cases i
 cases j
 simp
section
variable {X:Cx} {a b c:Expr} {ta tb tc:TE} {pos:Pos}
theorem Zbi {pins:List (Addr×Obj)}{σ:St}{H:Hp}{s:Shared}{Q:VK}{k k':Bool}(I:Inv X pins σ H s) (q:Q (.bl k) H) (e:k=k'):EP X pins σ Q (.bool k') s:=by
 subst e
 exact ⟨.bl k,H,I,rfl,q⟩
theorem Zc7:OpR X (compareOp .Eq) rEq:=by
 intro pins s σ H x y v u Q I rx ry h
 obtain ⟨hs,q⟩:=h
 cases x with
 | non =>
  cases rx
  cases y with
  | non=>cases ry;exact PySem.EqNone.eq_none_none (Zbi I q (by simp))
  | bl j=>cases ry;exact PySem.EqNone.eq_none_bool (Zbi I q (by simp))
  | int j=>obtain ⟨t',rfl⟩:=ry;exact PySem.EqNone.eq_none_int (Zbi I q (by simp))
  | str j=>obtain ⟨t',rfl⟩:=ry;exact PySem.EqNone.eq_none_str (Zbi I q (by simp))
  | _=>exact absurd (show false=true from hs) Bool.false_ne_true
 | bl i =>
  cases rx
  cases y with
  | non=>cases ry;exact PySem.EqNone.eq_bool_none (Zbi I q (by simp))
  | bl j=>cases ry;exact eq_bool (Zbi I q dec_bl)
  | str j=>obtain ⟨t',rfl⟩:=ry;exact PySem.EqMixed.eq_bool_str (Zbi I q (by simp))
  | _=>exact absurd (show false=true from hs) Bool.false_ne_true
 | int i =>
  obtain ⟨t,rfl⟩:=rx
  cases y with
  | non=>cases ry;exact PySem.EqNone.eq_int_none (Zbi I q (by simp))
  | int j=>obtain ⟨t',rfl⟩:=ry;exact eq_int (Zbi I q dec_int)
  | str j=>obtain ⟨t',rfl⟩:=ry;exact PySem.EqMixed.eq_int_str (Zbi I q (by simp))
  | _=>exact absurd (show false=true from hs) Bool.false_ne_true
 | str i =>
  obtain ⟨t,rfl⟩:=rx
  cases y with
  | non=>cases ry;exact PySem.EqNone.eq_str_none (Zbi I q (by simp))
  | bl j=>cases ry;exact PySem.EqMixed.eq_str_bool (Zbi I q (by simp))
  | int j=>obtain ⟨t',rfl⟩:=ry;exact PySem.EqMixed.eq_str_int (Zbi I q (by simp))
  | str j=>obtain ⟨t',rfl⟩:=ry;exact eq_str (Zbi I q dec_str)
  | _=>exact absurd (show false=true from hs) Bool.false_ne_true
 | byt i =>
  obtain ⟨t,rfl⟩:=rx
  cases y with
  | byt j=>obtain ⟨t',rfl⟩:=ry;exact PySem.W.eq_bytes (Zbi I q dec_byt)
  | _=>exact absurd (show false=true from hs) Bool.false_ne_true
 | _=>cases y <;> exact absurd (show false=true from hs) Bool.false_ne_true
theorem op_ne:OpR X (compareOp .NotEq) rNe:=by
 intro pins s σ H x y v u Q I rx ry h
 obtain ⟨hs,q⟩:=h
 cases x with
 | non =>
  cases rx
  cases y with
  | non=>cases ry;exact PySem.EqNone.ne_none_none (Zbi I q (by simp))
  | bl j=>cases ry;exact PySem.EqNone.ne_none_bool (Zbi I q (by simp))
  | int j=>obtain ⟨t',rfl⟩:=ry;exact PySem.EqNone.ne_none_int (Zbi I q (by simp))
  | str j=>obtain ⟨t',rfl⟩:=ry;exact PySem.EqNone.ne_none_str (Zbi I q (by simp))
  | _=>exact absurd (show false=true from hs) Bool.false_ne_true
 | bl i =>
  cases rx
  cases y with
  | non=>cases ry;exact PySem.EqNone.ne_bool_none (Zbi I q (by simp))
  | bl j=>cases ry;exact ne_bool (Zbi I q (congrArg not dec_bl))
  | str j=>obtain ⟨t',rfl⟩:=ry;exact PySem.EqMixed.ne_bool_str (Zbi I q (by simp))
  | _=>exact absurd (show false=true from hs) Bool.false_ne_true
 | int i =>
  obtain ⟨t,rfl⟩:=rx
  cases y with
  | non=>cases ry;exact PySem.EqNone.ne_int_none (Zbi I q (by simp))
  | int j=>obtain ⟨t',rfl⟩:=ry;exact ne_int (Zbi I q (congrArg not dec_int))
  | str j=>obtain ⟨t',rfl⟩:=ry;exact PySem.EqMixed.ne_int_str (Zbi I q (by simp))
  | _=>exact absurd (show false=true from hs) Bool.false_ne_true
 | str i =>
  obtain ⟨t,rfl⟩:=rx
  cases y with
  | non=>cases ry;exact PySem.EqNone.ne_str_none (Zbi I q (by simp))
  | bl j=>cases ry;exact PySem.EqMixed.ne_str_bool (Zbi I q (by simp))
  | int j=>obtain ⟨t',rfl⟩:=ry;exact PySem.EqMixed.ne_str_int (Zbi I q (by simp))
  | str j=>obtain ⟨t',rfl⟩:=ry;exact ne_str (Zbi I q (congrArg not dec_str))
  | _=>exact absurd (show false=true from hs) Bool.false_ne_true
 | byt i =>
  obtain ⟨t,rfl⟩:=rx
  cases y with
  | byt j=>obtain ⟨t',rfl⟩:=ry;exact PySem.W.ne_bytes (Zbi I q (congrArg not dec_byt))
  | _=>exact absurd (show false=true from hs) Bool.false_ne_true
 | _=>cases y <;> exact absurd (show false=true from hs) Bool.false_ne_true
theorem op_lt:OpR X (compareOp .Lt) (rI0 fun i j=>.bl (decide (i<j))):=opB0 fun _ _ _ _ _ _ _ q=>lt_int q
theorem op_le:OpR X (compareOp .LtE) (rI0 fun i j=>.bl (decide (i≤j))):=opB0 fun _ _ _ _ _ _ _ q=>le_int q
theorem op_gt:OpR X (compareOp .Gt) (rI0 fun i j=>.bl (decide (j<i))):=opB0 fun _ _ _ _ _ _ _ q=>gt_int q
theorem op_ge:OpR X (compareOp .GtE) (rI0 fun i j=>.bl (decide (j≤i))):=opB0 fun _ _ _ _ _ _ _ q=>ge_int q
theorem op_in_str:OpR X (compareOp .In) (fun x y H Q=>∃ i j,x=.str i∧y=.str j∧Q (.bl (!(Builtin.Str.occurrences j i 0 j.length 1).isEmpty)) H):=by
 intro pins s σ H x y v u Q I rx ry h
 obtain ⟨i,j,rfl,rfl,q⟩:=h
 obtain ⟨t,rfl⟩:=rx
 obtain ⟨t',rfl⟩:=ry
 exact in_str (Zbi I q rfl)
theorem Zaq (b:Expr) {op:CmpOp}(h:op≠.In:=by decide) (h2:op≠.NotIn:=by decide):behindInMarks op b=false:=by
 have e1:(op == CmpOp.In)=false:=by cases op <;> first | rfl | exact absurd rfl h
 have e2:(op == CmpOp.NotIn)=false:=by cases op <;> first | rfl | exact absurd rfl h2
 cases b <;> simp [behindInMarks,e1,e2]
theorem Zes {op:CmpOp}{r:R2}(ho:OpR X (compareOp op) r) (ha:PE X a ta) (hb:PE X b tb) (hm:behindInMarks op b=false):PE X (.Compare a [op] [b] pos) (tOp r ta tb):=by
 intro pins s σ H Q I h
 exact wpAny_Compare1 (binT ha hb I h fun v u s2 x y H2 I2 rx ry q=>ho pins s2 σ H2 x y v u Q I2 rx ry q) hm
def tTest (t:TE):TT:=fun σ H Q=>t σ H fun x H'=>∃ k,x=.bl k∧Q k H'
theorem Zal {op:CmpOp}{r:R2}(ho:OpR X (compareOp op) r) (ha:PE X a ta) (hb:PE X b tb) (hm:behindInMarks op b=false):PT X (.Compare a [op] [b] pos) (tTest (tOp r ta tb)):=by
 intro pins s σ H Q I h
 refine wpAny_isTrue_Compare1 (thn (ha pins s σ H _ I h) fun v s1 ⟨x,H1,I1,r1,q1⟩=>thn (hb pins s1 σ H1 _ I1 q1) fun u s2 ⟨y,H2,I2,r2,q2⟩ =>
  thn (ho pins s2 σ H2 x y v u _ I2 r1 r2 q2) fun c s3 ⟨z,H3,I3,r3,k,e,q3⟩=>?_) hm
 subst e
 cases r3
 exact wpAny_truthy_bool ⟨H3,I3,q3⟩
def tChain (r r':R2) (ta tb tc:TE):TE:=fun σ H Q=>ta σ H fun x H1=>tb σ H1 fun y H2=>r x y H2 fun z H3=>∃ k,z=.bl k ∧
 (if k=true then tc σ H3 fun w' H4=>r' y w' H4 Q else Q (.bl false) H3)
theorem pt_chain {op op':CmpOp}{r r':R2}(ho:OpR X (compareOp op) r) (ho':OpR X (compareOp op') r') (ha:PE X a ta) (hb:PE X b tb) (hc:PE X c tc)
  (hm:lastMarks [op,op'] [b,c]=false:=by with_unfolding_all rfl):PT X (.Compare a [op,op'] [b,c] pos) (tTest (tChain r r' ta tb tc)):=by
 intro pins s σ H Q I h
 refine isTrue_chain (thn (ha pins s σ H _ I h) fun v s1 ⟨x,H1,I1,r1,q1⟩=>test_link (thn (hb pins s1 σ H1 _ I1 q1) fun u s2 ⟨y,H2,I2,r2,q2⟩ =>
  thn (ho pins s2 σ H2 x y v u _ I2 r1 r2 q2) fun d s3 ⟨z,H3,I3,r3,k,e,q3⟩=>?_)) hm
 subst e
 cases r3
 refine wpAny_truthy_bool ?_
 cases k with
 | false =>
  obtain ⟨k',e',q'⟩:=q3
  cases e'
  exact ite_ff ⟨H3,I3,q'⟩
 | true =>
  refine ite_tt (test_last (thn (hc pins s3 σ H3 _ I3 q3) fun w' s4 ⟨z',H4,I4,r4,q4⟩=>thn (ho' pins s4 σ H4 y z' u w' _ I4 r2 r4 q4) fun d' s5 ⟨z2,H5,I5,r5,k2,e2,q5⟩=>?_))
  subst e2
  cases r5
  exact wpAny_truthy_bool ⟨H5,I5,q5⟩
def TruV (K:PySem.W.Frag) (x:V) (H:Hp) (k:Bool):Prop :=
 match x with
 | .non=>k=false
 | .bl b=>k=b
 | .int i=>k=(i != 0)
 | .str y=>y.length≤sizeLine∧k=((y.length:Int) != 0)
 | .byt y=>y.size≤sizeLine∧k=((y.size:Int) != 0)
 | .ref p=>(∃ xs,SqL K H p xs∧k=!xs.isEmpty)∨(∃ xs,SqT K H p xs∧k=!xs.isEmpty)∨∃ kvs,H p=some (.dK kvs)∧k=!kvs.isEmpty
 | _=>False
theorem isEmpty_kv {κ:Type}{kvs:List (κ×V)}{vs:List (κ×Value)}(r:KV kvs vs):(!vs.isEmpty)=!kvs.isEmpty:=by
 cases r <;> rfl
theorem isEmpty_of {xs:List V}{its:List Value}(r:Zcg xs its):(!its.toArray.isEmpty)=!xs.isEmpty:=by
 cases r <;> simp
theorem line63:(sizeLine:Nat)<2 ^ 63:=by rw [sizeLine_eq];decide
theorem tru_ok:TruR X (fun x H Q=>∃ k,TruV X.K x H k∧Q k H):=by
 intro pins s σ H x v Q I rx h
 obtain ⟨k,e,q⟩:=h
 have hl:=line63
 have hs:sizeLine=16777216:=sizeLine_eq
 cases x with
 | non =>
  cases rx
  have e':k=false:=e
  subst e'
  exact truthy_none ⟨H,I,q⟩
 | bl b =>
  cases rx
  have e':k=b:=e
  subst e'
  exact wpAny_truthy_bool ⟨H,I,q⟩
 | int i =>
  obtain ⟨t,rfl⟩:=rx
  have e':k=(i != 0):=e
  subst e'
  exact PySem.P.truthy_int ⟨H,I,q⟩
 | str y =>
  obtain ⟨t,rfl⟩:=rx
  obtain ⟨hy,e'⟩:y.length≤sizeLine∧k=((y.length:Int) != 0):=e
  subst e'
  exact PySem.P.truthy_str (by omega) ⟨H,I.tok _,q⟩
 | byt y =>
  obtain ⟨t,rfl⟩:=rx
  obtain ⟨hy,e'⟩:y.size≤sizeLine∧k=((y.size:Int) != 0):=e
  subst e'
  exact PySem.W.truthy_bytes (by omega) ⟨H,I.tok _,q⟩
 | ref p =>
  cases rx
  have e':(∃ xs,SqL X.K H p xs∧k=!xs.isEmpty)∨(∃ xs,SqT X.K H p xs∧k=!xs.isEmpty)∨∃ kvs,H p=some (.dK kvs)∧k=!kvs.isEmpty:=e
  rcases e' with ⟨xs,hx,e'⟩ | ⟨xs,hx,e'⟩ | ⟨kvs,hx,e'⟩
  ·subst e'
   obtain ⟨its,r,pl,hz⟩:=I.list hx
   have hlen:=r.length
   exact wpAny_truthy_list pl.isList (by simp only [List.size_toArray];omega) ⟨H,I.tok _,by rw [isEmpty_of r];exact q⟩
  ·subst e'
   obtain ⟨its,r,pl,hz⟩:=I.tuple hx
   have hlen:=r.length
   exact truthy_tuple pl (by simp only [List.size_toArray];omega) ⟨H,I.tok _,by rw [isEmpty_of r];exact q⟩
  ·subst e'
   obtain ⟨hz,hS,vs,r,m⟩:kvs.length≤sizeLine∧(p == sysModules)=false∧∃ vs,KV kvs vs∧s.heap.DictOf (Zb6 X.prog X.w) p vs:=I.hok p _ hx
   have hlen:kvs.length=vs.length:=Paired.length r
   exact wpAny_truthy_dict hS m (by omega) ⟨H,I.tok _,by rw [isEmpty_kv r];exact q⟩
 | _=>exact (show False from e).elim
theorem pt_truth (ha:PE X a ta) (he:∀ whole,isTrue a X.env whole=(do let v ← whole;standAt a.pos;holding [v] (truthy v))):
  PT X a (fun σ H Q=>ta σ H fun x H'=>∃ k,TruV X.K x H' k∧Q k H'):=by
 intro pins s σ H Q I h
 exact isTrue_plain (thn (ha pins s σ H _ I h) fun v s1 ⟨x,H1,I1,r1,q1⟩=>tru_ok pins s1 σ H1 x v Q I1 r1 q1) (he _)
theorem op_add_str:OpR X (binaryOp .Add) (fun x y H Q=>∃ i j,x=.str i∧y=.str j∧i.length + j.length≤sizeLine∧Q (.str (i++j)) H):=by
 intro pins s σ H x y v u Q I rx ry h
 obtain ⟨i,j,rfl,rfl,hz,q⟩:=h
 obtain ⟨t,rfl⟩:=rx
 obtain ⟨t',rfl⟩:=ry
 exact add_str (fun t' tk=>⟨.str (i++j),H,I.tok _,⟨_,rfl⟩,q⟩) hz
theorem vals1 {x:V}{us:List Value}(r:Zcg [x] us):∃ u,us=[u]∧Zcy x u:=by
 cases r with
 | cons r1 r2=>cases r2;exact ⟨_,rfl,r1⟩
theorem vals2 {x y:V}{us:List Value}(r:Zcg [x,y] us):∃ u w',us=[u,w']∧Zcy x u∧Zcy y w':=by
 cases r with
 | cons r1 r2 =>
  cases r2 with
  | cons r3 r4=>cases r4;exact ⟨_,_,rfl,r1,r3⟩
theorem call_int1:CallR X (.type "int") (fun xs H Q=>(∃ i,xs=[.int i]∧Q (.int i) H)∨∃ k,xs=[.bl k]∧Q (.int (if k then 1 else 0)) H):=by
 intro pins s σ H xs us Q I r h
 rcases h with ⟨i,rfl,q⟩ | ⟨k,rfl,q⟩
 ·obtain ⟨u,rfl,t,rfl⟩:=vals1 r
  exact call_int_int ⟨.int i,H,I,⟨_,rfl⟩,q⟩
 ·obtain ⟨u,rfl,r1⟩:=vals1 r
  cases r1
  exact call_int_bool ⟨.int (if k then 1 else 0),H,I.tok _,⟨_,rfl⟩,q⟩
def LenV (K:PySem.W.Frag) (x:V) (H:Hp) (n:Nat):Prop :=
 match x with
 | .str y=>y.length≤sizeLine∧n=y.length
 | .byt y=>y.size≤sizeLine∧n=y.size
 | .ref p=>(∃ xs,SqL K H p xs∧n=xs.length)∨∃ xs,SqT K H p xs∧n=xs.length
 | _=>False
theorem Zdo:CallR X (.builtin "len") (fun xs H Q=>∃ x n,xs=[x]∧LenV X.K x H n∧Q (.int n) H):=by
 intro pins s σ H xs us Q I r h
 obtain ⟨x,n,rfl,e,q⟩:=h
 obtain ⟨u,rfl,rx⟩:=vals1 r
 have hl:=line63
 have hs:sizeLine=16777216:=sizeLine_eq
 cases x with
 | str y =>
  obtain ⟨t,rfl⟩:=rx
  obtain ⟨hy,e'⟩:y.length≤sizeLine∧n=y.length:=e
  subst e'
  exact len_str (by omega) ⟨.int _,H,I.tok _,⟨_,rfl⟩,q⟩
 | byt y =>
  obtain ⟨t,rfl⟩:=rx
  obtain ⟨hy,e'⟩:y.size≤sizeLine∧n=y.size:=e
  subst e'
  exact PySem.W.len_bytes (by omega) ⟨.int _,H,I.tok _,⟨_,rfl⟩,q⟩
 | ref p =>
  cases rx
  have e':(∃ xs,SqL X.K H p xs∧n=xs.length)∨∃ xs,SqT X.K H p xs∧n=xs.length:=e
  rcases e' with ⟨xs,hx,e'⟩ | ⟨xs,hx,e'⟩
  ·subst e'
   obtain ⟨its,r',pl,hz⟩:=I.list hx
   have hlen:=r'.length
   exact Calls.call_len_list pl.isList (by simp only [List.size_toArray];omega) ⟨.int xs.length,H,I.tok _,⟨_,by simp only [List.size_toArray];rw [hlen]⟩,q⟩
  ·subst e'
   obtain ⟨its,r',pl,hz⟩:=I.tuple hx
   have hlen:=r'.length
   exact len_tuple pl (by simp only [List.size_toArray];omega) ⟨.int xs.length,H,I.tok _,⟨_,by simp only [List.size_toArray];rw [hlen]⟩,q⟩
 | _=>exact (show False from e).elim
end
end L2
namespace L2
open PySem PySem.Spec PyProof.Rows
structure ObjM (h:Heap) (x dx C:Addr) (mA:Str→Option Value):Prop where
 obj:h.get? x=some (PySem.W.instObj C dx)
 ns:h.Ns1 dx mA
 ne:dx≠x
theorem lookIn_ns {h:Heap}{dx:Addr}{mA:Str→Option Value}(n:h.Ns1 dx mA):∃ od,h.get? dx=some od∧∀ name,PySem.W.lookIn name od=some (mA name):=by
 obtain ⟨o,es,ep,ho,hd,hk,_,hm⟩:=n
 refine ⟨o,ho,fun name=>?_⟩
 have e:=hm name
 unfold nsFind findBy at e
 rw [← Array.find?_toList] at e
 unfold PySem.W.lookIn
 rw [hd]
 dsimp only
 split
 ·rename_i y q
  rw [q] at e
  exact congrArg some e
 ·rename_i q
  rw [q] at e
  have a:es.toList.any (·.refKey)=false:=by
   rw [List.any_eq_false]
   intro y hy
   obtain ⟨z,t,hkey⟩:=hk y (Array.mem_toList_iff.mp hy)
   simp [DictEntry.refKey,hkey]
  have a':¬ es.toList.any (·.refKey)=true:=by rw [a];exact Bool.false_ne_true
  rw [if_neg a']
  exact congrArg some e
theorem ObjM.look {h:Heap}{x dx C:Addr}{mA:Str→Option Value}(I:ObjM h x dx C mA):∃ od,PySem.W.InstAt h x (PySem.W.instObj C dx) C (some od)∧∀ name,PySem.W.lookIn name od=some (mA name):=
 let ⟨od,ho,hl⟩:=lookIn_ns I.ns
 ⟨od,⟨I.obj,rfl,rfl,ho⟩,hl⟩
section
variable {prog:Program} {w:World} {A:Around} {E:Value→Shared→Prop} {s:Shared} {K:PySem.W.Frag} {x dx C f:Addr} {mA:Str→Option Value} {name:Str} {v:Value}
theorem get_map {expr:Bool}{Q:Value→Shared→Prop}(X:K.In s.heap) (I:ObjM s.heap x dx C mA) (hg:PySem.W.plainGet K C name=true) (hh:PySem.W.hasDictIn K C=true)
  (ha:PySem.W.findIn K (.ref C) name=some none) (hv:mA name=some v) (hv':PySem.W.handedIn v=true) (h:Q v { s with toks:=s.toks + 1 }):
  wpAny (model prog w) A (getAttr (.ref x) name expr) Q E s:=by
 obtain ⟨od,J,hl⟩:=I.look
 exact PySem.W.get_value X J (PySem.W.plainGet_of hg).1 (PySem.W.findObj_own hh ha rfl (by rw [hl,hv])) hv' h
theorem get_meth {pl:Sem Bool}{Q:Value×List Value→Shared→Prop}(X:K.In s.heap) (I:ObjM s.heap x dx C mA) (hg:PySem.W.plainGet K C name=true)
  (hf:PySem.W.findIn K (.ref C) name=some (some (.ref f))) (ht:PySem.W.isFn K (.ref f)=true) (hv:mA name=none) (h:Q (.ref f,[.ref x]) s):
  wpAny (model prog w) A (getMethod (.ref x) name pl) Q E s:=by
 obtain ⟨od,J,hl⟩:=I.look
 exact PySem.W.method_fn X J (PySem.W.plainGet_of hg).1 (PySem.W.plainGet_of hg).2 hf (beq_iff_eq.mp ht) (by show (PySem.W.lookIn name od).map (·.isSome)=some false;rw [hl,hv];rfl) h
theorem set_map {ns:List Str}{Q:Unit→Shared→Prop}(X:K.In s.heap) (I:ObjM s.heap x dx C mA)
  (hs:PySem.W.findIn K (.ref C) "__setattr__"=some (some (.builtin "object.__setattr__"))) (hp:PySem.W.plainOver K C=true) (ht:PySem.W.takerIn K C name=some none) (hh:PySem.W.hasDictIn K C=true)
  (hw:PySem.Within mA ns) (hsz:ns.length≤sizeLine)
  (h:∀ h',ObjM h' x dx C (fun y=>if y=name then some v else mA y)→Heap.SameBut dx s.heap h'→Q () { s with heap:=h',toks:=s.toks + 2 }):
  wpAny (model prog w) A (setAttr (.ref x) name v) Q E s:=by
 obtain ⟨od,J,hl⟩:=I.look
 refine PySem.W.set_plain X J hs (PySem.W.osa_open (s:={ s with toks:=s.toks + 1 }) (r:=none) X J hp ht fun b=>?_)
 obtain ⟨cd,hc,hd'⟩:=PySem.W.any_some hh
 have hx:s.heap.get? x=some ⟨.ref C,some dx,.plain,#[]⟩:=I.obj
 refine wpAny_bind (wpAny_pure (wpAny_bind (wpAny_bind (wpAny_loadPart hx (wpAny_bind (PySem.W.Looks.here (s:={ s with toks:=s.toks + 1 }) (PySem.W.looks_clsIn X hc) ?_))))))
 rw [hd']
 refine wpAny_pure (a:=some dx) (wpAny_bind (wpAny_pure (wpAny_bind ?_)))
 refine wpAny_nsSet1 (s:={ s with toks:=s.toks + 1 }) I.ns fun h' hn2 hs2=>?_
 obtain ⟨oD,esD,epD,hoD,hdD,hcD⟩:=hn2.count (PySem.Within.cons name v hw)
 refine wpAny_bind (wpAny_lookBehind hoD (by rw [hdD];exact pastItsLine_dict (Nat.le_trans hcD (by rw [List.length_cons];omega))) ?_)
 exact wpAny_pure (h _ ⟨(hs2.2 _ (Ne.symm I.ne)).trans I.obj,hn2,I.ne⟩ hs2)
theorem make_map {R:Result→Shared→Prop}{vs:List Value}{kw:List (Str×Value)}(X:K.In s.heap) (hm:PySem.W.makesIn K C=true)
  (hi:PySem.W.findIn K (.ref C) "__init__"=some (some (.ref f))) (hf:PySem.W.typeIn K (.ref f)=some (.type "function"))
  (h:codeAny (model prog w) (A.under (.builtin "type.__call__" ⟨.ref C :: vs,kw⟩)) (.call (.ref f) ⟨.ref (s.heap.objs.size + 1):: vs,kw⟩) (PySem.W.InitBack (s.heap.objs.size + 1) R)
   { s with heap:=(s.heap.push PySem.W.emptyDict).push (PySem.W.instObj C s.heap.objs.size) }):
  codeAny (model prog w) A (.call (.ref C) ⟨vs,kw⟩) R s:=by
 obtain ⟨hh,g,d,t,os⟩:=s
 exact PySem.W.make_core (PySem.W.makes_of X hm) (PySem.W.looks_findIn X hi) (fun self=>PySem.W.bind_fn X self hf) (.inl rfl) h
end
def putF (f:Str) (v:V):List (Str×V)→List (Str×V)
 | []=>[(f,v)]
 | (g,x):: r=>if g=f then (g,v):: r else (g,x):: putF f v r
theorem Za3 (f g:Str) (v:V):∀ fs:List (Str×V),(putF f v fs).lookup g=if g=f then some v else fs.lookup g
 | []=>by
  show List.lookup g [(f,v)]=_
  by_cases h:g=f
  ·have hb:(g == f)=true:=beq_iff_eq.mpr h
   simp only [List.lookup,hb,if_pos h]
  ·have hb:(g == f)=false:=beq_eq_false_iff_ne.mpr h
   simp only [List.lookup,hb,if_neg h]
 | (k,x):: r=>by
  have ih:=Za3 f g v r
  rw [show putF f v ((k,x):: r)=(if k=f then (k,v):: r else (k,x):: putF f v r) from rfl]
  by_cases hk:k=f
  ·rw [if_pos hk]
   by_cases h:g=k
   ·have hb:(g == k)=true:=beq_iff_eq.mpr h
    simp only [List.lookup,hb,if_pos (h.trans hk)]
   ·have hb:(g == k)=false:=beq_eq_false_iff_ne.mpr h
    simp only [List.lookup,hb,if_neg (fun e:g=f=>h (e.trans hk.symm))]
  ·rw [if_neg hk]
   by_cases h:g=k
   ·have hb:(g == k)=true:=beq_iff_eq.mpr h
    simp only [List.lookup,hb,if_neg (fun e:g=f=>hk (h.symm.trans e))]
   ·have hb:(g == k)=false:=beq_eq_false_iff_ne.mpr h
    simp only [List.lookup,hb]
    exact ih
theorem keys_putF (f:Str) (v:V):∀ fs:List (Str×V),f∈(putF f v fs).map (·.1)∧∀ g,g∈fs.map (·.1)→g∈(putF f v fs).map (·.1)
 | []=>⟨by simp [putF],fun g h=>by simp at h⟩
 | (k,x):: r=>by
  obtain ⟨i1,i2⟩:=keys_putF f v r
  rw [show putF f v ((k,x):: r)=(if k=f then (k,v):: r else (k,x):: putF f v r) from rfl]
  by_cases hk:k=f
  ·rw [if_pos hk]
   subst hk
   exact ⟨by simp,fun g h=>by simpa using h⟩
  ·rw [if_neg hk]
   refine ⟨?_,fun g h=>?_⟩
   ·rw [List.map_cons]
    exact List.mem_cons_of_mem _ i1
   ·rw [List.map_cons] at h ⊢
    rcases List.mem_cons.mp h with e | e
    ·exact List.mem_cons.mpr (.inl e)
    ·exact List.mem_cons_of_mem _ (i2 g e)
theorem length_putF (f:Str) (v:V):∀ fs:List (Str×V),(putF f v fs).length≤fs.length + 1
 | []=>by simp [putF]
 | (k,x):: r=>by
  have ih:=length_putF f v r
  rw [show putF f v ((k,x):: r)=(if k=f then (k,v):: r else (k,x):: putF f v r) from rfl]
  by_cases hk:k=f
  ·rw [if_pos hk,List.length_cons,List.length_cons];omega
  ·rw [if_neg hk,List.length_cons,List.length_cons];omega
theorem RelO.some_of {v:V}{o:Option Value}(r:RelO (some v) o):∃ u,o=some u∧Zcy v u:=by
 cases o with
 | none=>exact (show False from r).elim
 | some u=>exact ⟨u,rfl,r⟩
theorem RelO.none_of {o:Option Value}(r:RelO none o):o=none:=by
 cases o with
 | none=>rfl
 | some u=>exact (show False from r).elim
theorem handed_of {v:V}{u:Value}(r:Zcy v u):PySem.W.handedIn u=true:=by
 cases v with
 | non=>cases (show u=Value.none from r);rfl
 | bl b=>cases (show u=Value.bool b from r);rfl
 | int i=>obtain ⟨t,e⟩:=(show ∃ t,u=Value.int i t from r);cases e;rfl
 | str x=>obtain ⟨t,e⟩:=(show ∃ t,u=Value.str x t from r);cases e;rfl
 | byt b=>obtain ⟨t,e⟩:=(show ∃ t,u=Value.bytes b t from r);cases e;rfl
 | flt b=>obtain ⟨t,e⟩:=(show ∃ t,u=Value.float b t from r);cases e;rfl
 | ref a=>cases (show u=Value.ref a from r);rfl
 | ty n=>cases (show u=Value.type n from r);rfl
section
variable {P:Program} {w:World} {H H':Hp} {h h':Heap} {a C dx:Addr} {fs fs':List (Str×V)}
theorem ins_get (hok:HOk P w H h) (e:H a=some (.ins C dx fs)):∃ mA,ObjM h a dx C mA∧(∀ f,RelO (fs.lookup f) (mA f))∧PySem.Within mA (fs.map (·.1))∧fs.length≤1000∧H dx=some (.own a):=by
 obtain ⟨d,z,ne,ob,mA,n,r,q⟩:=(show Zcv P w H h a (.ins C dx fs) from hok a _ e)
 exact ⟨mA,⟨ob,n,ne⟩,r,q,z,d⟩
end
structure Cls (K:PySem.W.Frag) (C:Addr):Prop where
 pg:PySem.W.plainGet K C Str.empty=true
 hd:PySem.W.hasDictIn K C=true
 po:PySem.W.plainOver K C=true
 sa:PySem.W.findIn K (.ref C) "__setattr__"=some (some (.builtin "object.__setattr__"))
theorem Cls.get {K:PySem.W.Frag}{C:Addr}(c:Cls K C) (f:Str):PySem.W.plainGet K C f=true:=c.pg
def NoAttr (K:PySem.W.Frag) (C:Addr) (f:Str):Prop:=PySem.W.findIn K (.ref C) f=some none
theorem NoAttr.taker {K:PySem.W.Frag}{C:Addr}{f:Str}(n:NoAttr K C f):PySem.W.takerIn K C f=some none:=by
 unfold PySem.W.takerIn
 rw [show PySem.W.findIn K (.ref C) f=some none from n]
 rfl
structure Con (K:PySem.W.Frag) (C:Addr) (f:Str) (v:V) (u:Value):Prop where
 at_:PySem.W.findIn K (.ref C) f=some (some u)
 rel:Zcy v u
 get:PySem.W.specialIn K u "__get__"=some none
 cp:PySem.W.copiedNames.contains f=false
structure Meth (K:PySem.W.Frag) (C:Addr) (m:Str) (f:Addr):Prop where
 at_:PySem.W.findIn K (.ref C) m=some (some (.ref f))
 fn:PySem.W.isFn K (.ref f)=true
 kp:PySem.W.keepIn K (.ref f)=true
section
variable {X:Cx} {pins:List (Addr×Obj)} {σ:St} {H:Hp} {s:Shared} {a C dx:Addr} {fs:List (Str×V)} {f:Str} {v:V} {A:Around} {E:Value→Shared→Prop}
theorem getattr_ok {b:Bool}{Q:Value→Shared→Prop}(I:Inv X pins σ H s) (e:H a=some (.ins C dx fs)) (c:Cls X.K C) (n:NoAttr X.K C f) (l:fs.lookup f=some v)
  (h:∀ u s',Inv X pins σ H s'→Zcy v u→Q u s'):wpAny (model X.prog X.w) A (getAttr (.ref a) f b) Q E s:=by
 obtain ⟨mA,O,r,_,_,_⟩:=ins_get I.hok e
 obtain ⟨u,hu,ru⟩:=RelO.some_of (v:=v) (o:=mA f) (by rw [← l];exact r f)
 exact get_map I.kIn O (c.get f) c.hd n hu (handed_of ru) (h u _ (I.tok _) ru)
theorem getmeth_ok {m:Str}{g:Addr}{pl:Sem Bool}{Q:Value×List Value→Shared→Prop}(I:Inv X pins σ H s) (e:H a=some (.ins C dx fs)) (c:Cls X.K C) (k:Meth X.K C m g) (l:fs.lookup m=none)
  (h:Q (.ref g,[.ref a]) s):wpAny (model X.prog X.w) A (getMethod (.ref a) m pl) Q E s:=by
 obtain ⟨mA,O,r,_,_,_⟩:=ins_get I.hok e
 have hn:mA m=none:=RelO.none_of (by rw [← l];exact r m)
 exact get_meth I.kIn O (c.get m) k.at_ k.fn hn h
theorem setattr_ok {y:V}{u:Value}{Q:Unit→Shared→Prop}(I:Inv X pins σ H s) (e:H a=some (.ins C dx fs)) (c:Cls X.K C) (n:NoAttr X.K C f) (hl:fs.length<1000) (ry:Zcy y u)
  (h:∀ s',Inv X pins σ (upd H a (.ins C dx (putF f y fs))) s'→Q () s'):wpAny (model X.prog X.w) A (setAttr (.ref a) f u) Q E s:=by
 obtain ⟨mA,O,r,wi,_,ho⟩:=ins_get I.hok e
 have hz:(fs.map (·.1)).length≤sizeLine:=by rw [List.length_map,sizeLine_eq];omega
 refine set_map I.kIn O c.sa c.po n.taker c.hd wi hz fun h' O' sb=>h _ ?_
 have hd:∃ o,h'.get? dx=some o:=let ⟨o,_,_,e',_⟩:=O'.ns;⟨o,e'⟩
 refine I.write (x:=a) (e:=dx) (by rw [e];exact True.intro) (.inr ho) (fun b q hb z=>(sb.2 b hb).trans z) hd ?_
 refine ⟨by rw [Zac O.ne];exact ho,?_,O.ne,O'.obj,_,O'.ns,fun g=>?_,fun g hg=>?_⟩
 ·have:=length_putF f y fs;omega
 ·show RelO ((putF f y fs).lookup g) (if g=f then some u else mA g)
  rw [Za3]
  by_cases q:g=f
  ·rw [if_pos q,if_pos q];exact ry
  ·rw [if_neg q,if_neg q];exact r g
 ·by_cases q:g=f
  ·rw [q];exact (keys_putF f y fs).1
  ·refine (keys_putF f y fs).2 g (wi g fun z=>hg ?_)
   show (if g=f then some u else mA g)=none
   rw [if_neg q];exact z
theorem Inv.made (I:Inv X pins σ H s):Inv X pins σ (upd (upd H s.heap.objs.size (.own (s.heap.objs.size + 1))) (s.heap.objs.size + 1) (.ins C s.heap.objs.size []))
  { s with heap:=(s.heap.push PySem.W.emptyDict).push (PySem.W.instObj C s.heap.objs.size) }:=by
 have e1:(s.heap.push PySem.W.emptyDict).get? s.heap.objs.size=some PySem.W.emptyDict:=Heap.get?_push_size s.heap rfl
 have e2:((s.heap.push PySem.W.emptyDict).push (PySem.W.instObj C s.heap.objs.size)).get? (s.heap.objs.size + 1)=some (PySem.W.instObj C s.heap.objs.size):=by
  have:=Heap.get?_push_size (s.heap.push PySem.W.emptyDict) (o:=PySem.W.instObj C s.heap.objs.size) rfl
  rwa [Heap.size_push] at this
 have e3:(s.heap.push PySem.W.emptyDict).Ns s.heap.objs.size (fun _=>none):=⟨PySem.W.emptyDict,#[],_,e1,rfl,(fun e he=>absurd he (by simp)),fun _=>rfl⟩
 have I1:=I.laid (a:=s.heap.objs.size) (o:=.own (s.heap.objs.size + 1)) (h':=s.heap.push PySem.W.emptyDict) (t':=s.toks) (fun b u q=>Heap.get?_push_of_some _ q) (Nat.le_refl _) ⟨_,e1⟩
 refine I1.laid (a:=s.heap.objs.size + 1) (o:=.ins C s.heap.objs.size []) (t':=s.toks) (fun b u q=>Heap.get?_push_of_some _ q) (Nat.le_of_eq (Heap.size_push _ _)) ?_
 have ne:s.heap.objs.size≠s.heap.objs.size + 1:=Nat.ne_of_lt (Nat.lt_succ_self _)
 refine ⟨by rw [Zac ne,uS],Nat.zero_le _,ne,e2,fun _=>none,(Heap.Ns1.of_empty e3).at fun o q=>Heap.get?_push_of_some _ q,fun _=>True.intro,fun y hy=>absurd rfl hy⟩
theorem attr_of {prog:Program}{w:World}{env:Env}{e:Expr}{f:Str}{pos:Pos}{s:Shared}{Q:Value→Shared→Prop}(hb:attributeBase e f env (eval e env)=eval e env)
  (h:wpAny (model prog w) A (eval e env) (fun o s₁=>wpAny (model prog w) A (getAttr o f true) Q E s₁) E s):wpAny (model prog w) A (eval (.Attribute e f pos) env) Q E s :=
 Attribute_any_ h (by rw [arm_eval_Attribute,hb])
end
def tFld (K:PySem.W.Frag) (ta:TE) (f:Str):TE:=fun σ H Q=>ta σ H fun x H1=>∃ a C dx fs v,x=.ref a∧H1 a=some (.ins C dx fs)∧Cls K C∧NoAttr K C f∧fs.lookup f=some v∧Q v H1
def sFld (K:PySem.W.Frag) (ta tv:TE) (f:Str):TS:=fun D σ H=>tv σ H fun y H1=>ta σ H1 fun x H2=>∃ a C dx fs,x=.ref a∧H2 a=some (.ins C dx fs)∧Cls K C∧NoAttr K C f∧fs.length<1000 ∧
 D.nx σ (upd H2 a (.ins C dx (putF f y fs)))
section
variable {X:Cx} {o e value:Expr} {f:Str} {pos pos' tpos:Pos} {ta tv:TE}
theorem pe_fld (he:PE X e ta) (hb:attributeBase e f X.env (eval e X.env)=eval e X.env):PE X (.Attribute e f pos) (tFld X.K ta f):=by
 intro pins s σ H Q I h
 refine attr_of hb (thn (he pins s σ H _ I h) fun u s1 ⟨x,H1,I1,rx,a,C,dx,fs,v,ex,ea,c,n,l,q⟩=>?_)
 subst ex
 obtain rfl:u=Value.ref a:=rx
 exact getattr_ok I1 ea c n l fun u' s2 I2 ru=>⟨v,H1,I2,ru,q⟩
theorem ps_fld (ha:PE X o ta) (hv:PE X value tv) (hs:swapsWith value (some (.Attribute o f pos')) pos.line X.env=pure false):PS X (.Assign [.Attribute o f pos'] value pos) (sFld X.K ta tv f):=by
 intro pins s σ H D I h
 refine plainObj_wpAny_Assign_Attribute (thn (hv pins s σ H _ I h) fun u s1 ⟨y,H1,I1,ry,q⟩=>thn (ha pins s1 σ H1 _ I1 q) fun ov s2 ⟨x,H2,I2,rx,a,C,dx,fs,ex,ea,c,n,l,q2⟩=>?_) hs
 subst ex
 obtain rfl:ov=Value.ref a:=rx
 exact setattr_ok I2 ea c n l ry fun s3 I3=>⟨σ,_,I3,q2⟩
end
section
variable {X:Cx} {pins:List (Addr×Obj)} {σ:St} {H:Hp} {s:Shared} {A:Around} {E:Value→Shared→Prop} {Q:Value→Shared→Prop} {c:Value} {b:Bool}
inductive TyOf (K:PySem.W.Frag) (H:Hp):V→Value→Prop where
 | non:TyOf K H .non (.type "NoneType")
 | bl (x:Bool):TyOf K H (.bl x) (.type "bool")
 | int (i:Int):TyOf K H (.int i) (.type "int")
 | str (x:Str):TyOf K H (.str x) (.type "str")
 | flt (x:UInt64):TyOf K H (.flt x) (.type "float")
 | lst {a:Addr} {xs:List V} (e:H a=some (.lst xs)):TyOf K H (.ref a) (.type "list")
 | frz {a:Addr} {o:Obj} {xs:List V} (e:H a=some (.frz o (.lst xs))):TyOf K H (.ref a) (.type "list")
 | tup {a:Addr} {xs:List V} (e:H a=some (.tup xs)):TyOf K H (.ref a) (.type "tuple")
 | dK {a:Addr} {kvs:List (Key×V)} (e:H a=some (.dK kvs)):TyOf K H (.ref a) (.type "dict")
 | dT {a:Addr} {kvs:List (List Key×V)} (e:H a=some (.dT kvs)):TyOf K H (.ref a) (.type "dict")
 | ins {a C dx:Addr} {fs:List (Str×V)} (e:H a=some (.ins C dx fs)) (cl:Cls K C) (ha:PySem.W.findIn K (.ref C) "__class__"=some (some (.builtin "object.__class__")))
   (hn:PySem.W.specialIn K (.builtin "object.__class__") "__get__"=some (some (.builtin "getset_descriptor.__get__"))) (htk:PySem.W.takesIn K (.builtin "object.__class__")=some true)
   (hm:PySem.W.mroIn K C (.type "object")=some true):TyOf K H (.ref a) (.ref C)
theorem isinst_ok {x:V}{u t:Value}(I:Inv X pins σ H s) (rx:Zcy x u) (ty:TyOf X.K H x t) (e:PySem.W.kitOne X.K t c=some b) (h:∀ tk,Q (.bool b) { s with toks:=tk }):
  wpAny (model X.prog X.w) A (call (.builtin "isinstance") [u,c]) Q E s:=by
 cases ty with
 | non=>cases (show u=Value.none from rx);exact PySem.W.kia_one PySem.W.kitx_none I.kIn True.intro e (fun z=>nomatch z) h
 | bl y=>cases (show u=Value.bool y from rx);exact PySem.W.kia_one PySem.W.kitx_bool I.kIn True.intro e (fun z=>nomatch z) h
 | int i=>obtain ⟨t,q⟩:=(show ∃ t,u=Value.int i t from rx);cases q;exact PySem.W.kia_one PySem.W.kitx_int I.kIn True.intro e (fun z=>nomatch z) h
 | str y=>obtain ⟨t,q⟩:=(show ∃ t,u=Value.str y t from rx);cases q;exact PySem.W.kia_one PySem.W.kitx_str I.kIn True.intro e (fun z=>nomatch z) h
 | flt y=>obtain ⟨t,q⟩:=(show ∃ t,u=Value.float y t from rx);cases q;exact PySem.W.kia_one PySem.W.kitx_float I.kIn True.intro e (fun z=>nomatch z) h
 | @lst a xs ea =>
  cases (show u=Value.ref a from rx)
  obtain ⟨_,_,n,_,h1⟩:=(show Zcv X.prog X.w H s.heap a (.lst xs) from I.hok a _ ea)
  exact PySem.W.kia_one PySem.W.kitx_list I.kIn ⟨_,h1,rfl⟩ e (fun z=>nomatch z) h
 | @frz a ob xs ea =>
  cases (show u=Value.ref a from rx)
  obtain ⟨_,_,_,n,_,h1⟩:=(show Zcv X.prog X.w H s.heap a (.frz ob (.lst xs)) from I.hok a _ ea)
  exact PySem.W.kia_one PySem.W.kitx_list I.kIn ⟨_,h1,rfl⟩ e (fun z=>nomatch z) h
 | @tup a xs ea =>
  cases (show u=Value.ref a from rx)
  obtain ⟨_,_,_,p⟩:=(show Zcv X.prog X.w H s.heap a (.tup xs) from I.hok a _ ea)
  obtain ⟨o,h1,h2,_⟩:=p
  exact PySem.W.kia_one PySem.W.kitx_tuple I.kIn ⟨o,h1,h2⟩ e (fun z=>nomatch z) h
 | @dK a kvs ea =>
  cases (show u=Value.ref a from rx)
  obtain ⟨_,_,vs,_,p⟩:=(show Zcv X.prog X.w H s.heap a (.dK kvs) from I.hok a _ ea)
  obtain ⟨o,es,ep,h1,h2,_⟩:=p
  exact PySem.W.kia_one PySem.W.kitx_dict I.kIn ⟨o,h1,h2.1⟩ e (fun z=>nomatch z) h
 | @dT a kvs ea =>
  cases (show u=Value.ref a from rx)
  obtain ⟨_,_,xs,_,o,es,ep,h1,h2,_⟩:=(show Zcv X.prog X.w H s.heap a (.dT kvs) from I.hok a _ ea)
  exact PySem.W.kia_one PySem.W.kitx_dict I.kIn ⟨o,h1,h2.1⟩ e (fun z=>nomatch z) h
 | @ins a C dx fs ea cl ha hn htk hm =>
  cases (show u=Value.ref a from rx)
  obtain ⟨mA,O,_⟩:=ins_get I.hok ea
  obtain ⟨od,J,_⟩:=O.look
  exact PySem.W.kia_one (PySem.W.kitx_own (cl.get _) cl.hd ha hn htk hm) I.kIn J e (fun z=>nomatch z) h
end
end L2
namespace L2
open PySem PySem.Spec PyProof.Rows
structure Zdp (k:Nat) (A:Around):Prop where
 hd:A.handled=none
 dp:A.depth + 3 * k + 5<recursionLimit
 un:A.units + 16 * k + 200<cLine
 gd:A.guards=some []
theorem Zdp.mono {j k:Nat}{A:Around}(r:Zdp k A) (h:j≤k):Zdp j A:=⟨r.hd,by have:=r.dp;omega,by have:=r.un;omega,r.gd⟩
theorem Zdp.deeper {k:Nat}{A:Around}(r:Zdp (k + 1) A) (env:Env):Zdp k (A.deeper env):=
 ⟨r.hd,by have:=r.dp;show A.depth + 1 + 3 * k + 5<_;omega,by have:=r.un;show A.units + 3 + 16 * k + 200<_;omega,r.gd⟩
theorem make_depth {A:Around}{C:Addr}{us:List Value}{kw:List (Str×Value)}:(A.under (.builtin "type.__call__" ⟨.ref C :: us,kw⟩)).depth=A.depth + 1:=by
 first | rfl | simp [Around.under,Code.weight,Code.isCreation,Code.isGuard,Code.isCaller,Code.frames,Code.isFrame,guardIds]
theorem make_units {A:Around}{C:Addr}{us:List Value}{kw:List (Str×Value)}:(A.under (.builtin "type.__call__" ⟨.ref C :: us,kw⟩)).units=A.units + 1:=by
 first | rfl | simp [Around.under,Code.cUnits,Code.frames,Code.isFrame]
theorem Zdp.make {k:Nat}{A:Around}(r:Zdp (k + 1) A) (C:Addr) (us:List Value) (kw:List (Str×Value)):Zdp k (A.under (.builtin "type.__call__" ⟨.ref C :: us,kw⟩)):=
 ⟨r.hd,by have:=r.dp;rw [make_depth];omega,by have:=r.un;rw [make_units];omega,by first | exact r.gd | simpa [Around.under,Code.guards,Code.isGuard,guardIds,pushGuards] using r.gd⟩
theorem Zdp.depth {k:Nat}{A:Around}(r:Zdp k A):A.depth<recursionLimit:=by have:=r.dp;omega
theorem Zdp.units {k:Nat}{A:Around}(r:Zdp k A):A.units + 64<cLine:=by have:=r.un;omega
def tNil:TA:=fun _ H Q=>Q [] H
def tCons (ta:TE) (tr:TA):TA:=fun σ H Q=>ta σ H fun x H1=>tr σ H1 fun xs H2=>Q (x :: xs) H2
section
variable {X:Cx} {e:Expr} {es:List Expr} {te:TE} {t:TA} {pos:Pos}
theorem Zaa:PA X [] tNil:=fun _ _ _ _ H Q I h=>Calls.spliced_nil ⟨[],H,I,.nil,h⟩
theorem pC (ha:PE X e te) (hr:PA X es t) (hs:starEach (e :: es) X.env=(false,eval e X.env):: starEach es X.env:=by rfl):PA X (e :: es) (tCons te t):=by
 intro pos pins s σ H Q I h
 rw [hs]
 show wpAny _ _ (spliced ((false,eval e X.env):: backTo pos (starEach es X.env))) _ _ s
 refine Calls.spliced_cons (thn (ha pins s σ H _ I h) fun u s1 ⟨x,H1,I1,r1,q1⟩=>?_)
 exact thn (hr pos pins s1 σ H1 _ I1 q1) fun us s2 ⟨xs,H2,I2,r2,q2⟩=>⟨x :: xs,H2,I2,.cons r1 r2,q2⟩
def tTup (t:TA):TE:=fun σ H Q=>t σ H fun xs H1=>xs.length≤sizeLine∧∀ p,H1 p=none→Q (.ref p) (upd H1 p (.tup xs))
def tLst (t:TA):TE:=fun σ H Q=>t σ H fun xs H1=>xs.length≤sizeLine∧∀ p,H1 p=none→Q (.ref p) (upd H1 p (.lst xs))
theorem Zdw {x1}(h:PA X es t):PE X (.Tuple es x1 pos) (tTup t):=by
 intro pins s σ H Q I hq
 refine wpAny_Tuple_spliced (thn (h pos pins s σ H _ I hq) fun us s1 ⟨xs,H1,I1,r,z,q⟩=>⟨by rw [← r.length];exact z,?_⟩)
 have hf:H1 s1.heap.objs.size=none:=I1.hok.fresh (Nat.le_refl _)
 refine ⟨.ref s1.heap.objs.size,upd H1 s1.heap.objs.size (.tup xs),I1.laid (t':=s1.toks) (fun b u e=>Heap.get?_push_of_some _ e) (Nat.le_refl _) ?_,rfl,q _ hf⟩
 exact ⟨z,us,r,⟨_,Heap.get?_push_size _ rfl,rfl,_,rfl⟩⟩
theorem Zcx (h:PA X es t):PE X (.List es pos) (tLst t):=by
 intro pins s σ H Q I hq
 refine wpAny_List_spliced (thn (h pos pins s σ H _ I hq) fun us s1 ⟨xs,H1,I1,r,z,q⟩=>⟨by rw [← r.length];exact z,?_⟩)
 have hf:H1 s1.heap.objs.size=none:=I1.hok.fresh (Nat.le_refl _)
 refine ⟨.ref s1.heap.objs.size,upd H1 s1.heap.objs.size (.lst xs),I1.laid (t':=s1.toks) (fun b u e=>Heap.get?_push_of_some _ e) (Nat.le_refl _) ?_,rfl,q _ hf⟩
 exact ⟨z,us,0,r,Heap.get?_push_size _ rfl⟩
end
abbrev Sp:=List V→Hp→VK→XK→Prop
abbrev CXT:=List Env→Hp→Shared→XK→Value→Shared→Prop
structure Env0 (P:Program) (w:World) (K:PySem.W.Frag) (mg:Str→Option Value) (base:Heap) (A:Around) (outer:List Env) (s:Shared) (H:Hp):Prop where
 frames:A.frames=some outer
 mod:Mod K mg base
 bs:∀ b o,base.get? b=some o→s.heap.get? b=some o∧H b=none
 bsz:base.objs.size≤s.heap.objs.size
 funs:s.heap.FunFrames base outer
 frf:∀ b∈frs outer,H b=none
 hok:HOk P w H s.heap
 bare:AllBare s.gens
def CE (outer:List Env) (P:Program) (w:World) (H:Hp) (s:Shared) (Q:VK) (u:Value) (s':Shared):Prop :=
 ∃ v H',s'.os=s.os∧AllBare s'.gens∧Un (frs outer) [] H H' s.heap s'.heap∧HOk P w H' s'.heap∧Zcy v u∧Q v H'
def CR (CX:CXT) (outer:List Env) (P:Program) (w:World) (H:Hp) (s:Shared) (Q:VK) (E:XK) (r:Result) (s':Shared):Prop :=
 match r with
 | .ok (.ret u)=>CE outer P w H s Q u s'
 | .ok _=>False
 | .error e=>CX outer H s E e s'
structure Za0 (P:Program) (w:World) (K:PySem.W.Frag) (mg:Str→Option Value) (base:Heap) (CX:CXT) (k:Nat) (f:Addr) (fd:FuncData) (ps:List Str) (sp:Sp):Prop where
 len:∀ vs H Q E,sp vs H Q E→vs.length=ps.length
 run:∀ (A:Around) (outer:List Env) (s:Shared) (H:Hp) (args:Args) (us:List Value) (vs:List V) (Q:VK) (E:XK),Zdp k A→Env0 P w K mg base A outer s H→BindsTo s fd args (ps.zip us)→Zcg vs us→sp vs H Q E →
  codeAny (model P w) A (.call (.ref f) args) (CR CX outer P w H s Q E) s
theorem Env0.make {P:Program}{w:World}{K:PySem.W.Frag}{mg:Str→Option Value}{base:Heap}{A:Around}{outer:List Env}{s:Shared}{H:Hp}(e:Env0 P w K mg base A outer s H) (C:Addr) (us:List Value) (kw:List (Str×Value)):
  Env0 P w K mg base (A.under (.builtin "type.__call__" ⟨.ref C :: us,kw⟩)) outer s H:=⟨by first | exact e.frames | (simpa [Around.under,Code.envs,Code.isFrame,pushEnvs] using e.frames),e.mod,e.bs,e.bsz,e.funs,e.frf,e.hok,e.bare⟩
section
variable {X:Cx} {pins:List (Addr×Obj)} {σ:St} {H:Hp} {s s':Shared}
theorem Inv.env0 (I:Inv X pins σ H s):Env0 X.prog X.w X.K X.mg X.base X.A X.stack s H :=
 ⟨I.ok.frames,I.ok.mod,I.bs,Nat.le_trans I.ok.bsz I.sz,I.stack,I.stkFree,I.hok,I.bare⟩
theorem Inv.after {Q:VK}{u:Value}(I:Inv X pins σ H s) (h:CE X.stack X.prog X.w H s Q u s'):EP X pins σ Q u s':=by
 obtain ⟨v,H',os,bare,un,hok,r,q⟩:=h
 obtain ⟨hh,g,d,t,os'⟩:=s'
 obtain rfl:os'=s.os:=os
 exact ⟨v,H',I.call (h':=hh) (g':=g) (d':=d) (t':=t) (ch:=[]) un hok bare (fun b z=>absurd z (by simp)),r,q⟩
end
def tCall (sp:Sp) (dvs:List V) (E:XK) (t:TA):TE:=fun σ H Q=>t σ H fun vs H1=>sp (vs++dvs) H1 Q E
def tMeth (C:Addr) (m:Str) (sp:Sp) (dvs:List V) (E:XK) (ta:TE) (t:TA):TE:=fun σ H Q=>ta σ H fun x H1=>∃ a dx fs,x=.ref a∧H1 a=some (.ins C dx fs)∧fs.lookup m=none ∧
 t σ H1 fun vs H2=>sp (x :: (vs++dvs)) H2 Q E
def tMake (C:Addr) (sp:Sp) (dvs:List V) (E:XK) (t:TA):TE:=fun σ H Q=>t σ H fun vs H1=>∀ x dx,H1 x=none→H1 dx=none→dx≠x →
 sp (.ref x :: (vs++dvs)) (upd (upd H1 dx (.own x)) x (.ins C dx [])) (fun v H2=>v=.non∧Q (.ref x) H2) E
def Binds (K:PySem.W.Frag) (fd:FuncData) (ps:List Str) (ds:List Value):Prop :=
 ∀ (s:Shared) (us:List Value),K.In s.heap→(us++ds).length=ps.length→BindsTo s fd ⟨us,[]⟩ (ps.zip (us++ds))
theorem Binds.all {K:PySem.W.Frag}{fd:FuncData}{ps:List Str}(h:∀ us:List Value,us.length=ps.length→bindArgs fd ⟨us,[]⟩=pure (ps.zip us)):Binds K fd ps []:=fun s us _ hl=>by
 rw [List.append_nil] at hl ⊢
 exact .of_eq (h us hl)
def Passes (CX:CXT) (X:Cx) (E:XK):Prop:=∀ (pins:List (Addr×Obj)) (σ:St) (H:Hp) (s:Shared) (e:Value) (s':Shared),Inv X pins σ H s→CX X.stack H s E e s'→X.xe e s'
section
variable {X:Cx} {CX:CXT} {k:Nat} {f C:Addr} {fd:FuncData} {ps:List Str} {sp:Sp} {dvs:List V} {ds:List Value} {E:XK} {x m:Str} {p pos apos:Pos} {e o:Expr} {es:List Expr} {ta:TE} {t:TA}
theorem run_fn {pins:List (Addr×Obj)}{σ:St}{H:Hp}{s:Shared}{Q:VK}{us:List Value}{vs:List V}(F:Za0 X.prog X.w X.K X.mg X.base CX k f fd ps sp) (hr:Zdp k X.A) (hb:Binds X.K fd ps ds) (hd:Zcg dvs ds) (hx:Passes CX X E)
  (I:Inv X pins σ H s) (r:Zcg vs us) (h:sp (vs++dvs) H Q E):wpAny (model X.prog X.w) X.A (call (.ref f) us) (EP X pins σ Q) X.xe s:=by
 have r2:Zcg (vs++dvs) (us++ds):=r.append hd
 have hl:(us++ds).length=ps.length:=by rw [← r2.length];exact F.len _ _ _ _ h
 refine wpAny_call (codeAny_mono (F.run X.A X.stack s H ⟨us,[]⟩ (us++ds) (vs++dvs) Q E hr I.env0 (hb s us I.kIn hl) r2 h) fun r s' hq=>?_)
 cases r with
 | error e=>exact hx pins σ H s e s' I hq
 | ok fl =>
  cases fl with
  | ret u=>exact I.after hq
  | next=>exact False.elim hq
  | brk=>exact False.elim hq
  | cont=>exact False.elim hq
theorem pe_call (F:Za0 X.prog X.w X.K X.mg X.base CX k f fd ps sp) (hr:Zdp k X.A) (hg:Gl X x) (hm:X.mg x=some (.ref f)) (hk:PySem.W.keepIn X.K (.ref f)=true) (hb:Binds X.K fd ps ds) (hd:Zcg dvs ds) (hx:Passes CX X E)
  (ha:PA X (e :: es) t) (hdb:(x == ("__debug__":Str))=false:=by decide) (he:starEach (e :: es) X.env=(false,eval e X.env):: starEach es X.env:=by rfl) (hpl:(backTo pos (starEach es X.env)).any (·.1)=false:=by rfl):
  PE X (.Call (.Name x p) (e :: es) [] pos) (tCall sp dvs E t):=by
 intro pins s σ H Q I h
 refine wpAny_Call_Name_kw (ld_glob I hg hm ?_ hdb)
 refine PySem.W.callWith_K (h₀:=X.base) I.ok.mod.kin hk (thn (ha pos pins s σ H _ I h) fun us s1 ⟨vs,H1,I1,r,q⟩=>⟨I1.kIn,?_⟩) he hpl
 exact run_fn F hr hb hd hx I1 r q
theorem pe_meth {pl:Sem Bool}(he:PE X o ta) (c:Cls X.K C) (hm:Meth X.K C m f) (F:Za0 X.prog X.w X.K X.mg X.base CX k f fd ps sp) (hr:Zdp k X.A) (hb:Binds X.K fd ps ds) (hd:Zcg dvs ds) (hx:Passes CX X E) (ha:PA X (e :: es) t)
  (hst:starEach (e :: es) X.env=(false,eval e X.env):: starEach es X.env:=by rfl) (hpl:(backTo pos (starEach es X.env)).any (·.1)=false:=by rfl)
  (ht:eval (.Call (.Attribute o m apos) (e :: es) [] pos) X.env=(do
   let ov ← eval o X.env
   standAt apos.atName
   let (f,first) ← holding [ov] (getMethod ov m pl)
   callWith pos f first (backTo pos (starEach (e :: es) X.env)) (backToKw pos (keywordEach [] X.env))):=by rfl):
  PE X (.Call (.Attribute o m apos) (e :: es) [] pos) (tMeth C m sp dvs E ta t):=by
 intro pins s σ H Q I h
 refine PySem.W.methodCall_KW (pl:=pl) (thn (he pins s σ H _ I h) fun u s1 ⟨x,H1,I1,rx,a,dx,fs,ex,ea,l,q⟩=>?_) ht
 subst ex
 obtain rfl:u=Value.ref a:=rx
 refine getmeth_ok I1 ea c hm l ?_
 refine PySem.W.callWith_K (first:=[.ref a]) (h₀:=X.base) I.ok.mod.kin hm.kp (thn (ha pos pins s1 σ H1 _ I1 q) fun us s2 ⟨vs,H2,I2,r,q2⟩=>⟨I2.kIn,?_⟩) hst hpl
 exact run_fn (us:=.ref a :: us) (vs:=.ref a :: vs) F hr hb hd hx I2 (.cons rfl r) q2
theorem pe_meth0 {pl:Sem Bool}(he:PE X o ta) (c:Cls X.K C) (hm:Meth X.K C m f) (F:Za0 X.prog X.w X.K X.mg X.base CX k f fd ps sp) (hr:Zdp k X.A) (hb:Binds X.K fd ps ds) (hd:Zcg dvs ds) (hx:Passes CX X E)
  (ht:eval (.Call (.Attribute o m apos) [] [] pos) X.env=(do
   let ov ← eval o X.env
   standAt apos.atName
   let (f,first) ← holding [ov] (getMethod ov m pl)
   callWith pos f first (backTo pos (starEach [] X.env)) (backToKw pos (keywordEach [] X.env))):=by rfl):
  PE X (.Call (.Attribute o m apos) [] [] pos) (tMeth C m sp dvs E ta tNil):=by
 intro pins s σ H Q I h
 refine PySem.W.methodCall_KW (pl:=pl) (thn (he pins s σ H _ I h) fun u s1 ⟨x,H1,I1,rx,a,dx,fs,ex,ea,l,q⟩=>?_) ht
 subst ex
 obtain rfl:u=Value.ref a:=rx
 refine getmeth_ok I1 ea c hm l ?_
 exact PySem.W.callWith_K0 (first:=[.ref a]) I1.kIn hm.kp (run_fn (us:=[.ref a]) (vs:=[.ref a]) F hr hb hd hx I1 (.cons rfl .nil) q)
structure Mk (K:PySem.W.Frag) (C f:Addr):Prop where
 makes:PySem.W.makesIn K C=true
 init:PySem.W.findIn K (.ref C) "__init__"=some (some (.ref f))
 fn:PySem.W.isFn K (.ref f)=true
 kp:PySem.W.keepIn K (.ref C)=true
theorem run_make {pins:List (Addr×Obj)}{σ:St}{H:Hp}{s:Shared}{Q:VK}{us:List Value}{vs:List V}(M:Mk X.K C f) (F:Za0 X.prog X.w X.K X.mg X.base CX k f fd ps sp) (hr:Zdp (k + 1) X.A) (hb:Binds X.K fd ps ds) (hd:Zcg dvs ds)
  (hx:Passes CX X E) (I:Inv X pins σ H s) (r:Zcg vs us)
  (h:∀ x dx,H x=none→H dx=none→dx≠x→sp (.ref x :: (vs++dvs)) (upd (upd H dx (.own x)) x (.ins C dx [])) (fun v H2=>v=.non∧Q (.ref x) H2) E):
  wpAny (model X.prog X.w) X.A (call (.ref C) us) (EP X pins σ Q) X.xe s:=by
 have hq:=h (s.heap.objs.size + 1) s.heap.objs.size (I.hok.fresh (Nat.le_succ _)) (I.hok.fresh (Nat.le_refl _)) (Nat.ne_of_lt (Nat.lt_succ_self _))
 have I2:=Inv.made (C:=C) I
 have r2:Zcg (V.ref (s.heap.objs.size + 1):: (vs++dvs)) (Value.ref (s.heap.objs.size + 1):: (us++ds)):=.cons rfl (r.append hd)
 have hl:(Value.ref (s.heap.objs.size + 1):: us++ds).length=ps.length:=by
  have e:=r2.length
  rw [F.len _ _ _ _ hq] at e
  exact e.symm
 refine wpAny_call (make_map (f:=f) I.kIn M.makes M.init (beq_iff_eq.mp M.fn) (codeAny_mono (F.run _ X.stack _ _ ⟨Value.ref (s.heap.objs.size + 1):: us,[]⟩ (Value.ref (s.heap.objs.size + 1):: (us++ds)) _ _ E (hr.make C us [])
  (I2.env0.make C us []) (hb _ (Value.ref (s.heap.objs.size + 1):: us) I2.kIn hl) r2 hq) fun r s' hq'=>?_))
 cases r with
 | error e=>exact hx pins σ _ _ e s' I2 hq'
 | ok fl =>
  cases fl with
  | ret u =>
   obtain ⟨v,H',I3,rv,ev,q3⟩:=I2.after hq'
   subst ev
   exact ⟨rv,⟨V.ref (s.heap.objs.size + 1),H',I3,rfl,q3⟩⟩
  | next=>exact False.elim hq'
  | brk=>exact False.elim hq'
  | cont=>exact False.elim hq'
theorem pe_make (M:Mk X.K C f) (F:Za0 X.prog X.w X.K X.mg X.base CX k f fd ps sp) (hr:Zdp (k + 1) X.A) (hg:Gl X x) (hm:X.mg x=some (.ref C)) (hb:Binds X.K fd ps ds) (hd:Zcg dvs ds) (hx:Passes CX X E)
  (ha:PA X (e :: es) t) (hdb:(x == ("__debug__":Str))=false:=by decide) (he:starEach (e :: es) X.env=(false,eval e X.env):: starEach es X.env:=by rfl) (hpl:(backTo pos (starEach es X.env)).any (·.1)=false:=by rfl):
  PE X (.Call (.Name x p) (e :: es) [] pos) (tMake C sp dvs E t):=by
 intro pins s σ H Q I h
 refine wpAny_Call_Name_kw (ld_glob I hg hm ?_ hdb)
 refine PySem.W.callWith_K (h₀:=X.base) I.ok.mod.kin M.kp (thn (ha pos pins s σ H _ I h) fun us s1 ⟨vs,H1,I1,r,q⟩=>⟨I1.kIn,?_⟩) he hpl
 exact run_make M F hr hb hd hx I1 r q
end
section
variable {X:Cx} {CX:CXT} {k:Nat} {f C:Addr} {fd:FuncData} {ps ks:List Str} {sp:Sp} {E:XK} {x m:Str} {p pos apos kpos:Pos} {e o:Expr} {es:List Expr} {kws:List Keyword} {te ta:TE} {t tk:TA} {nm:Option Str}
structure KBinds (K:PySem.W.Frag) (fd:FuncData) (ps ks:List Str) (g:List Value→List Value→List Value) (gV:List V→List V→List V):Prop where
 to:∀ (s:Shared) (us ws:List Value),K.In s.heap→(g us ws).length=ps.length→BindsTo s fd ⟨us,ks.zip ws⟩ (ps.zip (g us ws))
 rel:∀ {vs:List V} {us:List Value} {zs:List V} {ws:List Value},Zcg vs us→Zcg zs ws→Zcg (gV vs zs) (g us ws)
variable {g:List Value→List Value→List Value} {gV:List V→List V→List V}
end
structure Zap (N P:List Str) (sc:Scope):Prop where
 kind:sc.kind=.function
 co:sc.isCoroutine=false
 gen:sc.isGenerator=false
 nd:N.Nodup
 pre:N.take P.length=P
 par:∀ x∈P,sc.names.lookup x=some .local∨sc.names.lookup x=some .cell
 nofree:∀ y∈sc.names,y.2≠.free
theorem bindL_out {kindOf:Str→Option NameKind}{x:Str}:∀ {binds:List (Str×Value)}{m:Str→Option Value},(∀ v,(x,v)∉binds)→bindL kindOf binds m x=m x
 | [],_,_=>rfl
 | (n,v):: r,m,h=>by
  unfold bindL
  rw [bindL_out fun w hw=>h w (List.mem_cons_of_mem _ hw)]
  split
  ·have:x≠n:=by rintro rfl;exact h v List.mem_cons_self
   simp [this]
  ·rfl
theorem bindC_out {kindOf:Str→Option NameKind}{x:Str}:∀ {binds:List (Str×Value)}{m:Str→Option Value},(∀ v,(x,v)∉binds)→bindC kindOf binds m x=m x
 | [],_,_=>rfl
 | (n,v):: r,m,h=>by
  unfold bindC
  rw [bindC_out fun w hw=>h w (List.mem_cons_of_mem _ hw)]
  split
  ·rfl
  ·have:x≠n:=by rintro rfl;exact h v List.mem_cons_self
   simp [this]
theorem bindL_get {kindOf:Str→Option NameKind}{x:Str}{v:Value}:∀ {P:List Str}{vs:List Value}{i:Nat}{m:Str→Option Value},P.Nodup→P[i]?=some x→vs[i]?=some v→kindOf x=some .local →
  bindL kindOf (P.zip vs) m x=some v
 | [],_,_,_,_,h,_,_=>by simp at h
 | _ :: _,[],_,_,_,_,h,_=>by simp at h
 | p :: P,w :: vs,0,m,nd,h1,h2,hk=>by
  simp at h1 h2;subst h1;subst h2
  show bindL kindOf ((p,w):: P.zip vs) m p=_
  unfold bindL
  rw [bindL_out fun v hv=>(List.nodup_cons.mp nd).1 (List.of_mem_zip hv).1,if_pos hk]
  simp
 | p :: P,w :: vs,i + 1,m,nd,h1,h2,hk=>by
  show bindL kindOf ((p,w):: P.zip vs) m x=_
  unfold bindL
  exact bindL_get (i:=i) (List.nodup_cons.mp nd).2 (by simpa using h1) (by simpa using h2) hk
theorem bindC_get {kindOf:Str→Option NameKind}{x:Str}{v:Value}:∀ {P:List Str}{vs:List Value}{i:Nat}{m:Str→Option Value},P.Nodup→P[i]?=some x→vs[i]?=some v→kindOf x≠some .local →
  bindC kindOf (P.zip vs) m x=some v
 | [],_,_,_,_,h,_,_=>by simp at h
 | _ :: _,[],_,_,_,_,h,_=>by simp at h
 | p :: P,w :: vs,0,m,nd,h1,h2,hk=>by
  simp at h1 h2;subst h1;subst h2
  show bindC kindOf ((p,w):: P.zip vs) m p=_
  unfold bindC
  rw [bindC_out fun v hv=>(List.nodup_cons.mp nd).1 (List.of_mem_zip hv).1,if_neg hk]
  simp
 | p :: P,w :: vs,i + 1,m,nd,h1,h2,hk=>by
  show bindC kindOf ((p,w):: P.zip vs) m x=_
  unfold bindC
  exact bindC_get (i:=i) (List.nodup_cons.mp nd).2 (by simpa using h1) (by simpa using h2) hk
def start (N:List Str) (vs:List V):St:=vs.map some++List.replicate (N.length - vs.length) none
def cxOf (CX:CXT) (P:Program) (w:World) (K:PySem.W.Frag) (mg:Str→Option Value) (base:Heap) (N:List Str) (qual:Str) (scope:Scope) (f:Addr) (cd:Value) (A:Around) (outer:List Env) (s:Shared) (H:Hp) (E:XK):Cx where
 prog:=P
 w:=w
 K:=K
 mg:=mg
 base:=base
 A:=A.deeper (envOfC qual scope s.heap.objs.size f cd)
 N:=N
 s₀:=s
 H₀:=H
 env:=envOfC qual scope s.heap.objs.size f cd
 outer:=outer
 stack:=envOfC qual scope s.heap.objs.size f cd :: outer
 ex:=[]
 calm:=true
 fn:=fun _=>true
 pn:=[]
 xe:=fun e s'=>wpAny (model P w) (A.deeper (envOfC qual scope s.heap.objs.size f cd)) (leaving (envOfC qual scope s.heap.objs.size f cd) e) (fun _ s''=>CX outer H s E e s'') (fun e' s''=>CX outer H s E e' s'') s'
theorem cell_has {sc:Scope}{n:Nat}{x:Str}(h:sc.names.lookup x=some .cell):∃ c,(cellsFrom n sc.names []).lookup x=some c:=by
 have q:=PySem.W.cellsFrom_some sc.names n [] (.inl h)
 exact Option.isSome_iff_exists.mp q
theorem inv_start {CX:CXT}{P:Program}{w:World}{K:PySem.W.Frag}{mg:Str→Option Value}{base:Heap}{N ps:List Str}{qual:Str}{scope:Scope}{f:Addr}{cd:Value}{A:Around}{outer:List Env}{s s1:Shared}{H:Hp}{E:XK}{us:List Value}{vs:List V}
  (S:Zap N ps scope) (hd:A.handled=none) (e0:Env0 P w K mg base A outer s H) (hl:vs.length=ps.length) (r:Zcg vs us)
  (x:InCallC s s.heap.objs.size (bindL (envOfC qual scope s.heap.objs.size f cd).kindOf (ps.zip us) fun _=>none) (cellsFrom (s.heap.objs.size + 1) scope.names []) (bindC (envOfC qual scope s.heap.objs.size f cd).kindOf (ps.zip us) fun _=>none) s1):
  Inv (cxOf CX P w K mg base N qual scope f cd A outer s H E) [] (start N vs) H s1:=by
 have hpl:ps.length≤N.length:=by have:=congrArg List.length S.pre;rw [List.length_take] at this;omega
 obtain ⟨h1,tk,rfl,hk⟩:=x.done
 have noA:∀ b:Addr,b∉(cxOf CX P w K mg base N qual scope f cd A outer s H E).ex:=fun b z=>absurd (show b∈([]:List Addr) from z) (by simp)
 refine ⟨⟨e0.mod,S.kind,rfl,rfl,Nat.le_refl _,fun y z c h1 h2=>?_,fun y hy=>?_,fun y c _ h=>?_,fun _=>hd,Around.frames_deeper e0.frames,.inr ⟨rfl,rfl⟩,fun b z=>absurd z (noA b),e0.bs,e0.bsz,fun b _ _=>noA b,fun b z=>absurd z (noA b),e0.funs,e0.frf⟩,
  rfl,e0.bare,Un.kept hk,⟨_,x.toInCall.ns,fun i y v h1 h2 h3=>?_⟩,fun y c h=>⟨_,x.cell y c h⟩,e0.hok.fresh (Nat.le_refl _),fun y c h=>?_,fun p hp=>absurd (show p∈([]:List (Addr×Obj)) from hp) (by simp),e0.hok.kept hk,?_⟩
 ·exact name_of_addr x.apart (PySem.mem_of_lookup h1) (PySem.mem_of_lookup h2)
 ·have hy:scope.names.lookup y=some .cell∨scope.names.lookup y=some .free:=hy
  rcases hy with hy | hy
  ·exact cell_has hy
  ·exact absurd rfl (S.nofree _ (PySem.mem_of_lookup hy))
 ·exact Nat.le_of_lt (x.above y c (PySem.mem_of_lookup h))
 ·have hi:i<vs.length:=by
   unfold start at h2
   by_cases hi:i<vs.length
   ·exact hi
   ·rw [List.getElem?_append_right (by simpa using hi)] at h2
    rw [List.getElem?_replicate] at h2
    split at h2 <;> cases h2
  have ha:vs[i]?=some v:=by
   unfold start at h2
   rw [List.getElem?_append_left (by simpa using hi),List.getElem?_map] at h2
   cases e:vs[i]? with
   | none=>rw [e] at h2;cases h2
   | some a=>rw [e] at h2;cases h2;rfl
  obtain ⟨u,hu,rv⟩:=r.get ha
  have hp:ps[i]?=some y:=by
   rw [← S.pre,List.getElem?_take_of_lt (by omega)];exact h1
  have ndP:ps.Nodup:=by rw [← S.pre];exact S.nd.sublist (List.take_sublist _ _)
  refine ⟨u,rv,?_⟩
  rcases S.par y (List.mem_of_getElem? hp) with k | k
  ·exact .inl ⟨k,bindL_get ndP hp hu k⟩
  ·obtain ⟨c,e⟩:=cell_has (n:=s.heap.objs.size + 1) k
   refine .inr ⟨.inl k,c,e,?_⟩
   have q:=x.cell y c e
   rw [bindC_get ndP hp hu (by show scope.names.lookup y≠_;rw [k];decide)] at q
   exact q
 ·exact e0.hok.fresh (Nat.le_of_lt (x.above y c (PySem.mem_of_lookup h)))
 ·unfold start
  show _=N.length
  rw [List.length_append,List.length_map,List.length_replicate]
  omega
theorem fn_of {CX:CXT}{P:Program}{w:World}{K:PySem.W.Frag}{mg:Str→Option Value}{base:Heap}{k:Nat}{f:Addr}{name qual:Str}{params:Arguments}{body:List Stmt}{scope:Scope}{dV kV doc pm cdv ct oc:Value}{an od:Option Addr}
  {osl:Array (Option Value)} {N ps:List Str} {sp:Sp} (lk:K.lookup f=some ⟨oc,od,.func (PySem.W.fnOf name qual params body scope dV kV doc pm an cdv ct),osl⟩) (hcd:PySem.W.codeIn K cdv qual=true) (S:Zap N ps scope)
  (len:∀ vs H Q E,sp vs H Q E→vs.length=ps.length)
  (hbody:∀ (A:Around) (outer:List Env) (s:Shared) (H:Hp) (vs:List V) (Q:VK) (E:XK),Zdp k (A.deeper (envOfC qual scope s.heap.objs.size f cdv))→sp vs H Q E →
   ∃ t,PSs (cxOf CX P w K mg base N qual scope f cdv A outer s H E) body t∧t { nx:=fun _ H'=>Q .non H',rt:=Q } (start N vs) H):
  Za0 P w K mg base CX (k + 1) f (PySem.W.fnOf name qual params body scope dV kV doc pm an cdv ct) ps sp:=by
 refine ⟨len,fun A outer s H args us vs Q E hr e0 hb r hsp=>?_⟩
 have hl:=len _ _ _ _ hsp
 have KX:K.In s.heap:=e0.mod.kin.keeps fun b o e=>(e0.bs b o e).1
 have lim:s.heap.NoLimit:=e0.mod.nolimit.keeps fun b o e=>(e0.bs b o e).1
 have hkind:∀ y∈ps.zip us,scope.names.lookup y.1=some .local∨(scope.names.lookup y.1=some .cell∧((cellsFrom (s.heap.objs.size + 1) scope.names []).lookup y.1).isSome=true):=fun ⟨n,v⟩ hy=>by
  rcases S.par n (List.of_mem_zip hy).1 with q | q
  ·exact .inl q
  ·exact .inr ⟨q,PySem.W.cellsFrom_some _ _ _ (.inl q)⟩
 refine codeAny_call_function hr.depth (KX _ _ lk) rfl S.co S.gen rfl (PySem.W.codeRec_of KX hcd) (hb _ _ _ _ ?_)
 refine wpAny_newFunctionEnv_cells S.kind hkind fun env he s1 x=>?_
 subst he
 refine ⟨lim.keeps x.toInCall.keep,codeAny_func ?_⟩
 obtain ⟨t,ht,hq⟩:=hbody A outer s H vs Q E (hr.deeper _) hsp
 have I:Inv (cxOf CX P w K mg base N qual scope f cdv A outer s H E) [] (start N vs) H s1:=inv_start S hr.hd e0 hl r x
 refine wpAny_mono (ht [] s1 (start N vs) H _ I hq) (fun fl s' hs=>?_) fun e s' hs=>hs
 have fin:∀ {σ':St} {H':Hp} {v:V} {u:Value},Inv (cxOf CX P w K mg base N qual scope f cdv A outer s H E) [] σ' H' s'→Zcy v u→Q v H'→CE outer P w H s Q u s' :=
  fun {σ' H' v u} J rv q=>⟨v,H',J.os,J.bare,J.base,J.hok,rv,q⟩
 cases fl with
 | ret u =>
  obtain ⟨v,σ',H',J,rv,q⟩:=hs
  exact fin J rv q
 | next =>
  obtain ⟨σ',H',J,q⟩:=hs
  exact fin (v:=V.non) (u:=Value.none) J rfl q
 | brk =>
  obtain ⟨_,_,_,q⟩:=hs
  exact False.elim q
 | cont =>
  obtain ⟨_,_,_,q⟩:=hs
  exact False.elim q
end L2
namespace L2
open PySem PySem.Spec PyProof.Rows
section
variable {X:Cx} {x:Str} {p pos:Pos} {e:Expr} {es:List Expr} {t:TA} {id T:String} {r:List V→Hp→VK→Prop}
def tCB (r:List V→Hp→VK→Prop) (t:TA):TE:=fun σ H Q=>t σ H fun vs H1=>r vs H1 Q
theorem Zag (hc:CallR X (.builtin id) r) (hg:Gl X x) (hm:X.mg x=none) (hv:bootBuiltins x=some (.builtin id)) (ha:PA X (e :: es) t) (hn:x≠"__name__":=by decide) (hdb:(x == ("__debug__":Str))=false:=by decide)
  (he:starEach (e :: es) X.env=(false,eval e X.env):: starEach es X.env:=by rfl) (hpl:(backTo pos (starEach es X.env)).any (·.1)=false:=by rfl):PE X (.Call (.Name x p) (e :: es) [] pos) (tCB r t):=by
 intro pins s σ H Q I h
 refine wpAny_Call_Name_kw (ld_blt I hg hm hv ?_ hn hdb)
 exact PyProof.Rows.callWith_builtin1 (thn (ha pos pins s σ H _ I h) fun us s1 ⟨vs,H1,I1,r1,q1⟩=>hc pins s1 σ H1 vs us Q I1 r1 q1) he hpl
theorem Za9 (hc:CallR X (.type T) r) (hg:Gl X x) (hm:X.mg x=none) (hv:bootBuiltins x=some (.type T)) (ha:PA X (e :: es) t) (hn:x≠"__name__":=by decide) (hdb:(x == ("__debug__":Str))=false:=by decide)
  (he:starEach (e :: es) X.env=(false,eval e X.env):: starEach es X.env:=by rfl) (hpl:(backTo pos (starEach es X.env)).any (·.1)=false:=by rfl):PE X (.Call (.Name x p) (e :: es) [] pos) (tCB r t):=by
 intro pins s σ H Q I h
 refine wpAny_Call_Name_kw (ld_blt I hg hm hv ?_ hn hdb)
 exact PyProof.Rows.callWith_type1 (thn (ha pos pins s σ H _ I h) fun us s1 ⟨vs,H1,I1,r1,q1⟩=>hc pins s1 σ H1 vs us Q I1 r1 q1) he hpl
end
end L2
namespace HT
open PySem PyProof.Rows
section
open PySem.SeqAt
open PySem.AutoSeq1 (wpAny_loadPart')
open PySem.MeetsSeq PySem.MeetsSeq2 PySem.MeetsSeq3
end
section
variable {prog:Program} {w:World} {A:Around} {E:Value→Shared→Prop} {s:Shared}
theorem cat_tup {t b:Addr}{vs ws:List Value}{Q:Value→Shared→Prop}(ht:IsTup s.heap t vs.toArray) (hb:IsTup s.heap b ws.toArray) (hv:vs≠[])
  (h1:ws=[]→Q (.ref t) s) (h2:ws≠[]→Q (.ref s.heap.objs.size) { s with heap:=s.heap.push { cls:=.type "tuple",data:=.seq (vs++ws).toArray } })
  (hsz:vs.length + ws.length≤sizeLine):wpAny (model prog w) A (binaryOp .Add (.ref t) (.ref b)) Q E s:=by
 obtain ⟨⟨cls,dd,data,sl⟩,ho,hc,n,hd⟩:=id ht
 obtain ⟨⟨cls2,dd2,data2,sl2⟩,ho2,hc2,n2,hd2⟩:=id hb
 simp only at hc hd hc2 hd2
 subst hc hd hc2 hd2
 have e:vs.toArray++ws.toArray=(vs++ws).toArray:=by simp
 by_cases hw:ws=[]
 ·exact concat_meets ⟨_,ho,rfl⟩ ⟨_,ho2,rfl⟩ noFill_tuple_add seq_tuple_add PySem.F.slot_tuple_add PySem.F.entry_tuple_add (PySem.F.args_tuple_add_2 _ _)
   (tuple_addW1 t b vs.toArray ws.toArray n n2 dd dd2 sl sl2 (by simpa using hv) (by simp [hw])) ⟨ho,ho2,h1 hw⟩
 ·refine concat_meets ⟨_,ho,rfl⟩ ⟨_,ho2,rfl⟩ noFill_tuple_add seq_tuple_add PySem.F.slot_tuple_add PySem.F.entry_tuple_add (PySem.F.args_tuple_add_2 _ _)
   (tuple_addW2 t b vs.toArray ws.toArray n n2 dd dd2 sl sl2 (by simpa using hv) (by simpa using hw) (by rw [List.size_toArray,List.size_toArray];exact hsz)) ⟨ho,ho2,?_⟩
  rw [e]
  exact h2 hw
def sIx (n d:Nat):Option Int→Nat
 | none=>d
 | some v=>if v<0 then (v + (n:Int)).toNat else min v.toNat n
theorem sIx_none (n d:Nat):sIx n d none=d:=rfl
theorem sIx_nat (n d k:Nat):sIx n d (some (k:Int))=min k n:=by
 show (if (k:Int)<0 then ((k:Int) + (n:Int)).toNat else min (k:Int).toNat n)=min k n
 rw [if_neg (by omega),Int.toNat_natCast]
theorem sIx_le (n d:Nat) (hd:d≤n) (o:Option Int):sIx n d o≤n:=by
 cases o with
 | none=>exact hd
 | some v =>
  show (if v<0 then (v + (n:Int)).toNat else min v.toNat n)≤n
  by_cases hv:v<0
  ·rw [if_pos hv];omega
  ·rw [if_neg hv];exact Nat.min_le_right _ _
theorem clip_eq (v:Int) (n d:Nat):(if v<0 then max (v + (n:Int)) 0 else min v (n:Int))=((sIx n d (some v):Nat):Int):=by
 show (if v<0 then max (v + (n:Int)) 0 else min v (n:Int))=(((if v<0 then (v + (n:Int)).toNat else min v.toNat n):Nat):Int)
 by_cases hv:v<0
 ·simp only [if_pos hv];omega
 ·simp only [if_neg hv];omega
theorem adjust_gen (lo hi:Option Int) (n:Nat):Builtin.Slice.sliceAdjust lo hi 1 (n:Int)=(((sIx n 0 lo:Nat):Int),((sIx n n hi:Nat):Int)):=by
 have h1:¬ ((1:Int)<0):=by omega
 unfold Builtin.Slice.sliceAdjust
 simp only [h1,if_false]
 refine Prod.ext ?_ ?_
 ·cases lo with
  | none=>rfl
  | some v=>exact clip_eq v n 0
 ·cases hi with
  | none=>rfl
  | some v=>exact clip_eq v n n
theorem places_gen (i j:Nat):Builtin.Slice.slicePlaces (i:Int) (j:Int) 1=j - i:=by
 unfold Builtin.Slice.slicePlaces
 have h1:(1:Int) > 0:=by omega
 simp only [h1,if_true,Int.ediv_one]
 split <;> omega
theorem slicePart_ {v:Value}{o:Option Int}{Q:Option Int→Shared→Prop}(p:IsPart v o) (h:Q o s):wpAny (model prog w) A (Builtin.Slice.slicePartIndex v) Q E s:=by
 cases p with
 | none=>exact slicePart_none h
 | int i t=>exact slicePart_int h
theorem sliceApplied_gen {sl:Addr}{vl vu:Value}{lo hi:Option Int}{n:Nat}{Q:Int×Int×Nat→Shared→Prop}(hs:s.heap.IsSliceOf sl vl vu .none) (pl:IsPart vl lo) (pu:IsPart vu hi)
  (h:Q (((sIx n 0 lo:Nat):Int),1,sIx n n hi - sIx n 0 lo) s):wpAny (model prog w) A (Builtin.Slice.sliceApplied (.ref sl) (pure (n:Int))) Q E s:=by
 obtain ⟨os,hos,hcs,hds⟩:=id hs
 unfold Builtin.Slice.sliceApplied Builtin.Slice.sliceFields
 refine wpAny_bind (wpAny_bind (wpAny_field hos hds (x:=vl) rfl (wpAny_bind (wpAny_field hos hds (x:=vu) rfl (wpAny_bind (wpAny_field hos hds (x:=.none) rfl (wpAny_pure ?_)))))))
 refine wpAny_bind (slicePart_none ?_)
 show wpAny _ _ (if ((1:Int) == 0)=true then _ else _) _ _ s
 rw [if_neg (by decide)]
 refine wpAny_bind (slicePart_ pl (wpAny_bind (slicePart_ pu (wpAny_bind (wpAny_pure ?_)))))
 show wpAny _ _ (match Builtin.Slice.sliceAdjust lo hi 1 (n:Int) with | (lo,hi)=>pure (lo,(1:Int),Builtin.Slice.slicePlaces lo hi 1)) _ _ s
 rw [adjust_gen lo hi n]
 show wpAny _ _ (pure (((sIx n 0 lo:Nat):Int),(1:Int),Builtin.Slice.slicePlaces ((sIx n 0 lo:Nat):Int) ((sIx n n hi:Nat):Int) 1)) _ _ s
 rw [places_gen]
 exact wpAny_pure h
theorem pick_gen (xs:Array Value) (i k:Nat):((List.range k).filterMap fun (m:Nat)=>xs[((i:Int) + (m:Int) * 1).toNat]?).toArray=((xs.toList.drop i).take k).toArray:=by
 have e:(fun (m:Nat)=>xs[((i:Int) + (m:Int) * 1).toNat]?)=fun m=>xs[i + m]?:=by
  funext m
  have:((i:Int) + (m:Int) * 1).toNat=i + m:=by omega
  rw [this]
 rw [e]
 have:=pick_run xs i k
 rw [List.filterMap_map] at this
 have e2:((fun x=>xs[x]?) ∘ fun x=>i + x)=fun m=>xs[i + m]?:=rfl
 rw [e2] at this
 rw [this]
theorem getItem_tuple_cut {t sl:Addr}{items:Array Value}{vl vu:Value}{lo hi:Option Int}{Q:Value→Shared→Prop}(ht:IsTup s.heap t items) (hs:s.heap.IsSliceOf sl vl vu .none) (pl:IsPart vl lo) (pu:IsPart vu hi)
  (hw:¬ (sIx items.size 0 lo=0∧sIx items.size items.size hi=items.size))
  (h:Q (.ref s.heap.objs.size) { s with heap:=s.heap.push { cls:=.type "tuple",data:=.seq ((items.toList.drop (sIx items.size 0 lo)).take (sIx items.size items.size hi - sIx items.size 0 lo)).toArray } })
  (hsz:items.size≤sizeLine):wpAny (model prog w) A (getItem (.ref t) (.ref sl)) Q E s:=by
 have htake:sizeOk (.seq ((items.toList.drop (sIx items.size 0 lo)).take (sIx items.size items.size hi - sIx items.size 0 lo)).toArray):=by
  show ((items.toList.drop (sIx items.size 0 lo)).take (sIx items.size items.size hi - sIx items.size 0 lo)).toArray.size≤sizeLine
  rw [List.size_toArray,List.length_take,List.length_drop,Array.length_toList]
  omega
 have hj:sIx items.size items.size hi≤items.size:=sIx_le _ _ (Nat.le_refl _) hi
 obtain ⟨os,hos,hcs,hds⟩:=id hs
 have hTs:s.TypeIs (.ref sl) "slice":=⟨os,hos,hcs⟩
 unfold getItem
 try with_reducible refine wpAny_holding ?_
 first | refine wpAny_bind (wpAny_pure ?_) | skip
 refine wpAny_bind (wpAny_sequenceKey ht.typeIs (by decide) ?_)
 refine wpAny_bind (wpAny_callSpecial?_slot (name:=Str.ofString "__getitem__") ht.typeIs PyProof.Rows.slot_tuple_getitem
  (wpAny_call_entry PyProof.Rows.slot_tuple_getitem ht.typeIs entry_tuple_getitem ?_ (args_tuple_getitem _ _)))
 show wpAny _ _ (Builtin.Tuple.tupleItemsOf (.ref t)>>=_) _ _ s
 refine wpAny_bind (tupleItemsOf_ ht ?_)
 refine wpAny_bind (wpAny_typeOf hTs ?_)
 rw [if_pos (by decide)]
 refine wpAny_bind (sliceApplied_gen hs pl pu ?_)
 have hno:¬ ((((sIx items.size 0 lo:Nat):Int) == 0&&(1:Int) == 1&&(sIx items.size items.size hi - sIx items.size 0 lo) == items.size)=true):=by
  intro q
  rw [Bool.and_eq_true,Bool.and_eq_true] at q
  have q1:((sIx items.size 0 lo:Nat):Int)=0:=eq_of_beq q.1.1
  have q2:sIx items.size items.size hi - sIx items.size 0 lo=items.size:=eq_of_beq q.2
  exact hw ⟨by omega,by omega⟩
 show wpAny _ _ (if (((sIx items.size 0 lo:Nat):Int) == 0&&(1:Int) == 1&&(sIx items.size items.size hi - sIx items.size 0 lo) == items.size)=true then _ else _) _ _ s
 rw [if_neg hno,pick_gen]
 first
  | exact wpAny_bind (m:=Builtin.Tuple.tupleExact _) (wpAny_newObj_type (wpAny_pure ⟨_,rfl,wpAny_pure h⟩) htake)
  | exact wpAny_bind (m:=Builtin.Tuple.tupleExact _) (wpAny_newObj_type (wpAny_bind (wpAny_pure (wpAny_pure ⟨_,rfl,wpAny_pure h⟩))) htake)
  | exact wpAny_bind (wpAny_bind (m:=Builtin.Tuple.tupleExact _) (wpAny_newObj_type (wpAny_pure (wpAny_pure ⟨_,rfl,wpAny_pure h⟩)) htake))
  | exact wpAny_bind (wpAny_bind (m:=Builtin.Tuple.tupleExact _) (wpAny_newObj_type (wpAny_pure ⟨_,rfl,wpAny_pure h⟩) htake))
end
end HT
namespace L2
open PySem PySem.Spec PyProof.Rows
abbrev TO:=St→Hp→(Option Int→Hp→Prop)→Prop
def PO (X:Cx) (e:Option Expr) (t:TO):Prop :=
 ∀ (pins:List (Addr×Obj)) (s:Shared) (σ:St) (H:Hp) (Q:Option Int→Hp→Prop),Inv X pins σ H s→t σ H Q →
  wpAny (model X.prog X.w) X.A (evalPart e X.env) (fun u s'=>∃ o H',Inv X pins σ H' s'∧IsPart u o∧Q o H') X.xe s
def tNoPart:TO:=fun _ H Q=>Q none H
def tPart (t:TE):TO:=fun σ H Q=>t σ H fun x H1=>∃ i,x=.int i∧Q (some i) H1
theorem intsAre_of {ns:List Int}:∀ {us:List Value},Zcg (ns.map V.int) us→IntsAre us ns:=by
 induction ns with
 | nil=>intro us r;rw [List.map_nil] at r;cases r;exact .nil
 | cons n ns ih =>
  intro us r
  rw [List.map_cons] at r
  cases r with
  | cons r1 r2 =>
   obtain ⟨t,e⟩:=r1
   subst e
   exact .cons n t (ih r2)
section
variable {X:Cx} {e:Expr} {te:TE} {lo hi:Option Expr} {tl th:TO} {pos p2:Pos}
theorem Zeq:PO X none tNoPart:=by
 intro pins s σ H Q I h
 rw [evalPart_none]
 exact wpAny_pure ⟨none,H,I,.none,h⟩
theorem Zep (h:PE X e te):PO X (some e) (tPart te):=by
 intro pins s σ H Q I hw
 rw [evalPart_some]
 refine thn (h pins s σ H _ I hw) fun u s1 ⟨x,H1,I1,r1,q1⟩=>?_
 obtain ⟨i,rfl,q⟩:=q1
 obtain ⟨t,rfl⟩:=r1
 exact ⟨some i,H1,I1,.int i t,q⟩
def SlR (X:Cx) (r:V→Option Int→Option Int→Hp→VK→Prop):Prop :=
 ∀ (pins:List (Addr×Obj)) (s:Shared) (σ:St) (H:Hp) (x:V) (v vl vu:Value) (lo hi:Option Int) (sl:Addr) (Q:VK),Inv X pins σ H s→Zcy x v→s.heap.IsSliceOf sl vl vu .none→IsPart vl lo→IsPart vu hi→r x lo hi H Q →
  ∃ T id,typeLookup (.type T) "__getitem__"=pure (some (.builtin id))∧s.TypeIs v T∧wpAny (model X.prog X.w) X.A (getItem v (.ref sl)) (EP X pins σ Q) X.xe s
def tSl (r:V→Option Int→Option Int→Hp→VK→Prop) (te:TE) (tl th:TO):TE:=fun σ H Q=>te σ H fun x H1=>tl σ H1 fun l H2=>th σ H2 fun u H3=>r x l u H3 Q
theorem Zd1 {r:V→Option Int→Option Int→Hp→VK→Prop}(hr:SlR X r) (he:PE X e te) (hl:PO X lo tl) (hu:PO X hi th):PE X (.Subscript e (.Slice lo hi none p2) pos) (tSl r te tl th):=by
 intro pins s σ H Q I h
 refine Subscript_ (thn (he pins s σ H _ I h) fun v s1 ⟨x,H1,I1,r1,q1⟩=>?_)
 refine wpAny_Slice (thn (hl pins s1 σ H1 _ I1 q1) fun vl s2 ⟨l,H2,I2,pl,q2⟩=>thn (hu pins s2 σ H2 _ I2 q2) fun vu s3 ⟨u,H3,I3,pu,q3⟩=>?_)
 rw [evalPart_none]
 refine wpAny_pure ?_
 have I4:Inv X pins σ H3 { s3 with heap:=s3.heap.push { cls:=.type "slice",data:=.fields #[vl,vu,.none] } }:=I3.kept (t':=s3.toks) fun b ob q=>Heap.get?_push_of_some _ q
 obtain ⟨T,id,hT,ht,hg⟩:=hr pins { s3 with heap:=s3.heap.push { cls:=.type "slice",data:=.fields #[vl,vu,.none] } } σ H3 x v vl vu l u s3.heap.objs.size Q I4 r1 (Heap.IsSliceOf.new ..) pl pu q3
 show wpAny (model X.prog X.w) X.A (subscriptTail e (.Slice lo hi none p2) v (.ref s3.heap.objs.size)) (EP X pins σ Q) X.xe { s3 with heap:=s3.heap.push { cls:=.type "slice",data:=.fields #[vl,vu,.none] } }
 exact tail_any (ops:=[.ref s3.heap.objs.size,v]) ht hT hg (by with_unfolding_all rfl)
def cutV (xs:List V) (lo hi:Option Int):List V:=(xs.drop (HT.sIx xs.length 0 lo)).take (HT.sIx xs.length xs.length hi - HT.sIx xs.length 0 lo)
theorem cutV_length (xs:List V) (lo hi:Option Int):(cutV xs lo hi).length≤xs.length:=by
 unfold cutV
 rw [List.length_take,List.length_drop]
 omega
def rSlT (K:PySem.W.Frag):V→Option Int→Option Int→Hp→VK→Prop:=fun x lo hi H Q=>∃ a xs,x=.ref a∧SqT K H a xs ∧
 ¬ (HT.sIx xs.length 0 lo=0∧HT.sIx xs.length xs.length hi=xs.length)∧∀ p,H p=none→Q (.ref p) (upd H p (.tup (cutV xs lo hi)))
theorem sl_tup:SlR X (rSlT X.K):=by
 intro pins s σ H x v vl vu lo hi sl Q I rx hs pl pu h
 obtain ⟨a,xs,rfl,hx,hw,q⟩:=h
 cases rx
 obtain ⟨its,r,ht,hz⟩:=I.tuple hx
 have hlen:its.toArray.size=xs.length:=by rw [List.size_toArray];exact r.length.symm
 refine ⟨"tuple",_,PyProof.Rows.slot_tuple_getitem.lookup,ht.typeIs,?_⟩
 refine HT.getItem_tuple_cut ht hs pl pu (by rw [hlen];exact hw) ?_ (by rw [hlen];exact hz)
 rw [hlen]
 refine ⟨.ref s.heap.objs.size,_,I.laid (t':=s.toks) (o:=.tup (cutV xs lo hi)) (fun b ob q=>Heap.get?_push_of_some _ q) (Nat.le_refl _) ?_,rfl,q _ (I.hok.fresh (Nat.le_refl _))⟩
 exact ⟨Nat.le_trans (cutV_length xs lo hi) hz,_,(r.drop (HT.sIx xs.length 0 lo)).take (HT.sIx xs.length xs.length hi - HT.sIx xs.length 0 lo),IsTup.new _ _⟩
def rCatT (K:PySem.W.Frag):R2:=fun x y H Q=>∃ a b xs ys,x=.ref a∧y=.ref b∧SqT K H a xs∧SqT K H b ys∧xs≠[]∧xs.length + ys.length≤sizeLine ∧
 (ys=[]→Q (.ref a) H)∧(ys≠[]→∀ p,H p=none→Q (.ref p) (upd H p (.tup (xs++ys))))
theorem Zcg.nil_iff {xs:List V}{us:List Value}(r:Zcg xs us):us=[]↔xs=[]:=by
 cases r with
 | nil=>simp
 | cons _ _=>simp
theorem op_catT:OpR X (binaryOp .Add) (rCatT X.K):=by
 intro pins s σ H x y v u Q I rx ry h
 obtain ⟨a,b,xs,ys,rfl,rfl,ha,hb,hx,hz,q1,q2⟩:=h
 cases rx
 cases ry
 obtain ⟨its,r1,p1,_⟩:=I.tuple ha
 obtain ⟨its2,r2,p2,_⟩:=I.tuple hb
 refine HT.cat_tup p1 p2 (fun z=>hx (r1.nil_iff.mp z)) (fun z=>⟨.ref a,H,I,rfl,q1 (r2.nil_iff.mp z)⟩) (fun z=>?_) (by rw [← r1.length,← r2.length];exact hz)
 refine ⟨.ref s.heap.objs.size,_,I.laid (t':=s.toks) (o:=.tup (xs++ys)) (fun b ob q=>Heap.get?_push_of_some _ q) (Nat.le_refl _) ?_,rfl,q2 (fun w=>z (r2.nil_iff.mpr w)) _ (I.hok.fresh (Nat.le_refl _))⟩
 exact ⟨by rw [List.length_append];exact hz,_,r1.append r2,IsTup.new _ _⟩
end
end L2
namespace L2
open PySem PySem.Spec PyProof.Rows
def ixN (n:Nat) (i:Int):Option Nat:=if 0≤i then (if i<n then some i.toNat else none) else if -(n:Int)≤i then some (i + n).toNat else none
def atI {α:Type} (xs:List α) (i:Int):Option α:=(ixN xs.length i).bind fun j=>xs[j]?
theorem ixN_seq {n:Nat}{i:Int}{j:Nat}(h:ixN n i=some j):seqIndex? i n=some j∧j<n∧-(n:Int)≤i∧i<n:=by
 unfold ixN at h
 by_cases h0:0≤i
 ·rw [if_pos h0] at h
  by_cases h1:i<n
  ·rw [if_pos h1] at h
   have e:i.toNat=j:=Option.some.inj h
   exact ⟨by rw [seqIndex_of h0 h1,e],by omega,by omega,h1⟩
  ·rw [if_neg h1] at h;cases h
 ·rw [if_neg h0] at h
  by_cases h1:-(n:Int)≤i
  ·rw [if_pos h1] at h
   have e:(i + n).toNat=j:=Option.some.inj h
   exact ⟨by rw [seqIndex_neg (by omega) h1,e],by omega,h1,by omega⟩
  ·rw [if_neg h1] at h;cases h
theorem atI_get {α:Type}{xs:List α}{i:Int}{v:α}(h:atI xs i=some v):∃ j,seqIndex? i xs.length=some j∧xs[j]?=some v∧j<xs.length∧-(xs.length:Int)≤i∧i<xs.length:=by
 unfold atI at h
 cases e:ixN xs.length i with
 | none=>rw [e] at h;cases h
 | some j =>
  rw [e] at h
  obtain ⟨h1,h2,h3,h4⟩:=ixN_seq e
  exact ⟨j,h1,h,h2,h3,h4⟩
theorem Zdh {α:Type}{xs:List α}{j:Nat}{v:α}(h:xs[j]?=some v):atI xs (j:Int)=some v:=by
 have hj:j<xs.length:=(List.getElem?_eq_some_iff.mp h).1
 have e:ixN xs.length (j:Int)=some j:=by
  unfold ixN
  rw [if_pos (by omega),if_pos (by omega)];simp
 unfold atI;rw [e];exact h
theorem atI_last {α:Type}(xs:List α) (v:α):atI (xs++[v]) (-1)=some v:=by
 have hl:(xs++[v]).length=xs.length + 1:=by simp
 have e:ixN (xs++[v]).length (-1)=some xs.length:=by
  unfold ixN
  rw [hl,if_neg (by decide),if_pos (by omega)]
  congr 1
  omega
 unfold atI
 rw [e]
 show (xs++[v])[xs.length]?=some v
 simp
def PlainIx (b:Expr):Prop:=∀ o i,subscripted b false o i=operate [o,i] (getItem o i)
def IxR (X:Cx) (r:R2):Prop :=
 ∀ (value slice:Expr) (pins:List (Addr×Obj)) (s:Shared) (σ:St) (H:Hp) (x y:V) (v u:Value) (Q:VK),Inv X pins σ H s→Zcy x v→Zcy y u→r x y H Q →
  subscripted slice false v u=operate [v,u] (getItem v u)→wpAny (model X.prog X.w) X.A (subscriptTail value slice v u) (EP X pins σ Q) X.xe s
def MtR (X:Cx) (id:String) (r:V→List V→Hp→VK→Prop):Prop :=
 ∀ (pins:List (Addr×Obj)) (s:Shared) (σ:St) (H:Hp) (x:V) (xs:List V) (v:Value) (us:List Value) (Q:VK),Inv X pins σ H s→Zcy x v→Zcg xs us→r x xs H Q →
  wpAny (model X.prog X.w) X.A (call (.builtin id) (v :: us)) (EP X pins σ Q) X.xe s
section
variable {X:Cx} {a b:Expr} {ta tb:TE} {pos:Pos}
theorem Zbc {r:R2}(hr:IxR X r) (ha:PE X a ta) (hb:PE X b tb) (hs:PlainIx b):PE X (.Subscript a b pos) (tOp r ta tb):=by
 intro pins s σ H Q I h
 exact Subscript_ (binT ha hb I h fun v u s2 x y H2 I2 rx ry q=>hr a b pins s2 σ H2 x y v u Q I2 rx ry q (hs _ _))
def rIxL (K:PySem.W.Frag):R2:=fun x y H Q=>∃ p xs i v,x=.ref p∧y=.int i∧SqL K H p xs∧atI xs i=some v∧Q v H
def rIxT (K:PySem.W.Frag):R2:=fun x y H Q=>∃ p xs i v,x=.ref p∧y=.int i∧SqT K H p xs∧atI xs i=some v∧Q v H
def rIxS:R2:=fun x y H Q=>∃ z i c,x=.str z∧y=.int i∧z.length≤sizeLine∧atI z.cps.toList i=some c∧Q (.str ⟨#[c]⟩) H
theorem Zaw:IxR X (rIxL X.K):=by
 intro value slice pins s σ H x y v u Q I rx ry h hs
 obtain ⟨p,xs,i,z,rfl,rfl,hq,he,q⟩:=h
 cases rx
 obtain ⟨t,rfl⟩:=ry
 obtain ⟨its,r,pl,hz⟩:=I.list hq
 obtain ⟨j,h1,h2,h3,h4,h5⟩:=atI_get he
 obtain ⟨w,ew,rw'⟩:=r.get h2
 have hl:=r.length
 have hn:=line63
 have fin:EP X pins σ Q w s:=⟨z,H,I,rw',q⟩
 by_cases h0:0≤i
 ·have hj:i.toNat=j:=by
   rw [seqIndex_of h0 h5] at h1
   exact Option.some.inj h1
  exact item_listR pl.isList h0 (by omega) (by rw [hj];simpa using ew) fin hs
 ·have hj:(i + (its.toArray.size:Int)).toNat=j:=by
   rw [seqIndex_neg (by omega) h4] at h1
   rw [List.size_toArray,← hl]
   exact Option.some.inj h1
  exact subscriptTail_builtinR (x:=w) pl.isList.typeIs slot_list_getitem.lookup
   (wpAny_getItem_list_neg (Q:=fun r s'=>r=w∧EP X pins σ Q r s') pl.isList (by omega) (by rw [List.size_toArray] <;> omega) (by omega) (by rw [hj];simpa using ew) ⟨rfl,fin⟩) hs
theorem Zdz:IxR X (rIxT X.K):=by
 intro value slice pins s σ H x y v u Q I rx ry h hs
 obtain ⟨p,xs,i,z,rfl,rfl,hq,he,q⟩:=h
 cases rx
 obtain ⟨t,rfl⟩:=ry
 obtain ⟨its,r,pl,hz⟩:=I.tuple hq
 obtain ⟨j,h1,h2,h3,h4,h5⟩:=atI_get he
 obtain ⟨w,ew,rw'⟩:=r.get h2
 have hl:=r.length
 have hn:=line63
 have fin:EP X pins σ Q w s:=⟨z,H,I,rw',q⟩
 exact subscriptTail_builtinR (x:=w) pl.typeIs slot_tuple_getitem.lookup
  (getItem_tuple (j:=j) (Q:=fun r s'=>r=w∧EP X pins σ Q r s') pl (by omega) (by omega) (by rw [List.size_toArray,← hl];exact h1) (by simpa using ew) ⟨rfl,fin⟩) hs
theorem ix_str:IxR X rIxS:=by
 intro value slice pins s σ H x y v u Q I rx ry h hs
 obtain ⟨z,i,c,rfl,rfl,hz,he,q⟩:=h
 obtain ⟨t,rfl⟩:=rx
 obtain ⟨t',rfl⟩:=ry
 obtain ⟨j,h1,h2,h3,h4,h5⟩:=atI_get he
 have hl:z.cps.toList.length=z.length:=by simp [Str.length]
 rw [hl] at h1 h4 h5
 have hn:=line63
 exact tail_any (typeIs_str s z t) slot_str_getitem.lookup (getItem_str (c:=c) (by
  have e1:decide (i < -(2 ^ 63:Int))=false:=decide_eq_false (by omega)
  have e2:decide (i ≥ 2 ^ 63)=false:=decide_eq_false (by omega)
  rw [e1,e2,Bool.or_false]) (by rw [h1];simpa using h2) ⟨.str ⟨#[c]⟩,H,I.tok _,⟨_,rfl⟩,q⟩) hs
theorem mapSeq_set (its:List Value) (n j:Nat) (u:Value):Obj.mapSeq (·.setIfInBounds j u) { cls:=.type "list",data:=.seq its.toArray n }={ cls:=.type "list",data:=.seq (its.set j u).toArray n }:=by
 simp [Obj.mapSeq]
theorem Inv.lst {pins:List (Addr×Obj)}{σ:St}{H:Hp}{s:Shared}{p:Addr}{xs:List V}(I:Inv X pins σ H s) (h:H p=some (.lst xs)):
  ∃ (its:List Value) (n:Nat),Zcg xs its∧s.heap.get? p=some { cls:=.type "list",data:=.seq its.toArray n }∧xs.length≤sizeLine:=by
 obtain ⟨z,its,n,r,e⟩:=I.hok p _ h
 exact ⟨its,n,r,e,z⟩
theorem Inv.lstUpd {pins:List (Addr×Obj)}{σ:St}{H:Hp}{s:Shared}{p:Addr}{xs ys:List V}{its its':List Value}{n n':Nat}{f:Obj→Obj}(I:Inv X pins σ H s) (h:H p=some (.lst xs))
  (ho:s.heap.get? p=some { cls:=.type "list",data:=.seq its.toArray n }) (hf:f { cls:=.type "list",data:=.seq its.toArray n }={ cls:=.type "list",data:=.seq its'.toArray n' }) (r:Zcg ys its') (hz:ys.length≤sizeLine) (t:Nat):
  Inv X pins σ (upd H p (.lst ys)) { s with heap:=s.heap.update p f,toks:=t }:=by
 have e:(s.heap.update p f).get? p=some { cls:=.type "list",data:=.seq its'.toArray n' }:=by
  rw [Heap.get?_update_self f ho (by rw [hf] <;> rfl),hf]
 refine I.write (x:=p) (e:=p) (by rw [h];trivial) (.inl rfl) (fun b u hb q=>(Heap.get?_update_other _ _ (Ne.symm hb)).trans q) ⟨_,e⟩ ?_
 exact ⟨hz,its',n',r,e⟩
def rSetL:V→V→V→Hp→(Hp→Prop)→Prop:=fun o i v H Q=>∃ p xs k j,o=.ref p∧i=.int k∧H p=some (.lst xs)∧ixN xs.length k=some j∧Q (upd H p (.lst (xs.set j v)))
theorem Zd0:PSet X rSetL:=by
 intro pins s σ H o i v ov iv u Q I ro ri rv h
 obtain ⟨p,xs,k,j,rfl,rfl,hp,hj,q⟩:=h
 cases ro
 obtain ⟨t,rfl⟩:=ri
 obtain ⟨its,n,r,ho,hz⟩:=I.lst hp
 obtain ⟨h1,h2,h3,h4⟩:=ixN_seq hj
 have hl:=r.length
 have hn:=line63
 have I':Inv X pins σ (upd H p (.lst (xs.set j v))) { s with heap:=s.heap.update p (Obj.mapSeq (·.setIfInBounds j u)) } :=
  I.lstUpd hp ho (mapSeq_set its n j u) (r.set rv j) (by rw [List.length_set];exact hz) s.toks
 by_cases h0:0≤k
 ·have hk:k.toNat=j:=by
   rw [seqIndex_of h0 h4] at h1
   exact Option.some.inj h1
  exact PySem.W.ki_setAt ho h0 (by omega) (by rw [List.size_toArray,← hl];exact h4) (by rw [hk];exact ⟨_,I',q⟩)
 ·have hk:(k + (its.toArray.size:Int)).toNat=j:=by
   rw [seqIndex_neg (by omega) h3] at h1
   rw [List.size_toArray,← hl]
   exact Option.some.inj h1
  exact PySem.W.ki_setBack ho (by omega) (by rw [List.size_toArray,← hl];exact h3) (by omega) (by rw [hk];exact ⟨_,I',q⟩)
theorem slice_bounds (lo hi:Option Int) (n:Nat):(sliceBounds lo hi none n).1=((HT.sIx n 0 lo:Nat):Int)∧(sliceBounds lo hi none n).2.1=((HT.sIx n n hi:Nat):Int)∧(sliceBounds lo hi none n).2.2=1:=by
 refine ⟨?_,?_,rfl⟩
 ·cases lo with
  | none=>simp [sliceBounds,HT.sIx]
  | some i =>
   simp only [sliceBounds,HT.sIx,Option.getD_none,show (1:Int) > 0 by decide,if_true]
   by_cases h:i<0
   ·simp only [h,if_true] <;> omega
   ·simp only [h,if_false] <;> omega
 ·cases hi with
  | none=>simp [sliceBounds,HT.sIx]
  | some i =>
   simp only [sliceBounds,HT.sIx,Option.getD_none,show (1:Int) > 0 by decide,if_true]
   by_cases h:i<0
   ·simp only [h,if_true] <;> omega
   ·simp only [h,if_false] <;> omega
theorem slicePick_cut (its:List Value) (lo hi:Option Int):slicePick its.toArray lo hi none=((its.drop (HT.sIx its.length 0 lo)).take (HT.sIx its.length its.length hi - HT.sIx its.length 0 lo)).toArray:=by
 obtain ⟨h1,h2,h3⟩:=slice_bounds lo hi its.toArray.size
 unfold slicePick
 rw [h1,h2,h3]
 simp only [sliceRange_one,pick_run,List.size_toArray] <;> rfl
def rSlL (K:PySem.W.Frag):V→Option Int→Option Int→Hp→VK→Prop:=fun x lo hi H Q=>∃ a xs,x=.ref a∧SqL K H a xs∧∀ p,H p=none→Q (.ref p) (upd H p (.lst (cutV xs lo hi)))
theorem sl_list:SlR X (rSlL X.K):=by
 intro pins s σ H x v vl vu lo hi sl Q I rx hs pl pu h
 obtain ⟨a,xs,rfl,hx,q⟩:=h
 cases rx
 obtain ⟨its,r,ht,hz⟩:=I.list hx
 have hlen:=r.length
 refine ⟨"list",_,slot_list_getitem.lookup,ht.isList.typeIs,?_⟩
 refine wpAny_getItem_list_slice ht.isList hs pl pu .none (by simp) ?_ (by rw [List.size_toArray] <;> omega)
 rw [slicePick_cut,← hlen]
 refine ⟨.ref s.heap.objs.size,_,I.laid (t':=s.toks) (o:=.lst (cutV xs lo hi)) (fun b ob q=>Heap.get?_push_of_some _ q) (Nat.le_refl _) ?_,rfl,q _ (I.hok.fresh (Nat.le_refl _))⟩
 exact ⟨Nat.le_trans (cutV_length xs lo hi) hz,_,0,(r.drop (HT.sIx xs.length 0 lo)).take (HT.sIx xs.length xs.length hi - HT.sIx xs.length 0 lo),Heap.get?_push_size _ rfl⟩
def flatV:V→Bool
 | .non=>true
 | .bl _=>true
 | .int _=>true
 | .str _=>true
 | _=>false
def eqV:V→V→Bool
 | .non,.non=>true
 | .bl a,.bl b=>a == b
 | .bl a,.int b=>(if a then 1 else 0) == b
 | .int a,.bl b=>a == (if b then 1 else 0)
 | .int a,.int b=>a == b
 | .str a,.str b=>a == b
 | _,_=>false
theorem eqAt_V {A:Around}{s:Shared}{y x:V}{u v:Value}(ry:Zcy y u) (rx:Zcy x v) (fy:flatV y=true) (fx:flatV x=true):SeqAt.EqAt A s u v (eqV y x):=by
 cases y with
 | non =>
  cases ry
  cases x with
  | non=>cases rx;exact SeqAt.EqAt.same _
  | bl b=>cases rx;exact SeqAt.EqAt.none_bool b
  | int b=>obtain ⟨t,rfl⟩:=rx;exact SeqAt.EqAt.none_int b t
  | str b=>obtain ⟨t,rfl⟩:=rx;exact SeqAt.EqAt.none_str b t
  | _=>exact absurd (show false=true from fx) Bool.false_ne_true
 | bl a =>
  cases ry
  cases x with
  | non=>cases rx;exact SeqAt.EqAt.bool_none a
  | bl b=>cases rx;exact SeqAt.EqAt.bool_bool a b
  | int b=>obtain ⟨t,rfl⟩:=rx;exact SeqAt.EqAt.bool_int a b t
  | str b=>obtain ⟨t,rfl⟩:=rx;exact SeqAt.EqAt.bool_str a b t
  | _=>exact absurd (show false=true from fx) Bool.false_ne_true
 | int a =>
  obtain ⟨t',rfl⟩:=ry
  cases x with
  | non=>cases rx;exact SeqAt.EqAt.int_none a t'
  | bl b=>cases rx;exact SeqAt.EqAt.int_bool a t' b
  | int b=>obtain ⟨t,rfl⟩:=rx;exact SeqAt.EqAt.int_int a t' b t
  | str b=>obtain ⟨t,rfl⟩:=rx;exact SeqAt.EqAt.int_str a t' b t
  | _=>exact absurd (show false=true from fx) Bool.false_ne_true
 | str a =>
  obtain ⟨t',rfl⟩:=ry
  cases x with
  | non=>cases rx;exact SeqAt.EqAt.str_none a t'
  | bl b=>cases rx;exact SeqAt.EqAt.str_bool a t' b
  | int b=>obtain ⟨t,rfl⟩:=rx;exact SeqAt.EqAt.str_int a t' b t
  | str b=>obtain ⟨t,rfl⟩:=rx;exact SeqAt.EqAt.str_str a t' b t
  | _=>exact absurd (show false=true from fx) Bool.false_ne_true
 | _=>exact absurd (show false=true from fy) Bool.false_ne_true
def eqU (x:V) (u:Value):Bool:=match u with
 | .none=>eqV .non x
 | .bool b=>eqV (.bl b) x
 | .int i _=>eqV (.int i) x
 | .str z _=>eqV (.str z) x
 | _=>false
theorem eqU_of {x y:V}{u:Value}(r:Zcy y u) (f:flatV y=true):eqU x u=eqV y x:=by
 cases y with
 | non=>cases r;rfl
 | bl b=>cases r;rfl
 | int i=>obtain ⟨t,rfl⟩:=r;rfl
 | str z=>obtain ⟨t,rfl⟩:=r;rfl
 | _=>exact absurd (show false=true from f) Bool.false_ne_true
theorem any_eqU {x:V}:∀ {xs:List V}{us:List Value},Zcg xs us→xs.all flatV=true→us.any (eqU x)=xs.any fun y=>eqV y x
 | _,_,.nil,_=>rfl
 | y :: xs,u :: us,.cons r t,f=>by
  rw [List.all_cons,Bool.and_eq_true] at f
  rw [List.any_cons,List.any_cons,eqU_of r f.1,any_eqU t f.2]
theorem mem_eqAt {A:Around}{s:Shared}{x:V}{v:Value}(rx:Zcy x v) (fx:flatV x=true):∀ {xs:List V}{us:List Value},Zcg xs us→xs.all flatV=true→∀ u∈us,SeqAt.EqAt A s u v (eqU x u)
 | _,_,.nil,_=>fun u hu=>by cases hu
 | y :: xs,u :: us,.cons r t,f=>fun u' hu=>by
  rw [List.all_cons,Bool.and_eq_true] at f
  rcases List.mem_cons.mp hu with rfl | hu
  ·rw [eqU_of r f.1];exact eqAt_V r rx f.1 fx
  ·exact mem_eqAt rx fx t f.2 u' hu
def inV (x:V) (xs:List V):Bool:=xs.any fun y=>eqV y x
def rIn (K:PySem.W.Frag) (neg:Bool):R2:=fun x y H Q=>∃ p xs,y=.ref p∧(SqL K H p xs∨SqT K H p xs)∧flatV x=true∧xs.all flatV=true∧Q (.bl (if neg then !inV x xs else inV x xs)) H
theorem op_in_seq:OpR X (compareOp .In) (rIn X.K false):=by
 intro pins s σ H x y v u Q I rx ry h
 obtain ⟨p,xs,rfl,hq,fx,fs,q⟩:=h
 cases ry
 rcases hq with hq | hq
 ·obtain ⟨its,r,pl,hz⟩:=I.list hq
  refine SeqAt.in_listAt (eqU x) pl.isList (fun w hw=>mem_eqAt rx fx r fs w (by simpa using hw)) ⟨.bl _,H,I,rfl,?_⟩
  rw [show its.toArray.any (eqU x)=its.any (eqU x) by simp,any_eqU r fs]
  exact q
 ·obtain ⟨its,r,pl,hz⟩:=I.tuple hq
  refine SeqAt.in_tupleAt (eqU x) pl (fun w hw=>mem_eqAt rx fx r fs w (by simpa using hw)) ⟨.bl _,H,I,rfl,?_⟩
  rw [show its.toArray.any (eqU x)=its.any (eqU x) by simp,any_eqU r fs]
  exact q
theorem op_notIn_seq:OpR X (compareOp .NotIn) (rIn X.K true):=by
 intro pins s σ H x y v u Q I rx ry h
 obtain ⟨p,xs,rfl,hq,fx,fs,q⟩:=h
 cases ry
 rcases hq with hq | hq
 ·obtain ⟨its,r,pl,hz⟩:=I.list hq
  refine SeqAt.notIn_listAt (eqU x) pl.isList (fun w hw=>mem_eqAt rx fx r fs w (by simpa using hw)) ⟨.bl _,H,I,rfl,?_⟩
  rw [show its.toArray.any (eqU x)=its.any (eqU x) by simp,any_eqU r fs]
  exact q
 ·obtain ⟨its,r,pl,hz⟩:=I.tuple hq
  refine SeqAt.notIn_tupleAt (eqU x) pl (fun w hw=>mem_eqAt rx fx r fs w (by simpa using hw)) ⟨.bl _,H,I,rfl,?_⟩
  rw [show its.toArray.any (eqU x)=its.any (eqU x) by simp,any_eqU r fs]
  exact q
theorem Zam:CallR X (.builtin "len") (fun xs H Q=>∃ p ys,xs=[.ref p]∧(SqL X.K H p ys∨SqT X.K H p ys)∧Q (.int ys.length) H):=by
 intro pins s σ H xs us Q I r h
 obtain ⟨p,ys,rfl,hq,q⟩:=h
 obtain ⟨u,rfl,rx⟩:=vals1 r
 cases rx
 have hn:=line63
 rcases hq with hq | hq
 ·obtain ⟨its,r',pl,hz⟩:=I.list hq
  have hlen:=r'.length
  exact Calls.call_len_list pl.isList (by simp only [List.size_toArray] <;> omega) ⟨.int ys.length,H,I.tok _,⟨s.toks + 1,by rw [List.size_toArray,hlen]⟩,q⟩
 ·obtain ⟨its,r',pl,hz⟩:=I.tuple hq
  have hlen:=r'.length
  exact len_tuple pl (by simp only [List.size_toArray] <;> omega) ⟨.int ys.length,H,I.tok _,⟨s.toks + 1,by rw [List.size_toArray,hlen]⟩,q⟩
theorem Zcr:CallR X (.type "list") (fun xs H Q=>∃ p ys,xs=[.ref p]∧(SqL X.K H p ys∨SqT X.K H p ys)∧∀ l,H l=none→Q (.ref l) (upd H l (.lst ys))):=by
 intro pins s σ H xs us Q I r h
 obtain ⟨p,ys,rfl,hq,q⟩:=h
 obtain ⟨u,rfl,rx⟩:=vals1 r
 cases rx
 have fin:∀ (its:List Value),Zcg ys its→ys.length≤sizeLine→∀ (h':Heap) (c':Nat),(∀ b o',s.heap.get? b=some o'→h'.get? b=some o') →
   h'.get? s.heap.objs.size=some { cls:=.type "list",dict:=none,data:=.seq its.toArray c',slots:=#[] }→EP X pins σ Q (.ref s.heap.objs.size) { s with heap:=h' }:=fun its r' hz h' c' kp e =>
  ⟨.ref s.heap.objs.size,_,I.laid (t':=s.toks) kp (Nat.le_refl _) (show Zcv X.prog X.w _ h' _ (.lst ys) from ⟨hz,its,c',r',e⟩),rfl,q _ (I.hok.fresh (Nat.le_refl _))⟩
 rcases hq with hq | hq
 ·obtain ⟨its,r',pl,hz⟩:=I.list hq
  have hlen:=r'.length
  obtain ⟨o,ho,hc,n,hd⟩:=pl.isList
  exact call_list_seq p (.inl rfl) ho hc hd (fun h' c' kp e=>fin its r' hz h' c' kp e) (by simp only [List.size_toArray] <;> omega)
 ·obtain ⟨its,r',pl,hz⟩:=I.tuple hq
  have hlen:=r'.length
  obtain ⟨o,ho,hc,n,hd⟩:=pl
  exact call_list_seq p (.inr rfl) ho hc hd (fun h' c' kp e=>fin its r' hz h' c' kp e) (by simp only [List.size_toArray] <;> omega)
theorem Zcf:CallR X (.type "tuple") (fun xs H Q=>∃ p ys,xs=[.ref p]∧((SqL X.K H p ys∧∀ l,H l=none→Q (.ref l) (upd H l (.tup ys)))∨(SqT X.K H p ys∧Q (.ref p) H))):=by
 intro pins s σ H xs us Q I r h
 obtain ⟨p,ys,rfl,h⟩:=h
 obtain ⟨u,rfl,rx⟩:=vals1 r
 cases rx
 rcases h with ⟨hq,q⟩ | ⟨hq,q⟩
 ·obtain ⟨its,r',pl,hz⟩:=I.list hq
  have hlen:=r'.length
  refine call_tuple_list pl.isList (fun h' kp=>?_) (by simp only [List.size_toArray] <;> omega)
  have I1:Inv X pins σ H { s with heap:=h' }:=I.kept (t':=s.toks) kp
  have I2:Inv X pins σ (upd H h'.objs.size (.tup ys)) { s with heap:=h'.push { cls:=.type "tuple",data:=.seq its.toArray } } :=
   I1.laid (t':=s.toks) (fun b o e=>Heap.get?_push_of_some _ e) (Nat.le_refl _) (show Zcv X.prog X.w _ _ _ (.tup ys) from ⟨hz,its,r',IsTup.new _ _⟩)
  exact ⟨.ref h'.objs.size,_,I2,rfl,q _ (I1.hok.fresh (Nat.le_refl _))⟩
 ·obtain ⟨its,r',pl,hz⟩:=I.tuple hq
  exact call_tuple_same pl ⟨.ref p,H,I,rfl,q⟩
def tyV (K:PySem.W.Frag) (T:String) (x:V) (H:Hp):Prop:=match x with
 | .str _=>T="str"
 | .int _=>T="int"
 | .ref p=>(T="list"∧∃ xs,SqL K H p xs)∨(T="tuple"∧∃ o,K.lookup p=some o∧o.cls=.type "tuple"∧o.dict=none) ∨
   (T="dict"∧((∃ kvs,H p=some (.dK kvs))∨∃ kvs,H p=some (.dT kvs)))∨(T="set"∧∃ S n,H p=some (.set S n))
 | _=>False
theorem tyV_is {pins:List (Addr×Obj)}{σ:St}{H:Hp}{s:Shared}{T:String}{x:V}{v:Value}(I:Inv X pins σ H s) (r:Zcy x v) (ty:tyV X.K T x H):
  s.TypeIs v T∧∀ a,v=.ref a→∃ ob,s.heap.get? a=some ob∧ob.dict=none:=by
 cases x with
 | str z =>
  obtain ⟨t,rfl⟩:=r
  cases (show T="str" from ty)
  exact ⟨typeIs_str s z t,fun _ e=>nomatch e⟩
 | int i =>
  obtain ⟨t,rfl⟩:=r
  cases (show T="int" from ty)
  exact ⟨typeIs_int s i t,fun _ e=>nomatch e⟩
 | ref p =>
  cases r
  rcases ty with ⟨rfl,xs,hq⟩ | ⟨rfl,o,hk,hc,hd⟩ | ⟨rfl,hk⟩ | ⟨rfl,S,n,hk⟩
  ·obtain ⟨its,_,pl,_⟩:=I.list hq
   refine ⟨pl.isList.typeIs,fun a e=>?_⟩
   cases e
   obtain ⟨o,n,e,c,hd,_⟩:=pl
   exact ⟨o,e,hd⟩
  ·refine ⟨⟨o,I.kIn p o hk,hc⟩,fun a e=>?_⟩
   cases e
   exact ⟨o,I.kIn _ o hk,hd⟩
  ·have z:∃ o,s.heap.get? p=some o∧o.ExactDict:=by
    rcases hk with ⟨kvs,hk⟩ | ⟨kvs,hk⟩
    ·obtain ⟨_,_,_,_,o,_,_,e,ex,_⟩:=I.hok p _ hk
     exact ⟨o,e,ex⟩
    ·obtain ⟨_,_,_,_,o,_,_,e,ex,_⟩:=I.hok p _ hk
     exact ⟨o,e,ex⟩
   obtain ⟨o,e,ex⟩:=z
   refine ⟨⟨o,e,ex.1⟩,fun a e2=>?_⟩
   cases e2
   exact ⟨o,e,ex.2.1⟩
  ·obtain ⟨o,_,_,_,e,ex,_⟩:=I.hok p _ hk
   refine ⟨⟨o,e,ex.1⟩,fun a e2=>?_⟩
   cases e2
   exact ⟨o,e,ex.2.1⟩
 | _=>exact False.elim ty
def tBM0 (K:PySem.W.Frag) (T:String) (r:V→List V→Hp→VK→Prop) (to:TE):TE:=fun σ H Q=>to σ H fun x H1=>tyV K T x H1∧r x [] H1 Q
def tBM (K:PySem.W.Frag) (T:String) (r:V→List V→Hp→VK→Prop) (to:TE) (t:TA):TE:=fun σ H Q=>to σ H fun x H1=>tyV K T x H1∧t σ H1 fun xs H2=>r x xs H2 Q
variable {o e:Expr} {es:List Expr} {to:TE} {t:TA} {name:Str} {apos cpos:Pos} {T id:String} {r:V→List V→Hp→VK→Prop}
theorem pe_bm0 (pa:PlainAttrs T) (slot:Slot T name id) (hty:typeOf (.builtin id)=pure (.type "method_descriptor")) (hm:MtR X id r) (ho:PE X o to)
  (hbase:attributeBase o name X.env (eval o X.env)=eval o X.env:=by rfl) (hline:(apos.endLine == cpos.line)=true:=by rfl):PE X (.Call (.Attribute o name apos) [] [] cpos) (tBM0 X.K T r to):=by
 intro pins s σ H Q I h
 refine wpAny_Call_method0_late hbase hline (thn (ho pins s σ H _ I h) fun v s1 ⟨x,H1,I1,r1,ty,q1⟩=>?_)
 obtain ⟨h1,h2⟩:=tyV_is I1 r1 ty
 exact ⟨T,id,pa,slot,hty,h1,h2,Calls.callWith_builtin rfl (PySem.evalArgs_none (hm pins s1 σ H1 x [] v [] Q I1 r1 .nil q1))⟩
theorem pe_bm (pa:PlainAttrs T) (slot:Slot T name id) (hty:typeOf (.builtin id)=pure (.type "method_descriptor")) (hm:MtR X id r) (ho:PE X o to) (ha:PA X (e :: es) t)
  (hbase:attributeBase o name X.env (eval o X.env)=eval o X.env:=by rfl)
  (hfew:((backTo cpos (starEach (e :: es) X.env)).all (fun x=>!x.1)&&(backToKw cpos (keywordEach [] X.env)).all (fun x=>x.1.isSome)
   && decide ((e :: es).length + ([]:List Keyword).length + (if ([]:List Keyword).isEmpty then 0 else 1)<30))=true:=by rfl)
  (hline:(apos.endLine == cpos.line)=true:=by rfl) (hs:starEach (e :: es) X.env=(false,eval e X.env):: starEach es X.env:=by rfl) (hplain:(backTo cpos (starEach es X.env)).any (·.1)=false:=by rfl):
  PE X (.Call (.Attribute o name apos) (e :: es) [] cpos) (tBM X.K T r to t):=by
 intro pins s σ H Q I h
 refine wpAny_Call_method_late hbase hfew hline rfl (thn (ho pins s σ H _ I h) fun v s1 ⟨x,H1,I1,r1,ty,q1⟩=>?_)
 obtain ⟨h1,h2⟩:=tyV_is I1 r1 ty
 refine ⟨T,id,pa,slot,hty,h1,h2,?_⟩
 have hA:=ha cpos pins s1 σ H1 _ I1 q1
 rw [hs] at hA ⊢
 refine Calls.callWith_builtin (by show (false || (backTo cpos (starEach es X.env)).any (·.1))=false;rw [hplain] <;> rfl) (Calls.evalArgs_plain ?_)
 exact thn hA fun us s2 ⟨vs,H2,I2,r2,q2⟩=>hm pins s2 σ H2 x vs v us Q I2 r1 r2 q2
end
end L2
namespace L2
open PySem PySem.Spec PyProof.Rows
def MtM (X:Cx) (id:String) (r:V→List V→Hp→VK→Prop):Prop :=
 ∀ (pins:List (Addr×Obj)) (s:Shared) (σ:St) (H:Hp) (x:V) (xs:List V) (v:Value) (us:List Value) (Q:VK),Inv X pins σ H s→Zcy x v→Zcg xs us→r x xs H Q →
  wpAny (model X.prog X.w) X.A (call (.builtin id) (v :: us)) (EP X pins σ Q) X.xe s
theorem Zcg.one:∀ {x:V}{us:List Value},Zcg [x] us→∃ u,us=[u]∧Zcy x u
 | _,_,.cons r .nil=>⟨_,rfl,r⟩
theorem Zcg.zero:∀ {us:List Value},Zcg [] us→us=[]
 | _,.nil=>rfl
theorem Zcg.dropLast {xs:List V}{us:List Value}(h:Zcg xs us):Zcg xs.dropLast us.dropLast:=by
 induction h with
 | nil=>exact .nil
 | cons r t ih =>
  cases t with
  | nil=>exact .nil
  | cons q t'=>exact .cons r ih
theorem Zcg.eraseIdx:∀ {xs:List V}{us:List Value}(i:Nat),Zcg xs us→Zcg (xs.eraseIdx i) (us.eraseIdx i)
 | _,_,_,.nil=>.nil
 | _,_,0,.cons _ t=>t
 | _,_,i + 1,.cons r t=>.cons r (Zcg.eraseIdx i t)
theorem erase_last {α:Type}(l:List α):l.eraseIdx (l.length - 1)=l.dropLast:=by
 induction l with
 | nil=>rfl
 | cons a r ih =>
  cases r with
  | nil=>rfl
  | cons b r =>
   have e:(a :: b :: r).length - 1=((b :: r).length - 1) + 1:=by
    have h1:(a :: b :: r).length=r.length + 2:=rfl
    have h2:(b :: r).length=r.length + 1:=rfl
    omega
   rw [e,List.eraseIdx_cons_succ,ih]
   all_goals rfl
theorem len_erase {α:Type}:∀ (l:List α) (i:Nat),(l.eraseIdx i).length≤l.length
 | [],_=>Nat.le_refl _
 | _ :: _,0=>Nat.le_succ _
 | _ :: r,i + 1=>Nat.succ_le_succ (len_erase r i)
section
variable {X:Cx} {pins:List (Addr×Obj)} {σ:St} {H:Hp} {s:Shared} {l b:Addr} {xs ys zs:List V}
theorem Inv.lset {its its':List Value}{n:Nat}{f:Array Value→Array Value}{t':Nat}(I:Inv X pins σ H s) (hH:H l=some (.lst xs))
  (e:s.heap.get? l=some { cls:=.type "list",data:=.seq its.toArray n }) (hf:f its.toArray=its'.toArray) (hv:Zcg ys its') (hz:ys.length≤sizeLine):
  Inv X pins σ (upd H l (.lst ys)) { s with heap:=s.heap.update l (Obj.mapSeq f),toks:=t' }:=by
 have q:=PySem.IsL.update e f
 rw [hf] at q
 refine I.write (x:=l) (e:=l) (by rw [hH];exact trivial) (.inl rfl) (fun b' u hb hu=>(Heap.get?_update_other s.heap (Obj.mapSeq f) (Ne.symm hb)).trans hu) ⟨_,q⟩ ?_
 exact ⟨hz,its',_,hv,q⟩
theorem Inv.lstM (I:Inv X pins σ H s) (hH:H l=some (.lst xs)):xs.length≤sizeLine∧∃ (its:List Value) (n:Nat),Zcg xs its∧xs.length=its.length∧s.heap.get? l=some { cls:=.type "list",data:=.seq its.toArray n }:=by
 obtain ⟨z,its,n,r,e⟩:=I.hok l _ hH
 exact ⟨z,its,n,r,r.length,e⟩
end
section
variable {X:Cx}
def rAppend:V→List V→Hp→VK→Prop:=fun x vs H Q=>∃ l xs y,x=.ref l∧vs=[y]∧H l=some (.lst xs)∧xs.length<sizeLine∧Q .non (upd H l (.lst (xs++[y])))
theorem Zde:MtM X "list.append" rAppend:=by
 intro pins s σ H x vs v us Q I rx rv h
 obtain ⟨l,xs,y,rfl,rfl,hH,hz,q⟩:=h
 cases rx
 obtain ⟨u,rfl,ru⟩:=rv.one
 obtain ⟨z,its,n,r,hl,e⟩:=I.lstM hH
 refine call_meets F.slot_list_append ⟨_,e,rfl⟩ F.entry_list_append (F.args_list_append_2 _ _) (PySem.list_append l its.toArray n u (by rw [List.size_toArray];omega)) ⟨e,?_⟩
 refine ⟨.non,_,I.lset (its':=its++[u]) hH e (by simp) (r.append (.cons ru .nil)) ?_,rfl,q⟩
 rw [List.length_append,List.length_singleton]
 omega
def rPop:V→List V→Hp→VK→Prop:=fun x vs H Q=>∃ l xs y,x=.ref l∧vs=[]∧H l=some (.lst xs)∧xs[xs.length - 1]?=some y∧Q y (upd H l (.lst xs.dropLast))
theorem mt_pop:MtM X "list.pop" rPop:=by
 intro pins s σ H x vs v us Q I rx rv h
 obtain ⟨l,xs,y,rfl,rfl,hH,hy,q⟩:=h
 cases rx
 have hus:=rv.zero
 subst hus
 obtain ⟨z,its,n,r,hl,e⟩:=I.lstM hH
 obtain ⟨u,hu,ru⟩:=r.get hy
 have hy':its.toArray[its.toArray.size - 1]?=some u:=by
  show its.toArray[its.length - 1]?=some u
  rw [← Array.getElem?_toList,← hl]
  exact hu
 refine call_meets F.slot_list_pop ⟨_,e,rfl⟩ F.entry_list_pop (F.args_list_pop_1 _) (MeetsSeq.list_pop_last l its.toArray n u hy' (by rw [List.size_toArray];omega)) ⟨e,?_⟩
 refine ⟨y,_,I.lset (its':=its.dropLast) hH e ?_ r.dropLast ?_,ru,q⟩
 ·show its.toArray.eraseIdxIfInBounds (its.toArray.size - 1)=its.dropLast.toArray
  rw [List.size_toArray,List.eraseIdxIfInBounds_toArray,erase_last]
 ·rw [List.length_dropLast]
  omega
def rPopAt:V→List V→Hp→VK→Prop:=fun x vs H Q=>∃ l xs i k y,x=.ref l∧vs=[.int i]∧H l=some (.lst xs)∧-(2 ^ 63)≤i∧i<2 ^ 63∧seqIndex? i xs.length=some k∧xs[k]?=some y∧Q y (upd H l (.lst (xs.eraseIdx k)))
theorem mt_popAt:MtM X "list.pop" rPopAt:=by
 intro pins s σ H x vs v us Q I rx rv h
 obtain ⟨l,xs,i,k,y,rfl,rfl,hH,h1,h2,hk,hy,q⟩:=h
 cases rx
 obtain ⟨u,rfl,ru⟩:=rv.one
 obtain ⟨t,rfl⟩:=ru
 obtain ⟨z,its,n,r,hl,e⟩:=I.lstM hH
 obtain ⟨w,hw,rw'⟩:=r.get hy
 refine call_meets F.slot_list_pop ⟨_,e,rfl⟩ F.entry_list_pop (F.args_list_pop_2 _ _)
  (MeetsSeq.list_pop_at l its.toArray n i t k w (fitsIndex_both h1 h2) (by rw [List.size_toArray,← hl];exact hk) (by rw [← Array.getElem?_toList];exact hw) (by rw [List.size_toArray];omega)) ⟨e,?_⟩
 refine ⟨y,_,I.lset (its':=its.eraseIdx k) hH e ?_ (r.eraseIdx k) ?_,rw',q⟩
 ·show its.toArray.eraseIdxIfInBounds k=(its.eraseIdx k).toArray
  rw [List.eraseIdxIfInBounds_toArray]
 ·have:=len_erase xs k
  omega
end
section
variable {prog:Program} {w:World} {A:Around} {E:Value→Shared→Prop} {s:Shared}
end
section
variable {X:Cx}
end
end L2
namespace L2
open PySem PySem.Spec PyProof.Rows
section
variable {κ:Type} [DecidableEq κ]
def valV (kvs:List (κ×V)) (k:κ):Option V:=(kvs.find? fun kv=>decide (kv.1=k)).map (·.2)
def putK (kvs:List (κ×V)) (k:κ) (v:V):List (κ×V):=
 if (kvs.any fun kv=>decide (kv.1=k))=true then kvs.map (fun kv=>if kv.1=k then (kv.1,v) else kv) else kvs++[(k,v)]
theorem valV_pos {p:κ×V}{r:List (κ×V)}{k:κ}(e:p.1=k):valV (p :: r) k=some p.2:=by simp [valV,List.find?_cons,e]
theorem valV_neg {p:κ×V}{r:List (κ×V)}{k:κ}(e:¬ p.1=k):valV (p :: r) k=valV r k:=by simp [valV,List.find?_cons,e]
theorem valV_any (k:κ):∀ kvs:List (κ×V),(kvs.any fun kv=>decide (kv.1=k))=(valV kvs k).isSome
 | []=>rfl
 | p :: r=>by
  rw [List.any_cons]
  by_cases e:p.1=k
  ·simp only [valV_pos e,decide_eq_true e,Bool.true_or,Option.isSome_some]
  ·rw [valV_neg e,decide_eq_false e,Bool.false_or];exact valV_any k r
theorem length_putK (kvs:List (κ×V)) (k:κ) (v:V):(putK kvs k v).length≤kvs.length + 1:=by
 unfold putK
 split
 ·rw [List.length_map];omega
 ·rw [List.length_append,List.length_cons,List.length_nil];omega
theorem putK_new {kvs:List (κ×V)}{k:κ}(v:V) (h:valV kvs k=none):putK kvs k v=kvs++[(k,v)]:=by
 unfold putK
 rw [valV_any,h]
 exact if_neg (by decide)
theorem RelO.isSome_eq {o:Option V}{u:Option Value}(r:RelO o u):o.isSome=u.isSome:=by
 cases o with
 | none=>cases u with
  | none=>rfl
  | some _=>exact (show False from r).elim
 | some _=>cases u with
  | none=>exact (show False from r).elim
  | some _=>rfl
theorem KV.val {kvs:List (κ×V)}{vs:List (κ×Value)}(r:KV kvs vs) (k:κ):RelO (valV kvs k) (valueAt vs k):=by
 unfold KV at r
 induction r with
 | nil=>exact True.intro
 | @cons p q ps qs h t ih =>
  obtain ⟨h1,h2⟩:=h
  by_cases e:p.1=k
  ·have e':q.1=k:=h1.symm.trans e
   have b:valueAt (q :: qs) k=some q.2:=by simp [valueAt,List.find?_cons,e']
   rw [valV_pos e,b];exact h2
  ·have e':¬ q.1=k:=fun z=>e (h1.trans z)
   have b:valueAt (q :: qs) k=valueAt qs k:=by simp [valueAt,List.find?_cons,e']
   rw [valV_neg e,b];exact ih
theorem KV.any {kvs:List (κ×V)}{vs:List (κ×Value)}(r:KV kvs vs) (k:κ):(kvs.any fun kv=>decide (kv.1=k))=vs.any fun kv=>decide (kv.1=k):=by
 unfold KV at r
 induction r with
 | nil=>rfl
 | cons h t ih=>rw [List.any_cons,List.any_cons,ih,h.1]
theorem KV.repl {kvs:List (κ×V)}{vs:List (κ×Value)}(r:KV kvs vs) (k:κ) {y:V}{u:Value}(ry:Zcy y u):
  KV (kvs.map fun kv=>if kv.1=k then (kv.1,y) else kv) (vs.map fun kv=>if kv.1=k then (kv.1,u) else kv):=by
 unfold KV at r ⊢
 induction r with
 | nil=>exact .nil
 | @cons p q ps qs h t ih =>
  rw [List.map_cons,List.map_cons]
  refine .cons ?_ ih
  obtain ⟨h1,h2⟩:=h
  by_cases e:p.1=k
  ·rw [if_pos e,if_pos (h1.symm.trans e)];exact ⟨h1,ry⟩
  ·rw [if_neg e,if_neg (fun z=>e (h1.trans z))];exact ⟨h1,h2⟩
theorem KV.put {kvs:List (κ×V)}{vs:List (κ×Value)}(r:KV kvs vs) (k:κ) {y:V}{u:Value}(ry:Zcy y u):KV (putK kvs k y) (stored vs k u):=by
 unfold putK stored
 rw [r.any k]
 by_cases e:(vs.any fun kv=>decide (kv.1=k))=true
 ·rw [if_pos e,if_pos e];exact r.repl k ry
 ·rw [if_neg e,if_neg e];exact Paired.snoc r ⟨rfl,ry⟩
theorem KV.length {kvs:List (κ×V)}{vs:List (κ×Value)}(r:KV kvs vs):kvs.length=vs.length:=Paired.length r
end
theorem kV_is {P:Program}{w:World}{k:Key}{u:Value}(r:Zcy (kV k) u):(Zb6 P w).is k u=true:=by
 cases k with
 | inl i=>obtain ⟨t,e⟩:=(show ∃ t,u=Value.int i t from r);subst e;exact mixKind_int P w i t
 | inr x=>obtain ⟨t,e⟩:=(show ∃ t,u=Value.str x t from r);subst e;exact mixKind_str P w x t
theorem items_are {P:Program}{w:World}:∀ {ks:List Key}{us:List Value},Zcg (ks.map kV) us→ItemsAre (Zb6 P w) ks us
 | [],_,r=>by rw [List.map_nil] at r;cases r;exact .nil
 | k :: ks,_,r=>by
  rw [List.map_cons] at r
  cases r with
  | cons h t=>exact .cons (kV_is h) (items_are t)
abbrev KT (H:Hp):List (List Key×V)→List (List Key×Addr×Value)→Prop:=Paired fun p q=>p.1=q.1∧H q.2.1=some (.tup (p.1.map kV))∧Zcy p.2 q.2.2
theorem KT.val {H:Hp}{kvs:List (List Key×V)}{xs:List (List Key×Addr×Value)}(r:KT H kvs xs) (k:List Key):RelO (valV kvs k) ((atKey xs k).map (·.2)):=by
 induction r with
 | nil=>exact True.intro
 | @cons p q ps qs h t ih =>
  obtain ⟨h1,_,h2⟩:=h
  by_cases e:p.1=k
  ·have e':q.1=k:=h1.symm.trans e
   have b:atKey (q :: qs) k=some q.2:=by simp [atKey,List.find?_cons,e']
   rw [valV_pos e,b];exact h2
  ·have e':¬ q.1=k:=fun z=>e (h1.trans z)
   have b:atKey (q :: qs) k=atKey qs k:=by simp [atKey,List.find?_cons,e']
   rw [valV_neg e,b];exact ih
theorem KT.repl {H:Hp}{kvs:List (List Key×V)}{xs:List (List Key×Addr×Value)}(r:KT H kvs xs) (k:List Key) {y:V}{u:Value}(ry:Zcy y u):
  KT H (kvs.map fun kv=>if kv.1=k then (kv.1,y) else kv) (xs.map (putAt k u)):=by
 induction r with
 | nil=>exact .nil
 | @cons p q ps qs h t ih =>
  rw [List.map_cons,List.map_cons]
  refine .cons ?_ ih
  obtain ⟨h1,h2,h3⟩:=h
  unfold putAt
  by_cases e:p.1=k
  ·rw [if_pos e,if_pos (h1.symm.trans e)];exact ⟨h1,h2,ry⟩
  ·rw [if_neg e,if_neg (fun z=>e (h1.trans z))];exact ⟨h1,h2,h3⟩
theorem KT.put {H:Hp}{kvs:List (List Key×V)}{xs:List (List Key×Addr×Value)}(r:KT H kvs xs) (k:List Key) {b:Addr}{y:V}{u:Value}(hb:H b=some (.tup (k.map kV))) (ry:Zcy y u):
  KT H (putK kvs k y) (storedH xs k b u):=by
 have e:(kvs.any fun kv=>decide (kv.1=k))=(atKey xs k).isSome:=by
  rw [valV_any,(r.val k).isSome_eq,Option.isSome_map]
 unfold putK storedH
 rw [e]
 by_cases q:(atKey xs k).isSome=true
 ·rw [if_pos q,if_pos q];exact r.repl k ry
 ·rw [if_neg q,if_neg q];exact Paired.snoc r ⟨rfl,hb,ry⟩
theorem KT.keeps {H H':Hp}{kvs:List (List Key×V)}{xs:List (List Key×Addr×Value)}(r:KT H kvs xs) (ht:∀ b ys,H b=some (.tup ys)→H' b=some (.tup ys)):KT H' kvs xs :=
 Paired.mapP r fun _ _ z=>⟨z.1,ht _ _ z.2.1,z.2.2⟩
section
variable {P:Program} {w:World} {H:Hp} {h:Heap} {a:Addr}
theorem rd_of {u:HO}(ok:HOk P w H h) (e:Rd H a u):Zcv P w H h a u:=e.ok ok
theorem dk_rd {kvs:List (Key×V)}(ok:HOk P w H h) (e:Rd H a (.dK kvs)):kvs.length≤sizeLine∧(a == sysModules)=false∧∃ vs,KV kvs vs∧h.DictOf (Zb6 P w) a vs :=
 show Zcv P w H h a (.dK kvs) from rd_of ok e
theorem dk_of {kvs:List (Key×V)}(ok:HOk P w H h) (e:H a=some (.dK kvs)):kvs.length≤sizeLine∧(a == sysModules)=false∧∃ vs,KV kvs vs∧h.DictOf (Zb6 P w) a vs:=dk_rd ok (.inl e)
theorem key_of {ks:List Key}(ok:HOk P w H h) (e:H a=some (.tup (ks.map kV))):(tupleKind (Zb6 P w)).is h ks a:=by
 obtain ⟨_,its,r,o,h1,h2,n,h3⟩:=(show Zcv P w H h a (.tup (ks.map kV)) from ok a _ e)
 exact ⟨o,its.toArray,n,h1,h2,h3,by simpa using items_are r⟩
theorem dt_rd {kvs:List (List Key×V)}(ok:HOk P w H h) (e:Rd H a (.dT kvs)):kvs.length≤sizeLine∧(a == sysModules)=false ∧
  ∃ xs,KT H kvs xs∧h.DictOfH (tupleKind (Zb6 P w)) a xs:=by
 obtain ⟨z,y,xs,r,o,es,ep,h1,h2,h3,h4,h5⟩:=(show Zcv P w H h a (.dT kvs) from rd_of ok e)
 refine ⟨z,y,xs,r,o,es,ep,h1,h2,h3,h4,fun x hx=>?_,h5⟩
 have all:∀ {l:List (List Key×V)} {m:List (List Key×Addr×Value)},KT H l m→∀ x∈m,(tupleKind (Zb6 P w)).is h x.1 x.2.1:=by
  intro l m q
  induction q with
  | nil=>intro x hx;exact nomatch hx
  | @cons p q ps qs hq t ih =>
   intro x hx
   rcases List.mem_cons.mp hx with e | hx
   ·subst e
    exact key_of ok (by rw [← hq.1];exact hq.2.1)
   ·exact ih x hx
 exact all r x hx
theorem dt_of {kvs:List (List Key×V)}(ok:HOk P w H h) (e:H a=some (.dT kvs)):kvs.length≤sizeLine∧(a == sysModules)=false ∧
  ∃ xs,KT H kvs xs∧h.DictOfH (tupleKind (Zb6 P w)) a xs:=dt_rd ok (.inl e)
end
def DGet (H:Hp) (a:Addr) (y:V) (r:Option V):Prop :=
 (∃ kvs k,Rd H a (.dK kvs)∧y=kV k∧r=valV kvs k)∨∃ kvs k b,Rd H a (.dT kvs)∧y=.ref b∧H b=some (.tup (k.map kV))∧r=valV kvs k
def DPut (H:Hp) (a:Addr) (y v:V) (H':Hp):Prop :=
 (∃ kvs k,H a=some (.dK kvs)∧y=kV k∧kvs.length<sizeLine∧H'=upd H a (.dK (putK kvs k v))) ∨
 ∃ kvs k b,H a=some (.dT kvs)∧y=.ref b∧H b=some (.tup (k.map kV))∧kvs.length<sizeLine∧H'=upd H a (.dT (putK kvs k v))
theorem DGet.k {H:Hp}{a:Addr}{kvs:List (Key×V)}{k:Key}(e:H a=some (.dK kvs)):DGet H a (kV k) (valV kvs k):=.inl ⟨kvs,k,.inl e,rfl,rfl⟩
theorem DGet.t {H:Hp}{a b:Addr}{kvs:List (List Key×V)}{k:List Key}(e:H a=some (.dT kvs)) (eb:H b=some (.tup (k.map kV))):DGet H a (.ref b) (valV kvs k):=.inr ⟨kvs,k,b,.inl e,rfl,eb,rfl⟩
theorem DPut.k {H:Hp}{a:Addr}{kvs:List (Key×V)}{k:Key}{v:V}(e:H a=some (.dK kvs)) (hl:kvs.length<sizeLine):DPut H a (kV k) v (upd H a (.dK (putK kvs k v))):=.inl ⟨kvs,k,e,rfl,hl,rfl⟩
theorem DPut.t {H:Hp}{a b:Addr}{kvs:List (List Key×V)}{k:List Key}{v:V}(e:H a=some (.dT kvs)) (eb:H b=some (.tup (k.map kV))) (hl:kvs.length<sizeLine):
  DPut H a (.ref b) v (upd H a (.dT (putK kvs k v))):=.inr ⟨kvs,k,b,e,rfl,eb,hl,rfl⟩
section
variable {X:Cx} {pins:List (Addr×Obj)} {σ:St} {H:Hp} {s:Shared} {a:Addr} {y v:V} {u r:Value} {o:Option V} {A:Around} {E:Value→Shared→Prop}
theorem Inv.big (I:Inv X pins σ H s):sysModules<s.heap.objs.size:=by
 have h:mainGlobals<s.heap.objs.size:=(I.mod.glob.keeps I.bk).lt
 exact Nat.lt_trans (by decide) h
theorem d_getItem {Q:Value→Shared→Prop}(hu:A.units + 1<cLine) (I:Inv X pins σ H s) (g:DGet H a y (some v)) (ry:Zcy y u) (h:∀ w' s',Inv X pins σ H s'→Zcy v w'→Q w' s'):
  wpAny (model X.prog X.w) A (getItem (.ref a) u) Q E s:=by
 rcases g with ⟨kvs,k,e,ey,l⟩ | ⟨kvs,k,b,e,ey,eb,l⟩
 ·subst ey
  obtain ⟨z,hd,vs,rel,dd⟩:=dk_rd I.hok e
  obtain ⟨w',hw,rw'⟩:=RelO.some_of (v:=v) (o:=valueAt vs k) (by rw [l];exact rel.val k)
  exact wpAny_getItem_of (kV_is ry) dd.mapOf hw (h w' _ (I.tok _) rw')
 ·subst ey
  cases (show u=Value.ref b from ry)
  obtain ⟨z,hd,xs,rel,dd⟩:=dt_rd I.hok e
  obtain ⟨w',hw,rw'⟩:=RelO.some_of (v:=v) (o:=(atKey xs k).map (·.2)) (by rw [l];exact rel.val k)
  obtain ⟨p,hp,hp2⟩:=Option.map_eq_some_iff.mp hw
  refine wpAny_getItem_heap (tupleKind_room_in1 hu) (key_of I.hok eb) dd hp ?_
  rw [hp2]
  exact h w' _ (I.tok _) rw'
theorem d_in {Q:Value→Shared→Prop}(hu:A.units + 1<cLine) (I:Inv X pins σ H s) (g:DGet H a y o) (ry:Zcy y u) (h:∀ s',Inv X pins σ H s'→Q (.bool o.isSome) s'):
  wpAny (model X.prog X.w) A (compareOp .In u (.ref a)) Q E s:=by
 rcases g with ⟨kvs,k,e,ey,l⟩ | ⟨kvs,k,b,e,ey,eb,l⟩
 ·subst ey
  obtain ⟨z,hd,vs,rel,dd⟩:=dk_rd I.hok e
  refine wpAny_in_of (kV_is ry) hd dd.mapOf ?_
  rw [← (rel.val k).isSome_eq,← l]
  exact h _ (I.tok _)
 ·subst ey
  cases (show u=Value.ref b from ry)
  obtain ⟨z,hd,xs,rel,dd⟩:=dt_rd I.hok e
  refine wpAny_in_heap (tupleKind_room_in1 hu) (key_of I.hok eb) hd dd ?_
  have q:=(rel.val k).isSome_eq
  rw [Option.isSome_map] at q
  rw [← q,← l]
  exact h _ (I.tok _)
theorem d_notIn {Q:Value→Shared→Prop}(hu:A.units + 1<cLine) (I:Inv X pins σ H s) (g:DGet H a y o) (ry:Zcy y u) (h:∀ s',Inv X pins σ H s'→Q (.bool (!o.isSome)) s'):
  wpAny (model X.prog X.w) A (compareOp .NotIn u (.ref a)) Q E s:=by
 rcases g with ⟨kvs,k,e,ey,l⟩ | ⟨kvs,k,b,e,ey,eb,l⟩
 ·subst ey
  obtain ⟨z,hd,vs,rel,dd⟩:=dk_rd I.hok e
  refine wpAny_notIn_of (kV_is ry) hd dd.mapOf ?_
  rw [← (rel.val k).isSome_eq,← l]
  exact h _ (I.tok _)
 ·subst ey
  cases (show u=Value.ref b from ry)
  obtain ⟨z,hd,xs,rel,dd⟩:=dt_rd I.hok e
  refine wpAny_notIn_heap (tupleKind_room_in1 hu) (key_of I.hok eb) hd dd ?_
  have q:=(rel.val k).isSome_eq
  rw [Option.isSome_map] at q
  rw [← q,← l]
  exact h _ (I.tok _)
theorem d_write {h':Heap}{t':Nat}{ob:HO}(I:Inv X pins σ H s) (mu:Mut (H a)) (hs:Heap.SameBut a s.heap h') (he:∃ q,h'.get? a=some q) (new:Zcv X.prog X.w (upd H a ob) h' a ob):
  Inv X pins σ (upd H a ob) { s with heap:=h',toks:=t' } :=
 I.write (x:=a) (e:=a) mu (.inl rfl) (fun b q hb z=>(hs.2 b hb).trans z) he new
theorem dk_new {P:Program}{w:World}{H':Hp}{h':Heap}{kvs:List (Key×V)}{vs:List (Key×Value)}(z:kvs.length≤sizeLine) (hd:(a == sysModules)=false) (rel:KV kvs vs) (dd:h'.DictOf (Zb6 P w) a vs):
  Zcv P w H' h' a (.dK kvs):=⟨z,hd,vs,rel,dd⟩
theorem d_setItem {H':Hp}{Q:Unit→Shared→Prop}(hu:A.units + 1<cLine) (I:Inv X pins σ H s) (g:DPut H a y v H') (ry:Zcy y u) (rv:Zcy v r) (h:∀ s',Inv X pins σ H' s'→Q () s'):
  wpAny (model X.prog X.w) A (setItem (.ref a) u r) Q E s:=by
 rcases g with ⟨kvs,k,e,ey,l,eH⟩ | ⟨kvs,k,b,e,ey,eb,l,eH⟩
 ·subst ey eH
  obtain ⟨z,hd,vs,rel,dd⟩:=dk_of I.hok e
  have hz:vs.length≤sizeLine:=by rw [← rel.length];exact z
  have hl:(putK kvs k v).length≤sizeLine:=by have:=length_putK kvs k v;omega
  refine wpAny_setItem_pairs (hsz:=hz) (kV_is ry) dd fun h' dd' hs=>h _ ?_
  have he:∃ q,h'.get? a=some q:=let ⟨q,_,_,hq,_⟩:=dd';⟨q,hq⟩
  exact d_write I (by rw [e];exact True.intro) hs he (dk_new hl hd (rel.put k rv) dd')
 ·subst ey eH
  cases (show u=Value.ref b from ry)
  obtain ⟨z,hd,xs,rel,dd⟩:=dt_of I.hok e
  have hz:xs.length≤sizeLine:=by rw [← Paired.length rel];exact z
  have hl:(putK kvs k v).length≤sizeLine:=by have:=length_putK kvs k v;omega
  refine wpAny_setItem_heap (hsz:=hz) (tupleKind_room_in1 hu) (key_of I.hok eb) dd fun h' dd' hs=>h _ ?_
  obtain ⟨q,es,ep,hq,h2,h3,h4,_,h5⟩:=dd'
  refine d_write I (by rw [e];exact True.intro) hs ⟨q,hq⟩ ⟨hl,hd,_,(rel.put k eb rv).keeps fun c ys ec=>?_,q,es,ep,hq,h2,h3,h4,h5⟩
  rw [Zac (ne_of ec e (fun z=>nomatch z))]
  exact ec
end
section
variable {X:Cx} {pins:List (Addr×Obj)} {σ:St} {H:Hp} {s:Shared} {a:Addr} {kvs:List (Key×V)} {k:Key} {u:Value} {A:Around} {E:Value→Shared→Prop}
end
def NoSl (i:Expr):Prop:=∀ ov iv,subscripted i false ov iv=operate [ov,iv] (getItem ov iv)
theorem subD_of {prog:Program}{w:World}{A:Around}{E:Value→Shared→Prop}{s:Shared}{env:Env}{value slice:Expr}{pos:Pos}{T id:String}{Q:Value→Shared→Prop}
  (hl:typeLookup (.type T) "__getitem__"=pure (some (.builtin id))) (hs:NoSl slice)
  (h:wpAny (model prog w) A (eval value env) (fun o s₁=>wpAny (model prog w) A (eval slice env) (fun i s₂=>s₂.TypeIs o T∧wpAny (model prog w) A (getItem o i) Q E s₂) E s₁) E s):
  wpAny (model prog w) A (eval (.Subscript value slice pos) env) Q E s:=by
 refine Subscript_ (wpAny_mono h (fun o s₁ h₁=>wpAny_mono h₁ (fun i s₂ h₂=>?_) fun _ _ x=>x) fun _ _ x=>x)
 obtain ⟨hT,h₂⟩:=h₂
 unfold subscriptTail
 refine wpAny_bind ?_
 rw [getitemInPython_of_ne hT.not_modules]
 refine wpAny_bind (wpAny_specialOf hT hl ?_)
 have fin:wpAny (model prog w) A (subscripted slice false o i) (fun r s₃=>wpAny (model prog w) A (letTemporaryGo value o r>>=fun _=>pure r) Q E s₃) E s₂:=by
  rw [hs o i]
  exact wpAny_operating (wpAny_mono h₂ (fun r s₃ h₃=>wpAny_bind (wpAny_letTemporaryGo (wpAny_pure h₃))) fun _ _ x=>x)
 first
  | exact wpAny_pure (wpAny_bind fin)
  | exact wpAny_bind (wpAny_pure (wpAny_bind fin))
  | exact wpAny_bind fin
theorem dict_typeIs {X:Cx}{pins:List (Addr×Obj)}{σ:St}{H:Hp}{s:Shared}{a:Addr}{y:V}{o:Option V}(I:Inv X pins σ H s) (g:DGet H a y o):s.TypeIs (.ref a) "dict":=by
 rcases g with ⟨kvs,k,e,_,_⟩ | ⟨kvs,k,b,e,_,_,_⟩
 ·obtain ⟨_,_,vs,_,dd⟩:=dk_rd I.hok e
  exact dd.typeIs
 ·obtain ⟨_,_,xs,_,dd⟩:=dt_rd I.hok e
  exact dd.typeIs
def tDGet (td ty:TE):TE:=fun σ H Q=>td σ H fun x H1=>ty σ H1 fun y H2=>∃ a v,x=.ref a∧DGet H2 a y (some v)∧Q v H2
def tDIn (ty td:TE):TE:=fun σ H Q=>ty σ H fun y H1=>td σ H1 fun x H2=>∃ a o,x=.ref a∧DGet H2 a y o∧Q (.bl o.isSome) H2
def tDNotIn (ty td:TE):TE:=fun σ H Q=>ty σ H fun y H1=>td σ H1 fun x H2=>∃ a o,x=.ref a∧DGet H2 a y o∧Q (.bl (!o.isSome)) H2
def sDPut (td ty tv:TE):TS:=fun D σ H=>tv σ H fun v H1=>td σ H1 fun x H2=>ty σ H2 fun y H3=>∃ a H4,x=.ref a∧DPut H3 a y v H4∧D.nx σ H4
section
variable {X:Cx} {o i e value:Expr} {pos pos' tpos:Pos} {td ty tv:TE}
theorem Zed (hu:X.A.units + 1<cLine) (ho:PE X o td) (hi:PE X i ty) (hs:NoSl i):PE X (.Subscript o i pos) (tDGet td ty):=by
 intro pins s σ H Q I h
 refine subD_of PySem.F.slot_dict_getitem.lookup hs (thn (ho pins s σ H _ I h) fun u s1 ⟨x,H1,I1,rx,q1⟩=>thn (hi pins s1 σ H1 _ I1 q1) fun iv s2 ⟨y,H2,I2,ry,a,v,ex,g,q2⟩=>?_)
 subst ex
 obtain rfl:u=Value.ref a:=rx
 exact ⟨dict_typeIs I2 g,d_getItem hu I2 g ry fun w' s3 I3 rw'=>⟨v,H2,I3,rw',q2⟩⟩
theorem pc_din (hu:X.A.units + 1<cLine) (hi:PE X i ty) (ho:PE X o td):PC X .In i o (tDIn ty td):=by
 intro pins s σ H Q I h
 refine thn (hi pins s σ H _ I h) fun iv s1 ⟨y,H1,I1,ry,q1⟩=>thn (ho pins s1 σ H1 _ I1 q1) fun u s2 ⟨x,H2,I2,rx,a,ov,ex,g,q2⟩=>?_
 subst ex
 obtain rfl:u=Value.ref a:=rx
 exact d_in hu I2 g ry fun s3 I3=>⟨.bl ov.isSome,H2,I3,rfl,q2⟩
theorem pc_dnotin (hu:X.A.units + 1<cLine) (hi:PE X i ty) (ho:PE X o td):PC X .NotIn i o (tDNotIn ty td):=by
 intro pins s σ H Q I h
 refine thn (hi pins s σ H _ I h) fun iv s1 ⟨y,H1,I1,ry,q1⟩=>thn (ho pins s1 σ H1 _ I1 q1) fun u s2 ⟨x,H2,I2,rx,a,ov,ex,g,q2⟩=>?_
 subst ex
 obtain rfl:u=Value.ref a:=rx
 exact d_notIn hu I2 g ry fun s3 I3=>⟨.bl (!ov.isSome),H2,I3,rfl,q2⟩
theorem ps_dput (hu:X.A.units + 1<cLine) (ho:PE X o td) (hi:PE X i ty) (hv:PE X value tv) (hs:swapsWith value (some (.Subscript o i pos')) pos.line X.env=pure false):
  PS X (.Assign [.Subscript o i pos'] value pos) (sDPut td ty tv):=by
 intro pins s σ H D I h
 refine wpAny_Assign_Subscript (thn (hv pins s σ H _ I h) fun r s1 ⟨v,H1,I1,rv,q1⟩=>thn (ho pins s1 σ H1 _ I1 q1) fun u s2 ⟨x,H2,I2,rx,q2⟩=>thn (hi pins s2 σ H2 _ I2 q2) fun iv s3 ⟨y,H3,I3,ry,a,H4,ex,g,q3⟩=>?_) hs
 subst ex
 obtain rfl:u=Value.ref a:=rx
 exact d_setItem hu I3 g ry rv fun s4 I4=>⟨σ,H4,I4,q3⟩
end
theorem dk_empty {P:Program}{w:World}{H:Hp}(h:Heap) (hb:sysModules<h.objs.size):Zcv P w H (h.push { cls:=.type "dict",data:=.dict #[] }) h.objs.size (.dK []):=
 ⟨Nat.zero_le _,beq_eq_false_iff_ne.mpr (Ne.symm (Nat.ne_of_lt hb)),[],.nil,Heap.DictOf.new h⟩
theorem dt_empty {P:Program}{w:World}{H:Hp}(h:Heap) (hb:sysModules<h.objs.size):Zcv P w H (h.push { cls:=.type "dict",data:=.dict #[] }) h.objs.size (.dT []):=
 ⟨Nat.zero_le _,beq_eq_false_iff_ne.mpr (Ne.symm (Nat.ne_of_lt hb)),[],.nil,_,#[],0,Heap.get?_push_size _ rfl,⟨rfl,rfl,rfl⟩,rfl,rfl,List.nodup_nil⟩
def tDNewK:TE:=fun _ H Q=>∀ p,H p=none→Q (.ref p) (upd H p (.dK []))
def tDNewT:TE:=fun _ H Q=>∀ p,H p=none→Q (.ref p) (upd H p (.dT []))
section
variable {X:Cx} {pos:Pos}
theorem pe_dnewK:PE X (.Dict [] [] pos) tDNewK:=fun pins s σ H Q I h =>
 wpAny_Dict_empty ⟨.ref s.heap.objs.size,_,I.laid (a:=s.heap.objs.size) (o:=.dK []) (t':=s.toks) (fun _ _ q=>Heap.get?_push_of_some _ q) (Nat.le_refl _) (dk_empty s.heap I.big),rfl,h _ (I.hok.fresh (Nat.le_refl _))⟩
theorem pe_dnewT:PE X (.Dict [] [] pos) tDNewT:=fun pins s σ H Q I h =>
 wpAny_Dict_empty ⟨.ref s.heap.objs.size,_,I.laid (a:=s.heap.objs.size) (o:=.dT []) (t':=s.toks) (fun _ _ q=>Heap.get?_push_of_some _ q) (Nat.le_refl _) (dt_empty s.heap I.big),rfl,h _ (I.hok.fresh (Nat.le_refl _))⟩
end
def tPairs:List (TE×TE)→St→Hp→(List (V×V)→Hp→Prop)→Prop
 | [],_,H,Q=>Q [] H
 | (tk,tv):: r,σ,H,Q=>tk σ H fun x H1=>tv σ H1 fun y H2=>tPairs r σ H2 fun ps H3=>Q ((x,y):: ps) H3
abbrev VV:List (V×V)→List (Value×Value)→Prop:=Paired fun p q=>Zcy p.1 q.1∧Zcy p.2 q.2
def PPs (X:Cx) (pos:Pos) (keys:List (Option Expr)) (values:List Expr) (trs:List (TE×TE)):Prop :=
 ∀ (pins:List (Addr×Obj)) (s:Shared) (σ:St) (H:Hp) (Q:List (V×V)→Hp→Prop),Inv X pins σ H s→tPairs trs σ H Q →
  wpAny (model X.prog X.w) X.A (evalPairs (pairTrees keys values X.env pos)) (fun vs s'=>∃ ps H',Inv X pins σ H' s'∧VV ps vs∧Q ps H') X.xe s
theorem pps_nil {X:Cx}{pos:Pos}:PPs X pos [] [] []:=fun pins s σ H Q I h=>pairTrees_nil_walk ⟨[],H,I,.nil,h⟩
theorem pps_cons {X:Cx}{pos:Pos}{k v:Expr}{ks:List (Option Expr)}{vs:List Expr}{tk tv:TE}{trs:List (TE×TE)}(hk:PE X k tk) (hv:PE X v tv) (hr:PPs X pos ks vs trs):
  PPs X pos (some k :: ks) (v :: vs) ((tk,tv):: trs):=fun pins s σ H Q I h =>
 pairTrees_cons_walk (thn (hk pins s σ H _ I h) fun u s1 ⟨x,H1,I1,rx,q1⟩=>thn (hv pins s1 σ H1 _ I1 q1) fun w2 s2 ⟨y,H2,I2,ry,q2⟩ =>
  thn (hr pins s2 σ H2 _ I2 q2) fun ws s3 ⟨ps,H3,I3,rel,q3⟩=>⟨(x,y):: ps,H3,I3,.cons ⟨rx,ry⟩ rel,q3⟩)
def mergeK (kvs more:List (Key×V)):List (Key×V):=more.foldl (fun acc kv=>putK acc kv.1 kv.2) kvs
theorem KV.merge:∀ {more:List (Key×V)}{rs:List (Key×Value)}{kvs:List (Key×V)}{vs:List (Key×Value)},KV more rs→KV kvs vs→KV (mergeK kvs more) (merged vs rs):=by
 intro more rs kvs vs r
 unfold KV at r
 induction r generalizing kvs vs with
 | nil=>intro q;exact q
 | @cons p q ps qs h t ih =>
  intro r0
  have e:KV (putK kvs p.1 p.2) (stored vs q.1 q.2):=by
   have:=r0.put p.1 h.2
   rw [← h.1];exact this
  exact ih e
theorem length_mergeK:∀ (more kvs:List (Key×V)),(mergeK kvs more).length≤kvs.length + more.length
 | [],kvs=>by show kvs.length≤kvs.length + 0;omega
 | p :: r,kvs=>by
  have h1:=length_mergeK r (putK kvs p.1 p.2)
  have h2:=length_putK kvs p.1 p.2
  show (mergeK (putK kvs p.1 p.2) r).length≤_
  rw [List.length_cons];omega
theorem carries_of {P:Program}{w:World}:∀ {kvs:List (Key×V)}{ws:List (Value×Value)},VV (kvs.map fun kv=>(kV kv.1,kv.2)) ws→∃ rs,Carries (Zb6 P w) ws rs∧KV kvs rs
 | [],_,r=>by rw [List.map_nil] at r;cases r;exact ⟨[],True.intro,.nil⟩
 | p :: kvs,_,r=>by
  rw [List.map_cons] at r
  cases r with
  | @cons a b as bs h t =>
   obtain ⟨rs,c,q⟩:=carries_of (P:=P) (w:=w) t
   obtain ⟨b1,b2⟩:=b
   exact ⟨(p.1,b2):: rs,⟨kV_is h.1,rfl,c⟩,.cons ⟨rfl,h.2⟩ q⟩
def tDisp (trs:List (TE×TE)):TE:=fun σ H Q=>∀ p,H p=none→tPairs trs σ (upd H p (.dK [])) fun ps H2=>H2 p=some (.dK [])∧∃ kvs:List (Key×V),ps=kvs.map (fun kv=>(kV kv.1,kv.2))∧kvs.length≤15∧Q (.ref p) (upd H2 p (.dK (mergeK [] kvs)))
theorem pe_disp {X:Cx}{pos:Pos}{keys:List (Option Expr)}{values:List Expr}{trs:List (TE×TE)}(h:PPs X pos keys values trs) (hall:keys.all (·.isSome)=true) (hl:keys.length=values.length) (h0:keys≠[])
  (h15:keys.length≤15):PE X (.Dict keys values pos) (tDisp trs):=by
 intro pins s σ H Q I q
 have hn:=I.hok.fresh (Nat.le_refl s.heap.objs.size)
 have I1:=I.laid (a:=s.heap.objs.size) (o:=.dK []) (h':=s.heap.push { cls:=.type "dict",data:=.dict #[] }) (t':=s.toks) (fun _ _ q=>Heap.get?_push_of_some _ q) (Nat.le_refl _) (dk_empty s.heap I.big)
 refine wpAny_Dict_walk (knd:=Zb6 X.prog X.w) hall hl h0 h15 (thn (h pins _ σ _ _ I1 (q _ hn)) fun ws s2 ⟨ps,H2,I2,rel,e,kvs,ep,lk,q2⟩=>?_)
 subst ep
 obtain ⟨rs,c,rk⟩:=carries_of (P:=X.prog) (w:=X.w) rel
 obtain ⟨z,hd,vs0,r0,dd⟩:=dk_of I2.hok e
 cases r0
 refine ⟨rs,c,dd,fun h' dd' hs=>⟨.ref s.heap.objs.size,_,?_,rfl,q2⟩⟩
 have hz:(mergeK [] kvs).length≤sizeLine:=by
  have h1:=length_mergeK kvs []
  rw [List.length_nil] at h1
  rw [sizeLine_eq];omega
 have he:∃ q,h'.get? s.heap.objs.size=some q:=let ⟨q,_,_,hq,_⟩:=dd';⟨q,hq⟩
 exact d_write I2 (by rw [e];exact True.intro) hs he (dk_new hz hd (rk.merge .nil) dd')
structure M1 (X:Cx) (o:Expr) (m:Str) (apos:Pos) (e:Expr) (cpos:Pos):Prop where
 base:attributeBase o m X.env (eval o X.env)=eval o X.env
 few:((backTo cpos (starEach [e] X.env)).all (fun x=>!x.1)&&(backToKw cpos (keywordEach [] X.env)).all (fun x=>x.1.isSome)
  && decide (([e]:List Expr).length + ([]:List Keyword).length + (if ([]:List Keyword).isEmpty then 0 else 1)<30))=true
 line:(apos.endLine == cpos.line)=true
 trees:backTo cpos (starEach [e] X.env)=[(false,eval e X.env)]
structure M2 (X:Cx) (o:Expr) (m:Str) (apos:Pos) (e f:Expr) (cpos:Pos):Prop where
 base:attributeBase o m X.env (eval o X.env)=eval o X.env
 few:((backTo cpos (starEach [e,f] X.env)).all (fun x=>!x.1)&&(backToKw cpos (keywordEach [] X.env)).all (fun x=>x.1.isSome)
  && decide (([e,f]:List Expr).length + ([]:List Keyword).length + (if ([]:List Keyword).isEmpty then 0 else 1)<30))=true
 line:(apos.endLine == cpos.line)=true
 trees:backTo cpos (starEach [e,f] X.env)=[(false,eval e X.env),(false,eval f X.env)]
def IsD (H:Hp) (a:Addr):Prop:=(∃ kvs,Rd H a (.dK kvs))∨∃ kvs,Rd H a (.dT kvs)
theorem isD_at {X:Cx}{pins:List (Addr×Obj)}{σ:St}{H:Hp}{s:Shared}{a:Addr}(I:Inv X pins σ H s) (d:IsD H a):
  s.TypeIs (.ref a) "dict"∧(∀ b,Value.ref a=.ref b→∃ ob,s.heap.get? b=some ob∧ob.dict=none)∧(a == sysModules)=false:=by
 rcases d with ⟨kvs,e⟩ | ⟨kvs,e⟩
 ·obtain ⟨_,hd,vs,_,dd⟩:=dk_rd I.hok e
  refine ⟨dd.typeIs,fun b q=>?_,hd⟩
  cases q
  obtain ⟨ob,_,_,h1,h2,_⟩:=dd
  exact ⟨ob,h1,h2.2.1⟩
 ·obtain ⟨_,hd,xs,_,dd⟩:=dt_rd I.hok e
  refine ⟨dd.typeIs,fun b q=>?_,hd⟩
  cases q
  obtain ⟨ob,_,_,h1,h2,_⟩:=dd
  exact ⟨ob,h1,h2.2.1⟩
section
variable {X:Cx} {pins:List (Addr×Obj)} {σ:St} {H:Hp} {s:Shared} {a:Addr} {y d:V} {u r:Value} {o:Option V} {A:Around} {E:Value→Shared→Prop}
end
section
variable {X:Cx} {o e f:Expr} {apos cpos:Pos} {td ty tx:TE}
end
section
variable {X:Cx} {pins:List (Addr×Obj)} {σ:St} {H:Hp} {s:Shared} {a:Addr} {kvs:List (Key×V)} {A:Around} {E:Value→Shared→Prop}
end
section
variable {X:Cx} {pins:List (Addr×Obj)} {σ:St} {H:Hp} {s:Shared} {a:Addr} {y:V} {u:Value} {A:Around} {E:Value→Shared→Prop}
end
end L2
namespace Att
open PySem PySem.W PySem.Calls PyProof.Rows
theorem ints_of_wellAll {P:Params}{h:Heap}:∀ (ns:List Int) (vs:List Value),WellAll P h vs (ns.map WData.int)→IntsAre vs ns:=by
 intro ns
 induction ns with
 | nil =>
  intro vs w
  rw [List.map_nil] at w
  cases w
  exact .nil
 | cons n ns ih =>
  intro vs w
  rw [List.map_cons] at w
  cases w with
  | cons a b =>
   cases a
   exact .cons _ _ (ih _ b)
theorem script_of {l:OpenLaw}{n:Nat}(hn:l.most=some n) {P:Params}{h:Heap}{args:List WData}{vals:List Value}
  (hpre:l.row.toRowW.claim.pre args=true) (hwl:WellAll P h vals args):
  ∃ a vs ns,vals=[Value.ref a]∧args=[WData.list (ns.map WData.int)]∧h.get? a=some { cls:=.type "list",data:=.seq vs.toArray }∧IntsAre vs ns∧ns.length≤n:=by
 have hsh:WShape.hasAll [] args [.list .int]=true:=(pre_splitW hpre).1
 have hc:l.pre.holds [] { args:=args }=true:=(pre_splitW hpre).2
 obtain ⟨d,r,rfl,h1,h2⟩:=hasAllW_cons hsh
 obtain rfl:=hasAllW_nil h2
 obtain ⟨xs,rfl,h3⟩:=hasW_list h1
 obtain ⟨ns,rfl⟩:=items_int h3
 have hlen:ns.length≤n:=by
  unfold OpenLaw.pre at hc
  have h4:(WTm.not (.lt (.lit (.int (n:Int))) (.len (.arg 0)))).holds [] { args:=[.list (ns.map .int)] }=true:=by
   have h4:=(holds_andW hc).1
   rw [hn] at h4
   exact h4
  have h5:=condW_of h4 (w_not (w_lt w_lit (w_len_list (w_arg rfl))))
  rw [List.length_map] at h5
  refine Nat.le_of_not_lt fun q=>?_
  have q':(n:Int)<((ns.length:Nat):Int):=by omega
  first
   | (rw [decide_eq_true q'] at h5;exact absurd h5 (by decide))
   | (simp at h5;omega)
 cases hwl with
 | cons w1 w2 =>
  cases w2
  cases w1 with
  | list ho hall=>exact ⟨_,_,ns,rfl,rfl,ho,ints_of_wellAll ns _ hall,hlen⟩
theorem post_true (l:OpenLaw) (args:List WData):l.row.toRowW.claim.post args (.bool true) args=true :=
 postW_of (r:=l.row.toRowW) (X:=(true == true))
  (show WShape.has [] (.bool true) .bool=true by first | rfl | decide | simp [WShape.has,WShape.arms,WShape.armsAll])
  (show (WTm.eq .res (.lit (.bool true))).value [] { args:=args,res:=some (.bool true),after:=args }=some (.bool (true == true)) from w_eq_bool (w_res rfl) w_lit) rfl
theorem attach_call {l:OpenLaw}{n:Nat}{q:Program}{loose:List Str}{XP:(Str→Option Value)→Heap→Prop}{YP:World→Heap→Prop}{d:DefRec}
  (hn:l.most=some n) (hdf:d.params.defaults=[])
  (call:∀ (w:World) (s₀ s₁:Shared) (mg mb:Str→Option Value) (fa:Addr) (o:Obj) (pm cd doc:Value) (a:Addr) (vs:List Value) (ns:List Int),
   Ground q loose [] XP w s₀ mg mb s₁.heap→YP w s₁.heap →
   s₁.heap.get? fa=some o→o.data=.func (docDef d.name d.params d.body d.scope pm cd doc)→s₁.heap.CodeRec cd d.name→mg d.name=some (.ref fa) →
   s₁.heap.get? a=some { cls:=.type "list",data:=.seq vs.toArray }→IntsAre vs ns→ns.length≤n→s₁.gens=#[] →
   codeAny (model l.prog w) callerA (.call (.ref fa) ⟨[.ref a],[]⟩) (fun r s'=>r=.ok (.ret (.bool true))∧OldK s₁.heap s'.heap∧s'.os=s₁.os∧AllBare s'.gens) s₁):
  WalkO q loose XP YP l.row.toRowW d [] (fun f vs=>PySem.call f vs):=by
 intro w s₀ s₁ mg mb G Y fa o pm cd doc dV kV ho hd hcd hD hmg hg args vals as hpre hlay hrd hwl hlo
 obtain rfl:dV=.none:=Dflts.none hD hdf
 obtain rfl:kV=.none:=Dflts.noKw hD
 obtain ⟨a,vs,ns,rfl,rfl,hobj,hints,hlen⟩:=script_of hn hpre hwl
 refine enter_call (codeAny_mono (call w s₀ s₁ mg mb fa o pm cd doc a vs ns G Y ho (fd_plain hd) hcd hmg hobj hints hlen hg) fun r s' hq=>?_)
 obtain ⟨rfl,h2,h3,h4⟩:=hq
 exact ⟨.inl ⟨.bool true,.bool true,[],rfl,fun _=>rfl,.bool true,post_true l _,fun _=>⟨List.Pairwise.nil,fun _ hm=>(nomatch hm)⟩⟩,h2,h3,h4⟩
section
variable {prog:Program} {w:World} {A:Around} {E:Value→Shared→Prop} {s:Shared} {K:Frag}
end
end Att
namespace L2
open PySem PySem.Spec PyProof.Rows
theorem vals_ints:∀ {vs:List Value}{ns:List Int},IntsAre vs ns→Zcg (ns.map V.int) vs
 | _,_,.nil=>.nil
 | _,_,.cons n t h=>.cons ⟨t,rfl⟩ (vals_ints h)
def Only (H:Hp):Prop:=∀ b,H b=none∨∃ o xs,H b=some (.frz o (.lst xs))
theorem law_call {P:Program}{w:World}{K:PySem.W.Frag}{mg mb:Str→Option Value}{CX:CXT}{k:Nat}{fa a:Addr}{fd:FuncData}{x:Str}{sp:Sp}{s₁:Shared}{vs:List Value}{ns:List Int}
  (KX:K.In s₁.heap) (hns:s₁.heap.Ns mainGlobals mg) (hb:s₁.heap.Ns builtinsNs mb) (hbb:∀ x:Str,x≠"__name__"→mb x=bootBuiltins x) (hlim:s₁.heap.NoLimit) (hg:s₁.gens=#[])
  (ha:s₁.heap.get? a=some { cls:=.type "list",data:=.seq vs.toArray }) (hi:IntsAre vs ns) (hl:ns.length≤sizeLine) (hr:Zdp k callerA)
  (F:∀ base:Heap,K.In base→base.Ns mainGlobals mg→Za0 P w K mg base CX k fa fd [x] sp) (hbind:∀ (s:Shared) (u:Value),BindsTo s fd ⟨[u],[]⟩ [(x,u)])
  (hsp:∀ H:Hp,Only H→SqL K H a (ns.map V.int)→sp [.ref a] H (fun v _=>v=.bl true) fun _ _ _=>False)
  (hCX:∀ H e s',CX [] H s₁ (fun _ _ _=>False) e s'→False):
  codeAny (model P w) callerA (.call (.ref fa) ⟨[.ref a],[]⟩) (fun r s'=>r=.ok (.ret (.bool true))∧OldK s₁.heap s'.heap∧s'.os=s₁.os∧AllBare s'.gens) s₁:=by
 have rv:=vals_ints hi
 have lenV:=hi.length
 have core:∀ H:Hp,Only H→SqL K H a (ns.map V.int)→HOk P w H s₁.heap→(∀ b,H b≠none→b=a)→(H a≠none→K.lookup a=none) →
   codeAny (model P w) callerA (.call (.ref fa) ⟨[.ref a],[]⟩) (fun r s'=>r=.ok (.ret (.bool true))∧OldK s₁.heap s'.heap∧s'.os=s₁.os∧AllBare s'.gens) s₁:=by
  intro H hO hS hok hA hK
  have base_of:∀ {b:Addr} {o:Obj},s₁.heap.get? b=some o→H b=none→(hidT s₁.heap H).get? b=some o:=fun e n=>hidT_get e n
  have noA:∀ {b:Addr} {o:Obj} {es:Array DictEntry} {ep:Nat},s₁.heap.get? b=some o→o.data=.dict es ep→H b=none:=fun {b o es ep} e d=>by
   cases q:H b with
   | none=>rfl
   | some u =>
    have e':b=a:=hA b (by rw [q];simp)
    subst e'
    rw [ha] at e;cases e
    have d':Data.seq vs.toArray _=Data.dict es ep:=d
    cases d'
  have nsK:∀ {b:Addr} {m:Str→Option Value},s₁.heap.Ns b m→(hidT s₁.heap H).Ns b m:=fun {b m} ⟨o,es,ep,e,d,r⟩=>⟨o,es,ep,base_of e (noA e d),d,r⟩
  have hKb:K.In (hidT s₁.heap H):=fun b o e=>base_of (KX b o e) (by
   cases q:H b with
   | none=>rfl
   | some u =>
    have e':b=a:=hA b (by rw [q];simp)
    subst e'
    rw [hK (by rw [q];simp)] at e;cases e)
  have hM:Mod K mg (hidT s₁.heap H):=⟨hKb,nsK hns,⟨mb,nsK hb,hbb⟩,let ⟨mc,h1,h2⟩:=hlim;⟨mc,nsK h1,h2⟩⟩
  have e0:Env0 P w K mg (hidT s₁.heap H) callerA [] s₁ H:=⟨rfl,hM,fun b o e=>of_hidT e,Nat.le_of_eq (hidT_size _ _),trivial,fun b hb=>absurd (show b∈([]:List Addr) from hb) (by simp),hok,.of_eq hg⟩
  refine codeAny_mono ((F _ hKb (nsK hns)).run callerA [] s₁ H ⟨[.ref a],[]⟩ [.ref a] [.ref a] _ _ hr e0 (hbind s₁ (.ref a)) (.cons rfl .nil) (hsp H hO hS)) fun r s' h=>?_
  cases r with
  | error e=>exact (hCX H e s' h).elim
  | ok fl =>
   cases fl with
   | next=>exact False.elim h
   | brk=>exact False.elim h
   | cont=>exact False.elim h
   | ret u =>
    obtain ⟨v,H',os,bare,un,hok',r',q⟩:=h
    have q':v=.bl true:=q
    subst q'
    obtain rfl:u=Value.bool true:=r'
    refine ⟨rfl,OldK.of_keep fun b o e=>?_,os,bare⟩
    cases q:H b with
    | none=>exact un.keep b o e q (by intro z;exact absurd (show b∈([]:List Addr) from z) (by simp)) (by simp)
    | some u =>
     rcases hO b with z | ⟨ob,xs,z⟩
     ·rw [q] at z;cases z
     ·have z2:=un.frzs b ob _ z
      obtain ⟨e1,_⟩:=hok b _ z
      obtain ⟨e2,_⟩:=hok' b _ z2
      rw [e] at e1;cases e1
      exact e2
 cases hk:K.lookup a with
 | some o =>
  have e:=KX a o hk
  rw [ha] at e
  cases e
  refine core (fun _=>none) (fun _=>.inl rfl) (.inr ⟨_,vs.toArray,_,hk,rfl,rfl,rfl,by rw [List.size_toArray,lenV];exact hl,by simpa using rv⟩) (fun b u z=>by have z':(none:Option HO)=some u:=z;cases z') (fun b z=>absurd rfl z) fun z=>absurd rfl z
 | none =>
  refine core (fun b=>if b=a then some (.frz { cls:=.type "list",data:=.seq vs.toArray } (.lst (ns.map V.int))) else none) (fun b=>?_) (.inl (.inr ⟨{ cls:=.type "list",data:=.seq vs.toArray },if_pos rfl⟩)) (fun b u z=>?_) (fun b z=>?_) fun _=>hk
  ·by_cases hb:b=a
   ·exact .inr ⟨_,_,if_pos hb⟩
   ·exact .inl (if_neg hb)
  ·by_cases hb:b=a
   ·have z':=(if_pos hb).symm.trans z
    cases z'
    subst hb
    exact ⟨ha,by rw [List.length_map];exact hl,vs,_,rv,ha⟩
   ·have z':=(if_neg hb).symm.trans z
    cases z'
  ·by_cases hb:b=a
   ·exact hb
   ·exact absurd (if_neg hb) z
end L2
namespace L2
open PySem PySem.Spec PyProof.Rows
theorem walk_of {l:PySem.W.OpenLaw}{n k:Nat}{q:Program}{loose:List Str}{XP:(Str→Option Value)→Heap→Prop}{YP:World→Heap→Prop}{d:DefRec}{K:Params→PySem.W.Frag}{CX:World→CXT}{sp:World→Sp}{x:Str}
  (hn:l.most=some n) (hn2:n≤sizeLine) (hdf:d.params.defaults=[]) (hr:Zdp k callerA)
  (hY:∀ (w:World) (h:Heap),YP w h→(K w.params).In h)
  (F:∀ (w:World) (mg:Str→Option Value) (fa:Addr) (h:Heap),(K w.params).In h→h.Ns mainGlobals mg→mg d.name=some (.ref fa) →
   ∃ fd:FuncData,(∀ (s:Shared) (u:Value),BindsTo s fd ⟨[u],[]⟩ [(x,u)]) ∧
    ∀ base:Heap,(K w.params).In base→base.Ns mainGlobals mg→Za0 l.prog w (K w.params) mg base (CX w) k fa fd [x] (sp w))
  (hsp:∀ (w:World) (H:Hp) (a:Addr) (ns:List Int),ns.length≤n→Only H→SqL (K w.params) H a (ns.map V.int)→sp w [.ref a] H (fun v _=>v=.bl true) fun _ _ _=>False)
  (hCX:∀ (w:World) (H:Hp) (s:Shared) (e:Value) (s':Shared),CX w [] H s (fun _ _ _=>False) e s'→False):
  PySem.W.WalkO q loose XP YP l.row.toRowW d [] (fun f vs=>PySem.call f vs):=by
 refine Att.attach_call hn hdf fun w s₀ s₁ mg mb fa o pm cd doc a vs ns G Y ho hd hcd hmg hobj hints hlen hg=>?_
 have KX:=hY w _ Y
 obtain ⟨fd,hb,hF⟩:=F w mg fa _ KX G.T.g hmg
 exact law_call KX G.T.g G.T.b G.T.builtins G.T.nolimit hg hobj hints (Nat.le_trans hlen hn2) hr hF hb (fun H hO hS=>hsp w H a ns hlen hO hS) fun H e s'=>hCX w H s₁ e s'
end L2
namespace L2
open PySem PySem.Spec PyProof.Rows
def inClass (s:Stmt) (j:Nat):Stmt:=match s with
 | .ClassDef _ _ _ body _ _ _ _ _ _ _=>body.getD j (.Pass ⟨0,0,0,0⟩)
 | _=>.Pass ⟨0,0,0,0⟩
def Zao (s:Stmt):Arguments:=match s with
 | .FunctionDef _ a _ _ _ _ _ _ _ _=>a
 | _=>{ posonlyargs:=[],args:=[],vararg:=none,kwonlyargs:=[],kw_defaults:=[],kwarg:=none,defaults:=[] }
def Zak (s:Stmt):List Stmt:=match s with
 | .FunctionDef _ _ b _ _ _ _ _ _ _=>b
 | _=>[]
def Zab (s:Stmt):Scope:=match s with
 | .FunctionDef _ _ _ _ _ _ sc _ _ _=>sc
 | _=>{ kind:=.function,names:=[],isGenerator:=false,isCoroutine:=false }
abbrev CX0:CXT:=fun _ _ _ _ _ _=>False
abbrev E0:XK:=fun _ _ _=>False
theorem pass0 {X:Cx}:Passes CX0 X E0:=fun _ _ _ _ _ _ _ h=>h.elim
structure Fun (K:PySem.W.Frag) (x qual:Str) (st:Stmt) (f:Addr) (fd:FuncData):Prop where
 ex:∃ (oc:Value) (od:Option Addr) (kV doc pm:Value) (an:Option Addr) (cdv ct:Value) (osl:Array (Option Value)),
  fd=PySem.W.fnOf x qual (Zao st) (Zak st) (Zab st) .none kV doc pm an cdv ct∧K.lookup f=some ⟨oc,od,.func fd,osl⟩∧PySem.W.codeIn K cdv qual=true
 kp:PySem.W.keepIn K (.ref f)=true
section
variable {P:Program} {w:World} {K:PySem.W.Frag} {mg:Str→Option Value} {base:Heap}
theorem Fun.ok {x qual:Str}{st:Stmt}{f:Addr}{fd:FuncData}{N ps:List Str}{k:Nat}{sp:Sp}(F:Fun K x qual st f fd) (S:Zap N ps (Zab st)) (len:∀ vs H Q E,sp vs H Q E→vs.length=ps.length)
  (hbody:∀ (cdv:Value) (A:Around) (outer:List Env) (s:Shared) (H:Hp) (vs:List V) (Q:VK) (E:XK),Zdp k (A.deeper (envOfC qual (Zab st) s.heap.objs.size f cdv))→sp vs H Q E →
   ∃ t,PSs (cxOf CX0 P w K mg base N qual (Zab st) f cdv A outer s H E).nox (Zak st) t∧t { nx:=fun _ H'=>Q .non H',rt:=Q } (start N vs) H):Za0 P w K mg base CX0 (k + 1) f fd ps sp:=by
 obtain ⟨oc,od,kV,doc,pm,an,cdv,ct,osl,rfl,lk,hcd⟩:=F.ex
 refine fn_of lk hcd S len fun A outer s H vs Q E hr hsp=>?_
 obtain ⟨t,h,q⟩:=hbody cdv A outer s H vs Q E hr hsp
 exact ⟨t,h.nox,q⟩
theorem Fun.binds {x qual:Str}{st:Stmt}{f:Addr}{fd:FuncData}{ps:List Str}(F:Fun K x qual st f fd)
  (h:∀ (kV doc pm:Value) (an:Option Addr) (cdv ct:Value) (us:List Value),us.length=ps.length→bindArgs (PySem.W.fnOf x qual (Zao st) (Zak st) (Zab st) .none kV doc pm an cdv ct) ⟨us,[]⟩=pure (ps.zip us)):Binds K fd ps []:=by
 obtain ⟨oc,od,kV,doc,pm,an,cdv,ct,osl,rfl,lk,hcd⟩:=F.ex
 exact .all (h kV doc pm an cdv ct)
theorem Zaz {x qual:Str}{st:Stmt}{f:Addr}{oc:Value}{od an:Option Addr}{osl:Array (Option Value)}{kV doc pm cdv ct:Value}(l:K.lookup f=some ⟨oc,od,.func (PySem.W.fnOf x qual (Zao st) (Zak st) (Zab st) .none kV doc pm an cdv ct),osl⟩)
  (c:PySem.W.codeIn K cdv qual=true) (k:PySem.W.keepIn K (.ref f)=true):Fun K x qual st f (PySem.W.fnOf x qual (Zao st) (Zak st) (Zab st) .none kV doc pm an cdv ct):=⟨⟨oc,od,kV,doc,pm,an,cdv,ct,osl,rfl,l,c⟩,k⟩
end
theorem hu_of {A:Around}{k:Nat}(hr:Zdp k A):A.units + 1<cLine:=Nat.lt_of_le_of_lt (Nat.add_le_add_left (by decide:1≤64) _) hr.units
section
variable {X:Cx}
theorem pv (i:Nat) {x:Str}{pos:Pos}(hN:X.N[i]?=some x:=by rfl) (hv:Vis X.env.scope x:=by first | exact Or.inl rfl | exact Or.inr (Or.inl rfl) | exact Or.inr (Or.inr rfl)) (hd:(x == ("__debug__":Str))=false:=by decide)
  (hcd:(x == ("__classdict__":Str))=false:=by decide):PE X (.Name x pos) (tVar i):=pe_var hN hv hd hcd
end
theorem iteF {A B:Prop}(h:B):if false=true then A else B:=by
 rw [if_neg Bool.false_ne_true]
 exact h
theorem iteT {A B:Prop}(h:A):if true=true then A else B:=by
 rw [if_pos rfl]
 exact h
theorem Zdy {c A B:Prop} [Decidable c] (h1:c→A) (h2:¬ c→B):if c then A else B:=by
 by_cases h:c
 ·rw [if_pos h]
  exact h1 h
 ·rw [if_neg h]
  exact h2 h
def Zan (H H':Hp):Prop:=∀ b o,H b=some o→H' b=some o
theorem Zan.refl (H:Hp):Zan H H:=fun _ _ h=>h
theorem Zan.trans {H H1 H2:Hp}(a:Zan H H1) (b:Zan H1 H2):Zan H H2:=fun c o h=>b c o (a c o h)
theorem Zan.free {H H':Hp}(e:Zan H H') {l:Addr}(h:H' l=Option.none):H l=Option.none:=by
 cases q:H l with
 | none=>rfl
 | some o =>
  rw [e l o q] at h
  cases h
theorem Zan.seq {K:PySem.W.Frag}{H H':Hp}{a:Addr}{xs:List V}(e:Zan H H') (h:SqL K H a xs):SqL K H' a xs:=by
 rcases h with (h | ⟨o,h⟩) | h
 ·exact .inl (.inl (e _ _ h))
 ·exact .inl (.inr ⟨o,e _ _ h⟩)
 ·exact .inr h
end L2
namespace L2
open PySem PySem.Spec PyProof.Rows
section
variable {X:Cx}
end
section
variable {κ:Type} [DecidableEq κ]
theorem valV_not {kvs:List (κ×V)}{k:κ}(h:valV kvs k=none):¬ k∈kvs.map (·.1):=by
 intro m
 obtain ⟨p,hp,e⟩:=List.mem_map.mp m
 have q:(kvs.any fun kv=>decide (kv.1=k))=true:=List.any_eq_true.mpr ⟨p,hp,decide_eq_true e⟩
 rw [valV_any,h] at q
 exact absurd q (by simp)
theorem valV_in {kvs:List (κ×V)}{k:κ}{v:V}(h:valV kvs k=some v):k∈kvs.map (·.1):=by
 have q:(kvs.any fun kv=>decide (kv.1=k))=true:=by
  rw [valV_any,h]
  all_goals rfl
 obtain ⟨p,hp,e⟩:=List.any_eq_true.mp q
 exact List.mem_map.mpr ⟨p,hp,of_decide_eq_true e⟩
end
end L2
set_option maxHeartbeats 4000000
namespace HT
open PySem PyProof.Rows
open PySem.SeqAt
open PySem.AutoSeq1 (wpAny_loadPart')
open PySem.MeetsSeq PySem.MeetsSeq2 PySem.MeetsSeq3
section
variable {prog:Program} {w:World} {A:Around} {E:Value→Shared→Prop} {s:Shared}
end
end HT
namespace L2
open PySem PySem.Spec PyProof.Rows
structure Runs (J:It) (xs:List V) (Ok:Hp→Prop):Prop where
 go:∀ (i:Nat) (x:V) (H:Hp),Ok H→xs[i]?=some x→J.go i H
 yld:∀ (i:Nat) (x:V) (H:Hp) (y:V) (H':Hp),Ok H→xs[i]?=some x→J.yld i H y H'→y=x∧H'=H
 stop:∀ (H:Hp),Ok H→J.stop xs.length H
theorem Zce {K:PySem.W.Frag}{a:Addr}{xs:List V}:Runs (Itl K a) xs (fun H=>SqL K H a xs) where
 go:=fun i x H ok hx=>⟨xs,x,ok,hx⟩
 yld:=fun i x H y H' ok hx h=>by
  obtain ⟨e,h⟩:=h
  have q:=h xs ok
  rw [hx] at q
  exact ⟨(Option.some.inj q).symm,e⟩
 stop:=fun H ok=>⟨xs,ok,Nat.le_refl _⟩
theorem Zd8 {K:PySem.W.Frag}{a:Addr}{xs:List V}:Runs (Itt K a) xs (fun H=>SqT K H a xs) where
 go:=fun i x H ok hx=>⟨xs,x,ok,hx⟩
 yld:=fun i x H y H' ok hx h=>by
  obtain ⟨e,h⟩:=h
  have q:=h xs ok
  rw [hx] at q
  exact ⟨(Option.some.inj q).symm,e⟩
 stop:=fun H ok=>⟨xs,ok,Nat.le_refl _⟩
def Zdi (lo:Int) (n:Nat):List V:=(List.range n).map fun (k:Nat)=>V.int (lo + (k:Int))
theorem Zat (lo:Int) (n:Nat):(Zdi lo n).length=n:=by unfold Zdi;rw [List.length_map,List.length_range]
theorem Za4 {lo:Int}{n i:Nat}{x:V}(h:(Zdi lo n)[i]?=some x):i<n∧x=V.int (lo + (i:Int)):=by
 have hi:i<n:=by
  have:=(List.getElem?_eq_some_iff.mp h).1
  rwa [Zat] at this
 refine ⟨hi,?_⟩
 unfold Zdi at h
 rw [List.getElem?_map,List.getElem?_range hi] at h
 exact (Option.some.inj h).symm
theorem Zbz {lo:Int}{n:Nat}:Runs (Itr lo n) (Zdi lo n) (fun _=>True) where
 go:=fun i x H _ hx=>(Za4 hx).1
 yld:=fun i x H y H' _ hx h=>by
  obtain ⟨e,h⟩:=h
  exact ⟨h.trans (Za4 hx).2.symm,e⟩
 stop:=fun H _=>by
  show n≤(Zdi lo n).length
  rw [Zat]
  exact Nat.le_refl _
theorem Zbs {J:It}{xs:List V}{Ok:Hp→Prop}(R:Runs J xs Ok) {g:TG}{tb:TS}{D:Ends}{σ:St}{H:Hp}(Pv:Nat→St→Hp→Prop) (h0:Pv 0 σ H) (hl:∀ i σ H,i≤xs.length→Pv i σ H→Ok H)
  (hs:∀ i x σ H,xs[i]?=some x→Pv i σ H→g x σ H fun σ2 H2=>tb { D with nx:=Pv (i + 1),ct:=Pv (i + 1),bk:=D.nx } σ2 H2) (hd:∀ σ H,Pv xs.length σ H→D.nx σ H):
  ∃ W:Nat→Nat→St→Hp→Prop,(∃ m,W 0 m σ H)∧∀ i m σ H,W i m σ H →
   (J.stop i H∧D.nx σ H)∨(J.go i H∧∃ N:St→Hp→Prop,(∀ σ' H',N σ' H'→∃ m',m'<m∧W (i + 1) m' σ' H')∧∀ x H',J.yld i H x H'→g x σ H' fun σ2 H2=>tb { D with nx:=N,ct:=N,bk:=D.nx } σ2 H2):=by
 refine ⟨fun i m σ H=>m=xs.length - i∧i≤xs.length∧Pv i σ H,⟨xs.length,by simp,Nat.zero_le _,h0⟩,?_⟩
 rintro i m σ H ⟨rfl,hi,p⟩
 have q:=hl i σ H hi p
 by_cases hlt:i<xs.length
 ·have hx:xs[i]?=some xs[i]:=by simp [hlt]
  refine .inr ⟨R.go i _ H q hx,Pv (i + 1),fun σ' H' p'=>⟨xs.length - (i + 1),by omega,rfl,hlt,p'⟩,fun x H' y=>?_⟩
  obtain ⟨e1,e2⟩:=R.yld i _ H x H' q hx y
  rw [e2]
  exact hs i x σ H (by rw [e1];exact hx) p
 ·have e:i=xs.length:=by omega
  subst e
  exact .inl ⟨R.stop H q,hd σ H p⟩
def Its (x:Str):It:=⟨fun i _=>i<x.cps.size,fun i H v H'=>H'=H∧∃ c,x.cps[i]?=some c∧v=.str ⟨#[c]⟩,fun i _=>x.cps.size≤i⟩
def signsV (x:Str):List V:=x.cps.toList.map fun c=>V.str ⟨#[c]⟩
theorem runs_str {x:Str}:Runs (Its x) (signsV x) (fun _=>True) where
 go:=fun i y H _ hx=>by
  have:=(List.getElem?_eq_some_iff.mp hx).1
  unfold signsV at this
  rw [List.length_map] at this
  show i<x.cps.size
  simpa using this
 yld:=fun i y H z H' _ hx h=>by
  obtain ⟨e,c,hc,hz⟩:=h
  refine ⟨?_,e⟩
  unfold signsV at hx
  rw [List.getElem?_map,Array.getElem?_toList,hc] at hx
  rw [hz]
  exact Option.some.inj hx
 stop:=fun H _=>by
  show x.cps.size≤(signsV x).length
  unfold signsV
  simp
theorem turn_str {P:Program}{w:World}{K:PySem.W.Frag}{tg:Expr}(x:Str) (t:Tok) (it:Addr) (ty:String) (hty:ty="str_ascii_iterator"∨ty="str_iterator"):
  Turn P w K tg (Its x) [it] it (fun i h=>h.IsStrIter it ty x t i) where
 mem:=by simp
 obj:=fun i h st b hb=>by
  have e:b=it:=by simpa using hb
  subst e
  obtain ⟨o,e,c,d⟩:=st
  exact ⟨o,e,fun v z=>by rw [d] at z;cases z⟩
 keep:=fun i h h' st k=>by
  obtain ⟨o,ho,r⟩:=st
  exact ⟨o,k it (by simp) o ho,r⟩
 item:=by
  intro X hP hw hK hc i pins s σ H E I hf st hg
  subst hP hw hK
  obtain ⟨f0,f1,f2,f3,f4,f5⟩:=hf it (by simp)
  have hi:i<x.cps.size:=hg
  have hx:x.cps[i]?=some x.cps[i]:=by simp [hi]
  have fin:∀ h':Heap,h'.IsStrIter it ty x t (i + 1)→Heap.SameBut it s.heap h'→∃ u,some (Value.str ⟨#[x.cps[i]]⟩ s.toks)=some u ∧
    wpAny (model X.prog X.w) X.A (letOwnedTupleGo tg (.ref it) u) (fun _ s2=>∃ y H',Inv X pins σ H' s2∧Zcy y u∧(Its x).yld i H y H'∧s2.heap.IsStrIter it ty x t (i + 1)∧∀ b∈[it],H' b=none) E { s with heap:=h',toks:=s.toks + 1 }:=fun h' st' sb=>by
   have I1:Inv X pins σ H { s with heap:=h',toks:=s.toks + 1 }:=I.turned (fun b o hb e=>(sb.2 b hb).trans e) f0 f1 f3 f4 f5
   obtain ⟨o,e,c,d⟩:=id st'
   refine ⟨_,rfl,go_of (s:={ s with heap:=h',toks:=s.toks + 1 }) e c d ?_ ⟨.str ⟨#[x.cps[i]]⟩,H,I1,⟨_,rfl⟩,⟨rfl,_,hx,rfl⟩,st',fun b hb=>(hf b hb).1⟩⟩
   rcases hty with rfl | rfl <;> decide
  rcases hty with rfl | rfl
  ·exact wpAny_pyNext_ascii_item st hx fun h' st' sb=>fin h' st' sb
  ·exact wpAny_pyNext_wide_item st hx fun h' st' sb=>fin h' st' sb
 done:=by
  intro X hP hw hK hc i pins s σ H E I hf st hg
  subst hP hw hK
  obtain ⟨f0,f1,f2,f3,f4,f5⟩:=hf it (by simp)
  have hi:x.cps.size≤i:=hg
  have hx:x.cps[i]?=none:=by simp [hi]
  rcases hty with rfl | rfl
  ·exact wpAny_pyNext_ascii_end (I.ok.hd hc) st hx fun h' eb=>⟨rfl,I.turned (t':=s.toks) (fun b o hb e=>eb b o hb e) f0 f1 f3 f4 f5⟩
  ·exact wpAny_pyNext_wide_end (I.ok.hd hc) st hx fun h' eb=>⟨rfl,I.turned (t':=s.toks) (fun b o hb e=>eb b o hb e) f0 f1 f3 f4 f5⟩
 self:=fun _ _ _ _ _ st h=>by
  rcases hty with rfl | rfl
  ·exact wpAny_pyIter_striter_ascii st h
  ·exact wpAny_pyIter_striter_wide st h
section
variable {X:Cx} {tg:Expr}
def iStr (tl:TE):TI:=fun σ H R=>tl σ H fun x H1=>∃ z,x=.str z∧R (Its z) H1
theorem pi_str {l:Expr}{tl:TE}(hl:PE X l tl):PI X tg l (iStr tl):=by
 intro pins s σ H R I h
 refine thn (hl pins s σ H _ I h) fun v s1 ⟨x,H1,I1,r1,q1⟩=>?_
 obtain ⟨z,e,q⟩:=q1
 subst e
 obtain ⟨t,rfl⟩:=r1
 have fp:∀ b∈[s1.heap.objs.size],FpOk X pins H1 b:=fun b hb=>by
  have e:b=s1.heap.objs.size:=by simpa using hb
  subst e
  exact I1.fpOk (Nat.le_refl _) (I1.hok.fresh (Nat.le_refl _))
 cases ha:z.cps.all (·<128) with
 | false =>
  refine wpAny_pyIter_wide ha ?_
  exact ⟨s1.heap.objs.size,[s1.heap.objs.size],_,_,H1,rfl,I1.kept (t':=s1.toks) fun b o e=>Heap.get?_push_of_some _ e,turn_str z t _ "str_iterator" (.inr rfl),⟨_,Heap.get?_push_size _ rfl,rfl,rfl⟩,fp,q⟩
 | true =>
  refine wpAny_pyIter_ascii ha ?_
  exact ⟨s1.heap.objs.size,[s1.heap.objs.size],_,_,H1,rfl,I1.kept (t':=s1.toks) fun b o e=>Heap.get?_push_of_some _ e,turn_str z t _ "str_ascii_iterator" (.inl rfl),⟨_,Heap.get?_push_size _ rfl,rfl,rfl⟩,fp,q⟩
end
def clOf (env:Env):List (Str×NameKind)→List (Str×Addr)→List (Str×Addr)
 | [],acc=>acc
 | (n,k):: r,acc=>if (k == NameKind.free)=true then clOf env r ((n,(env.cells.lookup n).getD 0):: acc) else clOf env r acc
theorem cellOf_some {env:Env}{n:Str}{c:Addr}(h:env.cells.lookup n=some c):cellOf env n=pure c:=by
 unfold cellOf
 rw [h]
theorem closureFor_of {scope:Scope}{env:Env}(h:∀ y∈scope.names,y.2=.free→∃ c,env.cells.lookup y.1=some c):closureFor scope env=pure (clOf env scope.names []):=by
 have key:∀ (l:List (Str×NameKind)) (acc:List (Str×Addr)),(∀ y∈l,y.2=.free→∃ c,env.cells.lookup y.1=some c) →
   (forIn l acc fun (x:Str×NameKind) (r:List (Str×Addr))=>(match x with
    | (name,kind)=>if (kind == NameKind.free)=true then (do let a ← cellOf env name;pure (ForInStep.yield ((name,a):: r))) else pure (ForInStep.yield r):Sem (ForInStep (List (Str×Addr)))))=pure (clOf env l acc):=by
  intro l
  induction l with
  | nil=>intro acc _;rfl
  | cons y r ih =>
   intro acc hy
   obtain ⟨n,k⟩:=y
   have ih':=fun acc=>ih acc fun z hz=>hy z (List.mem_cons_of_mem _ hz)
   rw [List.forIn_cons]
   by_cases hk:(k == NameKind.free)=true
   ·obtain ⟨c,hc⟩:=hy (n,k) List.mem_cons_self (by simpa using hk)
    have hc:env.cells.lookup n=some c:=hc
    simp only [hk,if_true,cellOf_some hc]
    unfold clOf
    rw [if_pos hk,hc]
    exact ih' _
   ·simp only [hk]
    unfold clOf
    rw [if_neg hk]
    exact ih' _
 unfold closureFor
 have q:=key scope.names [] h
 show ((forIn scope.names [] _:Sem (List (Str×Addr)))>>=fun r=>pure r)=_
 first
  | (rw [show (forIn scope.names [] _:Sem (List (Str×Addr)))=_ from q];rfl)
  | (refine (congrArg (fun m=>m>>=fun r=>pure r) q).trans ?_;rfl)
theorem Zd5 {env:Env}:∀ (l:List (Str×NameKind)) (acc:List (Str×Addr)) (x:Str) (c:Addr),(∀ y∈l,y.2=.free→∃ c,env.cells.lookup y.1=some c) →
  (∀ x c,acc.lookup x=some c→env.cells.lookup x=some c)→(clOf env l acc).lookup x=some c→env.cells.lookup x=some c
 | [],acc,x,c,_,ha,h=>ha x c h
 | (n,k):: r,acc,x,c,hy,ha,h=>by
  have hr:∀ y∈r,y.2=.free→∃ c,env.cells.lookup y.1=some c:=fun y hy'=>hy y (List.mem_cons_of_mem _ hy')
  unfold clOf at h
  by_cases hk:(k == NameKind.free)=true
  ·rw [if_pos hk] at h
   refine Zd5 r _ x c hr (fun z d hz=>?_) h
   obtain ⟨c',hc'⟩:=hy (n,k) List.mem_cons_self (by simpa using hk)
   have hc':env.cells.lookup n=some c':=hc'
   rw [List.lookup_cons] at hz
   by_cases e:(z == n)=true
   ·simp only [e] at hz
    have e':z=n:=by simpa using e
    rw [e',hc']
    rw [hc'] at hz
    exact hz
   ·have e':(z == n)=false:=by simpa using e
    simp only [e'] at hz
    exact ha z d hz
  ·rw [if_neg hk] at h
   exact Zd5 r acc x c hr ha h
theorem clOf_keeps {env:Env}:∀ (l:List (Str×NameKind)) (acc:List (Str×Addr)) (x:Str),(acc.lookup x).isSome=true→((clOf env l acc).lookup x).isSome=true
 | [],acc,x,h=>h
 | (n,k):: r,acc,x,h=>by
  unfold clOf
  by_cases hk:(k == NameKind.free)=true
  ·rw [if_pos hk]
   refine clOf_keeps r _ x ?_
   rw [List.lookup_cons]
   cases e:(x == n) with
   | true=>rfl
   | false=>exact h
  ·rw [if_neg hk]
   exact clOf_keeps r acc x h
theorem clOf_has {env:Env}:∀ (l:List (Str×NameKind)) (acc:List (Str×Addr)) (x:Str),(x,NameKind.free)∈l→((clOf env l acc).lookup x).isSome=true
 | [],acc,x,h=>nomatch h
 | (n,k):: r,acc,x,h=>by
  unfold clOf
  rcases List.mem_cons.mp h with e | h
  ·injection e with e1 e2
   subst e1
   subst e2
   rw [if_pos (by decide)]
   refine clOf_keeps r _ x ?_
   rw [List.lookup_cons]
   simp
  ·by_cases hk:(k == NameKind.free)=true
   ·rw [if_pos hk]
    exact clOf_has r _ x h
   ·rw [if_neg hk]
    exact clOf_has r _ x h
theorem Zdg {env:Env}:∀ {names:List (Str×NameKind)}{x:Str},names.lookup x=some .free →
  (names.map fun (n,k)=>if (k == NameKind.free&&env.scope.kind == .function&&env.kindOf n == some .cell) then (n,NameKind.cell) else (n,k)).lookup x=some .cell ∨
  (names.map fun (n,k)=>if (k == NameKind.free&&env.scope.kind == .function&&env.kindOf n == some .cell) then (n,NameKind.cell) else (n,k)).lookup x=some .free
 | [],_,h=>by simp at h
 | (n,k):: r,x,h=>by
  have ih:=@Zdg env r x
  rw [List.map_cons]
  show List.lookup x ((if (k == NameKind.free&&env.scope.kind == .function&&env.kindOf n == some .cell)=true then (n,NameKind.cell) else (n,k)):: _)=_∨List.lookup x ((if (k == NameKind.free&&env.scope.kind == .function&&env.kindOf n == some .cell)=true then (n,NameKind.cell) else (n,k)):: _)=_
  cases hx:x == n with
  | true =>
   simp only [List.lookup_cons,hx] at h
   cases h
   by_cases hc:(NameKind.free == NameKind.free&&env.scope.kind == .function&&env.kindOf n == some .cell)=true
   ·rw [if_pos hc];simp only [List.lookup_cons,hx];exact .inl trivial
   ·rw [if_neg hc];simp only [List.lookup_cons,hx];exact .inr trivial
  | false =>
   simp only [List.lookup_cons,hx] at h
   by_cases hc:(k == NameKind.free&&env.scope.kind == .function&&env.kindOf n == some .cell)=true
   ·rw [if_pos hc];simp only [List.lookup_cons,hx];exact ih h
   ·rw [if_neg hc];simp only [List.lookup_cons,hx];exact ih h
end L2
namespace L2
open PySem PySem.Spec PyProof.Rows
theorem Zdl {env:Env}:∀ {names:List (Str×NameKind)}{x:Str},
  ((names.map fun (n,k)=>if (k == NameKind.free&&env.scope.kind == .function&&env.kindOf n == some .cell) then (n,NameKind.cell) else (n,k)).lookup x=some .cell ∨
  (names.map fun (n,k)=>if (k == NameKind.free&&env.scope.kind == .function&&env.kindOf n == some .cell) then (n,NameKind.cell) else (n,k)).lookup x=some .free) →
  names.lookup x=some .free∨names.lookup x=some .cell
 | [],_,h=>by simp at h
 | (n,k):: r,x,h=>by
  have ih:=@Zdl env r x
  rw [List.map_cons] at h
  change List.lookup x ((if (k == NameKind.free&&env.scope.kind == .function&&env.kindOf n == some .cell)=true then (n,NameKind.cell) else (n,k)):: _)=_∨List.lookup x ((if (k == NameKind.free&&env.scope.kind == .function&&env.kindOf n == some .cell)=true then (n,NameKind.cell) else (n,k)):: _)=_ at h
  cases hx:x == n with
  | true =>
   simp only [List.lookup_cons,hx]
   by_cases hc:(k == NameKind.free&&env.scope.kind == .function&&env.kindOf n == some .cell)=true
   ·left
    have:(k == NameKind.free)=true:=by
     cases hk:(k == NameKind.free) with
     | true=>rfl
     | false=>rw [hk] at hc;simp at hc
    have:k=NameKind.free:=by simpa using this
    rw [this]
   ·rw [if_neg hc] at h
    simp only [List.lookup_cons,hx] at h
    rcases h with h | h
    ·exact .inr h
    ·exact .inl h
  | false =>
   simp only [List.lookup_cons,hx]
   apply ih
   by_cases hc:(k == NameKind.free&&env.scope.kind == .function&&env.kindOf n == some .cell)=true
   ·rw [if_pos hc] at h;simp only [List.lookup_cons,hx] at h;exact h
   ·rw [if_neg hc] at h;simp only [List.lookup_cons,hx] at h;exact h
abbrev Zdn (X:Cx) (scope:Scope) (N:List Str) (C:Addr) (s:Shared) (H:Hp) (fp:List Addr):Cx :=
 { X with N:=N,s₀:=s,H₀:=H,env:=compEnvC scope (clOf X.env scope.names []) C X.env,outer:=X.stack,ex:=fp,fn:=fun _=>false,pn:=[],xe:=fun _ _=>False }
def sgC (n:Nat) (js:List Nat) (σ:St):St:=List.replicate n none++js.map fun j=>(σ[j]?).join
theorem sgC_len (n:Nat) (js:List Nat) (σ:St):(sgC n js σ).length=n + js.length:=by unfold sgC;simp
structure CompOk (X:Cx) (scope:Scope) (own frees:List Str) (js:List Nat):Prop where
 calm:X.calm=true
 kind:scope.kind=.function
 nocell:∀ y∈scope.names,y.2≠.cell
 locals:∀ y∈scope.names,y.2=.local→scope.names.lookup y.1=some .local
 fr:∀ y∈scope.names,y.2=.free→X.env.scope.names.lookup y.1=some .cell∨X.env.scope.names.lookup y.1=some .free
 fre:∀ x∈frees,scope.names.lookup x=some .free
 slots:js.map (fun j=>X.N[j]?)=frees.map some
def PTs (X:Cx) (ifs:List Expr) (t:TT):Prop :=
 ∀ (pins:List (Addr×Obj)) (s:Shared) (σ:St) (H:Hp) (Q:Bool→Hp→Prop),Inv X pins σ H s→t σ H Q →
  wpAny (model X.prog X.w) X.A (forIn ifs true fun c r=>if r=true then do let ok ← isTrue c X.env (eval c X.env);pure (ForInStep.yield ok) else pure (ForInStep.yield r)) (TP X pins σ Q) X.xe s
def tTrue:TT:=fun _ H Q=>Q true H
theorem Zb2 {X:Cx}:PTs X [] tTrue:=fun _ _ _ H _ I h=>wpAny_tests_nil ⟨H,I,h⟩
theorem pts_one {X:Cx}{c:Expr}{t:TT}(h:PT X c t):PTs X [c] t:=fun pins s σ H Q I q=>wpAny_tests_one (h pins s σ H Q I q)
def compBody (n:Nat) (js:List Nat) (g:TG) (tt:TT) (te:TE) (σ:St) (Q:VK) (J:It) (H1:Hp):Prop:=∀ D,H1 D=none →
 ∃ W:Nat→Nat→List V→St→Hp→Prop,(∃ m,W 0 m [] (sgC n js σ) (upd H1 D (.lst [])))∧∀ i m ys σ' H',W i m ys σ' H' →
  (J.stop i H'∧Q (.ref D) H') ∨
  (J.go i H'∧ys.length<sizeLine∧∃ N:List V→St→Hp→Prop,(∀ ys3 σ3 H3,N ys3 σ3 H3→∃ m',m'<m∧W (i + 1) m' ys3 σ3 H3)∧∀ x H2,J.yld i H' x H2→g x σ' H2 fun σ3 H3=>tt σ3 H3 fun b H4 =>
   if b=true then te σ3 H4 fun v H5=>H5 D=some (.lst ys)∧N (ys++[v]) σ3 (upd H5 D (.lst (ys++[v])))
   else N ys σ3 H4)
section
variable {prog:Program} {w:World} {A:Around} {E:Value→Shared→Prop} {R:Result→Shared→Prop} {s:Shared}
theorem compLoop_any {elt target iter:Expr}{ifs:List Expr}{scope:Scope}{pos:Pos}{it acc:Value}{env:Env}(I:Nat→Shared→Prop)
  (turn:∀ n s,I n s→∀ E:Value→Shared→Prop,wpAny (model prog w) A (pyNext it) (fun r s₁=>match r with
   | none=>R (.ok .next) s₁
   | some v=>wpAny (model prog w) A (letOwnedTupleGo target it v) (fun _ s₁'=>wpAny (model prog w) A (assign target env v) (fun _ s₂ =>
     wpAny (model prog w) A (forIn ifs true fun c r=>if r=true then do let ok ← isTrue c env (eval c env);pure (ForInStep.yield ok) else pure (ForInStep.yield r)) (fun ok s₃ =>
      if ok=true then wpAny (model prog w) A (eval elt env) (fun x s₄ =>
       wpAny (model prog w) A (call (.builtin "list.append") [acc,x]) (fun _ s₅=>∃ m,m<n∧I m s₅) E s₄) E s₃
      else ∃ m,m<n∧I m s₃) E s₂) E s₁') E s₁) E s)
  (n:Nat) (h:I n s):
  codeAny (model prog w) A (.compLoop (.ListComp elt [⟨target,iter,ifs,0⟩] scope pos) 0 it acc env) R s:=by
 refine codeAny_loop rfl I (fun n s hI=>?_) n h
 show wpAny _ A ((compTurn (.ListComp elt [⟨target,iter,ifs,0⟩] scope pos) 0 it acc env).onRaise (fun x=>do noteFrame x env;theTreesLotGoes x)) _ _ s
 refine wpAny_noted ?_
 rw [compTurn_list]
 refine wpAny_bind (wpAny_standAt (wpAny_bind (wpAny_mono (turn n s hI _) (fun r s₁ h₁=>?_) fun _ _ h'=>h')))
 cases r with
 | none=>exact wpAny_pure h₁
 | some v =>
  refine wpAny_bind (wpAny_mono h₁ (fun _ s₁' h₁'=>?_) fun _ _ h'=>h')
  refine wpAny_bind (wpAny_mono h₁' (fun _ s₂ h₂=>wpAny_bind (wpAny_mono h₂ (fun ok s₃ h₃=>?_) fun _ _ h'=>h')) fun _ _ h'=>h')
  cases ok with
  | false=>exact wpAny_pure ⟨rfl,h₃⟩
  | true =>
   exact wpAny_bind (wpAny_bind (wpAny_mono h₃ (fun x s₄ h₄=>wpAny_bind (wpAny_mono h₄ (fun _ s₅ h₅=>wpAny_pure (wpAny_pure ⟨rfl,h₅⟩)) fun _ _ h'=>h')) fun _ _ h'=>h'))
end
section
variable {X:Cx} {pins:List (Addr×Obj)} {σ:St} {scope:Scope} {own frees:List Str} {js:List Nat}
theorem CompOk.cells (c:CompOk X scope own frees js) (ok:X.Ok):∀ y∈scope.names,y.2=.free→∃ a,X.env.cells.lookup y.1=some a:=fun y hy e=>by
 rcases c.fr y hy e with h | h
 ·exact ok.has y.1 (.inl h)
 ·exact ok.has y.1 (.inr h)
theorem CompOk.cl (c:CompOk X scope own frees js) (ok:X.Ok) {x:Str}{a:Addr}(h:(clOf X.env scope.names []).lookup x=some a):X.env.cells.lookup x=some a :=
 Zd5 scope.names [] x a (c.cells ok) (fun _ _ z=>by simp at z) h
theorem CompOk.has (c:CompOk X scope own frees js) {x:Str}(h:scope.names.lookup x=some .free):∃ a,(clOf X.env scope.names []).lookup x=some a :=
 Option.isSome_iff_exists.mp (clOf_has scope.names [] x (PySem.mem_of_lookup h))
theorem CompOk.ok {s2:Shared}{H2:Hp}{fp:List Addr}{C:Addr}(c:CompOk X scope own frees js) (I:Inv X pins σ H2 s2) (f2:∀ b∈fp,FpOk X pins H2 b) (hlt:∀ b∈fp,b<s2.heap.objs.size) (hC:s2.heap.objs.size≤C) (N:List Str):
  (Zdn X scope N C s2 H2 fp).Ok where
 mod:=I.ok.mod
 kind:=c.kind
 glob:=I.ok.glob
 blt:=I.ok.blt
 above:=hC
 inj:=fun x y a h1 h2=>I.ok.inj x y a (c.cl I.ok h1) (c.cl I.ok h2)
 has:=fun x h=>by
  have h':scope.names.lookup x=some .free∨scope.names.lookup x=some .cell:=Zdl (env:=X.env) h
  rcases h' with h' | h'
  ·exact c.has h'
  ·exact absurd rfl (c.nocell _ (PySem.mem_of_lookup h'))
 cab:=fun x a h=>absurd (show false=true from h) Bool.false_ne_true
 hd:=fun h=>I.ok.hd h
 frames:=I.ok.frames
 stk:=.inl rfl
 exf:=fun b hb=>⟨Nat.ne_of_lt (Nat.lt_of_lt_of_le (hlt b hb) hC),fun x a h=>(f2 b hb).2.2.2.2.1 x a (c.cl I.ok h)⟩
 bs:=I.bs
 bsz:=Nat.le_trans I.ok.bsz I.sz
 noex:=fun b o e hb=>by
  rcases (f2 b hb).2.2.2.1 with z | z
  ·exact I.ok.noex b o e z
  ·exact absurd (Nat.lt_of_lt_of_le (Heap.lt_size e) (Nat.le_trans I.ok.bsz z)) (Nat.lt_irrefl _)
 exfs:=fun b hb z=>by
  rcases List.mem_cons.mp (I.stkSub b z) with e | e
  ·exact (f2 b hb).2.1 e
  ·exact (f2 b hb).2.2.1 e
 funs:=I.stack
 frf:=I.stkFree
theorem comp_block {s2:Shared}{tg iter elt:Expr}{ifs:List Expr}{pos:Pos}{g:TG}{tt:TT}{te:TE}{Q:VK}{RR:Value→Addr→Result→Shared→Prop}{itv:Value}{E:Value→Shared→Prop}
  (c:CompOk X scope own frees js)
  (hg:∀ C s H fp,PG (Zdn X scope (own++frees) C s H fp) tg g) (ht:∀ C s H fp,PTs (Zdn X scope (own++frees) C s H fp) ifs tt) (he:∀ C s H fp,PE (Zdn X scope (own++frees) C s H fp) elt te)
  (h:PIE X pins σ tg (compBody own.length js g tt te σ Q) itv s2)
  (hR:∀ D C H' s',Inv X pins σ H' s'→FpOk X pins H' C→(∃ m,s'.heap.Ns C m)→Q (.ref D) H'→RR (.ref D) C (.ok .next) s'):
  wpAny (model X.prog X.w) X.A (newList []) (fun acc s₃=>wpAny (model X.prog X.w) X.A (newFunctionEnv scope X.env.globals (clOf X.env scope.names []) [] X.env.qual none .none (some X.env)) (fun cenv s₄ =>
   codeAny (model X.prog X.w) X.A (.compStart (.ListComp elt [⟨tg,iter,ifs,0⟩] scope pos) 0 itv acc { cenv with scope:=relabel scope X.env }) (RR acc cenv.locals) s₄) E s₃) E s2:=by
 obtain ⟨it,fp,tn,J,H2,e,I2,T,st2,f2,hq⟩:=h
 subst e
 refine wpAny_newObj_type (wpAny_newFunctionEnv c.nocell (by intro y hy;simp at hy) (fun h₁ hns₁ hsb₁=>?_) c.kind)
 dsimp only at hns₁ hsb₁ ⊢
 generalize hH2:s2.heap.push { cls:=.type "list",dict:=none,data:=.seq ([]:List Value).toArray }=G2 at hns₁ hsb₁ ⊢
 have hC:G2.objs.size=s2.heap.objs.size + 1:=by rw [← hH2,Heap.size_push]
 have hDC:s2.heap.objs.size≠G2.objs.size:=by rw [hC];exact Nat.ne_of_lt (Nat.lt_succ_self _)
 have hCle:s2.heap.objs.size≤G2.objs.size:=by rw [hC];exact Nat.le_succ _
 have old:∀ b o,s2.heap.get? b=some o→h₁.get? b=some o:=fun b o e=>by
  have hb:=Heap.lt_size e
  exact hsb₁.extBut b o (by rw [hC];exact Nat.ne_of_lt (Nat.lt_succ_of_lt hb)) (Heap.get?_push_of_some _ (hH2 ▸ Heap.get?_push_of_some _ e))
 have hD:H2 s2.heap.objs.size=none:=I2.hok.fresh (Nat.le_refl _)
 have hlt:∀ b∈fp,b<s2.heap.objs.size:=fun b hb=>by
  obtain ⟨o,e,_⟩:=T.obj _ _ st2 b hb
  exact Heap.lt_size e
 have hacc:h₁.get? s2.heap.objs.size=some { cls:=.type "list",data:=.seq ([]:List Value).toArray }:=hsb₁.extBut _ _ hDC (Heap.get?_push_of_some _ (hH2 ▸ Heap.get?_push_size _ rfl))
 obtain ⟨W,⟨m0,w0⟩,turn⟩:=hq _ hD
 have I0:∀ tk,Inv (Zdn X scope (own++frees) G2.objs.size s2 H2 fp) [] (sgC own.length js σ) (upd H2 s2.heap.objs.size (.lst [])) { s2 with heap:=h₁,toks:=tk }:=fun tk=>by
  refine ⟨c.ok I2 f2 hlt hCle _,rfl,I2.bare,Un.laid old (Nat.le_refl _) hD,⟨_,hns₁,fun i x v h1 h2 h3=>?_⟩,fun x a h=>?_,?_,fun x a h=>?_,fun p hp=>absurd (show p∈([]:List (Addr×Obj)) from hp) (by simp),I2.hok.laid old (Nat.le_refl _) ⟨Nat.zero_le _,[],0,.nil,hacc⟩,?_⟩
  ·have hi:own.length≤i:=by
    by_cases hi:i<own.length
    ·unfold sgC at h2
     rw [List.getElem?_append_left (by simpa using hi),List.getElem?_replicate] at h2
     rw [if_pos hi] at h2
     cases h2
    ·omega
   have hx:frees[i - own.length]?=some x:=by
    have h1':(own++frees)[i]?=some x:=h1
    rwa [List.getElem?_append_right hi] at h1'
   have h2':(js.map fun j=>(σ[j]?).join)[i - own.length]?=some (some v):=by
    unfold sgC at h2
    rw [List.getElem?_append_right (by simpa using hi)] at h2
    simpa using h2
   rw [List.getElem?_map] at h2'
   obtain ⟨j,hj,hjv⟩:=Option.map_eq_some_iff.mp h2'
   have hs:=congrArg (fun l=>l[i - own.length]?) c.slots
   rw [List.getElem?_map,List.getElem?_map,hj,hx] at hs
   have hNj:X.N[j]?=some x:=Option.some.inj hs
   have hσ:σ[j]?=some (some v):=by
    cases q:σ[j]? with
    | none=>rw [q] at hjv;cases hjv
    | some o =>
     rw [q] at hjv
     have:o=some v:=hjv
     rw [this]
   have hfree:=c.fre x (List.mem_of_getElem? hx)
   have hXk:=c.fr (x,.free) (PySem.mem_of_lookup hfree) rfl
   obtain ⟨m,hn,hl⟩:=I2.loc
   have vis:Vis X.env.scope x:=by rcases hXk with k | k;exact .inr (.inl k);exact .inr (.inr k)
   obtain ⟨u,r,l⟩:=hl j x v hNj hσ vis
   refine ⟨u,r,.inr ⟨Zdg (env:=X.env) hfree,?_⟩⟩
   rcases l with ⟨hk,_⟩ | ⟨_,a,ha,hcell⟩
   ·rcases hXk with k | k
    ·have hk:X.env.scope.names.lookup x=some .local:=hk
     rw [show X.env.scope.names.lookup x=some .cell from k] at hk;cases hk
    ·have hk:X.env.scope.names.lookup x=some .local:=hk
     rw [show X.env.scope.names.lookup x=some .free from k] at hk;cases hk
   ·obtain ⟨a',ha'⟩:=c.has hfree
    have e:=c.cl I2.ok ha'
    rw [ha] at e
    cases e
    obtain ⟨o,ho,hd⟩:=hcell
    exact ⟨a,ha',o,old a o ho,hd⟩
  ·obtain ⟨v,o,ho,hd⟩:=I2.cell x a (c.cl I2.ok h)
   exact ⟨v,o,old a o ho,hd⟩
  ·show upd H2 s2.heap.objs.size (.lst []) G2.objs.size=none
   rw [Zac (Ne.symm hDC)]
   exact I2.hok.fresh hCle
  ·obtain ⟨v,o,ho,hd⟩:=I2.cell x a (c.cl I2.ok h)
   rw [Zac (Nat.ne_of_lt (Heap.lt_size ho))]
   exact I2.freeC x a (c.cl I2.ok h)
  ·rw [sgC_len,List.length_append]
   have:=congrArg List.length c.slots
   rw [List.length_map,List.length_map] at this
   omega
 have stat:∀ {H':Hp},(∀ b∈fp,H' b=none)→∀ b∈fp,FpOk (Zdn X scope (own++frees) G2.objs.size s2 H2 fp) [] H' b:=fun {H'} hn b hb=>by
  obtain ⟨f0,f1,f3,f4,f5,f6⟩:=f2 b hb
  refine ⟨hn b hb,Nat.ne_of_lt (Nat.lt_of_lt_of_le (hlt b hb) hCle),fun z=>?_,.inl hb,fun x a h=>f5 x a (c.cl I2.ok h),fun p hp=>absurd (show p∈([]:List (Addr×Obj)) from hp) (by simp)⟩
  rcases List.mem_cons.mp (I2.stkSub b z) with e | e
  ·exact f1 e
  ·exact f3 e
 have loop:∀ s₃:Shared,s₃={ s2 with heap:=h₁,toks:=s2.toks + ([]:List (Str×Value)).length } →
   codeAny (model X.prog X.w) X.A (.compLoop (.ListComp elt [⟨tg,iter,ifs,0⟩] scope pos) 0 (.ref it) (.ref s2.heap.objs.size) (compEnvC scope (clOf X.env scope.names []) G2.objs.size X.env))
    (RR (.ref s2.heap.objs.size) G2.objs.size) s₃:=by
  rintro s₃ rfl
  refine compLoop_any (fun n s'=>∃ i ys σ' H',Inv (Zdn X scope (own++frees) G2.objs.size s2 H2 fp) [] σ' H' s'∧tn i s'.heap∧(∀ b∈fp,H' b=none)∧W i n ys σ' H') ?_ m0
   ⟨0,[],_,_,I0 _,T.keep _ _ _ st2 fun b _ o e=>old b o e,fun b hb=>by rw [Zac (Nat.ne_of_lt (hlt b hb))];exact (f2 b hb).1,w0⟩
  rintro n s3 ⟨i,ys,σ3,H3,I3,st3,fr3,w3⟩ E'
  rcases turn i n ys σ3 H3 w3 with ⟨stop,qn⟩ | ⟨go,hz,N,hN,step⟩
  ·refine thn (T.done (Zdn X scope (own++frees) G2.objs.size s2 H2 fp) rfl rfl rfl c.calm i [] s3 σ3 H3 E' I3 (stat fr3) st3 stop) fun r s4 ⟨hr,I4⟩=>?_
   subst hr
   have back:Inv X pins σ H3 s4:=I2.call' (ch:=fp) I4.os I4.base I4.hok I4.bare fun b hb=>⟨(f2 b hb).2.2.2.1,(f2 b hb).2.1,(f2 b hb).2.2.2.2.1,(f2 b hb).2.2.2.2.2⟩
   exact hR _ _ H3 s4 back (I2.fpOk hCle I4.free) ⟨_,I4.loc.choose_spec.1⟩ qn
  ·refine thn (T.item (Zdn X scope (own++frees) G2.objs.size s2 H2 fp) rfl rfl rfl c.calm i [] s3 σ3 H3 E' I3 (stat fr3) st3 go) fun r s4 ⟨u,hr,h4⟩=>?_
   subst hr
   refine thn h4 fun _ s5 ⟨x,H5,I5,r5,y5,st5,fr5⟩=>?_
   have I5':=I5.pinned (stat fr5) (T.obj _ _ st5)
   have nof:∀ (e:Value) (s':Shared),(Zdn X scope (own++frees) G2.objs.size s2 H2 fp).xe e s'→E' e s':=fun _ _ z=>False.elim z
   refine wpAny_mono (hg _ _ _ _ _ s5 σ3 H5 x u _ I5' r5 (step x H5 y5)) (fun _ s6 ⟨σ6,H6,I6,q6⟩=>?_) nof
   refine wpAny_mono (ht _ _ _ _ _ s6 σ6 H6 _ I6 q6) (fun b s7 ⟨H7,I7,q7⟩=>?_) nof
   have again:∀ {σ7:St} {H7:Hp} {s7:Shared} {ys':List V},Inv (Zdn X scope (own++frees) G2.objs.size s2 H2 fp) ([]++pinsAt fp s5.heap) σ7 H7 s7→N ys' σ7 H7 →
     ∃ m,m<n∧∃ i ys σ' H',Inv (Zdn X scope (own++frees) G2.objs.size s2 H2 fp) [] σ' H' s7∧tn i s7.heap∧(∀ b∈fp,H' b=none)∧W i m ys σ' H':=fun {σ7 H7 s7 ys'} I7 n7=>by
    obtain ⟨m',hm,w7⟩:=hN _ _ _ n7
    refine ⟨m',hm,i + 1,ys',σ7,H7,I7.unpinned,T.keep _ _ _ st5 fun b hb o e=>(I7.pin (b,o) (List.mem_append_right _ (List.mem_append_right _ (Zd3 hb e)))).1,fun b hb=>?_,w7⟩
    obtain ⟨o,e,d⟩:=T.obj _ _ st5 b hb
    exact (I7.pin (b,o) (List.mem_append_right _ (List.mem_append_right _ (Zd3 hb e)))).2.1
   cases b with
   | false =>
    rw [if_neg Bool.false_ne_true] at q7 ⊢
    exact again I7 q7
   | true =>
    rw [if_pos rfl] at q7 ⊢
    refine wpAny_mono (he _ _ _ _ _ s7 σ6 H7 _ I7 q7) (fun v s8 ⟨y,H8,I8,r8,hD8,w8⟩=>?_) nof
    refine wpAny_mono (Zde (X:=Zdn X scope (own++frees) G2.objs.size s2 H2 fp) _ s8 σ6 H8 (.ref s2.heap.objs.size) [y] (.ref s2.heap.objs.size) [v] (fun _ H9=>H9=upd H8 s2.heap.objs.size (.lst (ys++[y]))) I8 rfl (.cons r8 .nil) ⟨_,ys,y,rfl,rfl,hD8,hz,rfl⟩) (fun z s9 ⟨_,H9,I9,_,e9⟩=>?_) nof
    subst e9
    exact again I9 w8
 exact codeAny_compStart_list (loop _ rfl) (T.self X.A 0 _ _ _ (T.keep _ _ _ st2 fun b _ o e=>old b o e) (loop _ rfl))
end
section
variable {X:Cx} {scope:Scope} {own frees:List Str} {js:List Nat} {tg iter elt:Expr} {ifs:List Expr} {wi:TI} {g:TG} {tt:TT} {te:TE} {pos:Pos}
def tComp (n:Nat) (js:List Nat) (wi:TI) (g:TG) (tt:TT) (te:TE):TE:=fun σ H Q=>wi σ H (compBody n js g tt te σ Q)
theorem Zb5 (own frees:List Str) (js:List Nat) (hc:X.Ok→CompOk X scope own frees js) (hi:PI X tg iter wi)
  (hg:∀ C s H fp,PG (Zdn X scope (own++frees) C s H fp) tg g) (ht:∀ C s H fp,PTs (Zdn X scope (own++frees) C s H fp) ifs tt) (he:∀ C s H fp,PE (Zdn X scope (own++frees) C s H fp) elt te)
  (hs:∀ x,foldedSetIterable iter X.env x=pure x:=by intro _;rfl):
  PE X (.ListComp elt [⟨tg,iter,ifs,0⟩] scope pos) (tComp own.length js wi g tt te):=by
 intro pins s σ H Q I h
 have c:=hc I.ok
 rw [eval_ListComp]
 refine wpAny_comprehension_free (use:=none) rfl hs (closureFor_of (c.cells I.ok)) c.kind c.locals (thn (hi pins s σ H _ I h) fun xv s₁ h₁=>thn h₁ fun it s₂ h₂=>?_)
 refine comp_block (RR:=fun acc C=>compPost (model X.prog X.w) X.A X.xe none (EP X pins σ Q) acc C) c hg ht he h₂ fun D C H' s' J F n q=>?_
 obtain ⟨m,hn⟩:=n
 obtain ⟨f0,f1,f2,f3,f4,f5⟩:=F
 exact ⟨m,hn,fun h' hs'=>⟨.ref D,H',J.turned (t':=s'.toks) (fun b o hb e=>hs'.extBut b o hb e) f0 f1 f3 f4 f5,rfl,q⟩⟩
def tSetComp (k n:Nat) (js:List Nat) (wi:TI) (g:TG) (tt:TT) (te:TE):TS:=fun D σ H=>wi σ H (compBody n js g tt te σ fun v H1=>D.nx (σ.set k (some v)) H1)
theorem Zeh {k:Nat}{y:Str}{py spos:Pos} (own frees:List Str) (js:List Nat) (hN:X.N.Nodup) (hk:X.N[k]?=some y) (hy:X.env.scope.names.lookup y=some .local) (hc:X.Ok→CompOk X scope own frees js) (hi:PI X tg iter wi)
  (hg:∀ C s H fp,PG (Zdn X scope (own++frees) C s H fp) tg g) (ht:∀ C s H fp,PTs (Zdn X scope (own++frees) C s H fp) ifs tt) (he:∀ C s H fp,PE (Zdn X scope (own++frees) C s H fp) elt te)
  (hsw:swapsWith (.ListComp elt [⟨tg,iter,ifs,0⟩] scope pos) (some (.Name y py)) spos.line X.env=pure true:=by rfl)
  (hs:∀ x,foldedSetIterable iter X.env x=pure x:=by intro _;rfl):
  PS X (.Assign [.Name y py] (.ListComp elt [⟨tg,iter,ifs,0⟩] scope pos) spos) (tSetComp k own.length js wi g tt te):=by
 intro pins s σ H D I h
 have c:=hc I.ok
 rw [exec_Assign_Name_used _ _ _ _ hsw]
 refine wpAny_bind (wpAny_standAt (wpAny_bind ?_))
 show wpAny _ X.A (do let _ ← comprehension (.ListComp elt [⟨tg,iter,ifs,0⟩] scope pos) scope X.env _ (newList []) false (eval iter X.env) (some (assign (.Name y py) X.env))) _ _ s
 refine wpAny_bind (wpAny_mono (wpAny_comprehension_free (use:=some (assign (.Name y py) X.env)) (Q:=fun _ s'=>SP X pins D .next s') rfl hs (closureFor_of (c.cells I.ok)) c.kind c.locals
  (thn (hi pins s σ H _ I h) fun xv s₁ h₁=>thn h₁ fun it s₂ h₂=>?_)) (fun _ s' hq=>wpAny_pure (wpAny_pure hq)) fun _ _ e=>e)
 refine comp_block (RR:=fun acc C=>compPost (model X.prog X.w) X.A X.xe (some (assign (.Name y py) X.env)) (fun _ s'=>SP X pins D .next s') acc C) c hg ht he h₂ fun A' C H' s' J F n q=>?_
 obtain ⟨m,hn⟩:=n
 obtain ⟨f0,f1,f2,f3,f4,f5⟩:=F
 show wpAny _ X.A (assign (.Name y py) X.env (.ref A')) _ _ _
 refine wpAny_assign_Name (store_ok2 J hN hk (.inl hy) (v:=.ref A') rfl (fun s'' J' ⟨a,sb,ha⟩=>?_) (.inr hy))
 have hne:a≠C:=by
  rcases ha with e | e
  ·rw [e];exact Ne.symm f1
  ·exact f4 y a e
 refine ⟨m,hn.sameBut sb (Ne.symm hne),fun h' hs'=>⟨_,H',J'.turned (t':=s''.toks) (fun b o hb e=>hs'.extBut b o hb e) f0 f1 f3 f4 f5,q⟩⟩
end
theorem Zek {J:It}{xs:List V}{Ok:Hp→Prop}(R:Runs J xs Ok) {n:Nat}{js:List Nat}{g:TG}{tt:TT}{te:TE}{σ:St}{Q:VK}{H1:Hp}(hz:xs.length≤sizeLine)
  (Pv:Addr→Nat→List V→St→Hp→Prop) (h0:∀ D,H1 D=none→Pv D 0 [] (sgC n js σ) (upd H1 D (.lst [])))
  (hok:∀ D i ys σ' H,i≤xs.length→Pv D i ys σ' H→Ok H∧ys.length≤i)
  (hs:∀ D i x ys σ' H,H1 D=none→xs[i]?=some x→Pv D i ys σ' H→g x σ' H fun σ3 H3=>tt σ3 H3 fun b H4 =>
   if b=true then te σ3 H4 fun v H5=>H5 D=some (.lst ys)∧Pv D (i + 1) (ys++[v]) σ3 (upd H5 D (.lst (ys++[v]))) else Pv D (i + 1) ys σ3 H4)
  (hd:∀ D ys σ' H,H1 D=none→Pv D xs.length ys σ' H→Q (.ref D) H):
  compBody n js g tt te σ Q J H1:=by
 intro D hD
 refine ⟨fun i m ys σ' H=>m=xs.length - i∧i≤xs.length∧Pv D i ys σ' H,⟨xs.length,by simp,Nat.zero_le _,h0 D hD⟩,?_⟩
 rintro i m ys σ' H ⟨rfl,hi,p⟩
 obtain ⟨q,hy⟩:=hok D i ys σ' H hi p
 by_cases hlt:i<xs.length
 ·have hx:xs[i]?=some xs[i]:=by simp [hlt]
  refine .inr ⟨R.go i _ H q hx,by omega,Pv D (i + 1),fun ys3 σ3 H3 p3=>⟨xs.length - (i + 1),by omega,rfl,hlt,p3⟩,fun x H' y=>?_⟩
  obtain ⟨e1,e2⟩:=R.yld i _ H x H' q hx y
  rw [e2]
  exact hs D i x ys σ' H hD (by rw [e1];exact hx) p
 ·have e:i=xs.length:=by omega
  subst e
  exact .inl ⟨R.stop H q,hd D ys σ' H hD p⟩
theorem Zdx {J:It}{xs:List V}{Ok:Hp→Prop}(R:Runs J xs Ok) {js:List Nat}{tt:TT}{te:TE}{σ:St}{Q:VK}{H1:Hp}(hz:xs.length≤sizeLine) (p:V→Bool) (f:V→V)
  (hok:∀ D ys,H1 D=none→Ok (upd H1 D (.lst ys)))
  (ht:∀ D ys x (R:Bool→Hp→Prop),H1 D=none→x∈xs→R (p x) (upd H1 D (.lst ys))→tt (some x :: js.map fun j=>(σ[j]?).join) (upd H1 D (.lst ys)) R)
  (he:∀ D ys x (R:V→Hp→Prop),H1 D=none→x∈xs→p x=true→R (f x) (upd H1 D (.lst ys))→te (some x :: js.map fun j=>(σ[j]?).join) (upd H1 D (.lst ys)) R)
  (hd:∀ D,H1 D=none→Q (.ref D) (upd H1 D (.lst ((xs.filter p).map f)))):
  compBody 1 js (gName 0) tt te σ Q J H1:=by
 refine Zek R hz (fun D i ys σ' H=>H1 D=none∧ys=((xs.take i).filter p).map f∧(∃ o,σ'=o :: js.map fun j=>(σ[j]?).join)∧H=upd H1 D (.lst ys)) ?_ ?_ ?_ ?_
 ·intro D hD
  exact ⟨hD,by simp,⟨none,rfl⟩,rfl⟩
 ·rintro D i ys σ' H hi ⟨hD,e,_,rfl⟩
  refine ⟨hok D ys hD,?_⟩
  rw [e,List.length_map]
  exact Nat.le_trans (List.length_filter_le _ _) (by rw [List.length_take];omega)
 ·rintro D i x ys σ' H hD hx ⟨_,e,⟨o,rfl⟩,rfl⟩
  show tt (some x :: js.map fun j=>(σ[j]?).join) (upd H1 D (.lst ys)) _
  have hm:x∈xs:=List.mem_of_getElem? hx
  refine ht D ys x _ hD hm ?_
  cases hp:p x with
  | true =>
   rw [if_pos rfl]
   refine he D ys x _ hD hm hp ⟨uS,hD,?_,⟨_,rfl⟩,upd_upd⟩
   rw [take_succ_filter p xs i x hx,hp,List.map_append,e]
   rfl
  | false =>
   rw [if_neg Bool.false_ne_true]
   refine ⟨hD,?_,⟨_,rfl⟩,rfl⟩
   rw [take_succ_filter p xs i x hx,hp,List.map_append,e]
   simp
 ·rintro D ys σ' H hD ⟨_,e,_,rfl⟩
  rw [List.take_length] at e
  rw [e]
  exact hd D hD
end L2
namespace L2
open PySem PySem.Spec PyProof.Rows
section
variable {X:Cx}
theorem bools_get {bs:List Bool}{its:List Value}(r:Zcg (bs.map V.bl) its):∀ (i:Nat) (v:Value),its[i]?=some v→v=Value.bool (bs.getD i false):=fun i v h=>by
 have hl:=r.length
 rw [List.length_map] at hl
 have hi:i<its.length:=(List.getElem?_eq_some_iff.mp h).1
 have hb:(bs.map V.bl)[i]?=some (V.bl (bs.getD i false)):=by
  rw [List.getElem?_map,List.getD_eq_getElem?_getD]
  have:i<bs.length:=by omega
  simp [this]
 obtain ⟨u,hu,ru⟩:=r.get hb
 rw [h] at hu
 cases hu
 exact ru
theorem range_all {bs:List Bool}:(List.range bs.length).all (fun i=>bs.getD i false)=bs.all id:=by
 rw [Bool.eq_iff_iff]
 simp only [List.all_eq_true,List.mem_range,id]
 constructor
 ·intro h b hb
  obtain ⟨i,hi,e⟩:=List.mem_iff_getElem.mp hb
  have:=h i hi
  rw [List.getD_eq_getElem?_getD] at this
  simpa [hi,e] using this
 ·intro h i hi
  rw [List.getD_eq_getElem?_getD]
  simp only [List.getElem?_eq_getElem hi,Option.getD_some]
  exact h _ (List.getElem_mem hi)
theorem range_any {bs:List Bool}:(List.range bs.length).any (fun i=>bs.getD i false)=bs.any id:=by
 rw [Bool.eq_iff_iff]
 simp only [List.any_eq_true,List.mem_range,id]
 constructor
 ·rintro ⟨i,hi,e⟩
  rw [List.getD_eq_getElem?_getD] at e
  simp only [List.getElem?_eq_getElem hi,Option.getD_some] at e
  exact ⟨_,List.getElem_mem hi,e⟩
 ·rintro ⟨b,hb,e⟩
  obtain ⟨i,hi,e'⟩:=List.mem_iff_getElem.mp hb
  refine ⟨i,hi,?_⟩
  rw [List.getD_eq_getElem?_getD]
  simp only [List.getElem?_eq_getElem hi,Option.getD_some]
  rw [e',e]
def rAll (K:PySem.W.Frag) (f:List Bool→Bool):List V→Hp→VK→Prop:=fun xs H Q=>∃ a bs,xs=[.ref a]∧SqL K H a (bs.map V.bl)∧Q (.bl (f bs)) H
theorem call_all (hc:X.calm=true):CallR X (.builtin "all") (rAll X.K fun bs=>bs.all id):=by
 intro pins s σ H xs us Q I r h
 obtain ⟨a,bs,rfl,ha,q⟩:=h
 obtain ⟨u,rfl,ru⟩:=vals1 r
 cases ru
 obtain ⟨its,rv,p,hz⟩:=I.list ha
 have hl:=rv.length
 rw [List.length_map] at hl
 refine call_all_walk (wpAny_pyIter_list p.isList ?_)
 have hne:a≠s.heap.objs.size:=by
  obtain ⟨o,ho,_⟩:=p.isList
  exact Nat.ne_of_lt (Heap.lt_size ho)
 refine ⟨s.heap.objs.size,_,_,_,_,_,fun i=>bs.getD i false,rfl,Walks.list (A:=X.A.in1) (I.ok.hd hc) s.heap.objs.size a hne its.toArray,⟨⟨_,Heap.get?_push_size _ rfl,rfl,rfl⟩,?_⟩,?_,?_⟩
 ·obtain ⟨o,ho,r'⟩:=p.isList
  exact ⟨o,Heap.get?_push_of_some _ ho,r'⟩
 ·intro i v s' Q' E' hv hq
  have e:=bools_get rv i v (by simpa using hv)
  subst e
  exact wpAny_truthy_bool hq
 ·intro h' tk hk
  refine ⟨.bl (bs.all id),H,I.kept fun b o e=>hk b o ?_ (Heap.get?_push_of_some _ e),?_,q⟩
  ·have hb:=Heap.lt_size e
   intro z
   have z':b=s.heap.objs.size:=by simpa using z
   exact Nat.ne_of_lt hb z'
  ·have:its.toArray.size=bs.length:=by simp [hl]
   rw [this,range_all]
   rfl
theorem call_any (hc:X.calm=true):CallR X (.builtin "any") (rAll X.K fun bs=>bs.any id):=by
 intro pins s σ H xs us Q I r h
 obtain ⟨a,bs,rfl,ha,q⟩:=h
 obtain ⟨u,rfl,ru⟩:=vals1 r
 cases ru
 obtain ⟨its,rv,p,hz⟩:=I.list ha
 have hl:=rv.length
 rw [List.length_map] at hl
 refine call_any_walk (wpAny_pyIter_list p.isList ?_)
 have hne:a≠s.heap.objs.size:=by
  obtain ⟨o,ho,_⟩:=p.isList
  exact Nat.ne_of_lt (Heap.lt_size ho)
 refine ⟨s.heap.objs.size,_,_,_,_,_,fun i=>bs.getD i false,rfl,Walks.list (A:=X.A.in1) (I.ok.hd hc) s.heap.objs.size a hne its.toArray,⟨⟨_,Heap.get?_push_size _ rfl,rfl,rfl⟩,?_⟩,?_,?_⟩
 ·obtain ⟨o,ho,r'⟩:=p.isList
  exact ⟨o,Heap.get?_push_of_some _ ho,r'⟩
 ·intro i v s' Q' E' hv hq
  have e:=bools_get rv i v (by simpa using hv)
  subst e
  exact wpAny_truthy_bool hq
 ·intro h' tk hk
  refine ⟨.bl (bs.any id),H,I.kept fun b o e=>hk b o ?_ (Heap.get?_push_of_some _ e),?_,q⟩
  ·have hb:=Heap.lt_size e
   intro z
   have z':b=s.heap.objs.size:=by simpa using z
   exact Nat.ne_of_lt hb z'
  ·have:its.toArray.size=bs.length:=by simp [hl]
   rw [this,range_any]
   rfl
def CMulB (i j:Int):Prop:=Builtin.Int.intBits i≤2 ^ 20∧Builtin.Int.intBits j≤2 ^ 20
theorem op_mulB:OpR X (binaryOp .Mult) (rI CMulB fun i j=>.int (i * j)):=opI fun _ _ _ _ _ _ _ hc q=>mul_int q (IntMulOk.of_bits hc.1 hc.2)
def CDivB (i j:Int):Prop:=0<j∧j<4611686018427387904
theorem op_fdivB:OpR X (binaryOp .FloorDiv) (rI CDivB fun i j=>.int (i / j)):=opI fun i j _ _ _ _ _ hc q=>by
 have h1:(0:Int)<j:=hc.1
 have h2:j<4611686018427387904:=hc.2
 refine floordiv_int (by omega) (by rw [Int.fdiv_eq_ediv_of_nonneg i (by omega)];exact q) (.inl (PyProof.noPylong_of_log2 ?_))
 have h3:j.natAbs.log2<62:=(Nat.log2_lt (by omega)).mpr (by omega)
 omega
def rSlS:V→Option Int→Option Int→Hp→VK→Prop:=fun x lo hi H Q=>∃ z,x=.str z∧z.length≤sizeLine∧Q (.str (Txt.slice z lo hi)) H
theorem sl_str:SlR X rSlS:=by
 intro pins s σ H x v vl vu lo hi sl Q I rx hs pl pu h
 obtain ⟨z,rfl,hz,q⟩:=h
 obtain ⟨t,rfl⟩:=rx
 refine ⟨"str",_,F.slot_str_getitem.lookup,typeIs_str _ _ _,?_⟩
 have fin:∀ t' k,EP X pins σ Q (.str (Txt.slice z lo hi) t') { s with toks:=k }:=fun t' k=>⟨.str _,H,I.tok _,⟨_,rfl⟩,q⟩
 have hsz:=Nat.le_trans (Txt.slice_le z lo hi) hz
 obtain ⟨o,h1,h2,h3⟩:=hs
 cases pl with
 | none =>
  cases pu with
  | none=>exact wpAny_getItem_str_slice (l:=none) (u:=none) (st:=none) ⟨o,h1,h2,h3⟩ rfl (post_val_or_str ⟨hsz,fin⟩)
  | int j uj=>exact wpAny_getItem_str_slice (l:=none) (u:=some (j,uj)) (st:=none) ⟨o,h1,h2,h3⟩ rfl (post_val_or_str ⟨hsz,fin⟩)
 | int i ui =>
  cases pu with
  | none=>exact wpAny_getItem_str_slice (l:=some (i,ui)) (u:=none) (st:=none) ⟨o,h1,h2,h3⟩ rfl (post_val_or_str ⟨hsz,fin⟩)
  | int j uj=>exact wpAny_getItem_str_slice (l:=some (i,ui)) (u:=some (j,uj)) (st:=none) ⟨o,h1,h2,h3⟩ rfl (post_val_or_str ⟨hsz,fin⟩)
def rIsi (K:PySem.W.Frag):List V→Hp→VK→Prop:=fun xs H Q=>∃ x n t b,xs=[x,.ty n]∧TyOf K H x t∧PySem.W.kitOne K t (.type n)=some b∧Q (.bl b) H
theorem call_isi:CallR X (.builtin "isinstance") (rIsi X.K):=by
 intro pins s σ H xs us Q I r h
 obtain ⟨x,n,t,b,rfl,ty,e,q⟩:=h
 obtain ⟨u,w',rfl,r1,r2⟩:=vals2 r
 cases r2
 exact isinst_ok I r1 ty e fun tk=>⟨.bl b,H,I.tok _,rfl,q⟩
end
def compT (osc:Scope) (on:List Str) (scope:Scope) (frees:List Str) (js:List Nat):Bool :=
 (scope.kind == .function)&&scope.names.all (fun y=>y.2 != .cell)&&scope.names.all (fun y=>y.2 != .local || scope.names.lookup y.1 == some .local) &&
 scope.names.all (fun y=>y.2 != .free || (osc.names.lookup y.1 == some .cell || osc.names.lookup y.1 == some .free))&&frees.all (fun x=>scope.names.lookup x == some .free)&&decide (js.map (fun j=>on[j]?)=frees.map some)
theorem Zay {X:Cx}{osc scope:Scope}{on own frees:List Str}{js:List Nat}(h:compT osc on scope frees js=true) (h1:X.env.scope=osc) (h2:X.N=on) (h3:X.calm=true):CompOk X scope own frees js:=by
 subst h1
 subst h2
 unfold compT at h
 simp only [Bool.and_eq_true,List.all_eq_true,decide_eq_true_eq,Bool.or_eq_true,bne_iff_ne,beq_iff_eq,ne_eq] at h
 obtain ⟨⟨⟨⟨⟨a,b⟩,c⟩,d⟩,e⟩,f⟩:=h
 exact ⟨h3,a,b,fun y hy z=>(c y hy).resolve_left (fun q=>q z),fun y hy z=>(d y hy).resolve_left (fun q=>q z),e,f⟩
def tCut (t u:TS):TS:=fun D σ H=>∃ M:St→Hp→Prop,t { D with nx:=M } σ H∧∀ σ' H',M σ' H'→u D σ' H'
theorem Zbq {X:Cx}{st:Stmt}{Zee:List Stmt}{t u:TS} (h1:PS X st t) (h2:PSs X Zee u):PSs X (st :: Zee) (tCut t u):=by
 intro pins s σ H D I h
 obtain ⟨M,h,hM⟩:=h
 refine wpAny_execs_cons (thn (h1 pins s σ H { D with nx:=M } I h) fun f s1 q=>?_)
 cases f with
 | next =>
  obtain ⟨σ',H',I',q⟩:=q
  exact h2 pins s1 σ' H' D I' (hM _ _ q)
 | ret v=>exact q
 | brk=>exact q
 | cont=>exact q
structure Def (K:PySem.W.Frag) (mg:Str→Option Value) (x:Str) (st:Stmt) (ps:List Str) (f:Addr) (fd:FuncData):Prop where
 fn:Fun K x x st f fd
 b:Binds K fd ps []
 m:mg x=some (.ref f)
theorem Zaf {X:Cx}{k:Nat}{f:Addr}{fd:FuncData}{ps:List Str}{sp:Sp}{x:Str}{st:Stmt}{p pos:Pos}{e:Expr}{es:List Expr}{t:TA}(d:Def X.K X.mg x st ps f fd) (F:Za0 X.prog X.w X.K X.mg X.base CX0 k f fd ps sp) (hr:Zdp k X.A)
  (ha:PA X (e :: es) t) (hg:Gl X x:=by rfl) (hdb:(x == ("__debug__":Str))=false:=by decide) (he:starEach (e :: es) X.env=(false,eval e X.env):: starEach es X.env:=by rfl) (hpl:(backTo pos (starEach es X.env)).any (·.1)=false:=by rfl):
  PE X (.Call (.Name x p) (e :: es) [] pos) (tCall sp [] E0 t):=pe_call F hr hg d.m d.fn.kp d.b .nil pass0 ha hdb he hpl
theorem sL {n:Nat}(h:n≤100000):n≤sizeLine:=by rw [sizeLine_eq];omega
end L2
namespace L2
open PySem PySem.Spec PyProof.Rows PySem.W
mutual
inductive Rep (K:PySem.W.Frag) (H:Hp):V→Dat→Prop
 | none:Rep K H .non .none
 | bool (b:Bool):Rep K H (.bl b) (.bool b)
 | int (i:Int):Rep K H (.int i) (.int i)
 | str (x:Str):Rep K H (.str x) (.str x)
 | tuple {a:Addr} {xs:List V} {ds:List Dat}:SqT K H a xs→Reps K H xs ds→Rep K H (.ref a) (.tuple ds)
 | list {a:Addr} {xs:List V} {ds:List Dat}:SqL K H a xs→Reps K H xs ds→Rep K H (.ref a) (.list ds)
inductive Reps (K:PySem.W.Frag) (H:Hp):List V→List Dat→Prop
 | nil:Reps K H [] []
 | cons {v:V} {vs:List V} {d:Dat} {ds:List Dat}:Rep K H v d→Reps K H vs ds→Reps K H (v :: vs) (d :: ds)
end
theorem Zan.tup {K:PySem.W.Frag}{H H':Hp}{a:Addr}{xs:List V}(e:Zan H H') (h:SqT K H a xs):SqT K H' a xs:=by
 rcases h with (h | ⟨o,h⟩) | h
 ·exact .inl (.inl (e _ _ h))
 ·exact .inl (.inr ⟨o,e _ _ h⟩)
 ·exact .inr h
mutual
theorem Rep.mono {K:PySem.W.Frag}{H H':Hp}(e:Zan H H'):∀ {v:V}{d:Dat},Rep K H v d→Rep K H' v d
 | _,_,.none=>.none
 | _,_,.bool b=>.bool b
 | _,_,.int i=>.int i
 | _,_,.str x=>.str x
 | _,_,.tuple h r=>.tuple (e.tup h) (Reps.mono e r)
 | _,_,.list h r=>.list (e.seq h) (Reps.mono e r)
theorem Reps.mono {K:PySem.W.Frag}{H H':Hp}(e:Zan H H'):∀ {vs:List V}{ds:List Dat},Reps K H vs ds→Reps K H' vs ds
 | _,_,.nil=>.nil
 | _,_,.cons h r=>.cons (Rep.mono e h) (Reps.mono e r)
end
section
variable {X:Cx} {pins:List (Addr×Obj)} {σ:St} {H:Hp} {s:Shared}
mutual
theorem Rep.reads (I:Inv X pins σ H s):∀ {v:V}{d:Dat}{u:Value},Rep X.K H v d→Zcy v u→∃ as,Reads s.heap u (kqdP d) as
 | _,_,_,.none,r=>by cases (show _=Value.none from r);rw [kqdP];exact ⟨_,Reads.none⟩
 | _,_,_,.bool b,r=>by cases (show _=Value.bool b from r);rw [kqdP];exact ⟨_,Reads.bool b⟩
 | _,_,_,.int i,r=>by obtain ⟨t,e⟩:=(show ∃ t,_=Value.int i t from r);cases e;rw [kqdP];exact ⟨_,Reads.int i t⟩
 | _,_,_,.str x,r=>by obtain ⟨t,e⟩:=(show ∃ t,_=Value.str x t from r);cases e;rw [kqdP];exact ⟨_,Reads.str x t⟩
 | _,_,_,.tuple (a:=a) h q,r=>by
  cases (show _=Value.ref a from r)
  obtain ⟨its,rv,⟨o,e,c,n,d⟩,_⟩:=I.tuple h
  obtain ⟨as,p⟩:=Reps.reads I q rv
  rw [kqdP]
  exact ⟨as,reads_tuple_at e c d (by simpa using p)⟩
 | _,_,_,.list (a:=a) h q,r=>by
  cases (show _=Value.ref a from r)
  obtain ⟨its,rv,⟨o,n,e,c,_,d⟩,_⟩:=I.list h
  obtain ⟨as,p⟩:=Reps.reads I q rv
  rw [kqdP]
  exact ⟨_,reads_list_at e c d (by simpa using p)⟩
theorem Reps.reads (I:Inv X pins σ H s):∀ {vs:List V}{ds:List Dat}{us:List Value},Reps X.K H vs ds→Zcg vs us→∃ as,ReadsAll s.heap us (kqdPs ds) as
 | _,_,_,.nil,r=>by cases r;rw [kqdPs];exact ⟨_,ReadsAll.nil⟩
 | _,_,_,.cons h q,r=>by
  cases r with
  | cons r1 r2 =>
   obtain ⟨as,p⟩:=Rep.reads I h r1
   obtain ⟨bs,t⟩:=Reps.reads I q r2
   rw [kqdPs]
   exact ⟨_,ReadsAll.cons p t⟩
end
end
noncomputable def dEq (d e:Dat):Bool:=@decide (d=e) (Classical.propDecidable _)
theorem Zd2 (d:Dat):dEq d d=true:=by unfold dEq;exact @decide_eq_true _ (Classical.propDecidable _) rfl
theorem dEq_pos {d e:Dat}(h:d=e):dEq d e=true:=by rw [h];exact Zd2 e
theorem dEq_neg {d e:Dat}(h:d≠e):dEq d e=false:=by unfold dEq;exact @decide_eq_false _ (Classical.propDecidable _) h
theorem eqv_dEq {d e:Dat}{n k:Nat} (h1:kqdOk n d=true) (h2:kqdOk k e=true):PyData.eqv (kqdP d) (kqdP e)=dEq d e:=by
 have q:=kqd_eqv n d e k h1 h2
 by_cases h:d=e
 ·rw [dEq_pos h];exact q.mpr h
 ·rw [dEq_neg h];exact Bool.eq_false_iff.mpr fun x=>h (q.mp x)
theorem Zd4 {d:Dat}(h:kqdOk 9 d=true):SeqAt.shaped (kqdP d)=true:=by
 have l:=kqd_lay 9 d h
 unfold SeqAt.shaped
 rw [l.1,Bool.true_and]
 exact decide_eq_true (Nat.le_trans l.2 (by decide))
section
variable {X:Cx}
noncomputable def rEqD (K:PySem.W.Frag) (f:Bool→Bool):R2:=fun x y H Q=>∃ d e,Rep K H x d∧Rep K H y e∧kqdOk 9 d=true∧kqdOk 9 e=true∧Q (.bl (f (dEq d e))) H
theorem op_eqD (hu:X.A.units + 64<cLine):OpR X (compareOp .Eq) (rEqD X.K id):=by
 intro pins s σ H x y v u Q I rx ry h
 obtain ⟨d,e,h1,h2,k1,k2,q⟩:=h
 obtain ⟨as,ra⟩:=h1.reads I rx
 obtain ⟨bs,rb⟩:=h2.reads I ry
 exact eq_dataH ra rb (Zd4 k1) (Zd4 k2) hu (Zbi I q (by rw [eqv_dEq k1 k2];rfl))
theorem op_neD (hu:X.A.units + 64<cLine):OpR X (compareOp .NotEq) (rEqD X.K Bool.not):=by
 intro pins s σ H x y v u Q I rx ry h
 obtain ⟨d,e,h1,h2,k1,k2,q⟩:=h
 obtain ⟨as,ra⟩:=h1.reads I rx
 obtain ⟨bs,rb⟩:=h2.reads I ry
 exact ne_dataH ra rb (Zd4 k1) (Zd4 k2) hu (Zbi I q (by rw [eqv_dEq k1 k2]))
end
end L2
namespace L2
open PySem PySem.Spec PyProof.Rows
section
variable {X:Cx} {pins:List (Addr×Obj)} {σ:St} {H H':Hp} {s:Shared} {a:Addr} {kvs:List (Key×V)} {o:Obj}
theorem Inv.reH (I:Inv X pins σ H s) (base:Un X.fs X.ex X.H₀ H' X.s₀.heap s.heap) (hn:∀ b,H b=none→H' b=none) (hok:HOk X.prog X.w H' s.heap):Inv X pins σ H' s :=
 ⟨I.ok,I.os,I.bare,base,I.loc,I.cell,hn _ I.free,fun x c e=>hn _ (I.freeC x c e),fun p hp=>by
  obtain ⟨e,n,r⟩:=I.pin p hp
  exact ⟨e,hn _ n,r⟩,hok,I.len⟩
theorem Inv.reAt {u u':HO}(I:Inv X pins σ H s) (h:H a=some u) (nt:∀ xs,u≠.tup xs) (no:∀ y,u≠.own y) (nb:∀ ps,u≠.tbl ps) (nf:∀ o v,X.H₀ a≠some (.frz o v))
  (ok:Zcv X.prog X.w H s.heap a u→Zcv X.prog X.w (upd H a u') s.heap a u'):Inv X pins σ (upd H a u') s:=by
 have hn:∀ b,H b=none→upd H a u' b=none:=fun b e=>by
  rw [Zac]
  ·exact e
  ·rintro rfl;rw [h] at e;cases e
 refine I.reH ⟨I.base.keep,I.base.slot,fun b ob e n hx=>hn b (I.base.free b ob e n hx),I.base.there,fun b xs e=>?_,fun b ob v e=>?_,fun b ps e=>?_⟩ hn ?_
 ·have q:=I.base.tups b xs e
  rw [Zac]
  ·exact q
  ·rintro rfl;rw [h] at q;exact nt xs (Option.some.inj q)
 ·have q:=I.base.frzs b ob v e
  rw [Zac]
  ·exact q
  ·rintro rfl;exact nf ob v e
 ·obtain ⟨m,q⟩:=I.base.tbls b ps e
  refine ⟨m,?_⟩
  rw [Zac]
  ·exact q
  ·rintro rfl;rw [h] at q;exact nb _ (Option.some.inj q)
 ·intro b v e
  by_cases hb:b=a
  ·subst hb
   rw [uS] at e
   cases e
   exact ok (I.hok b u h)
  ·rw [Zac hb] at e
   refine (I.hok b v e).stay (fun _ _ _ q=>q) (fun c q=>?_) fun c xs q=>?_
   ·rw [Zac]
    ·exact q
    ·rintro rfl;rw [h] at q;exact no _ (Option.some.inj q)
   ·rw [Zac]
    ·exact q
    ·rintro rfl;rw [h] at q;exact nt _ (Option.some.inj q)
theorem Inv.freeze (I:Inv X pins σ H s) (h:H a=some (.dK kvs)) (ho:s.heap.get? a=some o):Inv X pins σ (upd H a (.frz o (.dK kvs))) s∧∀ o' v,X.H₀ a≠some (.frz o' v):=by
 have nf:∀ o' v,X.H₀ a≠some (.frz o' v):=fun o' v e=>by
  have q:=I.base.frzs a o' v e
  rw [h] at q
  cases q
 refine ⟨I.reAt h (fun _ z=>nomatch z) (fun _ z=>nomatch z) (fun _ z=>nomatch z) nf fun k=>⟨ho,k.stay (fun _ _ _ q=>q) (fun c q=>?_) fun c xs q=>?_⟩,nf⟩
 ·rw [Zac]
  ·exact q
  ·rintro rfl;rw [h] at q;cases q
 ·rw [Zac]
  ·exact q
  ·rintro rfl;rw [h] at q;cases q
theorem relKey {P:Program}{w:World}{k:Key}{u:Value}(h:(Zb6 P w).is k u=true):Zcy (kV k) u:=by
 rcases Zcj (show keyIs k u=true from h) with ⟨i,t,rfl,rfl⟩ | ⟨x,t,rfl,rfl⟩
 ·exact ⟨t,rfl⟩
 ·exact ⟨t,rfl⟩
end
def Itk (a:Addr) (o:Obj) (kvs:List (Key×V)):It :=
 ⟨fun i H=>i<kvs.length∧H a=some (.frz o (.dK kvs)),fun i H v H'=>H'=H∧∃ p,kvs[i]?=some p∧v=kV p.1,fun i H=>kvs.length≤i∧H a=some (.frz o (.dK kvs))⟩
def Itv (a:Addr) (o:Obj) (kvs:List (Key×V)):It :=
 ⟨fun i H=>i<kvs.length∧H a=some (.frz o (.dK kvs)),fun i H v H'=>H'=H∧∃ p,kvs[i]?=some p∧v=p.2,fun i H=>kvs.length≤i∧H a=some (.frz o (.dK kvs))⟩
theorem KV.get {κ:Type}:∀ {kvs:List (κ×V)}{vs:List (κ×Value)},KV kvs vs→∀ {i:Nat}{p:κ×V},kvs[i]?=some p→∃ u,vs[i]?=some (p.1,u)∧Zcy p.2 u
 | _,_,.nil,i,p,h=>by simp at h
 | _,_,.cons r t,0,p,h=>by
  simp at h
  subst h
  exact ⟨_,by simp [r.1],r.2⟩
 | _,_,.cons r t,i + 1,p,h=>by
  obtain ⟨u,h1,h2⟩:=KV.get t (i:=i) (p:=p) (by simpa using h)
  exact ⟨u,by simpa using h1,h2⟩
theorem frz_dict {P:Program}{w:World}{H:Hp}{h:Heap}{a:Addr}{o:Obj}{kvs:List (Key×V)}{es:Array DictEntry}{ep:Nat}(ok:Zcv P w H h a (.frz o (.dK kvs))) (hd:o.data=.dict es ep):
  (a == sysModules)=false∧∃ vs,KV kvs vs∧h.DictAt (Zb6 P w) a vs ep:=by
 obtain ⟨ho,z,hs,vs,r,o',es',ep',h1,h2,h3,h4,h5,h6⟩:=ok
 rw [ho] at h1
 cases h1
 rw [hd] at h3
 cases h3
 exact ⟨hs,vs,r,o,es,ho,h2,hd,h4,h5,h6⟩
theorem turn_keys {P:Program}{w:World}{K:PySem.W.Frag}{tg:Expr} (a it:Addr) (o:Obj) (kvs:List (Key×V)) (es:Array DictEntry) (ep:Nat) (hd:o.data=.dict es ep):
  Turn P w K tg (Itk a o kvs) [it] it (fun i h=>h.IsKeyIter it a i kvs.length ep) where
 mem:=by simp
 obj:=fun i h st b hb=>by
  have e:b=it:=by simpa using hb
  subst e
  obtain ⟨o,e,c,d⟩:=st
  exact ⟨o,e,fun v z=>by rw [d] at z;cases z⟩
 keep:=fun i h h' st k=>by
  obtain ⟨o,ho,r⟩:=st
  exact ⟨o,k it (by simp) o ho,r⟩
 item:=by
  intro X hP hw hK hc i pins s σ H E I hf st hg
  subst hP hw hK
  obtain ⟨f0,f1,f2,f3,f4,f5⟩:=hf it (by simp)
  obtain ⟨hi,ha⟩:=hg
  obtain ⟨_,vs,r,dd⟩:=frz_dict (I.hok a _ ha) hd
  obtain ⟨p,hp⟩:∃ p,kvs[i]?=some p:=⟨kvs[i],by simp [hi]⟩
  obtain ⟨u,hu,ru⟩:=r.get hp
  have hl:kvs.length=vs.length:=Paired.length r
  rw [hl] at st
  refine wpAny_pyNext_dict_item st dd hu fun key h' hk st' sb=>?_
  have I1:Inv X pins σ H { s with heap:=h' }:=I.turned (t':=s.toks) (fun b o hb e=>(sb.2 b hb).trans e) f0 f1 f3 f4 f5
  obtain ⟨o',e,c,d⟩:=id st'
  rw [← hl] at st'
  exact ⟨key,rfl,go_of (s:={ s with heap:=h' }) e c d (by decide) ⟨kV p.1,H,I1,relKey hk,⟨rfl,p,hp,rfl⟩,st',fun b hb=>(hf b hb).1⟩⟩
 done:=by
  intro X hP hw hK hc i pins s σ H E I hf st hg
  subst hP hw hK
  obtain ⟨f0,f1,f2,f3,f4,f5⟩:=hf it (by simp)
  obtain ⟨hi,ha⟩:=hg
  obtain ⟨_,vs,r,dd⟩:=frz_dict (I.hok a _ ha) hd
  have hl:kvs.length=vs.length:=Paired.length r
  rw [hl] at st
  exact wpAny_pyNext_dict_end (I.ok.hd hc) st dd (by simp;omega) fun h' eb=>⟨rfl,I.turned (t':=s.toks) (fun b o hb e=>eb b o hb e) f0 f1 f3 f4 f5⟩
 self:=fun _ _ _ _ _ st h=>wpAny_pyIter_keyiter st h
theorem turn_vals {P:Program}{w:World}{K:PySem.W.Frag}{tg:Expr} (a it:Addr) (o:Obj) (kvs:List (Key×V)) (es:Array DictEntry) (ep:Nat) (hd:o.data=.dict es ep):
  Turn P w K tg (Itv a o kvs) [it] it (fun i h=>h.IsValIter it a i kvs.length ep) where
 mem:=by simp
 obj:=fun i h st b hb=>by
  have e:b=it:=by simpa using hb
  subst e
  obtain ⟨o,e,c,d⟩:=st
  exact ⟨o,e,fun v z=>by rw [d] at z;cases z⟩
 keep:=fun i h h' st k=>by
  obtain ⟨o,ho,r⟩:=st
  exact ⟨o,k it (by simp) o ho,r⟩
 item:=by
  intro X hP hw hK hc i pins s σ H E I hf st hg
  subst hP hw hK
  obtain ⟨f0,f1,f2,f3,f4,f5⟩:=hf it (by simp)
  obtain ⟨hi,ha⟩:=hg
  obtain ⟨_,vs,r,dd⟩:=frz_dict (I.hok a _ ha) hd
  obtain ⟨p,hp⟩:∃ p,kvs[i]?=some p:=⟨kvs[i],by simp [hi]⟩
  obtain ⟨u,hu,ru⟩:=r.get hp
  have hl:kvs.length=vs.length:=Paired.length r
  rw [hl] at st
  refine wpAny_pyNext_values_item st dd hu fun h' st' sb=>?_
  have I1:Inv X pins σ H { s with heap:=h' }:=I.turned (t':=s.toks) (fun b o hb e=>(sb.2 b hb).trans e) f0 f1 f3 f4 f5
  obtain ⟨o',e,c,d⟩:=id st'
  rw [← hl] at st'
  exact ⟨u,rfl,go_of (s:={ s with heap:=h' }) e c d (by decide) ⟨p.2,H,I1,ru,⟨rfl,p,hp,rfl⟩,st',fun b hb=>(hf b hb).1⟩⟩
 done:=by
  intro X hP hw hK hc i pins s σ H E I hf st hg
  subst hP hw hK
  obtain ⟨f0,f1,f2,f3,f4,f5⟩:=hf it (by simp)
  obtain ⟨hi,ha⟩:=hg
  obtain ⟨_,vs,r,dd⟩:=frz_dict (I.hok a _ ha) hd
  have hl:kvs.length=vs.length:=Paired.length r
  rw [hl] at st
  exact wpAny_pyNext_values_end (I.ok.hd hc) st dd (by simp;omega) fun h' eb=>⟨rfl,I.turned (t':=s.toks) (fun b o hb e=>eb b o hb e) f0 f1 f3 f4 f5⟩
 self:=fun _ _ _ _ _ st h=>wpAny_pyIter_valiter st h
def tFrz (t:TS):TS:=fun D σ H=>∃ a kvs,H a=some (.dK kvs)∧∀ o,t D σ (upd H a (.frz o (.dK kvs)))
theorem pss_frz {X:Cx}{sts:List Stmt}{t:TS}(h:PSs X sts t):PSs X sts (tFrz t):=by
 intro pins s σ H D I q
 obtain ⟨a,kvs,ha,q⟩:=q
 obtain ⟨o,ho⟩:∃ o,s.heap.get? a=some o:=by
  obtain ⟨_,_,vs,_,o,_,_,e,_⟩:=I.hok a _ ha
  exact ⟨o,e⟩
 exact h pins s σ _ D (I.freeze ha ho).1 (q o)
theorem frz_data {P:Program}{w:World}{H:Hp}{h:Heap}{a:Addr}{o:Obj}{kvs:List (Key×V)}(ok:Zcv P w H h a (.frz o (.dK kvs))):∃ es ep,o.data=.dict es ep:=by
 obtain ⟨ho,z,hs,vs,r,o',es',ep',h1,h2,h3,_⟩:=ok
 rw [ho] at h1
 cases h1
 exact ⟨es',ep',h3⟩
theorem runs_keys {a:Addr}{o:Obj}{kvs:List (Key×V)}:Runs (Itk a o kvs) (kvs.map fun p=>kV p.1) (fun H=>H a=some (.frz o (.dK kvs))) where
 go:=fun i x H ok hx=>by
  have:=(List.getElem?_eq_some_iff.mp hx).1
  rw [List.length_map] at this
  exact ⟨this,ok⟩
 yld:=fun i x H y H' ok hx h=>by
  obtain ⟨e,p,hp,hy⟩:=h
  rw [List.getElem?_map,hp] at hx
  exact ⟨hy.trans (Option.some.inj hx),e⟩
 stop:=fun H ok=>⟨by rw [List.length_map];exact Nat.le_refl _,ok⟩
theorem runs_vals {a:Addr}{o:Obj}{kvs:List (Key×V)}:Runs (Itv a o kvs) (kvs.map fun p=>p.2) (fun H=>H a=some (.frz o (.dK kvs))) where
 go:=fun i x H ok hx=>by
  have:=(List.getElem?_eq_some_iff.mp hx).1
  rw [List.length_map] at this
  exact ⟨this,ok⟩
 yld:=fun i x H y H' ok hx h=>by
  obtain ⟨e,p,hp,hy⟩:=h
  rw [List.getElem?_map,hp] at hx
  exact ⟨hy.trans (Option.some.inj hx),e⟩
 stop:=fun H ok=>⟨by rw [List.length_map];exact Nat.le_refl _,ok⟩
section
variable {X:Cx} {tg:Expr}
def iKeys (tl:TE):TI:=fun σ H R=>tl σ H fun x H1=>∃ a o kvs,x=.ref a∧H1 a=some (.frz o (.dK kvs))∧R (Itk a o kvs) H1
theorem pi_keys {l:Expr}{tl:TE}(hl:PE X l tl):PI X tg l (iKeys tl):=by
 intro pins s σ H R I h
 refine thn (hl pins s σ H _ I h) fun v s1 ⟨x,H1,I1,r1,q1⟩=>?_
 obtain ⟨a,o,kvs,e,ha,q⟩:=q1
 subst e
 cases r1
 obtain ⟨es,ep,hd⟩:=frz_data (I1.hok a _ ha)
 obtain ⟨hs,vs,r,dd⟩:=frz_dict (I1.hok a _ ha) hd
 have hl:kvs.length=vs.length:=Paired.length r
 refine wpAny_pyIter_dict hs dd ?_
 refine ⟨s1.heap.objs.size,[s1.heap.objs.size],_,_,H1,rfl,I1.kept (t':=s1.toks) fun b o e=>Heap.get?_push_of_some _ e,turn_keys a _ o kvs es ep hd,⟨_,Heap.get?_push_size _ rfl,rfl,by rw [hl];rfl⟩,fun b hb=>?_,q⟩
 have e:b=s1.heap.objs.size:=by simpa using hb
 subst e
 exact I1.fpOk (Nat.le_refl _) (I1.hok.fresh (Nat.le_refl _))
end
end L2
namespace L2
open PySem PySem.Spec PyProof.Rows
theorem small_line' {n:Nat}(h:n≤10000000):n≤sizeLine:=by rw [sizeLine_eq];omega
theorem vals_of:∀ {xs:List V}{us:List Value},xs.length=us.length→(∀ (i:Nat) (v:V) (u:Value),xs[i]?=some v→us[i]?=some u→Zcy v u)→Zcg xs us
 | [],[],_,_=>.nil
 | [],_ :: _,h,_=>by simp at h
 | _ :: _,[],h,_=>by simp at h
 | x :: xs,u :: us,h,k=>.cons (k 0 x u rfl rfl) (vals_of (by simpa using h) fun i v w hv hw=>k (i + 1) v w (by simpa using hv) (by simpa using hw))
theorem comp_rel {J:It}{xs:List V}{Ok:Hp→Prop}(R:Runs J xs Ok) {js:List Nat}{tt:TT}{te:TE}{σ:St}{Q:VK}{H1:Hp}(hz:xs.length≤sizeLine) (p:V→Bool) (F:Addr→V→V→Hp→Prop)
  (hF:∀ D x v H H',(∀ b o,b≠D→H b=some o→H' b=some o)→F D x v H→F D x v H')
  (hok:∀ H,Zan H1 H→Ok H)
  (ht:∀ x H (R:Bool→Hp→Prop),Zan H1 H→x∈xs→(∀ H',Zan H H'→R (p x) H')→tt (some x :: js.map fun j=>(σ[j]?).join) H R)
  (he:∀ D x H (R:V→Hp→Prop),Zan H1 H→(∃ ys,H D=some (.lst ys))→H1 D=none→x∈xs→p x=true→(∀ v H',Zan H H'→F D x v H'→R v H')→te (some x :: js.map fun j=>(σ[j]?).join) H R)
  (hd:∀ D H' ys,H1 D=none→Zan H1 H'→H' D=some (.lst ys)→Paired (fun x v=>F D x v H') (xs.filter p) ys→Q (.ref D) H'):
  compBody 1 js (gName 0) tt te σ Q J H1:=by
 refine Zek R hz (fun D i ys σ' H=>H1 D=none∧Zan H1 H∧H D=some (.lst ys)∧Paired (fun x v=>F D x v H) ((xs.take i).filter p) ys∧∃ o,σ'=o :: js.map fun j=>(σ[j]?).join) ?_ ?_ ?_ ?_
 ·intro D hD
  exact ⟨hD,fun b o e=>by rw [Zac (nNo e hD)];exact e,uS,by simpa using Paired.nil,none,rfl⟩
 ·rintro D i ys σ' H hi ⟨hD,hs,hl,hp,_⟩
  refine ⟨hok H hs,?_⟩
  rw [← hp.length]
  exact Nat.le_trans (List.length_filter_le _ _) (by rw [List.length_take];omega)
 ·rintro D i x ys σ' H hD hx ⟨_,hs,hl,hp,o,rfl⟩
  show tt (some x :: js.map fun j=>(σ[j]?).join) H _
  have hm:x∈xs:=List.mem_of_getElem? hx
  refine ht x H _ hs hm fun H4 s4=>?_
  have hs4:Zan H1 H4:=hs.trans s4
  have mono:∀ {H H':Hp},(∀ b o,b≠D→H b=some o→H' b=some o)→Paired (fun x v=>F D x v H) ((xs.take i).filter p) ys→Paired (fun x v=>F D x v H') ((xs.take i).filter p) ys:=fun h q=>Paired.mapP q fun a b z=>hF D a b _ _ h z
  cases hpx:p x with
  | true =>
   rw [if_pos rfl]
   refine he D x H4 _ hs4 ⟨_,s4 _ _ hl⟩ hD hm hpx fun v H5 s5 f5=>⟨s5 _ _ (s4 _ _ hl),hD,fun b o e=>?_,uS,?_,_,rfl⟩
   ·rw [Zac (nNo e hD)]
    exact s5 _ _ (hs4 _ _ e)
   ·rw [take_succ_filter p xs i x hx,hpx,if_pos rfl]
    refine Paired.snoc (mono (fun b o hb e=>by rw [Zac hb];exact s5 _ _ (s4 _ _ e)) hp) (hF D _ _ _ _ (fun b o hb e=>by rw [Zac hb];exact e) f5)
  | false =>
   rw [if_neg Bool.false_ne_true]
   refine ⟨hD,hs4,s4 _ _ hl,?_,_,rfl⟩
   rw [take_succ_filter p xs i x hx,hpx,if_neg Bool.false_ne_true,List.append_nil]
   exact mono (fun b o _ e=>s4 _ _ e) hp
 ·rintro D ys σ' H hD ⟨_,hs,hl,hp,_⟩
  rw [List.take_length] at hp
  exact hd D H ys hD hs hl hp
section
variable {X:Cx}
def rInsert:V→List V→Hp→VK→Prop:=fun x vs H Q=>∃ l xs i y,x=.ref l∧vs=[.int i,y]∧H l=some (.lst xs)∧0≤i∧i≤xs.length∧xs.length<sizeLine∧Q .non (upd H l (.lst (xs.take i.toNat++y :: xs.drop i.toNat)))
theorem Zej:MtM X "list.insert" rInsert:=by
 intro pins s σ H x vs v us Q I rx rv h
 obtain ⟨l,xs,i,y,rfl,rfl,hH,h0,h1,hz,q⟩:=h
 cases rx
 obtain ⟨u,w',rfl,⟨t,rfl⟩,ru⟩:=vals2 rv
 obtain ⟨z,its,n,r,hl,e⟩:=I.lstM hH
 have hs:sizeLine=16777216:=sizeLine_eq
 have hc:¬ (!Builtin.List.listFitsIndex i)=true:=by
  have:Builtin.List.listFitsIndex i=true:=by
   unfold Builtin.List.listFitsIndex
   simp
   omega
  rw [this]
  decide
 refine call_meets F.slot_list_insert ⟨_,e,rfl⟩ F.entry_list_insert (F.args_list_insert_3 _ _ _) (PySem.AutoSeq1.list_insert_list_int_val_1 l its.toArray n i t w' hc (by rw [List.size_toArray];omega)) ⟨e,?_⟩
 have hk:(if i<0 then (i + (its.toArray.size:Int)).toNat else min i.toNat its.toArray.size)=i.toNat:=by
  rw [if_neg (by omega),List.size_toArray]
  omega
 refine ⟨.non,_,I.lset (its':=its.take i.toNat++w' :: its.drop i.toNat) hH e ?_ ?_ ?_,rfl,q⟩
 ·show (its.toArray.extract 0 (if i<0 then (i + (its.toArray.size:Int)).toNat else min i.toNat its.toArray.size)).push w'++its.toArray.extract (if i<0 then (i + (its.toArray.size:Int)).toNat else min i.toNat its.toArray.size)=_
  rw [hk]
  apply Array.ext'
  simp
  exact List.take_of_length_le (by rw [List.length_drop];exact Nat.le_refl _)
 ·exact (r.take _).append (.cons ru (r.drop _))
 ·rw [List.length_append,List.length_cons,List.length_take,List.length_drop]
  omega
theorem pe_listRange {a:Expr}{ta:TE}{p1 p2 pos1 pos2:Pos}(hc:X.calm=true) (ha:PE X a ta) (hg1:Gl X "list") (hm1:X.mg "list"=none) (hg2:Gl X "range") (hm2:X.mg "range"=none)
  (hs:starEach [a] X.env=[(false,eval a X.env)]:=by rfl)
  (hs2:starEach [.Call (.Name "range" p2) [a] [] pos2] X.env=[(false,eval (.Call (.Name "range" p2) [a] [] pos2) X.env)]:=by rfl):
  PE X (.Call (.Name "list" p1) [.Call (.Name "range" p2) [a] [] pos2] [] pos1) (fun σ H Q=>tCons ta tNil σ H fun vs H1=>∃ j:Int,vs=[.int j]∧0≤j∧j≤1000000∧∀ l,H1 l=none→Q (.ref l) (upd H1 l (.lst (Zdi 0 j.toNat)))):=by
 intro pins s σ H Q I h
 refine wpAny_Call_Name_kw (ld_blt I hg1 hm1 PyProof.Rows.boot_list ?_ (by decide) (by decide))
 refine PyProof.Rows.callWith_type1 ?_ hs2 rfl
 refine Calls.spliced_cons ?_
 refine wpAny_Call_Name_kw (ld_blt I hg2 hm2 boot_range ?_ (by decide) (by decide))
 refine PyProof.Rows.callWith_type1 ?_ hs rfl
 have pa:PA X [a] (tCons ta tNil):=pC ha Zaa hs
 refine thn (pa pos2 pins s σ H (fun vs H1=>∃ j:Int,vs=[.int j]∧0≤j∧j≤1000000∧∀ l,H1 l=none→Q (.ref l) (upd H1 l (.lst (Zdi 0 j.toNat)))) I h) fun us s1 ⟨vs,H1,I1,r1,q1⟩=>?_
 obtain ⟨j,e,h0,h1,q⟩:=q1
 subst e
 obtain ⟨u,rfl,t,rfl⟩:=vals1 r1
 refine call_range_1 (Calls.spliced_nil ?_)
 have I2:Inv X pins σ H1 { s1 with heap:=s1.heap.push { cls:=.type "range",data:=.fields #[.int 0 s1.toks,.int j t,.int 1 (s1.toks + 1)] },toks:=s1.toks + 1 + 1 }:=I1.kept fun b o e=>Heap.get?_push_of_some _ e
 refine call_list_range (n:=j.toNat) (I1.ok.hd hc) (IsRange.new ..) (small_one (by decide) (by decide) (by omega) (by omega)) (by rw [rangeSize_one];split <;> omega) (by omega) fun h' tk acc' c' hk hS' hacc=>?_
 obtain ⟨a1,a2⟩:=hacc
 have hnew:H1 (s1.heap.push { cls:=.type "range",data:=.fields #[.int 0 s1.toks,.int j t,.int 1 (s1.toks + 1)] }).objs.size=none:=I2.hok.fresh (Nat.le_refl _)
 refine ⟨.ref _,_,I2.laid (o:=.lst (Zdi 0 j.toNat)) hk (Nat.le_refl _) ⟨?_,acc'.toList,c',?_,by simpa using hS'⟩,rfl,q _ hnew⟩
 ·rw [Zat]
  exact small_line' (by omega)
 ·have len:(Zdi 0 j.toNat).length=acc'.toList.length:=by rw [Zat,Array.length_toList,a1]
  exact vals_of len fun i v u hv hu=>by
   obtain ⟨hi,e⟩:=Za4 hv
   obtain ⟨t',e'⟩:=a2 i u (by rw [← Array.getElem?_toList];exact hu)
   rw [e,e']
   exact ⟨t',by rw [Int.mul_one]⟩
end
end L2
namespace Graph
variable {α:Type} [DecidableEq α]
inductive Reach (ups:α→List α):α→α→Prop
 | refl (a:α):Reach ups a a
 | step {a b c:α}:b∈ups a→Reach ups b c→Reach ups a c
theorem Reach.trans {ups:α→List α}{a b c:α}(h:Reach ups a b) (k:Reach ups b c):Reach ups a c:=by
 induction h with
 | refl=>exact k
 | step m _ ih=>exact .step m (ih k)
theorem Reach.one {ups:α→List α}{a b:α}(h:b∈ups a):Reach ups a b:=.step h (.refl b)
theorem Reach.snoc {ups:α→List α}{a b c:α}(h:Reach ups a b) (k:c∈ups b):Reach ups a c:=h.trans (.one k)
def kept (ups:α→List α) (left:List α):List α:=left.filter fun w=>(ups w).any fun u=>decide (u∈left)
theorem kept_sub {ups:α→List α}{left:List α}{w:α}(h:w∈kept ups left):w∈left:=(List.mem_filter.mp h).1
theorem kept_le (ups:α→List α) (left:List α):(kept ups left).length≤left.length:=List.length_filter_le _ _
theorem filter_all {p:α→Bool}:∀ {l:List α},(l.filter p).length=l.length→l.filter p=l
 | [],_=>rfl
 | a :: r,h=>by
  have hle:=List.length_filter_le p r
  rw [List.filter_cons] at h ⊢
  cases hp:p a with
  | true =>
   rw [hp,if_pos rfl,List.length_cons,List.length_cons] at h
   rw [if_pos rfl,filter_all (by omega)]
  | false =>
   rw [hp,if_neg Bool.false_ne_true,List.length_cons] at h
   omega
theorem min_rank (rk:α→Nat):∀ (l:List α),l≠[]→∃ m,m∈l∧∀ x∈l,rk m≤rk x
 | [],h=>absurd rfl h
 | a :: r,_=>by
  by_cases hr:r=[]
  ·subst hr
   exact ⟨a,by simp,fun x hx=>by simp at hx;subst hx;exact Nat.le_refl _⟩
  ·obtain ⟨m,hm,hx⟩:=min_rank rk r hr
   by_cases hc:rk a≤rk m
   ·refine ⟨a,by simp,fun x hx'=>?_⟩
    rcases List.mem_cons.mp hx' with e | e
    ·subst e;exact Nat.le_refl _
    ·exact Nat.le_trans hc (hx x e)
   ·refine ⟨m,List.mem_cons_of_mem _ hm,fun x hx'=>?_⟩
    rcases List.mem_cons.mp hx' with e | e
    ·subst e;omega
    ·exact hx x e
theorem kept_nil {ups:α→List α}{left:List α}{rk:α→Nat}(hr:∀ a∈left,∀ b∈ups a,rk b<rk a) (h:(kept ups left).length=left.length):left=[]:=by
 refine Classical.byContradiction fun hne=>?_
 obtain ⟨m,hm,hx⟩:=min_rank rk left hne
 have e:kept ups left=left:=filter_all h
 rw [← e] at hm
 obtain ⟨h1,h2⟩:=List.mem_filter.mp hm
 obtain ⟨u,hu,hd⟩:=List.any_eq_true.mp h2
 have hl:u∈left:=of_decide_eq_true hd
 have a:=hr m h1 u hu
 have b:=hx u hl
 omega
theorem nodup_le:∀ {l k:List α},l.Nodup→(∀ x∈l,x∈k)→l.length≤k.length
 | [],k,_,_=>Nat.zero_le _
 | a :: r,k,hn,hs=>by
  obtain ⟨h1,h2⟩:=List.nodup_cons.mp hn
  have ha:a∈k:=hs a (by simp)
  have:=nodup_le (k:=k.erase a) h2 fun x hx=>(List.mem_erase_of_ne (fun (e:x=a)=>h1 (by rw [← e];exact hx))).mpr (hs x (List.mem_cons_of_mem _ hx))
  rw [List.length_erase_of_mem ha] at this
  have hpos:0<k.length:=List.length_pos_of_mem ha
  rw [List.length_cons]
  omega
theorem closed_reach {ups:α→List α}{S:α→Prop}(hc:∀ x,S x→∀ y∈ups x,S y) {a b:α}(h:Reach ups a b) (ha:S a):S b:=by
 induction h with
 | refl=>exact ha
 | step m _ ih=>exact ih (hc _ ha _ m)
end Graph
namespace Md
open PySem L2
abbrev letters:Str:="abcdefghijklmnopqrstuvwxyz"
def isLow (c:Nat):Bool:=decide (97≤c∧c≤122)
def Za2 (x:Str):Bool:=decide (1≤x.length∧x.length≤8)&&x.cps.toList.all isLow
theorem letters_eq:letters.cps.toList=[97,98,99,100,101,102,103,104,105,106,107,108,109,110,111,112,113,114,115,116,117,118,119,120,121,122]:=by decide +kernel
theorem letters_at {i:Nat}(h:i<26):letters.cps.toList[i]?=some (97 + i):=by
 rw [letters_eq]
 have:∀ i:_root_.Fin 26,([97,98,99,100,101,102,103,104,105,106,107,108,109,110,111,112,113,114,115,116,117,118,119,120,121,122]:List Nat)[i.1]?=some (97 + i.1):=by decide
 exact this ⟨i,h⟩
theorem letters_rng:letters.cps.toList=(List.range 26).map (97 + ·):=by rw [letters_eq];rfl
theorem low_in (c:Nat):(!(Builtin.Str.occurrences letters ⟨#[c]⟩ 0 letters.length 1).isEmpty)=isLow c:=by
 rw [StrLaws.found_one,letters_rng]
 unfold isLow
 rw [decide_eq_decide,List.mem_map]
 constructor
 ·rintro ⟨a,ha,rfl⟩
  have:=List.mem_range.mp ha
  omega
 ·intro h
  exact ⟨c - 97,List.mem_range.mpr (by omega),by omega⟩
theorem Zec (x:Str):x.cps.toList.length=x.length:=by simp [Str.length]
theorem len_one (c:Nat):(⟨#[c]⟩:Str).length=1:=rfl
theorem len_app (x y:Str):(x++y).length=x.length + y.length:=by
 show (x.cps++y.cps).size=_
 rw [Array.size_append]
 rfl
theorem app_list (x y:Str):(x++y).cps.toList=x.cps.toList++y.cps.toList:=by
 show (x.cps++y.cps).toList=_
 rw [Array.toList_append]
theorem str_ext {x y:Str}(h:x.cps.toList=y.cps.toList):x=y:=by
 cases x;cases y
 congr 1
 exact Array.ext' h
def inLet:V→V
 | .str y=>.bl (!(Builtin.Str.occurrences letters y 0 letters.length 1).isEmpty)
 | _=>.non
theorem signs_low (x:Str):((signsV x).filter fun _=>true).map inLet=(x.cps.toList.map isLow).map V.bl:=by
 rw [List.filter_eq_self.mpr fun _ _=>rfl]
 unfold signsV
 rw [List.map_map,List.map_map]
 refine List.map_congr_left fun c _=>?_
 show V.bl _=V.bl _
 rw [low_in]
theorem Zdj (x:Str):Za2 x=true↔(1≤x.cps.toList.length∧x.cps.toList.length≤8)∧∀ c∈x.cps.toList,isLow c=true:=by
 unfold Za2
 rw [Bool.and_eq_true,decide_eq_true_eq,List.all_eq_true,Zec]
theorem word_len {x:Str}(h:Za2 x=true):1≤x.length∧x.length≤8:=by
 have:=((Zdj x).mp h).1
 rwa [Zec] at this
theorem Zem {x:Str}(h:Za2 x=true):PyData.strOk x=true:=by
 unfold PyData.strOk
 rw [Array.all_eq_true']
 intro c hc
 have:=((Zdj x).mp h).2 c (by simpa using hc)
 have:=of_decide_eq_true this
 exact decide_eq_true (by omega)
def Zbr (n:Nat):List Nat:=(97 + n % 26):: (if h:n / 26=0 then [] else Zbr (n / 26))
termination_by n
decreasing_by omega
theorem Zdr (n:Nat):Zbr n=(97 + n % 26):: (if n / 26=0 then [] else Zbr (n / 26)):=by
 rw [Zbr]
 by_cases h:n / 26=0
 ·rw [dif_pos h,if_pos h]
 ·rw [dif_neg h,if_neg h]
theorem lettersF_len:∀ (k n:Nat),n<26 ^ (k + 1)→(Zbr n).length≤k + 1
 | 0,n,h=>by
  rw [Zdr,if_pos (by have:n<26:=h;omega)]
  exact Nat.le_refl _
 | k + 1,n,h=>by
  rw [Zdr]
  by_cases h0:n / 26=0
  ·rw [if_pos h0];simp
  ·rw [if_neg h0,List.length_cons]
   have:=lettersF_len k (n / 26) (Nat.div_lt_of_lt_mul (by rw [Nat.pow_succ] at h;omega))
   omega
theorem lettersF_low (n:Nat):∀ c∈Zbr n,isLow c=true:=by
 induction n using Nat.strongRecOn with
 | ind n ih =>
  rw [Zdr]
  intro c hc
  rcases List.mem_cons.mp hc with e | hc
  ·rw [e]
   exact decide_eq_true (by omega)
  ·by_cases h0:n / 26=0
   ·rw [if_pos h0] at hc;cases hc
   ·rw [if_neg h0] at hc
    exact ih (n / 26) (by omega) c hc
def valF:List Nat→Nat
 | []=>0
 | c :: r=>(c - 97) + 26 * valF r
theorem lettersF_val (n:Nat):valF (Zbr n)=n:=by
 induction n using Nat.strongRecOn with
 | ind n ih =>
  rw [Zdr]
  unfold valF
  by_cases h0:n / 26=0
  ·rw [if_pos h0]
   unfold valF
   omega
  ·rw [if_neg h0,ih (n / 26) (by omega)]
   omega
def Zct (n:Nat):Str:=⟨(Zbr n).toArray⟩
theorem lettersS_list (n:Nat):(Zct n).cps.toList=Zbr n:=by simp [Zct]
theorem lettersS_inj {a b:Nat}(h:Zct a=Zct b):a=b:=by
 have:=congrArg (fun s:Str=>valF s.cps.toList) h
 simpa [lettersS_list,lettersF_val] using this
theorem lettersF_pos (n:Nat):1≤(Zbr n).length:=by rw [Zdr];simp
theorem lettersS_word {n:Nat}(h:n<26 ^ 8):Za2 (Zct n)=true:=by
 rw [Zdj,lettersS_list]
 exact ⟨⟨lettersF_pos n,lettersF_len 7 n h⟩,lettersF_low n⟩
theorem idx_take (j:Int) (n:Nat) (h:0≤j):Builtin.Str.strSliceIndices none (some j) 1 n=List.range (min j.toNat n):=by
 unfold Builtin.Str.strSliceIndices sliceRange
 have h1:¬ j<0:=by omega
 simp only [show (1:Int) > 0 by decide,if_true,if_neg h1]
 have e:(max (0:Int) (min j (n:Int)))=((min j.toNat n:Nat):Int):=by omega
 rw [e]
 have e2:(if (0:Int)<((min j.toNat n:Nat):Int) then (((min j.toNat n:Nat):Int) - 0 + 1 - 1) / 1 else 0)=((min j.toNat n:Nat):Int):=by
  split
  ·rw [Int.ediv_one];omega
  ·omega
 rw [e2,Int.toNat_natCast]
 have:∀ l:List Nat,l.map (fun (k:Nat)=>((0:Int) + 1 * (k:Int)).toNat)=l:=fun l=>by
  conv=>rhs;rw [← List.map_id l]
  refine List.map_congr_left fun k _=>?_
  show _=k
  omega
 exact this _
theorem filter_range (l:List Nat):∀ m,m≤l.length→(List.range m).filterMap (fun i=>l.toArray[i]?)=l.take m
 | 0,_=>by simp
 | m + 1,h=>by
  rw [List.range_succ,List.filterMap_append,filter_range l m (by omega),List.take_add_one]
  have:m<l.length:=h
  simp [this]
theorem slice_take (x:Str) (j:Int) (h:0≤j):(Txt.slice x none (some j)).cps.toList=x.cps.toList.take j.toNat:=by
 unfold Txt.slice
 rw [idx_take j x.length h]
 have hl:=Zec x
 split
 ·rename_i hc
  have:min j.toNat x.length=x.length:=by simpa using hc
  rw [List.take_of_length_le (by omega)]
 ·have q:=filter_range x.cps.toList (min j.toNat x.length) (by omega)
  have e:x.cps.toList.toArray=x.cps:=by simp
  rw [e] at q
  show ((List.range (min j.toNat x.length)).filterMap (x.cps[·]?)).toArray.toList=_
  rw [List.toList_toArray,q]
  by_cases hj:j.toNat≤x.length
  ·rw [Nat.min_eq_left hj]
  ·rw [Nat.min_eq_right (by omega),List.take_of_length_le (by omega),List.take_of_length_le (by omega)]
def PotO (o:HO):Prop:=∃ r b:Int,o=.lst [.int r,.int b]∧0≤r∧r<10 ^ 256∧0≤b∧b<2147483647
structure Drawn (p:Addr) (H H':Hp):Prop where
 keep:∀ b o,b≠p→H b=some o→H' b=some o
 pot:∃ o,H' p=some o∧PotO o
theorem Drawn.refl {p:Addr}{H:Hp}(h:∃ o,H p=some o∧PotO o):Drawn p H H:=⟨fun _ _ _ e=>e,h⟩
theorem Drawn.trans {p:Addr}{H H1 H2:Hp}(a:Drawn p H H1) (b:Drawn p H1 H2):Drawn p H H2:=⟨fun c o hc e=>b.keep c o hc (a.keep c o hc e),b.pot⟩
theorem Drawn.upd {p:Addr}{H:Hp}{o:HO}(h:PotO o):Drawn p H (L2.upd H p o):=⟨fun b u hb e=>by rw [Zac hb];exact e,_,uS,h⟩
theorem Drawn.new {p q:Addr}{H H':Hp}{o:HO}(d:Drawn p H H') (hq:H' q=none):Drawn p H (L2.upd H' q o):=
 ⟨fun b u hb e=>by rw [Zac (nNo (d.keep b u hb e) hq)];exact d.keep b u hb e,by
  obtain ⟨u,h1,h2⟩:=d.pot
  exact ⟨u,by rw [Zac (nNo h1 hq)];exact h1,h2⟩⟩
theorem Drawn.same {p:Addr}{H H1 H2:Hp}(d:Drawn p H H1) (s:Zan H1 H2):Drawn p H H2 :=
 ⟨fun b u hb e=>s _ _ (d.keep b u hb e),by obtain ⟨u,h1,h2⟩:=d.pot;exact ⟨u,s _ _ h1,h2⟩⟩
theorem Drawn.sub {p q:Addr}{H H1 H2:Hp}{o':HO}(d:Drawn p H H1) (k:∀ b o,b≠q→H1 b=some o→H2 b=some o) (hq:H q=none) (hp:p≠q):Drawn p H H2 :=
 ⟨fun b u hb e=>k _ _ (nNo e hq) (d.keep b u hb e),by obtain ⟨u,h1,h2⟩:=d.pot;exact ⟨u,k _ _ hp h1,h2⟩⟩
theorem _root_.L2.SqL.mono_new {K:PySem.W.Frag}{H:Hp}{a q:Addr}{xs:List V}{o:HO}(h:SqL K H a xs) (hq:H q=none):SqL K (L2.upd H q o) a xs :=
 Zan.seq (fun b u e=>by rw [Zac (nNo e hq)];exact e) h
theorem Za7 {n:Nat}(h:n≤100000):n<sizeLine:=by rw [sizeLine_eq];omega
def strsOf:List Expr→Option (List Str)
 | []=>some []
 | .Constant (.str x) _ _ :: r=>(strsOf r).map (x :: ·)
 | _=>none
theorem pa_strsOf {X:Cx}:∀ {es:List Expr}{ws:List Str},strsOf es=some ws→PA X es (fun _ H Q=>Q (ws.map V.str) H):=by
 intro es
 induction es with
 | nil =>
  intro ws h
  have e:ws=[]:=(Option.some.inj h).symm
  subst e
  exact Zaa
 | cons e r ih =>
  intro ws h
  cases e with
  | Constant c j p =>
   cases c with
   | str x =>
    have h':(strsOf r).map (x :: ·)=some ws:=h
    obtain ⟨vs,h1,h2⟩:=Option.map_eq_some_iff.mp h'
    subst h2
    exact pC pe_str (ih h1) rfl
   | _=>exact nomatch (show (none:Option (List Str))=some ws from h)
  | _=>exact nomatch (show (none:Option (List Str))=some ws from h)
theorem in_strs (x:Str):∀ ws:List Str,inV (.str x) (ws.map V.str)=decide (x∈ws)
 | []=>rfl
 | w :: r=>by
  have ih:=in_strs x r
  unfold inV at ih ⊢
  rw [List.map_cons,List.any_cons,ih]
  show ((w == x) || decide (x∈r))=decide (x∈w :: r)
  rw [Bool.eq_iff_iff]
  simp only [Bool.or_eq_true,beq_iff_eq,decide_eq_true_eq,List.mem_cons]
  constructor
  ·rintro (h | h)
   ·exact .inl h.symm
   ·exact .inr h
  ·rintro (h | h)
   ·exact .inl h.symm
   ·exact .inr h
theorem flat_strs (ws:List Str):(ws.map V.str).all flatV=true:=by
 rw [List.all_eq_true]
 intro v hv
 obtain ⟨w,_,e⟩:=List.mem_map.mp hv
 rw [← e]
 rfl
theorem Zdc {K:PySem.W.Frag}{H:Hp}:∀ ws:List Str,Reps K H (ws.map V.str) (ws.map PySem.W.Dat.str)
 | []=>.nil
 | w :: r=>.cons (.str w) (Zdc r)
end Md
namespace Md
open PySem L2
def RowV (H:Hp) (r:Str×List Str) (v:V):Prop:=∃ t u,v=.ref t∧H t=some (.tup [.str r.1,.ref u])∧H u=some (.tup (r.2.map V.str))
def Zd6 (H:Hp) (l:Addr) (rows:List (Str×List Str)):Prop:=∃ vs,H l=some (.lst vs)∧Paired (RowV H) rows vs
structure Zd7 (rows:List (Str×List Str)):Prop where
 ne:1≤rows.length
 le:rows.length≤24
 word:∀ r∈rows,Za2 r.1=true
 nd:(rows.map (·.1)).Nodup
 few:∀ r∈rows,r.2.length≤8
 known:∀ r∈rows,∀ u∈r.2,u∈rows.map (·.1)
 upnd:∀ r∈rows,r.2.Nodup
 rank:∃ rk:Str→Nat,∀ r∈rows,∀ u∈r.2,rk u<rk r.1
def Zdu (ws:List Str) (uf:List (List Nat)) (os:List Nat):List (Str×List Str):=os.map fun j=>(ws.getD j "",(uf.getD j []).map fun i=>ws.getD i "")
theorem good_of {ws:List Str}{uf:List (List Nat)}{os:List Nat}{m:Nat} (hm0:1≤m) (hm:m≤24) (hw:∀ x∈ws,Za2 x=true) (hn:ws.Nodup) (hl:ws.length=m) (hu:∀ (k:Nat) (js:List Nat),uf[k]?=some js→(∀ j∈js,j<k)∧js.Nodup∧js.length≤8) (hul:uf.length=m)
  (on:os.Nodup) (om:∀ j,j∈os↔j<m) (ol:os.length=m):Zd7 (Zdu ws uf os):=by
 have at_:∀ {j:Nat},j<m→ws.getD j ""∈ws∧ws[j]?=some (ws.getD j ""):=fun {j} h=>by
  have hj:j<ws.length:=by omega
  rw [List.getD_eq_getElem?_getD,List.getElem?_eq_getElem hj]
  exact ⟨List.getElem_mem hj,rfl⟩
 have inj:∀ {i j:Nat},i<m→j<m→ws.getD i ""=ws.getD j ""→i=j:=fun {i j} hi hj e=>by
  have a:=(at_ hi).2
  have b:=(at_ hj).2
  rw [e] at a
  exact nodup_ix hn a b
 have ups:∀ {j:Nat},j<m→∃ js,uf.getD j []=js∧(∀ i∈js,i<j)∧js.Nodup∧js.length≤8:=fun {j} h=>by
  have hj:j<uf.length:=by omega
  have e:uf[j]?=some (uf.getD j []):=by rw [List.getD_eq_getElem?_getD,List.getElem?_eq_getElem hj];rfl
  exact ⟨_,rfl,hu j _ e⟩
 have mem:∀ {r:Str×List Str},r∈Zdu ws uf os→∃ j,j<m∧r=(ws.getD j "",(uf.getD j []).map fun i=>ws.getD i ""):=fun {r} h=>by
  obtain ⟨j,hj,e⟩:=List.mem_map.mp h
  exact ⟨j,(om j).mp hj,e.symm⟩
 have words:(Zdu ws uf os).map (·.1)=os.map fun j=>ws.getD j "":=by
  unfold Zdu
  rw [List.map_map]
  rfl
 refine ⟨by unfold Zdu;rw [List.length_map];omega,by unfold Zdu;rw [List.length_map];omega,fun r hr=>?_,?_,fun r hr=>?_,fun r hr u hu'=>?_,fun r hr=>?_,fun x=>ws.idxOf x,fun r hr u hu'=>?_⟩
 ·obtain ⟨j,hj,rfl⟩:=mem hr
  exact hw _ (at_ hj).1
 ·rw [words,List.nodup_iff_pairwise_ne,List.pairwise_map]
  refine (List.nodup_iff_pairwise_ne.mp on).imp_of_mem fun {a b} ha hb h e=>h (inj ((om a).mp ha) ((om b).mp hb) e)
 ·obtain ⟨j,hj,rfl⟩:=mem hr
  obtain ⟨js,e,_,_,h8⟩:=ups hj
  show ((uf.getD j []).map fun i=>ws.getD i "").length≤8
  rw [List.length_map,e]
  exact h8
 ·obtain ⟨j,hj,rfl⟩:=mem hr
  obtain ⟨i,hi,e⟩:=List.mem_map.mp hu'
  obtain ⟨js,e',hb,_⟩:=ups hj
  rw [e'] at hi
  have hij:=hb i hi
  rw [words]
  exact List.mem_map.mpr ⟨i,(om i).mpr (by omega),e⟩
 ·obtain ⟨j,hj,rfl⟩:=mem hr
  obtain ⟨js,e',hb,hnd,_⟩:=ups hj
  show ((uf.getD j []).map fun i=>ws.getD i "").Nodup
  rw [e',List.nodup_iff_pairwise_ne,List.pairwise_map]
  refine (List.nodup_iff_pairwise_ne.mp hnd).imp_of_mem fun {a b} ha hb' h e=>h (inj (by have:=hb a ha;omega) (by have:=hb b hb';omega) e)
 ·obtain ⟨j,hj,rfl⟩:=mem hr
  obtain ⟨i,hi,e⟩:=List.mem_map.mp hu'
  obtain ⟨js,e',hb,_⟩:=ups hj
  rw [e'] at hi
  have hij:=hb i hi
  have ix:∀ {j:Nat},j<m→ws.idxOf (ws.getD j "")=j:=fun {j} h=>by
   have a:=(at_ h).1
   have lt:ws.idxOf (ws.getD j "")<ws.length:=List.idxOf_lt_length_iff.mpr a
   have g:ws[ws.idxOf (ws.getD j "")]?=some (ws.getD j ""):=by rw [List.getElem?_eq_getElem lt,List.getElem_idxOf lt]
   exact nodup_ix hn g (at_ h).2
  show ws.idxOf u<ws.idxOf (ws.getD j "")
  rw [← e,ix hj,ix (by omega)]
  exact hij
end Md
namespace L2
open PySem PySem.Spec PyProof.Rows
section
variable {X:Cx} {tg:Expr}
def SqB (K:PySem.W.Frag) (b:Bool) (H:Hp) (a:Addr) (xs:List V):Prop:=if b=true then SqL K H a xs else SqT K H a xs
theorem SqB.mono {K:PySem.W.Frag}{b:Bool}{H H':Hp}{a:Addr}{xs:List V}(h:SqB K b H a xs) (s:Zan H H'):SqB K b H' a xs:=by
 cases b with
 | true=>exact s.seq (show SqL K H a xs from h)
 | false=>exact s.tup (show SqT K H a xs from h)
def Itq (K:PySem.W.Frag) (b:Bool) (a:Addr) (xs:List V):It:=⟨fun i H=>i<xs.length∧SqB K b H a xs,fun i H x H'=>H'=H∧xs[i]?=some x,fun i H=>xs.length≤i∧SqB K b H a xs⟩
theorem runs_seq {K:PySem.W.Frag}{b:Bool}{a:Addr}{xs:List V}:Runs (Itq K b a xs) xs (fun H=>SqB K b H a xs) where
 go:=fun i x H ok hx=>⟨(List.getElem?_eq_some_iff.mp hx).1,ok⟩
 yld:=fun i x H y H' ok hx h=>by
  obtain ⟨e,h⟩:=h
  rw [hx] at h
  exact ⟨(Option.some.inj h).symm,e⟩
 stop:=fun H ok=>⟨Nat.le_refl _,ok⟩
theorem Turn.imp {P:Program}{w:World}{K:PySem.W.Frag}{tg:Expr}{J J':It}{fp:List Addr}{it:Addr}{tn:Nat→Heap→Prop}(T:Turn P w K tg J fp it tn) (hgo:∀ i H,J'.go i H→J.go i H)
  (hy:∀ i H x H',J'.go i H→J.yld i H x H'→J'.yld i H x H') (hs:∀ i H,J'.stop i H→J.stop i H):Turn P w K tg J' fp it tn where
 mem:=T.mem
 obj:=T.obj
 keep:=T.keep
 item:=fun X h1 h2 h3 h4 i pins s σ H E I hf st g=>thn (T.item X h1 h2 h3 h4 i pins s σ H E I hf st (hgo i H g)) fun r s1 ⟨u,e,h⟩=>⟨u,e,thn h fun _ s2 ⟨x,H',I',r',y,t,f⟩=>⟨x,H',I',r',hy i H x H' g y,t,f⟩⟩
 done:=fun X h1 h2 h3 h4 i pins s σ H E I hf st g=>T.done X h1 h2 h3 h4 i pins s σ H E I hf st (hs i H g)
 self:=T.self
def iSeq (K:PySem.W.Frag) (tl:TE):TI:=fun σ H R=>tl σ H fun x H1=>∃ b a xs,x=.ref a∧SqB K b H1 a xs∧R (Itq K b a xs) H1
theorem pi_seq {l:Expr}{tl:TE}(hl:PE X l tl):PI X tg l (iSeq X.K tl):=by
 intro pins s σ H R I h
 refine thn (hl pins s σ H _ I h) fun v s1 ⟨x,H1,I1,r1,q1⟩=>?_
 obtain ⟨b,a,xs,e,hq,q⟩:=q1
 subst e
 cases r1
 have fp:∀ b∈[s1.heap.objs.size],FpOk X pins H1 b:=fun b hb=>by
  have e:b=s1.heap.objs.size:=by simpa using hb
  subst e
  exact I1.fpOk (Nat.le_refl _) (I1.hok.fresh (Nat.le_refl _))
 have get:∀ {i:Nat} {ys:List V},i<ys.length→∃ y,ys[i]?=some y:=fun {i ys} h=>⟨ys[i],by simp [h]⟩
 cases b with
 | true =>
  have hq:SqL X.K H1 a xs:=hq
  obtain ⟨its,rv,p,hz⟩:=I1.list hq
  refine wpAny_pyIter_list p.isList ?_
  refine ⟨s1.heap.objs.size,[s1.heap.objs.size],_,Itq X.K true a xs,H1,rfl,I1.kept (t':=s1.toks) fun b o e=>Heap.get?_push_of_some _ e,(turn_list a _).imp (fun i H g=>?_) (fun i H x H' g y=>⟨y.1,y.2 xs g.2⟩) (fun i H g=>⟨xs,g.2,g.1⟩),⟨_,Heap.get?_push_size _ rfl,rfl,rfl⟩,fp,q⟩
  obtain ⟨y,hy⟩:=get g.1
  exact ⟨xs,y,g.2,hy⟩
 | false =>
  have hq:SqT X.K H1 a xs:=hq
  obtain ⟨its,rv,p,hz⟩:=I1.tuple hq
  refine wpAny_pyIter_tuple (show s1.heap.IsTuple a its.toArray from p) ?_
  refine ⟨s1.heap.objs.size,[s1.heap.objs.size],_,Itq X.K false a xs,H1,rfl,I1.kept (t':=s1.toks) fun b o e=>Heap.get?_push_of_some _ e,(turn_tuple a _).imp (fun i H g=>?_) (fun i H x H' g y=>⟨y.1,y.2 xs g.2⟩) (fun i H g=>⟨xs,g.2,g.1⟩),⟨_,Heap.get?_push_size _ rfl,rfl,rfl⟩,fp,q⟩
  obtain ⟨y,hy⟩:=get g.1
  exact ⟨xs,y,g.2,hy⟩
def iVals (to:TE):TI:=fun σ H R=>to σ H fun x H1=>∃ a ob kvs,x=.ref a∧H1 a=some (.frz ob (.dK kvs))∧R (Itv a ob kvs) H1
theorem pi_vals {o:Expr}{to:TE}{apos cpos:Pos}(ho:PE X o to) (hbase:attributeBase o "values" X.env (eval o X.env)=eval o X.env:=by rfl) (hline:(apos.endLine == cpos.line)=true:=by rfl):
  PI X tg (.Call (.Attribute o "values" apos) [] [] cpos) (iVals to):=by
 intro pins s σ H R I h
 refine wpAny_Call_method0_late hbase hline (thn (ho pins s σ H _ I h) fun v s1 ⟨x,H1,I1,r1,q1⟩=>?_)
 obtain ⟨a,ob,kvs,e,ha,q⟩:=q1
 subst e
 obtain rfl:v=Value.ref a:=r1
 obtain ⟨t1,t2,t3⟩:=isD_at I1 (.inl ⟨kvs,.inr ⟨ob,ha⟩⟩)
 obtain ⟨es,ep,hd⟩:=frz_data (I1.hok a _ ha)
 obtain ⟨hs,vs,r,dd⟩:=frz_dict (I1.hok a _ ha) hd
 have hl:kvs.length=vs.length:=Paired.length r
 refine ⟨"dict","dict.values",PySem.F.plainAttrs_dict,PySem.F.slot_dict_values,PySem.F.type_dict_values,t1,t2,Calls.callWith_builtin rfl (PySem.evalArgs_none ?_)⟩
 refine call_meetsIn PySem.F.slot_dict_values t1 PySem.F.entry_dict_values (PySem.F.args_dict_values_1 _) (meets_dict_values (Zb6 X.prog X.w) a t3) ⟨⟨vs,dd.dictOf⟩,?_⟩
 have I2:Inv X pins σ H1 { s1 with heap:=s1.heap.push { cls:=.type "dict_values",data:=.fields #[.ref a] } }:=I1.kept (t':=s1.toks) fun b o e=>Heap.get?_push_of_some _ e
 refine wpAny_pyIter_values (kvs:=vs) (ep:=ep) (knd:=Zb6 X.prog X.w) ⟨_,Heap.get?_push_size _ rfl,rfl,rfl⟩ (dd.at' fun o e=>Heap.get?_push_of_some _ e) ?_
 refine ⟨_,[_],_,_,H1,rfl,I2.kept (t':=s1.toks) fun b o e=>Heap.get?_push_of_some _ e,turn_vals a _ ob kvs es ep hd,⟨_,Heap.get?_push_size _ rfl,rfl,by rw [hl];rfl⟩,fun b hb=>?_,q⟩
 have e:b=_:=List.mem_singleton.mp hb
 subst e
 exact I2.fpOk (Nat.le_refl _) (I2.hok.fresh (Nat.le_refl _))
theorem call_list_keys (hc:X.calm=true):CallR X (.type "list") (fun xs H Q=>∃ a kvs,xs=[.ref a]∧Rd H a (.dK kvs)∧∀ l,H l=none→Q (.ref l) (upd H l (.lst (kvs.map fun p=>kV p.1)))):=by
 intro pins s σ H xs us Q I r h
 obtain ⟨a,kvs,rfl,ha,q⟩:=h
 obtain ⟨u,rfl,ru⟩:=vals1 r
 cases ru
 obtain ⟨hz,hs,vs,rv,o,es,ep,h1,h2,h3,h4,h5,h6⟩:=dk_rd I.hok ha
 have hl:kvs.length=vs.length:=Paired.length rv
 have dd:s.heap.DictAt (Zb6 X.prog X.w) a vs ep:=⟨o,es,h1,h2,h3,h4,h5,h6⟩
 refine PySem.W.kdl_call (PySem.W.kdl_dict (knd:=Zb6 X.prog X.w) (kvs:=vs) (ep:=ep) hs) (I.ok.hd hc) dd (by rw [← hl];exact hz) fun h' tk acc' c' hk hS' hacc=>?_
 obtain ⟨a1,a2⟩:=hacc
 refine ⟨.ref _,_,I.laid (o:=.lst (kvs.map fun p=>kV p.1)) hk (Nat.le_refl _) ⟨by rw [List.length_map];exact hz,acc'.toList,c',?_,by simpa using hS'⟩,rfl,q _ (I.hok.fresh (Nat.le_refl _))⟩
 refine vals_of (by have z:acc'.toList.length=acc'.size:=Array.length_toList;rw [List.length_map];omega) fun i v u hv hu=>?_
 rw [List.getElem?_map] at hv
 obtain ⟨p,hp,e⟩:=Option.map_eq_some_iff.mp hv
 obtain ⟨w',hw,_⟩:=rv.get hp
 obtain ⟨k,x,hk1,hk2⟩:=a2 i u (by rw [← Array.getElem?_toList];exact hu)
 rw [hw] at hk1
 injection hk1 with hk1
 injection hk1 with hk1 _
 rw [← e,hk1]
 exact relKey hk2
theorem DGet.f {H:Hp}{a:Addr}{o:Obj}{kvs:List (Key×V)}{k:Key}(e:H a=some (.frz o (.dK kvs))):DGet H a (kV k) (valV kvs k):=.inl ⟨kvs,k,.inr ⟨o,e⟩,rfl,rfl⟩
end
end L2
namespace Md
open PySem L2
def UpsG (K:PySem.W.Frag) (H:Hp) (u:Addr) (us:List Str):Prop:=H u=some (.tup (us.map V.str))∨SqL K H u (us.map V.str)
theorem UpsG.sq {K:PySem.W.Frag}{H:Hp}{u:Addr}{us:List Str}(h:UpsG K H u us):∃ b,SqB K b H u (us.map V.str):=by
 rcases h with h | h
 ·exact ⟨false,SqT.of h⟩
 ·exact ⟨true,h⟩
def RowG (K:PySem.W.Frag) (H:Hp) (r:Str×List Str) (v:V):Prop:=∃ t u,v=.ref t∧SqT K H t [.str r.1,.ref u]∧UpsG K H u r.2
def RowsG (K:PySem.W.Frag) (H:Hp) (l:Addr) (rows:List (Str×List Str)):Prop:=∃ b vs,SqB K b H l vs∧Paired (RowG K H) rows vs
theorem Zd6.g {K:PySem.W.Frag}{H:Hp}{l:Addr}{rows:List (Str×List Str)}(h:Zd6 H l rows):RowsG K H l rows:=by
 obtain ⟨vs,a,p⟩:=h
 refine ⟨true,vs,SqL.of a,Paired.mapP p fun r v z=>?_⟩
 obtain ⟨t,u,e,h1,h2⟩:=z
 exact ⟨t,u,e,SqT.of h1,.inl h2⟩
theorem Zba {α β:Type}{F:α→β→Prop}:∀ {l:List α}{k:List β},Paired F l k→∀ {i:Nat}{b:β},k[i]?=some b→∃ a,l[i]?=some a∧F a b
 | _,_,.nil,i,b,h=>by simp at h
 | _,_,.cons r t,0,b,h=>by simp at h;subst h;exact ⟨_,rfl,r⟩
 | _,_,.cons r t,i + 1,b,h=>by
  obtain ⟨a,h1,h2⟩:=Zba t (i:=i) (b:=b) (by simpa using h)
  exact ⟨a,by simpa using h1,h2⟩
theorem Zcz {kvs:List (Key×V)}{k:Key}(h:k∉kvs.map (·.1)):valV kvs k=none:=by
 cases e:valV kvs k with
 | none=>rfl
 | some v=>exact absurd (valV_in e) h
theorem putK_keys {kvs:List (Key×V)}{k:Key}{v:V}(h:k∉kvs.map (·.1)):(putK kvs k v).map (·.1)=kvs.map (·.1)++[k]:=by
 rw [putK_new v (Zcz h),List.map_append]
 rfl
theorem taken_not {rows:List (Str×List Str)}{i:Nat}{r:Str×List Str}(nd:(rows.map (·.1)).Nodup) (h:rows[i]?=some r):(Sum.inr r.1:Key)∉(rows.take i).map fun r=>(Sum.inr r.1:Key):=by
 intro m
 obtain ⟨q,hq,e⟩:=List.mem_map.mp m
 have e:q.1=r.1:=by injection e
 obtain ⟨j,hj,ej⟩:=List.mem_iff_getElem.mp hq
 rw [List.length_take] at hj
 have hj2:rows[j]?=some q:=by
  rw [List.getElem_take] at ej
  rw [List.getElem?_eq_getElem (by omega),ej]
 have a:(rows.map (·.1))[j]?=some r.1:=by rw [List.getElem?_map,hj2,← e];rfl
 have b:(rows.map (·.1))[i]?=some r.1:=by rw [List.getElem?_map,h];rfl
 have:=nodup_ix nd a b
 omega
def UpsD (H:Hp) (rows:List (Str×List Str)) (kvs:List (Key×V)):Prop:=Paired (fun r (p:Key×V)=>p.1=Sum.inr r.1∧∃ t,p.2=.ref t∧H t=some (.tup (r.2.map V.str))) rows kvs
theorem UpsD.mono {H H':Hp}{rows:List (Str×List Str)}{kvs:List (Key×V)}(h:UpsD H rows kvs) (s:∀ b xs,H b=some (.tup xs)→H' b=some (.tup xs)):UpsD H' rows kvs :=
 Paired.mapP h fun _ _ z=>⟨z.1,let ⟨t,e,x⟩:=z.2;⟨t,e,s _ _ x⟩⟩
theorem UpsD.keys:∀ {H:Hp}{rows:List (Str×List Str)}{kvs:List (Key×V)},UpsD H rows kvs→kvs.map (·.1)=rows.map fun r=>(Sum.inr r.1:Key)
 | _,_,_,.nil=>rfl
 | _,_,_,.cons r t=>by rw [List.map_cons,List.map_cons,r.1,UpsD.keys t]
def Zb8 (rows:List (Str×List Str)) (x:Str):List Str:=(rows.lookup x).getD []
theorem upsOf_at {rows:List (Str×List Str)}(nd:(rows.map (·.1)).Nodup) {r:Str×List Str}(h:r∈rows):Zb8 rows r.1=r.2:=by
 unfold Zb8
 induction rows with
 | nil=>cases h
 | cons q rs ih =>
  have nd':(q.1 :: rs.map (·.1)).Nodup:=nd
  obtain ⟨n1,n2⟩:=List.nodup_cons.mp nd'
  obtain ⟨a,b⟩:=q
  rw [List.lookup_cons]
  rcases List.mem_cons.mp h with e | h
  ·subst e
   simp
  ·have ne:(r.1 == a)=false:=by
    rw [beq_eq_false_iff_ne]
    intro e
    exact n1 (List.mem_map.mpr ⟨r,h,e⟩)
   rw [ne]
   exact ih n2 h
theorem UpsD.val:∀ {H:Hp}{rows:List (Str×List Str)}{kvs:List (Key×V)},UpsD H rows kvs→(rows.map (·.1)).Nodup→∀ {r:Str×List Str},r∈rows→∃ t,valV kvs (Sum.inr r.1)=some (.ref t)∧H t=some (.tup (r.2.map V.str))
 | _,_,_,.nil,_,r,h=>nomatch h
 | _,q :: rs,p :: ps,.cons z t,nd,r,h=>by
  have nd':(q.1 :: rs.map (·.1)).Nodup:=nd
  obtain ⟨n1,n2⟩:=List.nodup_cons.mp nd'
  obtain ⟨z1,u,z2,z3⟩:=z
  rcases List.mem_cons.mp h with e | h
  ·subst e
   exact ⟨u,by rw [valV_pos z1,z2],z3⟩
  ·have ne:¬ p.1=(Sum.inr r.1:Key):=fun e=>n1 (by
    rw [z1] at e
    have e':q.1=r.1:=by injection e
    rw [e']
    exact List.mem_map.mpr ⟨r,h,rfl⟩)
   obtain ⟨u',h1,h2⟩:=UpsD.val t n2 h
   exact ⟨u',by rw [valV_neg ne];exact h1,h2⟩
theorem keysV {H:Hp}{rows:List (Str×List Str)}{kvs:List (Key×V)}(h:UpsD H rows kvs):(kvs.map fun p=>kV p.1)=(rows.map (·.1)).map V.str:=by
 have e:(kvs.map fun p=>kV p.1)=(kvs.map (·.1)).map kV:=by rw [List.map_map];rfl
 rw [e,h.keys,List.map_map,List.map_map]
 rfl
end Md
namespace L2
open PySem PySem.Spec PyProof.Rows
section
variable {X:Cx} {pins:List (Addr×Obj)} {σ:St} {H H':Hp} {s:Shared} {h':Heap}
theorem paired_idx {α β:Type}{F:α→β→Prop}:∀ {l:List α}{k:List β},l.length=k.length→(∀ (i:Nat) (a:α) (b:β),l[i]?=some a→k[i]?=some b→F a b)→Paired F l k
 | [],[],_,_=>.nil
 | [],_ :: _,h,_=>by simp at h
 | _ :: _,[],h,_=>by simp at h
 | a :: l,b :: k,h,f=>.cons (f 0 a b rfl rfl) (paired_idx (by simpa using h) fun i x y hx hy=>f (i + 1) x y (by simpa using hx) (by simpa using hy))
end
end L2
namespace L2
open PySem PySem.Spec PyProof.Rows
section
variable {X:Cx}
def rCatA (K:PySem.W.Frag):R2:=fun x y H Q=>∃ a b xs ys,x=.ref a∧y=.ref b∧SqT K H a xs∧SqT K H b ys∧xs.length + ys.length≤sizeLine ∧
 (xs=[]→Q (.ref b) H)∧(xs≠[]→ys=[]→Q (.ref a) H)∧(xs≠[]→ys≠[]→∀ p,H p=none→Q (.ref p) (upd H p (.tup (xs++ys))))
theorem op_catA:OpR X (binaryOp .Add) (rCatA X.K):=by
 intro pins s σ H x y v u Q I rx ry h
 obtain ⟨a,b,xs,ys,rfl,rfl,ha,hb,hz,q0,q1,q2⟩:=h
 by_cases hx:xs=[]
 ·cases rx
  cases ry
  obtain ⟨its,r1,p1,_⟩:=I.tuple ha
  obtain ⟨its2,r2,p2,_⟩:=I.tuple hb
  have e:its=[]:=r1.nil_iff.mpr hx
  obtain ⟨⟨cls,dd,data,sl⟩,ho,hc,n,hd⟩:=id p1
  obtain ⟨⟨cls2,dd2,data2,sl2⟩,ho2,hc2,n2,hd2⟩:=id p2
  simp only at hc hd hc2 hd2
  subst hc hd hc2 hd2
  exact concat_meets ⟨_,ho,rfl⟩ ⟨_,ho2,rfl⟩ noFill_tuple_add seq_tuple_add PySem.F.slot_tuple_add PySem.F.entry_tuple_add (PySem.F.args_tuple_add_2 _ _)
   (tuple_addW0 a b its.toArray its2.toArray n n2 dd dd2 sl sl2 (by simp [e])) ⟨ho,ho2,⟨.ref b,H,I,rfl,q0 hx⟩⟩
 ·exact op_catT pins s σ H _ _ v u Q I rx ry ⟨a,b,xs,ys,rfl,rfl,ha,hb,hx,hz,q1 hx,q2 hx⟩
end
section
variable {X:Cx} {pins:List (Addr×Obj)} {σ:St} {H:Hp} {s:Shared} {h':Heap}
end
end L2
namespace L2
open PySem PySem.Spec PyProof.Rows
section
variable {X:Cx}
end
end L2
namespace L2
open PySem PySem.Spec PyProof.Rows
section
variable {X:Cx}
end
end L2
namespace L2
open PySem PySem.Spec PyProof.Rows
section
variable {prog:Program} {w:World} {A:Around} {E:Value→Shared→Prop} {s:Shared}
theorem nextTup_some {p t:Addr}{k:Nat}{us:Array Value}{u:Value}{Q:Value→Shared→Prop}(hp:s.heap.IsTupleIter p t k) (ht:s.heap.IsTuple t us) (hu:us[k]?=some u)
  (q:∀ g,g.IsTupleIter p t (k + 1)→Heap.SameBut p s.heap g→Q u { s with heap:=g }):wpAny (model prog w) A (Builtin.SmallTypes.nextOf (.ref p)) Q E s:=by
 obtain ⟨ob,h1,h2,h3⟩:=id hp
 obtain ⟨ot,h4,_,nt,h5⟩:=ht
 unfold Builtin.SmallTypes.nextOf
 refine wpAny_bind (wpAny_callSpecial?_slot (name:=Str.ofString "__next__") hp.typeIs PySem.F.slot_tuple_iterator_next (wpAny_call_entry PySem.F.slot_tuple_iterator_next hp.typeIs PySem.F.entry_tuple_iterator_next ?_ (PySem.F.args_tuple_iterator_next_1 _)))
 show wpAny _ _ (field (.ref p) 0>>=_) _ _ s
 refine wpAny_bind (wpAny_field h1 h3 (x:=.ref t) rfl ?_)
 show wpAny _ _ (if (Value.ref t == Value.none)=true then _ else _) _ _ s
 rw [if_neg (show ¬ ((Value.ref t == Value.none)=true) from Bool.false_ne_true)]
 show wpAny _ _ (field (.ref p) 1>>=_) _ _ s
 refine wpAny_bind (wpAny_field h1 h3 (x:=.int k 0) rfl ?_)
 show wpAny _ _ (seqItems? (.ref t)>>=_) _ _ s
 refine wpAny_bind (wpAny_seqItems h4 h5 ?_)
 simp only [Int.toNat_natCast,hu]
 refine wpAny_bind (wpAny_setField h1 h3 (by simp) (wpAny_pure ⟨u,rfl,wpAny_pure (q _ ?_ (Heap.SameBut.update ..))⟩))
 exact ⟨_,Heap.get?_update_self _ h1 (Obj.isFreed_of_fields (Obj.data_mapFields h3 _)),(Obj.cls_mapFields ..).trans h2,by rw [Obj.data_mapFields h3];simp [rawInt]⟩
theorem nextTup_none {p t:Addr}{k:Nat}{us:Array Value}{Q:Value→Shared→Prop}(hh:A.handled=none) (hp:s.heap.IsTupleIter p t k) (ht:s.heap.IsTuple t us) (hu:us[k]?=none)
  (q:∀ g e,Heap.ExtBut p s.heap g→(∃ o,g.get? e=some o∧o.cls=.type "StopIteration")→E (.ref e) { s with heap:=g }):wpAny (model prog w) A (Builtin.SmallTypes.nextOf (.ref p)) Q E s:=by
 obtain ⟨ob,h1,h2,h3⟩:=id hp
 obtain ⟨ot,h4,_,nt,h5⟩:=ht
 unfold Builtin.SmallTypes.nextOf
 refine wpAny_bind (wpAny_callSpecial?_slot (name:=Str.ofString "__next__") hp.typeIs PySem.F.slot_tuple_iterator_next (wpAny_call_entry PySem.F.slot_tuple_iterator_next hp.typeIs PySem.F.entry_tuple_iterator_next ?_ (PySem.F.args_tuple_iterator_next_1 _)))
 show wpAny _ _ (field (.ref p) 0>>=_) _ _ s
 refine wpAny_bind (wpAny_field h1 h3 (x:=.ref t) rfl ?_)
 show wpAny _ _ (if (Value.ref t == Value.none)=true then _ else _) _ _ s
 rw [if_neg (show ¬ ((Value.ref t == Value.none)=true) from Bool.false_ne_true)]
 show wpAny _ _ (field (.ref p) 1>>=_) _ _ s
 refine wpAny_bind (wpAny_field h1 h3 (x:=.int k 0) rfl ?_)
 show wpAny _ _ (seqItems? (.ref t)>>=_) _ _ s
 refine wpAny_bind (wpAny_seqItems h4 h5 ?_)
 simp only [Int.toNat_natCast,hu]
 refine wpAny_bind (wpAny_rule (wpAny_bind (wpAny_setField h1 h3 (by simp) ?_)))
 show wpAny _ _ (newExc (.type "StopIteration") []>>=_) _ _ _
 refine wpAny_bind ?_
 simp only [newExc,newTuple]
 refine wpAny_bind (wpAny_newObj_type ?_ (by size_fits))
 refine wpAny_bind (m:=firstArgMember _ _) (wpAny_of_eq (a:=Value.none) (by first | rfl | (simp only [firstArgMember];rfl)) ?_)
 refine wpAny_newObj_type ?_ (by size_fits)
 simp only [raiseNew]
 refine wpAny_bind (wpAny_handled ?_)
 first | rw [show A.in1.handled=none from hh] | rw [hh]
 refine wpAny_bind (wpAny_pure (wpAny_throw ?_))
 exact q _ _ (((Heap.SameBut.update ..).extBut.push _).push _) ⟨_,Heap.get?_push_size _ rfl,rfl⟩
structure ZAt (h:Heap) (z ti to i1 i2 l1 l2:Addr) (k:Nat) (f:Value):Prop where
 z:IsZip h z ti to f
 ti:IsPair h ti (.ref i1) (.ref i2)
 to:∃ a b,IsPair h to a b
 i1:h.IsTupleIter i1 l1 k
 i2:h.IsTupleIter i2 l2 k
end
end L2
namespace L2
open PySem PySem.Spec PyProof.Rows
def Itp (ps:List (V×V)) (Ok:Hp→Prop):It :=
 ⟨fun i H=>i<ps.length∧Ok H,fun i H v H'=>∃ t p,ps[i]?=some p∧H t=none∧v=.ref t∧H'=upd H t (.tup [p.1,p.2]),fun i H=>ps.length≤i∧Ok H⟩
section
variable {prog:Program} {w:World} {A:Around} {E:Value→Shared→Prop} {s:Shared}
abbrev zg1 (h:Heap) (l1:Addr):Heap:=h.push { cls:=.type "tuple_iterator",data:=.fields #[.ref l1,.int 0 0] }
end
theorem zipV_get {xs ys:List V}{i:Nat}{p:V×V}(h:(xs.zip ys)[i]?=some p):xs[i]?=some p.1∧ys[i]?=some p.2:=by
 rw [List.getElem?_zip_eq_some] at h
 exact h
theorem Inv.turnedNewL {X:Cx}{pins:List (Addr×Obj)}{σ:St}{H:Hp}{s:Shared}{h':Heap}{t':Nat}{its:List Addr}{a:Addr}{o:HO}(I:Inv X pins σ H s) (k:∀ b u,b∉its→s.heap.get? b=some u→h'.get? b=some u)
  (f:∀ b∈its,FpOk X pins H b) (ha:s.heap.objs.size≤a) (new:Zcv X.prog X.w (upd H a o) h' a o):Inv X pins σ (upd H a o) { s with heap:=h',toks:=t' }:=by
 have nit:∀ b u,H b=some u→b∉its:=fun b u e z=>by have:=(f b z).1;rw [this] at e;cases e
 have na:∀ b u,H b=some u→b≠a:=fun b u e=>Nat.ne_of_lt (Nat.lt_of_lt_of_le (I.hok.lt e) ha)
 have low:∀ {b u},H b=some u→(upd H a o) b=some u:=fun {b u} e=>by rw [Zac (na b u e)];exact e
 refine I.step (g':=s.gens) (d':=s.drawn) (ch:=its) (fun b hb=>?_) (fun b u _ _ hc e _=>k b u hc e) (fun b u _ _ hc e _=>⟨u.slots,k b u hc e⟩)
  (fun b u _ e n=>by rw [Zac (Nat.ne_of_lt (Nat.lt_of_lt_of_le (Heap.lt_size e) ha))];exact n)
  (fun b u hc e=>⟨u,k b u hc e⟩) (fun _ _ e=>low e) (fun _ _ _ e=>low e) (fun b ps e=>⟨#[],by rw [low e];simp⟩) (fun m hm=>?_) (fun b u e=>?_) I.bare
 ·obtain ⟨f0,f1,f2,f3,f4,f5⟩:=f b hb
  exact ⟨f3,f1,f4,f5⟩
 ·obtain ⟨o',es,ep,ho,r⟩:=hm
  exact ⟨o',es,ep,k _ o' (fun z=>(f _ z).2.1 rfl) ho,r⟩
 ·by_cases hb:b=a
  ·subst hb
   rw [uS] at e
   cases e
   exact new
  ·rw [Zac hb] at e
   refine (I.hok b u e).stay (fun c v hc q=>k c v ?_ q) (fun _ q=>low q) fun _ _ q=>low q
   rcases hc with z | z
   ·rw [z];exact nit b u e
   ·exact nit c _ z
theorem Inv.turnedL {X:Cx}{pins:List (Addr×Obj)}{σ:St}{H:Hp}{s:Shared}{h':Heap}{t':Nat}{its:List Addr}(I:Inv X pins σ H s) (k:∀ b u,b∉its→s.heap.get? b=some u→h'.get? b=some u)
  (f:∀ b∈its,FpOk X pins H b):Inv X pins σ H { s with heap:=h',toks:=t' }:=by
 have nit:∀ b u,H b=some u→b∉its:=fun b u e z=>by have:=(f b z).1;rw [this] at e;cases e
 refine I.step (g':=s.gens) (d':=s.drawn) (ch:=its) (fun b hb=>?_) (fun b u _ _ hc e _=>k b u hc e) (fun b u _ _ hc e _=>⟨u.slots,k b u hc e⟩)
  (fun b u _ e n=>n) (fun b u hc e=>⟨u,k b u hc e⟩) (fun _ _ e=>e) (fun _ _ _ e=>e) (fun b ps e=>⟨#[],by rw [e];simp⟩) (fun m hm=>?_) (fun b u e=>?_) I.bare
 ·obtain ⟨f0,f1,f2,f3,f4,f5⟩:=f b hb
  exact ⟨f3,f1,f4,f5⟩
 ·obtain ⟨o',es,ep,ho,r⟩:=hm
  exact ⟨o',es,ep,k _ o' (fun z=>(f _ z).2.1 rfl) ho,r⟩
 ·refine (I.hok b u e).stay (fun c v hc q=>k c v ?_ q) (fun _ q=>q) fun _ _ q=>q
  rcases hc with z | z
  ·rw [z];exact nit b u e
  ·exact nit c _ z
section
variable {X:Cx}
end
end L2
namespace L2
open PySem PySem.Spec PyProof.Rows
theorem draws_tup {prog:Program}{w:World}{A:Around}(hh:A.handled=none) (p t:Addr) (ne:t≠p) (us:Array Value):Draws prog w A p [p,t] us.size (fun i v=>us[i]?=some v) (fun i h=>h.IsTupleIter p t i∧h.IsTuple t us) where
 live:=fun _ _ st=>let ⟨o,ho,_⟩:=st.1;⟨o,ho⟩
 frame:=fun _ _ _ st hk=>⟨st.1.at fun o e=>hk p (by simp) o e,let ⟨o,ho,r⟩:=st.2;⟨o,hk t (by simp) o ho,r⟩⟩
 item:=fun i s Q E hi st q=>nextTup_some st.1 st.2 (u:=us[i]) (by simp [hi]) fun g st' sb=>q _ g s.toks (by simp [hi]) ⟨st',st.2.extBut sb.extBut ne⟩ sb
 done:=fun s Q E st q=>nextTup_none hh st.1 st.2 (by simp) q
def SIt (b:Bool) (h:Heap) (p a:Addr) (i:Nat):Prop:=if b=true then h.IsListIter p a i else h.IsTupleIter p a i
def SSq (b:Bool) (h:Heap) (a:Addr) (us:Array Value):Prop:=if b=true then h.IsList a us else h.IsTuple a us
theorem SIt.at {b:Bool}{h h':Heap}{p a:Addr}{i:Nat}(x:SIt b h p a i) (e:∀ o,h.get? p=some o→h'.get? p=some o):SIt b h' p a i:=by
 cases b with
 | true=>exact Heap.IsListIter.at (show h.IsListIter p a i from x) e
 | false=>exact Heap.IsTupleIter.at (show h.IsTupleIter p a i from x) e
theorem SIt.obj {b:Bool}{h:Heap}{p a:Addr}{i:Nat}(x:SIt b h p a i):∃ o,h.get? p=some o∧∀ v,o.data≠.cell v:=by
 cases b with
 | true =>
  obtain ⟨o,e,_,d⟩:=(show h.IsListIter p a i from x)
  exact ⟨o,e,fun v z=>by rw [d] at z;cases z⟩
 | false =>
  obtain ⟨o,e,_,d⟩:=(show h.IsTupleIter p a i from x)
  exact ⟨o,e,fun v z=>by rw [d] at z;cases z⟩
theorem draws_seq {prog:Program}{w:World}{A:Around}(b:Bool) (hh:A.handled=none) (p t:Addr) (ne:t≠p) (us:Array Value):Draws prog w A p [p,t] us.size (fun i v=>us[i]?=some v) (fun i h=>SIt b h p t i∧SSq b h t us):=by
 cases b with
 | true=>exact Draws.list hh p t ne us
 | false=>exact draws_tup hh p t ne us
theorem Inv.sseq {X:Cx}{pins:List (Addr×Obj)}{σ:St}{H:Hp}{s:Shared}{b:Bool}{a:Addr}{xs:List V}(I:Inv X pins σ H s) (h:SqB X.K b H a xs):∃ its:List Value,Zcg xs its∧SSq b s.heap a its.toArray:=by
 cases b with
 | true =>
  obtain ⟨its,rv,p,_⟩:=I.list (show SqL X.K H a xs from h)
  exact ⟨its,rv,p.isList⟩
 | false =>
  obtain ⟨its,rv,p,_⟩:=I.tuple (show SqT X.K H a xs from h)
  exact ⟨its,rv,p⟩
def enumV (xs:List V):List (V×V):=(Zdi 0 xs.length).zip xs
theorem enumV_len (xs:List V):(enumV xs).length=xs.length:=by
 unfold enumV
 rw [List.length_zip,Zat,Nat.min_self]
theorem enumV_get {xs:List V}{i:Nat}{p:V×V}(h:(enumV xs)[i]?=some p):p.1=.int i∧xs[i]?=some p.2:=by
 obtain ⟨h1,h2⟩:=zipV_get h
 obtain ⟨_,e⟩:=Za4 h1
 exact ⟨by rw [e,Int.zero_add],h2⟩
section
variable {prog:Program} {w:World} {A:Around} {E:Value→Shared→Prop} {s:Shared}
theorem meets_enumT (l:Addr) (us:Array Value):Meets (Builtin.«enumerate.__new__» ⟨[.type "enumerate",.ref l],[]⟩) (fun _ R s=>s.heap.IsTuple l us ∧
   R (.ok (.ret (.ref (s.heap.push { cls:=.type "tuple_iterator",data:=.fields #[.ref l,.int 0 0] }).objs.size)))
    { s with heap:=(s.heap.push { cls:=.type "tuple_iterator",data:=.fields #[.ref l,.int 0 0] }).push { cls:=.type "enumerate",data:=.fields #[.none,.bool false,.ref s.heap.objs.size,rawInt 0,.none,.none] } }):=
 .of_wp fun prog w A R s h=>by
  obtain ⟨hp,g,d,tk,os⟩:=s
  obtain ⟨ht,h⟩:=h
  have hsub:=sub_enumerate
  obtain ⟨⟨c,dct,dt,sl⟩,hl,hc,n,hd⟩:=id ht
  replace hc:c=.type "tuple":=hc
  replace hd:dt=.seq us n:=hd
  subst hc hd
  have hT:Heap.IsTuple (Shared.heap ⟨hp,g,d,tk,os⟩) l us:=ht
  wp_walk using AutoSeq1.wpAny_loadPart' hl
  refine wpAny_stack_any fun st=>wpAny_pure ?_
  split
  ·rename_i c _ _ _ _ _
   cases (c == Value.type "enumerate")
   ·wp_walk using AutoSeq1.wpAny_loadPart' hl,wpAny_pyIter_tuple hT
    exact ⟨_,rfl,h⟩
   ·wp_walk using AutoSeq1.wpAny_loadPart' hl,wpAny_pyIter_tuple hT
    exact ⟨_,rfl,h⟩
  ·wp_walk using AutoSeq1.wpAny_loadPart' hl,wpAny_pyIter_tuple hT
   exact ⟨_,rfl,h⟩
theorem call_enum (b:Bool) {l:Addr}{us:Array Value}{Q:Value→Shared→Prop}(hl:SSq b s.heap l us)
  (q:∀ g,IsEnum g (s.heap.objs.size + 1) s.heap.objs.size 0 .none→SIt b g s.heap.objs.size l 0→(∀ c o,s.heap.get? c=some o→g.get? c=some o)→Q (.ref (s.heap.objs.size + 1)) { s with heap:=g }):
  wpAny (model prog w) A (call (.type "enumerate") [.ref l]) Q E s:=by
 cases b with
 | true=>exact call_enumerate_list (show s.heap.IsList l us from hl) fun g h1 h2 _ h4=>q g h1 h2 h4
 | false =>
  refine callType_new PySem.F.called_enumerate (by decide) (PySem.F.typeCall_enumerate_1 _) (PySem.F.newCall_enumerate_1 _) (fun obj=>PySem.F.args_object_init_2 obj _) PySem.F.entry_enumerate_new (meets_enumT l us) ⟨hl,?_⟩
  have n1:(zg1 s.heap l).objs.size=s.heap.objs.size + 1:=Heap.size_push ..
  show _∧_
  rw [n1]
  have he:IsEnum ((zg1 s.heap l).push { cls:=.type "enumerate",data:=.fields #[.none,.bool false,.ref s.heap.objs.size,rawInt 0,.none,.none] }) (s.heap.objs.size + 1) s.heap.objs.size 0 .none:=by
   have:=Heap.get?_push_size (zg1 s.heap l) (o:={ cls:=.type "enumerate",data:=.fields #[.none,.bool false,.ref s.heap.objs.size,rawInt 0,.none,.none] }) rfl
   rw [n1] at this
   exact this
  exact ⟨⟨_,he,rfl⟩,q _ he ⟨_,Heap.get?_push_of_some _ (Heap.get?_push_size _ rfl),rfl,rfl⟩ fun c o x=>Heap.get?_push_of_some _ (Heap.get?_push_of_some _ x)⟩
end
theorem enumEnd {prog:Program}{w:World}{A:Around}{E:Value→Shared→Prop}{s:Shared}{e p:Addr}{i:Int}{old:Value}{Q:Option Value→Shared→Prop}(hh:A.handled=none) (he:IsEnum s.heap e p i old)
  (nx:∀ (Q:Value→Shared→Prop) (E:Value→Shared→Prop),(∀ g e,Heap.ExtBut p s.heap g→(∃ o,g.get? e=some o∧o.cls=.type "StopIteration")→E (.ref e) { s with heap:=g })→wpAny (model prog w) A.in1 (Builtin.SmallTypes.nextOf (.ref p)) Q E s)
  (q:∀ g,Heap.ExtBut p s.heap g→Q none { s with heap:=g }):wpAny (model prog w) A (pyNext (.ref e)) Q E s:=by
 have hT:s.TypeIs (.ref e) "enumerate":=⟨_,he,rfl⟩
 unfold pyNext
 refine wpAny_bind (wpAny_attempt (wpAny_callSpecial?_slot (name:=Str.ofString "__next__") hT PySem.F.slot_enumerate_next (wpAny_call_entry PySem.F.slot_enumerate_next hT PySem.F.entry_enumerate_next ?_ (PySem.F.args_enumerate_next_1 _))))
 show wpAny _ _ (field (.ref e) 2>>=_) _ _ _
 refine wpAny_bind (wpAny_field he rfl (x:=.ref p) rfl (wpAny_bind (nx _ _ fun g x eb hx=>?_)))
 obtain ⟨o,ho,hc⟩:=hx
 refine wpAny_bind (wpAny_isInstance (T:="StopIteration") (b:=true) ⟨o,ho,hc⟩ isSubtype_stop ?_)
 exact wpAny_pure (q _ eb)
theorem turn_enum {P:Program}{w:World}{K:PySem.W.Frag}{elts:List Expr}{x1}{pos:Pos}{xs:List V}(b:Bool) (a e p:Addr) (ep:e≠p) (ea:e≠a) (ap:a≠p):
  Turn P w K (.Tuple elts x1 pos) (Itp (enumV xs) fun H=>SqB K b H a xs) [e,p] e (fun i h=>(∃ old,IsEnum h e p i old)∧SIt b h p a i) where
 mem:=by simp
 obj:=fun i h st c hc=>by
  have hc':c=e∨c=p:=by simpa using hc
  obtain ⟨⟨old,he⟩,si⟩:=st
  rcases hc' with rfl | rfl
  ·exact ⟨_,he,fun v q=>by cases q⟩
  ·exact si.obj
 keep:=fun i h h' st k=>by
  obtain ⟨⟨old,he⟩,si⟩:=st
  exact ⟨⟨old,k e (by simp) _ he⟩,si.at fun o q=>k p (by simp) o q⟩
 item:=by
  intro X hP hw hK hc i pins s σ H E I hf st hg
  subst hP hw hK
  obtain ⟨hi,ha⟩:=hg
  obtain ⟨⟨old,he⟩,si⟩:=st
  obtain ⟨pr,hp⟩:∃ p,(enumV xs)[i]?=some p:=⟨(enumV xs)[i]'hi,List.getElem?_eq_getElem hi⟩
  obtain ⟨e1,hx⟩:=enumV_get hp
  obtain ⟨its,rv,sq⟩:=I.sseq ha
  obtain ⟨u,hu,ru⟩:=rv.get hx
  have hil:i<its.toArray.size:=by rw [enumV_len] at hi;have:=rv.length;simp;omega
  have D:=draws_seq (prog:=X.prog) (w:=X.w) (A:=X.A.in1) b (I.ok.hd hc) p a ap its.toArray
  refine wpAny_pyNext_enum_itemD D he ⟨si,sq⟩ hil ep (by simp;exact ⟨ep,ea⟩) fun x g tk hPx ho hst hT _ hk=>?_
  have exu:x=u:=by
   have h1:its.toArray[i]?=some x:=hPx
   have h2:its.toArray[i]?=some u:=by simpa using hu
   rw [h1] at h2
   exact Option.some.inj h2
  subst exu
  refine ⟨_,rfl,?_⟩
  refine wpAny_letOwnedTupleGo_enum (s:={ s with heap:=g,toks:=tk + 1 }) ho fun g' he' sb=>?_
  have elt:e<s.heap.objs.size:=Heap.lt_size he
  have plt:p<s.heap.objs.size:=let ⟨o,q,_⟩:=si.obj;Heap.lt_size q
  have sb':Heap.ExtBut e g g':=sb.extBut
  have hT':IsPair g' s.heap.objs.size (.int i tk) x:=sb' _ _ (Nat.ne_of_gt elt) hT
  have I1:Inv X pins σ (upd H s.heap.objs.size (.tup [pr.1,pr.2])) { s with heap:=g',toks:=tk + 1 }:=I.turnedNewL (t':=tk + 1) (its:=[e,p]) (fun c o hc q=>sb' c o (fun z=>hc (by simp [z])) (hk c o (fun z=>hc (by simp [z])) (fun z=>hc (by simp [z])) q)) hf (Nat.le_refl _)
   ⟨sL (by show 2≤100000;decide),[.int i tk,x],.cons (by rw [e1];exact ⟨tk,rfl⟩) (.cons ru .nil),⟨_,hT',rfl,_,rfl⟩⟩
  refine ⟨.ref s.heap.objs.size,_,I1,rfl,⟨s.heap.objs.size,pr,hp,I.hok.fresh (Nat.le_refl _),rfl,rfl⟩,⟨⟨x,by simpa using he'⟩,hst.1.at fun o q=>sb' _ o (Ne.symm ep) q⟩,fun c hc=>?_⟩
  have hc':c=e∨c=p:=by simpa using hc
  have ne:c≠s.heap.objs.size:=by
   rcases hc' with rfl | rfl
   ·exact Nat.ne_of_lt elt
   ·exact Nat.ne_of_lt plt
  rw [Zac ne]
  exact (hf c hc).1
 done:=by
  intro X hP hw hK hc i pins s σ H E I hf st hg
  subst hP hw hK
  obtain ⟨hi,ha⟩:=hg
  obtain ⟨⟨old,he⟩,si⟩:=st
  obtain ⟨its,rv,sq⟩:=I.sseq ha
  have hl:=rv.length
  rw [enumV_len] at hi
  cases b with
  | true =>
   have si:s.heap.IsListIter p a i:=si
   have sq:s.heap.IsList a its.toArray:=sq
   refine enumEnd (I.ok.hd hc) he (fun Q E hE=>wpAny_nextOf_list_end (I.ok.hd hc) si sq (by simp;omega) hE) fun g eb=>⟨rfl,I.turnedL (t':=s.toks) (its:=[e,p]) (fun c o hc q=>eb c o (fun z=>hc (by simp [z])) q) hf⟩
  | false =>
   have si:s.heap.IsTupleIter p a i:=si
   have sq:s.heap.IsTuple a its.toArray:=sq
   refine enumEnd (I.ok.hd hc) he (fun Q E hE=>nextTup_none (I.ok.hd hc) si sq (by simp;omega) hE) fun g eb=>⟨rfl,I.turnedL (t':=s.toks) (its:=[e,p]) (fun c o hc q=>eb c o (fun z=>hc (by simp [z])) q) hf⟩
 self:=fun A i s Q E st h=>let ⟨⟨_,he⟩,_⟩:=st;wpAny_pyIter_enum he h
section
variable {X:Cx}
def iEnum (K:PySem.W.Frag) (ta:TA):TI:=fun σ H R=>ta σ H fun vs H1=>∃ (b:Bool) (a:Addr) (xs:List V),vs=[.ref a]∧SqB K b H1 a xs∧R (Itp (enumV xs) fun H=>SqB K b H a xs) H1
theorem pi_enum {elts:List Expr}{x1}{tpos:Pos}{a:Expr}{ta:TA}{p pos:Pos}(hg:Gl X "enumerate") (hm:X.mg "enumerate"=none) (ha:PA X [a] ta) (hs:starEach [a] X.env=[(false,eval a X.env)]:=by rfl):
  PI X (.Tuple elts x1 tpos) (.Call (.Name "enumerate" p) [a] [] pos) (iEnum X.K ta):=by
 intro pins s σ H R I h
 refine Call_ (ld_blt I hg hm boot_enumerate (PyProof.Rows.callWith_type1 (thn (ha pos pins s σ H _ I h) fun us s1 ⟨vs,H1,I1,r1,q1⟩=>?_) hs rfl))
 obtain ⟨b,l,xs,e,t1,q⟩:=q1
 subst e
 cases r1 with
 | cons r rr =>
  cases rr
  obtain rfl:_=Value.ref l:=r
  obtain ⟨its,rv,sq⟩:=I1.sseq t1
  have lt1:l<s1.heap.objs.size:=by
   cases b with
   | true=>obtain ⟨_,e,_⟩:=(show s1.heap.IsList l its.toArray from sq);exact Heap.lt_size e
   | false=>obtain ⟨_,e,_⟩:=(show s1.heap.IsTuple l its.toArray from sq);exact Heap.lt_size e
  refine call_enum b sq fun g he si hk=>wpAny_pyIter_enum (s:={ s1 with heap:=g }) he ?_
  refine ⟨_,[s1.heap.objs.size + 1,s1.heap.objs.size],_,_,H1,rfl,I1.kept (t':=s1.toks) fun b o e=>hk b o e,turn_enum b l _ _ (Nat.succ_ne_self _) (Nat.ne_of_gt (Nat.lt_succ_of_lt lt1)) (Nat.ne_of_lt lt1),⟨⟨_,he⟩,si⟩,fun c hc=>?_,q⟩
  have hc':c=s1.heap.objs.size + 1∨c=s1.heap.objs.size:=by simpa using hc
  have ge:s1.heap.objs.size≤c:=by
   rcases hc' with rfl | rfl
   ·exact Nat.le_add_right _ _
   ·exact Nat.le_refl _
  exact I1.fpOk ge (I1.hok.fresh ge)
end
end L2
namespace L2
open PySem PySem.Spec PyProof.Rows PySem.W
theorem hu65 {A:Around}{k:Nat}(hr:Zdp k A):A.units + 65<cLine:=by have:=hr.un;omega
theorem valV_noneG {κ:Type} [DecidableEq κ] {kvs:List (κ×V)}{k:κ}(h:k∉kvs.map (·.1)):valV kvs k=none:=by
 cases e:valV kvs k with
 | none=>rfl
 | some v=>exact absurd (valV_in e) h
theorem putK_keysG {κ:Type} [DecidableEq κ] {kvs:List (κ×V)}{k:κ}{v:V}(h:k∉kvs.map (·.1)):(putK kvs k v).map (·.1)=kvs.map (·.1)++[k]:=by
 rw [putK_new v (valV_noneG h),List.map_append]
 rfl
theorem not_taken {α:Type}{l:List α}(nd:l.Nodup) {i:Nat}{x:α}(h:l[i]?=some x):x∉l.take i:=by
 intro m
 have hi:=(List.getElem?_eq_some_iff.mp h).1
 have e:=(List.getElem?_eq_some_iff.mp h).2
 have sp:l=l.take i++l.drop i:=(List.take_append_drop i l).symm
 rw [sp] at nd
 have q:=(List.nodup_append.mp nd).2.2 x m
 refine q x ?_ rfl
 rw [List.drop_eq_getElem_cons hi,e]
 exact List.mem_cons_self
theorem for_pairs {ps:List (V×V)}{Ok:Hp→Prop}{g:TG}{tb:TS}{D:Ends}{σ:St}{H:Hp}(Pv:Nat→St→Hp→Prop) (h0:Pv 0 σ H) (hl:∀ i σ H,i≤ps.length→Pv i σ H→Ok H)
  (hs:∀ i p t σ H,ps[i]?=some p→Pv i σ H→H t=none→g (.ref t) σ (upd H t (.tup [p.1,p.2])) fun σ2 H2=>tb { D with nx:=Pv (i + 1),ct:=Pv (i + 1),bk:=D.nx } σ2 H2) (hd:∀ σ H,Pv ps.length σ H→D.nx σ H):
  ∃ W:Nat→Nat→St→Hp→Prop,(∃ m,W 0 m σ H)∧∀ i m σ H,W i m σ H →
   ((Itp ps Ok).stop i H∧D.nx σ H)∨((Itp ps Ok).go i H∧∃ N:St→Hp→Prop,(∀ σ' H',N σ' H'→∃ m',m'<m∧W (i + 1) m' σ' H')∧∀ x H',(Itp ps Ok).yld i H x H'→g x σ H' fun σ2 H2=>tb { D with nx:=N,ct:=N,bk:=D.nx } σ2 H2):=by
 refine ⟨fun i m σ H=>m=ps.length - i∧i≤ps.length∧Pv i σ H,⟨ps.length,by simp,Nat.zero_le _,h0⟩,?_⟩
 rintro i m σ H ⟨rfl,hi,p⟩
 have q:=hl i σ H hi p
 by_cases hlt:i<ps.length
 ·refine .inr ⟨⟨hlt,q⟩,Pv (i + 1),fun σ' H' p'=>⟨ps.length - (i + 1),by omega,rfl,hlt,p'⟩,fun x H' y=>?_⟩
  obtain ⟨t,pr,hp,ht,rfl,rfl⟩:=y
  exact hs i pr t σ H hp p ht
 ·have e:i=ps.length:=by omega
  subst e
  exact .inl ⟨⟨Nat.le_refl _,q⟩,hd σ H p⟩
abbrev g2 (K:PySem.W.Frag) (i j:Nat):TG:=gTup K 2 (gCons (gName i) (gCons (gName j) gNil))
theorem g2_at {K:PySem.W.Frag}{i j:Nat}{t:Addr}{x y:V}{σ:St}{H:Hp}{R:St→Hp→Prop}(h:SqT K H t [x,y]) (q:R ((σ.set i (some x)).set j (some y)) H):g2 K i j (.ref t) σ H R :=
 ⟨t,[x,y],rfl,h,rfl,x,[y],rfl,y,[],rfl,rfl,q⟩
theorem g2_new {K:PySem.W.Frag}{i j:Nat}{t:Addr}{x y:V}{σ:St}{H:Hp}{R:St→Hp→Prop}(q:R ((σ.set i (some x)).set j (some y)) (upd H t (.tup [x,y]))):g2 K i j (.ref t) σ (upd H t (.tup [x,y])) R :=
 g2_at (SqT.of uS) q
theorem pg_two {X:Cx}{K:PySem.W.Frag}{i j:Nat}{x y:Str}{p q pos:Pos}{c:Nat}(hK:X.K=K) (hc:X.calm=true) (hN:X.N.Nodup) (hi:X.N[i]?=some x) (hj:X.N[j]?=some y) (hx:Loc X.env.scope x) (hy:Loc X.env.scope y)
  (fx:X.fn x=true∨X.env.scope.names.lookup x=some .local) (fy:X.fn y=true∨X.env.scope.names.lookup y=some .local):PG X (.Tuple [.Name x p,.Name y q] c pos) (g2 K i j):=by
 subst hK
 exact pg_tup hc (gC (Zaj (i:=i) hN hi hx fx) (gC (Zaj (i:=j) hN hj hy fy) Zer))
theorem snew {H:Hp}{t:Addr}{o:HO}(h:H t=none):Zan H (upd H t o):=fun b u e=>by rw [Zac (nNo e h)];exact e
theorem take_filter {α:Type}(p:α→Bool):∀ (xs:List α) (i:Nat) (x:α),xs[i]?=some x→(xs.take (i + 1)).filter p=(xs.take i).filter p++if p x=true then [x] else []:=by
 intro xs i x h
 rw [List.take_add_one,h,List.filter_append]
 congr 1
 cases e:p x <;> simp [List.filter,e]
theorem comp_rel2 {K:PySem.W.Frag}{ps:List (V×V)}{Ok:Hp→Prop}{js:List Nat}{tt:TT}{te:TE}{σ:St}{Q:VK}{H1:Hp}(hz:ps.length≤sizeLine) (p:V×V→Bool) (F:Addr→V×V→V→Hp→Prop)
  (hF:∀ D x v H H',(∀ b o,b≠D→H b=some o→H' b=some o)→F D x v H→F D x v H')
  (hok:∀ H,Zan H1 H→Ok H)
  (ht:∀ x H (R:Bool→Hp→Prop),Zan H1 H→x∈ps→(∀ H',Zan H H'→R (p x) H')→tt (some x.1 :: some x.2 :: js.map fun j=>(σ[j]?).join) H R)
  (he:∀ D x H (R:V→Hp→Prop),Zan H1 H→(∃ ys,H D=some (.lst ys))→H1 D=none→x∈ps→p x=true→(∀ v H',Zan H H'→F D x v H'→R v H')→te (some x.1 :: some x.2 :: js.map fun j=>(σ[j]?).join) H R)
  (hd:∀ D H' ys,H1 D=none→Zan H1 H'→H' D=some (.lst ys)→Paired (fun x v=>F D x v H') (ps.filter p) ys→Q (.ref D) H'):
  compBody 2 js (g2 K 0 1) tt te σ Q (Itp ps Ok) H1:=by
 intro D hD
 refine ⟨fun i m ys σ' H=>m=ps.length - i∧i≤ps.length∧Zan H1 H∧H D=some (.lst ys)∧Paired (fun x v=>F D x v H) ((ps.take i).filter p) ys∧∃ o u,σ'=o :: u :: js.map fun j=>(σ[j]?).join,
  ⟨ps.length,by simp,Nat.zero_le _,snew hD,uS,by simpa using Paired.nil,none,none,rfl⟩,?_⟩
 rintro i m ys σ' H ⟨rfl,hi,hs,hl,hp,o,u,rfl⟩
 have mono:∀ {H H':Hp},(∀ b o,b≠D→H b=some o→H' b=some o)→Paired (fun x v=>F D x v H) ((ps.take i).filter p) ys→Paired (fun x v=>F D x v H') ((ps.take i).filter p) ys:=fun h q=>Paired.mapP q fun a b z=>hF D a b _ _ h z
 by_cases hlt:i<ps.length
 ·have yl:ys.length<sizeLine:=by
   rw [← hp.length]
   refine Nat.lt_of_le_of_lt (List.length_filter_le _ _) ?_
   rw [List.length_take]
   omega
  refine .inr ⟨⟨hlt,hok H hs⟩,yl,fun ys3 σ3 H3=>Zan H1 H3∧H3 D=some (.lst ys3)∧Paired (fun x v=>F D x v H3) ((ps.take (i + 1)).filter p) ys3∧∃ o u,σ3=o :: u :: js.map fun j=>(σ[j]?).join,
   fun ys3 σ3 H3 z=>⟨ps.length - (i + 1),by omega,rfl,hlt,z⟩,fun x H2 y=>?_⟩
  obtain ⟨t,x,hx,ht0,rfl,rfl⟩:=y
  refine g2_new ?_
  show tt (some x.1 :: some x.2 :: js.map fun j=>(σ[j]?).join) (upd H t (.tup [x.1,x.2])) _
  have hm:x∈ps:=List.mem_of_getElem? hx
  have st:Zan H (upd H t (.tup [x.1,x.2])):=snew ht0
  refine ht x _ _ (hs.trans st) hm fun H4 s4=>?_
  have s04:Zan H H4:=st.trans s4
  have hs4:Zan H1 H4:=hs.trans s04
  cases hpx:p x with
  | true =>
   rw [if_pos rfl]
   refine he D x H4 _ hs4 ⟨_,s04 _ _ hl⟩ hD hm hpx fun v H5 s5 f5=>⟨s5 _ _ (s04 _ _ hl),fun b o e=>?_,uS,?_,_,_,rfl⟩
   ·rw [Zac (nNo e hD)]
    exact s5 _ _ (hs4 _ _ e)
   ·rw [take_filter p ps i x hx,hpx,if_pos rfl]
    refine Paired.snoc (mono (fun b o hb e=>by rw [Zac hb];exact s5 _ _ (s04 _ _ e)) hp) (hF D _ _ _ _ (fun b o hb e=>by rw [Zac hb];exact e) f5)
  | false =>
   rw [if_neg Bool.false_ne_true]
   refine ⟨hs4,s04 _ _ hl,?_,_,_,rfl⟩
   rw [take_filter p ps i x hx,hpx,if_neg Bool.false_ne_true,List.append_nil]
   exact mono (fun b o _ e=>s04 _ _ e) hp
 ·have e:i=ps.length:=by omega
  subst e
  rw [List.take_length] at hp
  exact .inl ⟨⟨Nat.le_refl _,hok H hs⟩,hd D H ys hD hs hl hp⟩
theorem paired_eq {α:Type}{f:α→V}:∀ {xs:List α}{ys:List V},Paired (fun x v=>v=f x) xs ys→ys=xs.map f
 | _,_,.nil=>rfl
 | _,_,.cons r t=>by rw [List.map_cons,r,paired_eq t]
theorem comp_val {J:It}{xs:List V}{Ok:Hp→Prop}(R:Runs J xs Ok) {js:List Nat}{tt:TT}{te:TE}{σ:St}{Q:VK}{H1:Hp}(hz:xs.length≤sizeLine) (p:V→Bool) (f:V→V)
  (hok:∀ H,Zan H1 H→Ok H)
  (ht:∀ x H (R:Bool→Hp→Prop),Zan H1 H→x∈xs→(∀ H',Zan H H'→R (p x) H')→tt (some x :: js.map fun j=>(σ[j]?).join) H R)
  (he:∀ x H (R:V→Hp→Prop),Zan H1 H→x∈xs→p x=true→(∀ H',Zan H H'→R (f x) H')→te (some x :: js.map fun j=>(σ[j]?).join) H R)
  (hd:∀ D H',H1 D=none→Zan H1 H'→H' D=some (.lst ((xs.filter p).map f))→Q (.ref D) H'):
  compBody 1 js (gName 0) tt te σ Q J H1 :=
 comp_rel R hz p (fun _ x v _=>v=f x) (fun _ _ _ _ _ _ z=>z) hok ht (fun D x H R hs _ _ hx hp k=>he x H R hs hx hp fun H' s'=>k _ _ s' rfl)
  fun D H' ys hD hs hl hp=>hd D H' hD hs (by rw [hl,paired_eq hp])
section
variable {X:Cx}
theorem any_dEq {d:Dat}{n:Nat} (h2:kqdOk n d=true):∀ {ds:List Dat},ds.all (kqdOk 8)=true→((kqdPs ds).any fun y=>PyData.eqv y (kqdP d))=ds.any fun e=>dEq e d
 | [],_=>by rw [kqdPs];rfl
 | e :: ds,h=>by
  rw [List.all_cons,Bool.and_eq_true] at h
  rw [kqdPs,List.any_cons,List.any_cons,eqv_dEq h.1 h2,any_dEq h2 h.2]
noncomputable def rInD (K:PySem.W.Frag) (f:Bool→Bool):R2:=fun x y H Q=>∃ d ds,Rep K H x d∧Rep K H y (.list ds)∧kqdOk 9 d=true∧ds.all (kqdOk 8)=true∧Q (.bl (f (ds.any fun e=>dEq e d))) H
theorem shaped_l {ds:List Dat}(h:ds.all (kqdOk 8)=true):SeqAt.shaped (PyData.list (kqdPs ds))=true:=by
 have:=Zd4 (d:=.list ds) (by rw [kqdOk];exact h)
 rw [kqdP] at this
 exact this
theorem op_notInD (hu:X.A.units + 65<cLine):OpR X (compareOp .NotIn) (rInD X.K Bool.not):=by
 intro pins s σ H x y v u Q I rx ry h
 obtain ⟨d,ds,h1,h2,k1,k2,q⟩:=h
 obtain ⟨as,ra⟩:=h1.reads I rx
 obtain ⟨bs,rb⟩:=h2.reads I ry
 rw [kqdP] at rb
 exact SeqAt.notIn_list_reads rb ra (SeqAt.canLay_of_shaped (shaped_l k2)) (SeqAt.canLay_of_shaped (Zd4 k1)) (room_in_shaped (Zd4 k1) hu) (Zbi I q (by rw [any_dEq k1 k2]))
end
end L2
namespace L2
open PySem PySem.Spec PyProof.Rows PySem.W
def natV (i:Nat):V:=.int (i:Nat)
theorem rangeV_nat (n:Nat):Zdi 0 n=(List.range n).map natV:=by
 refine List.ext_getElem? fun i=>?_
 by_cases hi:i<n
 ·have h1:(Zdi 0 n)[i]?=some ((Zdi 0 n)[i]'(by rw [Zat];exact hi)):=List.getElem?_eq_getElem _
  obtain ⟨_,e⟩:=Za4 h1
  rw [h1,e,List.getElem?_map,List.getElem?_range hi]
  show some (V.int (0 + (i:Nat)))=some (V.int (i:Nat))
  rw [Int.zero_add]
 ·rw [List.getElem?_eq_none (by rw [Zat];omega),List.getElem?_eq_none (by simp;omega)]
end L2
namespace L2
open PySem PySem.Spec PyProof.Rows
theorem erase_map {α β:Type}(f:α→β):∀ (l:List α) (j:Nat),(l.map f).eraseIdx j=(l.eraseIdx j).map f
 | [],_=>rfl
 | _ :: _,0=>rfl
 | a :: r,j + 1=>by
  rw [List.map_cons,List.eraseIdx_cons_succ,List.eraseIdx_cons_succ,List.map_cons,erase_map f r j]
section
variable {X:Cx}
end
end L2
namespace L2
open PySem PySem.W PySem.Spec PyProof.Rows
section
variable {X:Cx}
end
end L2
namespace L2
open PySem PySem.Spec PyProof.Rows
section
variable {prog:Program} {w:World} {A:Around} {E:Value→Shared→Prop} {s:Shared} {d it:Addr} {es:Array DictEntry} {ep i:Nat}
end
end L2
namespace L2
open PySem PySem.Spec PyProof.Rows
section
variable {X:Cx} {pins:List (Addr×Obj)} {σ:St} {H H':Hp} {s:Shared} {a:Addr} {kvs:List (List Key×V)} {o:Obj}
end
section
variable {X:Cx} {tg:Expr}
end
end L2
namespace L2
open PySem PySem.Spec PyProof.Rows
end L2
namespace L2
open PySem PySem.Spec PyProof.Rows
end L2
namespace L2
open PySem PySem.Spec PyProof.Rows
end L2
namespace L2
open PySem PySem.Spec PyProof.Rows
structure Air (h:Heap) (e T:Addr) (cls:Value) (dx:Option Addr) (fl:Value):Prop where
 ne:T≠e
 obj:∃ oe vs,h.get? e=some oe∧oe.cls=cls∧oe.dict=dx∧oe.data=.fields vs∧vs[1]?=some (.ref T)
 tb:∃ oT ts,h.get? T=some oT∧oT.data=.fields ts∧ts[3]?=some fl
structure Chg (S R:List Addr) (h h':Heap):Prop where
 sz:h.objs.size≤h'.objs.size
 keep:∀ b o,h.get? b=some o→b∉S→b∉R→h'.get? b=some o
 slot:∀ b o,h.get? b=some o→b∉R→∃ sl,h'.get? b=some { o with slots:=sl }
 there:∀ b o,h.get? b=some o→∃ o',h'.get? b=some o'
theorem Chg.mono {S S' R R':List Addr}{h h':Heap}(c:Chg S R h h') (hs:∀ b∈S,b∈S') (hr:∀ b∈R,b∈R'):Chg S' R' h h' :=
 ⟨c.sz,fun b o e n1 n2=>c.keep b o e (fun z=>n1 (hs b z)) fun z=>n2 (hr b z),fun b o e n=>c.slot b o e fun z=>n (hr b z),c.there⟩
theorem Chg.trans {S R:List Addr}{h h1 h2:Heap}(a:Chg S R h h1) (b:Chg S R h1 h2):Chg S R h h2 :=
 ⟨Nat.le_trans a.sz b.sz,fun c o e n1 n2=>b.keep c o (a.keep c o e n1 n2) n1 n2,fun c o e n=>by
  obtain ⟨sl,e1⟩:=a.slot c o e n
  obtain ⟨sl',e2⟩:=b.slot c _ e1 n
  exact ⟨sl',e2⟩,fun c o e=>by
  obtain ⟨o1,e1⟩:=a.there c o e
  exact b.there c o1 e1⟩
theorem Chg.drop {S R:List Addr}{h h':Heap}{t:Addr}(c:Chg S (t :: R) h h') (ht:h.objs.size≤t):Chg S R h h' :=
 ⟨c.sz,fun b o e n1 n2=>c.keep b o e n1 fun z=>(List.mem_cons.mp z).elim (fun q=>absurd (Heap.lt_size e) (by rw [q];exact Nat.not_lt.mpr ht)) n2,
  fun b o e n=>c.slot b o e fun z=>(List.mem_cons.mp z).elim (fun q=>absurd (Heap.lt_size e) (by rw [q];exact Nat.not_lt.mpr ht)) n,c.there⟩
theorem dict_mapFields (f:Array Value→Array Value) (o:Obj):(Obj.mapFields f o).dict=o.dict:=by
 obtain ⟨c,d,dt,sl⟩:=o
 cases dt <;> rfl
theorem Chg.setF {h:Heap}{T:Addr}{oT:Obj}{ts:Array Value}{f:Array Value→Array Value}(hT:h.get? T=some oT) (hd:oT.data=.fields ts):Chg [] [T] h (h.update T (Obj.mapFields f)):=by
 have other:∀ b,b≠T→(h.update T (Obj.mapFields f)).get? b=h.get? b:=fun b hb=>Heap.get?_update_other _ _ (Ne.symm hb)
 refine ⟨Nat.le_of_eq (Heap.size_after_update ..).symm,fun b o e _ n=>(other b fun z=>n (by simp [z])).trans e,fun b o e n=>⟨o.slots,(other b fun z=>n (by simp [z])).trans e⟩,fun b o e=>?_⟩
 by_cases hb:b=T
 ·subst hb
  exact ⟨_,Heap.get?_update_self _ hT (Obj.isFreed_of_fields (Obj.data_mapFields hd _))⟩
 ·exact ⟨o,(other b hb).trans e⟩
theorem Chg.entry {S:List Addr}{h g:Heap}{e:Addr}{oe nb:Obj}{vs ts:Array Value}{fl:Value}(sl:Heap.SlotsOnly S h g) (ns:e∉S) (he:h.get? e=some oe) (hd:oe.data=.fields vs) (hsz:1<vs.size) (hnb:nb.data=.fields ts) (h3:ts[3]?=some fl):
  Air ((g.push nb).update e (Obj.mapFields fun r=>r.setIfInBounds 1 (.ref g.objs.size))) e g.objs.size oe.cls oe.dict fl∧Chg S [e] h ((g.push nb).update e (Obj.mapFields fun r=>r.setIfInBounds 1 (.ref g.objs.size))):=by
 have ge:g.get? e=some oe:=(sl.2.1 e ns).trans he
 have apart:g.objs.size≠e:=Nat.ne_of_gt (Heap.lt_size ge)
 have pe:(g.push nb).get? e=some oe:=Heap.get?_push_of_some nb ge
 have data:=Obj.data_mapFields hd fun r=>r.setIfInBounds 1 (Value.ref g.objs.size)
 have self:=Heap.get?_update_self (Obj.mapFields fun r=>r.setIfInBounds 1 (Value.ref g.objs.size)) pe (Obj.isFreed_of_fields data)
 have Zee:∀ b o,b≠e→g.get? b=some o→((g.push nb).update e (Obj.mapFields fun r=>r.setIfInBounds 1 (.ref g.objs.size))).get? b=some o:=fun b o n q =>
  (Heap.get?_update_other _ _ fun z=>n z.symm).trans (Heap.get?_push_of_some nb q)
 have tnew:(g.push nb).get? g.objs.size=some nb:=Heap.get?_push_size g (Obj.isFreed_of_fields hnb)
 refine ⟨⟨apart,⟨_,_,self,Obj.cls_mapFields _ _,dict_mapFields _ _,data,by simp [hsz]⟩,⟨nb,ts,(Heap.get?_update_other _ _ fun z=>apart z.symm).trans tnew,hnb,h3⟩⟩,⟨?_,fun b o q n1 n2=>?_,fun b o q n=>?_,fun b o q=>?_⟩⟩
 ·rw [Heap.size_after_update,Heap.size_push,sl.1]
  omega
 ·exact Zee b o (fun z=>n2 (z ▸ List.mem_cons_self)) ((sl.2.1 b n1).trans q)
 ·obtain ⟨k,r⟩:=sl.2.2 b o q
  exact ⟨k,Zee b _ (fun z=>n (z ▸ List.mem_cons_self)) r⟩
 ·obtain ⟨k,r⟩:=sl.2.2 b o q
  by_cases z:b=e
  ·subst z;exact ⟨_,self⟩
  ·exact ⟨_,Zee b _ z r⟩
section
variable {M:Model} {A:Around} {E:Value→Shared→Prop} {s:Shared}
theorem note_new {base:Heap}{env:Env}{outer:List Env}{L e:Addr}{oe:Obj}{vs:Array Value}{head:Value}{hadNext:Bool}{Q:Unit→Shared→Prop}
  (hfr:A.frames=some (env :: outer)) (hl:s.heap.FunFrames base (env :: outer)) (hf:env.frame=some L) (he:s.heap.get? e=some oe) (hd:oe.data=.fields vs) (hsz:1<vs.size)
  (h:∀ h' T,s.heap.objs.size≤T→Air h' e T oe.cls oe.dict (rawInt L)→Chg (frs (env :: outer)) [e] s.heap h'→Q () { s with heap:=h' }):
  wpAny M A (frameOf env>>=fun a=>entryPlaceOf L hadNext>>=fun pl=>EntryCells.newEntry head a .none (rawInt L) .none pl>>=fun b=>setField (.ref e) 1 b) Q E s:=by
 have nf:e∉frs (env :: outer):=fun m=>by
  have q:=(hl.mem m).2
  rw [he] at q
  obtain ⟨_,r1,r2⟩:=q
  cases r1
  exact r2 vs hd
 apply wpAny_bind
 refine wpAny_frameOf_fun hfr hl hf fun g1 sl1=>wpAny_bind (wpAny_entryPlaceOf fun pl place=>wpAny_bind ?_)
 have three:∀ xs:List Value,IsPlace xs→([head,Value.ref L,.none,rawInt L,.none]++(if xs.isEmpty then List.replicate 6 Value.none else xs)).toArray[3]?=some (rawInt L):=fun xs _=>by simp
 have laid:=Chg.entry (nb:={ cls:=.type "traceback",data:=.fields ([head,.ref L,.none,rawInt L,.none]++(if pl.isEmpty then List.replicate 6 Value.none else pl)).toArray }) sl1 nf he hd hsz rfl (three pl place)
 refine wpAny_newObj_type (wpAny_setField (Heap.get?_push_of_some _ ((sl1.2.1 e nf).trans he)) hd hsz ?_) (place.sizeOk5 _ _ _ _ _)
 exact h _ _ (Nat.le_of_eq sl1.1.symm) laid.1 laid.2
theorem air_lands {e T:Addr}{cls fl:Value}{dx:Option Addr}{Q:Unit→Shared→Prop}(a:Air s.heap e T cls dx fl)
  (h:∀ h',Air h' e T cls dx .none→Chg [] [T] s.heap h'→Q () { s with heap:=h' }):wpAny M A (setFlight (.ref e) none) Q E s:=by
 obtain ⟨ne,⟨oe,vs,he,hc,hdx,hd,h1⟩,⟨oT,ts,hT,hdT,h3⟩⟩:=a
 obtain ⟨hsz3,_⟩:=Array.getElem?_eq_some_iff.mp h3
 have some_:(Value.ref T != Value.none)=true:=by simp
 unfold setFlight
 apply wpAny_bind
 apply wpAny_field he hd h1
 rw [if_pos some_]
 refine wpAny_setField hT hdT hsz3 (h _ ⟨ne,⟨oe,vs,(Heap.get?_update_other _ _ ne).trans he,hc,hdx,hd,h1⟩,⟨_,_,Heap.get?_update_self _ hT (Obj.isFreed_of_fields (Obj.data_mapFields hdT _)),Obj.data_mapFields hdT _,by simp [hsz3]⟩⟩ (Chg.setF hT hdT))
theorem air_notes {base:Heap}{env:Env}{outer:List Env}{L e T:Addr}{cls:Value}{dx:Option Addr}{Q:Unit→Shared→Prop}
  (hfr:A.frames=some (env :: outer)) (hl:s.heap.FunFrames base (env :: outer)) (hf:env.frame=some L) (a:Air s.heap e T cls dx .none)
  (h:∀ h' T',s.heap.objs.size≤T'→Air h' e T' cls dx (rawInt L)→Chg (frs (env :: outer)) [e,T] s.heap h'→Q () { s with heap:=h' }):wpAny M A (noteFrame (.ref e) env) Q E s:=by
 obtain ⟨ne,⟨oe,vs,he,hc,hdx,hd,h1⟩,⟨oT,ts,hT,hdT,h3⟩⟩:=a
 subst hc hdx
 have some_:(Value.ref T != Value.none)=true:=by simp
 have apart:¬ (Value.none == rawInt L)=true:=by simp [rawInt]
 have c1:Chg [] [T] s.heap (s.heap.update T (Obj.mapFields fun r=>r.setIfInBounds 3 Value.none)):=Chg.setF hT hdT
 have kept:∀ b o,s.heap.get? b=some o→b≠T→(s.heap.update T (Obj.mapFields fun r=>r.setIfInBounds 3 Value.none)).get? b=some o:=fun b o q n=>c1.keep b o q (fun z=>nomatch z) fun z=>n (List.mem_singleton.mp z)
 unfold noteFrame
 simp only [hf]
 apply wpAny_bind
 apply wpAny_field he hd h1
 rw [if_pos some_]
 apply wpAny_bind
 apply wpAny_field hT hdT h3
 rw [if_neg apart]
 apply wpAny_bind
 refine wpAny_setField hT hdT (Array.getElem?_eq_some_iff.mp h3).1 ?_
 refine note_new hfr (hl.of_keeps fun b o q nf=>⟨o,kept b o q fun z=>by subst z;rw [hT] at q;cases q;exact nf ts hdT,rfl⟩) hf (kept e oe he fun z=>ne z.symm) hd (Array.getElem?_eq_some_iff.mp h1).1 fun h' T' hT' a' c'=>?_
 exact h h' T' (Nat.le_trans c1.sz hT') a' ((c1.mono (fun b z=>nomatch z) fun b z=>by simp at z;simp [z]).trans (c'.mono (fun b z=>z) fun b z=>by simp at z;simp [z]))
theorem air_first {base:Heap}{env:Env}{outer:List Env}{L e:Addr}{oe:Obj}{vs:Array Value}{Q:Unit→Shared→Prop}
  (hfr:A.frames=some (env :: outer)) (hl:s.heap.FunFrames base (env :: outer)) (hf:env.frame=some L) (he:s.heap.get? e=some oe) (hd:oe.data=.fields vs) (h1:vs[1]?=some .none)
  (h:∀ h' T,s.heap.objs.size≤T→Air h' e T oe.cls oe.dict .none→Chg (frs (env :: outer)) [e] s.heap h'→Q () { s with heap:=h' }):wpAny M A (leaving env (.ref e)) Q E s:=by
 unfold leaving noteFrame
 simp only [hf]
 apply wpAny_bind
 apply wpAny_bind
 apply wpAny_field he hd h1
 rw [if_neg (by decide)]
 refine note_new hfr hl hf he hd (Array.getElem?_eq_some_iff.mp h1).1 fun h' T hT a c=>?_
 refine air_lands a fun h2 a2 c2=>h h2 T hT a2 ?_
 have c3:Chg (frs (env :: outer)) [T,e] s.heap h2:=(c.mono (fun b z=>z) fun b z=>by simp at z;simp [z]).trans (c2.mono (fun b z=>nomatch z) fun b z=>by simp at z;simp [z])
 exact c3.drop hT
theorem air_next {base:Heap}{env:Env}{outer:List Env}{L e T:Addr}{cls:Value}{dx:Option Addr}{Q:Unit→Shared→Prop}
  (hfr:A.frames=some (env :: outer)) (hl:s.heap.FunFrames base (env :: outer)) (hf:env.frame=some L) (a:Air s.heap e T cls dx .none)
  (h:∀ h' T',s.heap.objs.size≤T'→Air h' e T' cls dx .none→Chg (frs (env :: outer)) [e,T] s.heap h'→Q () { s with heap:=h' }):wpAny M A (leaving env (.ref e)) Q E s:=by
 unfold leaving
 refine wpAny_bind (air_notes hfr hl hf a fun h' T' hT a' c=>?_)
 refine air_lands a' fun h2 a2 c2=>h h2 T' hT a2 ?_
 have c3:Chg (frs (env :: outer)) [T',e,T] s.heap h2:=(c.mono (fun b z=>z) fun b z=>by simp at z;rcases z with z | z <;> simp [z]).trans (c2.mono (fun b z=>nomatch z) fun b z=>by simp at z;simp [z])
 exact c3.drop hT
end
theorem HOk.chg {P:Program}{w:World}{H:Hp}{h h':Heap}{S R:List Addr}(x:HOk P w H h) (c:Chg S R h h') (hS:∀ b∈S,H b=none) (hR:∀ b∈R,H b=none):HOk P w H h':=fun a o e =>
 (x a o e).stay (fun b u hb q=>by
  have hn:H b≠none:=by
   rcases hb with z | z
   ·rw [z,e];simp
   ·rw [z];simp
  exact c.keep b u q (fun z=>hn (hS b z)) fun z=>hn (hR b z)) (fun _ q=>q) fun _ _ q=>q
theorem Un.chg {fs ex S R:List Addr}{H:Hp}{h h':Heap}(c:Chg S R h h') (hS:∀ b∈S,b∈fs) (hR:∀ b∈R,b∈ex):Un fs ex H H h h' :=
 ⟨fun b o e n hb hx=>c.keep b o e (fun z=>hb (hS b z)) fun z=>hx (hR b z),fun b o e n hb hx=>c.slot b o e fun z=>hx (hR b z),fun _ _ _ n _=>n,fun b o e _=>c.there b o e,fun _ _ q=>q,fun _ _ _ q=>q,fun _ ps q=>⟨#[],by rw [q];simp⟩⟩
def CX1 (P:Program) (w:World):CXT:=fun outer H s E ev s'=>∃ (e T:Addr) (cls:Value) (dx:Option Addr) (H':Hp),ev=.ref e∧s'.os=s.os∧AllBare s'.gens∧Un (frs outer) [] H H' s.heap s'.heap∧HOk P w H' s'.heap ∧
 H' e=none∧H' T=none∧s.heap.objs.size≤e∧s.heap.objs.size≤T∧Air s'.heap e T cls dx .none∧E cls dx H'
structure Fns (X:Cx) (E:XK):Prop where
 xe:X.xe=fun e s'=>wpAny (model X.prog X.w) X.A (leaving X.env e) (fun _ s''=>CX1 X.prog X.w X.outer X.H₀ X.s₀ E e s'') (fun e' s''=>CX1 X.prog X.w X.outer X.H₀ X.s₀ E e' s'') s'
 stk:X.stack=X.env :: X.outer
 fr:X.env.frame=some X.env.locals
 ex:X.ex=[]
theorem Fns.of {P:Program}{w:World}{K:PySem.W.Frag}{mg:Str→Option Value}{base:Heap}{N:List Str}{qual:Str}{scope:Scope}{f:Addr}{cd:Value}{A:Around}{outer:List Env}{s:Shared}{H:Hp}{E:XK} :
  Fns (cxOf (CX1 P w) P w K mg base N qual scope f cd A outer s H E) E:=⟨rfl,rfl,rfl,rfl⟩
section
variable {X:Cx} {pins:List (Addr×Obj)} {σ:St} {H:Hp} {s:Shared} {E:XK} {e T:Addr} {cls:Value} {dx:Option Addr}
theorem Fns.old (F:Fns X E) (f:FpOk X pins H e):X.s₀.heap.objs.size≤e:=by
 rcases f.2.2.2.1 with z | z
 ·rw [F.ex] at z;cases z
 ·exact z
theorem Fns.un {h':Heap}{R:List Addr}(F:Fns X E) (I:Inv X pins σ H s) (c:Chg (frs X.stack) R s.heap h') (hR:∀ b∈R,X.s₀.heap.objs.size≤b):Un X.fs [] X.H₀ H X.s₀.heap h':=by
 have B:=I.base
 have hx:∀ b,b∉X.ex:=fun b z=>by rw [F.ex] at z;cases z
 have ns:∀ b o,X.s₀.heap.get? b=some o→b∉X.fs→b∉frs X.stack:=fun b o q n z=>by
  rcases List.mem_cons.mp (I.stkSub b z) with r | r
  ·exact absurd (Nat.lt_of_lt_of_le (Heap.lt_size q) (by rw [r];exact I.ok.above)) (Nat.lt_irrefl _)
  ·exact n r
 have nr:∀ b o,X.s₀.heap.get? b=some o→b∉R:=fun b o q z=>absurd (Nat.lt_of_lt_of_le (Heap.lt_size q) (hR b z)) (Nat.lt_irrefl _)
 refine ⟨fun b o q n hb _=>c.keep b o (B.keep b o q n hb (hx b)) (ns b o q hb) (nr b o q),fun b o q n hb _=>?_,fun b o q n _=>B.free b o q n (hx b),fun b o q _=>?_,B.tups,B.frzs,B.tbls⟩
 ·obtain ⟨sl,e1⟩:=B.slot b o q n hb (hx b)
  obtain ⟨sl',e2⟩:=c.slot b _ e1 (nr b o q)
  exact ⟨sl',e2⟩
 ·obtain ⟨o1,e1⟩:=B.there b o q (hx b)
  exact c.there b o1 e1
theorem Fns.leave (F:Fns X E) (I:Inv X pins σ H s) (fe:FpOk X pins H e) (fT:FpOk X pins H T) (a:Air s.heap e T cls dx .none) (h:E cls dx H):X.xe (.ref e) s:=by
 rw [F.xe]
 have hfr:X.A.frames=some (X.env :: X.outer):=by rw [← F.stk];exact I.ok.frames
 have hl:s.heap.FunFrames X.base (X.env :: X.outer):=by rw [← F.stk];exact I.stack
 refine air_next hfr hl F.fr a fun h' T' hT' a' c=>?_
 rw [← F.stk] at c
 exact ⟨e,T',cls,dx,H,rfl,I.os,I.bare,F.un I c fun b z=>by simp at z;rcases z with z | z <;> rw [z];exact F.old fe;exact F.old fT,
  I.hok.chg c I.stkFree (fun b z=>by simp at z;rcases z with z | z <;> rw [z];exact fe.1;exact fT.1),fe.1,I.hok.fresh hT',F.old fe,Nat.le_trans I.sz hT',a',h⟩
theorem Fns.raised {oe:Obj}{vs:Array Value}(F:Fns X E) (I:Inv X pins σ H s) (fe:FpOk X pins H e) (he:s.heap.get? e=some oe) (hd:oe.data=.fields vs) (h1:vs[1]?=some .none) (h:E oe.cls oe.dict H):X.xe (.ref e) s:=by
 rw [F.xe]
 have hfr:X.A.frames=some (X.env :: X.outer):=by rw [← F.stk];exact I.ok.frames
 have hl:s.heap.FunFrames X.base (X.env :: X.outer):=by rw [← F.stk];exact I.stack
 refine air_first hfr hl F.fr he hd h1 fun h' T' hT' a' c=>?_
 rw [← F.stk] at c
 exact ⟨e,T',oe.cls,oe.dict,H,rfl,I.os,I.bare,F.un I c fun b z=>by simp at z;rw [z];exact F.old fe,
  I.hok.chg c I.stkFree (fun b z=>by simp at z;rw [z];exact fe.1),fe.1,I.hok.fresh hT',F.old fe,Nat.le_trans I.sz hT',a',h⟩
theorem pass1 (F:Fns X E):Passes (CX1 X.prog X.w) X E:=by
 rintro pins σ H s ev s' I ⟨e,T,cls,dx,H',rfl,os,bare,un,hok,he,hT,se,sT,a,h⟩
 have I':Inv X pins σ H' s':=I.call' (ch:=[]) os un hok bare fun b z=>nomatch z
 exact F.leave I' (I.fpOk se he) (I.fpOk sT hT) a h
end
theorem Za0.any {P:Program}{w:World}{K:PySem.W.Frag}{mg:Str→Option Value}{base:Heap}{CX:CXT}{k:Nat}{f:Addr}{fd:FuncData}{ps:List Str}{sp:Sp}(F:Za0 P w K mg base CX0 k f fd ps sp):Za0 P w K mg base CX k f fd ps sp :=
 ⟨F.len,fun A outer s H args us vs Q E hr he hb hv hs=>codeAny_mono (F.run A outer s H args us vs Q E hr he hb hv hs) fun r s' hq=>by
  cases r with
  | error e=>exact False.elim hq
  | ok fl=>cases fl <;> exact hq⟩
theorem Fun.ok1 {P:Program}{w:World}{K:PySem.W.Frag}{mg:Str→Option Value}{base:Heap}{x qual:Str}{st:Stmt}{f:Addr}{fd:FuncData}{N ps:List Str}{k:Nat}{sp:Sp}(F:Fun K x qual st f fd) (S:Zap N ps (Zab st)) (len:∀ vs H Q E,sp vs H Q E→vs.length=ps.length)
  (hbody:∀ (cdv:Value) (A:Around) (outer:List Env) (s:Shared) (H:Hp) (vs:List V) (Q:VK) (E:XK),Zdp k (A.deeper (envOfC qual (Zab st) s.heap.objs.size f cdv))→sp vs H Q E →
   ∃ t,PSs (cxOf (CX1 P w) P w K mg base N qual (Zab st) f cdv A outer s H E) (Zak st) t∧t { nx:=fun _ H'=>Q .non H',rt:=Q } (start N vs) H):Za0 P w K mg base (CX1 P w) (k + 1) f fd ps sp:=by
 obtain ⟨oc,od,kV,doc,pm,an,cdv,ct,osl,rfl,lk,hcd⟩:=F.ex
 refine fn_of lk hcd S len fun A outer s H vs Q E hr hsp=>?_
 exact hbody cdv A outer s H vs Q E hr hsp
end L2
namespace L2
open PySem PySem.Spec
structure ExC (K:PySem.W.Frag) (C:Addr):Prop where
 obj:∃ nm q N bs bm hdct sn sub ab col dd k0 k1 k2 k3 k5,K.lookup C=some (excClassObj nm q C N bs bm hdct sn sub ab col dd k0 k1 k2 k3 k5 "ValueError.__new__")
 val:PySem.W.subIn K (.ref C) (.type "ValueError")=some true
 bas:PySem.W.subIn K (.ref C) (.type "BaseException")=some true
 att:PySem.W.subIn K (.ref C) (.type "AttributeError")=some false
 nam:PySem.W.subIn K (.ref C) (.type "NameError")=some false
 kp:PySem.W.keepIn K (.ref C)=true
abbrev Zea (C t:Addr):Obj:={ cls:=.ref C,data:=.fields #[.ref t,.none,.none,.none,.bool false,.none] }
abbrev tupObj (us:List Value):Obj:={ cls:=.type "tuple",data:=.seq us.toArray }
section
variable {K:PySem.W.Frag} {prog:Program} {w:World} {A:Around} {E:Value→Shared→Prop} {h:Heap} {g:Array GenState} {d:Drawn} {t:Nat} {os:OsState} {C:Addr}
theorem Zen {nm q:Str}{N:Addr}{bs bm:List Value}{hdct:Bool}{sn:List Str}{sub:List Value}{ab:Bool}{col:Option Bool}{dd:Option Addr}{k0 k1 k2 k3 k5:Option Value}{nid:String}{x:Value}{b:Bool}
  (l:K.lookup C=some (excClassObj nm q C N bs bm hdct sn sub ab col dd k0 k1 k2 k3 k5 nid)) (e:PySem.W.subIn K (.ref C) x=some b):(Value.ref C :: bm).contains x=b:=by
 have e2:((PySem.W.clsIn K C).bind fun cd=>if cd.mro.isEmpty=true then none else some (cd.mro.contains x))=some b:=e
 have e3:PySem.W.clsIn K C=some { name:=nm,bases:=bs,mro:=.ref C :: bm,ns:=N,qualname:=q,hasDict:=hdct,slotNames:=sn,subclasses:=sub,abstract:=ab,collection:=col,hasDel:=false }:=by
  unfold PySem.W.clsIn
  rw [l]
 rw [e3] at e2
 exact Option.some.inj e2
theorem exc_new {Zee:List Value}{R:Result→Shared→Prop}(X:K.In h) (c:ExC K C) (hrest:Zee.length≤sizeLine)
  (hq:R (.ok (.ret (.ref (h.objs.size + 1)))) ⟨(h.push (tupObj Zee)).push (Zea C h.objs.size),g,d,t,os⟩):
  codeAny (model prog w) A (.builtin "ValueError.__new__" ⟨.ref C :: Zee,[]⟩) R ⟨h,g,d,t,os⟩:=by
 obtain ⟨nm,q,N,bs,bm,hdct,sn,sub,ab,col,dd,k0,k1,k2,k3,k5,lk⟩:=c.obj
 have Fv:=PySem.F.excBase_ValueError
 have cV:=Zen lk c.val
 have cA:=Zen lk c.att
 have cN:=Zen lk c.nam
 have hC:=X _ _ lk
 have hends:=Fv.ends
 refine codeAny_builtinAt Fv.entry ?_
 unfold Builtin.«BaseException.__new__»
 apply PySem.wpAt_bind
 show PySem.wpAt _ _ _ (stack>>=_) _ _ _
 apply PySem.wpAt_bind
 refine PySem.wpAt_stack fun p below=>PySem.wpAt_of_wpAny ?_
 wp_walk
 apply PySem.wpAt_of_wpAny
 rw [Fv.owner]
 repeat (first | with_reducible refine wpAny_madeHere_exc Fv.canon hC ?_ | with_reducible refine wpAny_loadPart_at hC ?_ | (with_reducible refine wpAny_isSubtype_exc hC ?_;first | rw [cV] | rw [cA] | rw [cN]) | wp_step)
 show R _ _
 rw [Heap.size_push]
 exact hq
theorem exc_call {Zee:List Value}{i:Value}{Q:Value→Shared→Prop}(X:K.In h) (c:ExC K C) (hi:PySem.W.findIn K (.ref C) "__init__"=some (some i))
  (hb:∀ self,PySem.W.Looks (model prog w) ((h.push (tupObj Zee)).push (Zea C h.objs.size)) (bindSpecial i self) (i,[self])) (hrest:Zee.length≤sizeLine)
  (hq:codeAny (model prog w) (A.under (.builtin "type.__call__" ⟨.ref C :: Zee,[]⟩)) (.call i ⟨.ref (h.objs.size + 1):: Zee,[]⟩)
   (fun r s'=>match r with | .ok (.ret v)=>v=.none∧Q (.ref (h.objs.size + 1)) s' | .ok _=>False | .error e=>E e s') ⟨(h.push (tupObj Zee)).push (Zea C h.objs.size),g,d,t,os⟩):
  wpAny (model prog w) A (call (.ref C) Zee) Q E ⟨h,g,d,t,os⟩:=by
 obtain ⟨nm,q,N,bs,bm,hdct,sn,sub,ab,col,dd,k0,k1,k2,k3,k5,lk⟩:=c.obj
 have Fv:=PySem.F.excBase_ValueError
 have cV:=Zen lk c.val
 have cS:(Value.ref C :: bm).contains (.ref C)=true:=by simp
 have hC:=X _ _ lk
 have up:∀ b o,h.get? b=some o→((h.push (tupObj Zee)).push (Zea C h.objs.size)).get? b=some o:=fun b o e=>Heap.get?_push_of_some _ (Heap.get?_push_of_some _ e)
 have X1:K.In ((h.push (tupObj Zee)).push (Zea C h.objs.size)):=X.keeps up
 have hC1:=X1 _ _ lk
 have got:((h.push (tupObj Zee)).push (Zea C h.objs.size)).get? (h.objs.size + 1)=some (Zea C h.objs.size):=Heap.get?_push_at (by rw [Heap.size_push]) rfl
 have f1:=tc_lookup
 have f2:=tc_bind (.ref C)
 have hT:(⟨h,g,d,t,os⟩:Shared).TypeIs (.ref C) "type":=⟨_,hC,rfl⟩
 have hstar:=Fv.noStar
 apply wpAny_call
 apply codeAny_of_tree
 show wpAny _ _ (callAny (.ref C) _) _ _ _
 repeat (any_goals (first | assumption | with_reducible refine wpAny_loadPart_at hC ?_ | wp_step))
 constructor
 ·rfl
 apply codeAny_call_builtin_at (Code.quiet_builtin _ (by decide +kernel)) entry_typeCall
 apply wpAny_check_type_call_sub hC
 repeat (first | with_reducible refine wpAny_loadPart_at hC ?_ | with_reducible refine wpAny_madeBy_exc hC ?_ | wp_step)
 apply codeAny_call_builtin_code (Code.quiet_builtin _ Fv.quiet)
 simp only [checkBuiltinCall,Fv.newKind,Fv.newSplit,Fv.newRow]
 repeat (first | refine wpAny_loadPart_at hC ?_ | (refine wpAny_isSubtype_exc hC ?_;rw [cV]) | refine wpAny_staticBase_exc hC ?_ | refine wpAny_madeBy_exc hC ?_ | simp only [bne_self_eq_false,Bool.false_eq_true,if_false] | wp_step)
 apply exc_new X c hrest
 show wpAny _ _ _ _ _ _
 apply wpAny_bind
 unfold isInstance
 repeat (first | with_reducible refine wpAny_loadPart_at got ?_ | (with_reducible refine wpAny_isSubtype_exc hC1 ?_;rw [cS]) | wp_step)
 refine (PySem.W.looks_findIn (M:=model prog w) X1 hi).here ?_
 apply wpAny_holding
 apply wpAny_bind
 refine (hb (.ref (h.objs.size + 1))).here ?_
 apply wpAny_bind
 apply wpAny_call
 refine codeAny_mono hq fun r s' q=>?_
 cases r with
 | error e=>exact q
 | ok f =>
  cases f with
  | ret v =>
   obtain ⟨rfl,q⟩:=q
   apply wpAny_pure
   show wpAny _ _ (ret (.ref (h.objs.size + 1))) _ _ _
   exact wpAny_pure q
  | next=>exact q.elim
  | brk=>exact q.elim
  | cont=>exact q.elim
theorem exc_init0 {Zee:List Value}{R:Result→Shared→Prop}{e t0:Addr}(X:K.In h) (c:ExC K C) (he:h.get? e=some (Zea C t0)) (hrest:Zee.length≤sizeLine)
  (hq:R (.ok (.ret .none)) ⟨(h.push (tupObj Zee)).update e (Obj.mapFields (·.setIfInBounds 0 (.ref h.objs.size))),g,d,t,os⟩):
  codeAny (model prog w) A (.call (.builtin "ValueError.__init__") ⟨.ref e :: Zee,[]⟩) R ⟨h,g,d,t,os⟩:=by
 obtain ⟨nm,q,N,bs,bm,hdct,sn,sub,ab,col,dd,k0,k1,k2,k3,k5,lk⟩:=c.obj
 have Fv:=PySem.F.excBase_ValueError
 have cV:=Zen lk c.val
 have hC:=X _ _ lk
 have hshort:=Fv.noStar
 have chk:∀ (a b:String) (n:Nat),Bind.check ⟨.positional,"*","ValueError",.self,[⟨"args",.varPos,false⟩]⟩ a b n (List.map (fun x=>x.fst) ({ pos:=Value.ref e :: Zee }:Args).kw)=pure ():=fun a b n=>check_star_args _ _ _ _ _ _
 have he1:(h.push (tupObj Zee)).get? e=some (Zea C t0):=Heap.get?_push_of_some _ he
 apply codeAny_call_builtin Fv.init.plain Fv.initEntry
 simp only [checkBuiltinCall,Fv.initKind,Fv.initSplit,Fv.initRow]
 repeat (first | with_reducible refine wpAny_loadPart_at he ?_ | with_reducible refine wpAny_loadPart_at hC ?_ | (with_reducible refine wpAny_isSubtype_exc hC ?_;rw [cV]) | wp_step)
 apply wpAny_onRaise
 rw [chk]
 apply wpAny_pure
 wp_walk
 exact hq
theorem raise_made {env:Env}{x:Str}{np cpos pos:Pos}{args:List Expr}{s:Shared}{Q:Flow→Shared→Prop}(c:ExC K C) (hh:A.handled=none)
  (h1:wpAny (model prog w) A (eval (.Call (.Name x np) args [] cpos) env) (fun v s₁=>∃ e t0 dx sl,v=.ref e∧K.In s₁.heap ∧
   s₁.heap.get? e=some ⟨.ref C,dx,.fields #[.ref t0,.none,.none,.none,.bool false,.none],sl⟩∧E (.ref e) s₁) E s):
  wpAny (model prog w) A (exec (.Raise (some (.Call (.Name x np) args [] cpos)) none pos) env) Q E s:=by
 obtain ⟨nm,q,N,bs,bm,hdct,sn,sub,ab,col,dd,k0,k1,k2,k3,k5,lk⟩:=c.obj
 have cB:=Zen lk c.bas
 rw [arm_exec_Raise]
 apply wpAny_bind
 apply wpAny_standAt
 unfold raiseStmt
 apply wpAny_bind
 show wpAny _ _ (do let v ← eval (.Call (.Name x np) args [] cpos) env;standAt pos;pure v) _ _ _
 apply wpAny_bind
 refine wpAny_mono h1 (fun v s₁ h₁=>?_) fun _ _ z=>z
 apply wpAny_bind
 apply wpAny_standAt
 apply wpAny_pure
 obtain ⟨e,t0,dx,sl,rfl,X,he,hE⟩:=h₁
 obtain ⟨hp,g,d,tk,os⟩:=s₁
 have hC:=X _ _ lk
 repeat (first | with_reducible refine wpAny_loadPart_at he ?_ | with_reducible refine wpAny_loadPart_at hC ?_ | (with_reducible refine wpAny_isSubtype_exc hC ?_;rw [cB]) | wp_step)
 exact wpAny_raiseNew_none hh hE
end
end L2
namespace L2
open PySem PySem.Spec PySem.Builtin PySem.Builtin.ObjectAttr PySem.W
structure ExA (K:PySem.W.Frag) (C:Addr):Prop extends ExC K C where
 ga:PySem.W.findIn K (.ref C) "__getattribute__"=some (some (.builtin "BaseException.__getattribute__"))
 gt:PySem.W.findIn K (.ref C) "__getattr__"=some none
 ca:PySem.W.findIn K (.ref C) "__class__"=some (some (.builtin "object.__class__"))
 cg:PySem.W.specialIn K (.builtin "object.__class__") "__get__"=some (some (.builtin "getset_descriptor.__get__"))
 ct:PySem.W.takesIn K (.builtin "object.__class__")=some true
 ob:PySem.W.mroIn K C (.type "object")=some true
section
variable {K:PySem.W.Frag} {prog:Program} {w:World} {A:Around} {E:Value→Shared→Prop} {h:Heap} {g:Array GenState} {d:Drawn} {t:Nat} {os:OsState} {x C:Addr} {ox:Obj} {od:Option Obj} {name:Str}
theorem exc_check {nameV:Value}{M:Model}{Q:Unit→Shared→Prop}(X:K.In h) (c:ExC K C) (I:PySem.W.InstAt h x ox C od) (hq:Q () ⟨h,g,d,t,os⟩):
  wpAny M A (checkBuiltinCall "BaseException.__getattribute__" ⟨[.ref x,nameV],[]⟩) Q E ⟨h,g,d,t,os⟩:=by
 have hk:builtinKind "BaseException.__getattribute__"=some .slot:=by decide +kernel
 have hs:splitId "BaseException.__getattribute__"=some ("BaseException","__getattribute__"):=by decide +kernel
 have ha:=PySem.F.args_bexc_ga (.ref x) nameV
 have hi:PySem.W.Looks M h (isInstance (.ref x) (.type "BaseException")) true:=I.type.andThen (PySem.W.looks_subIn X c.bas)
 simp only [checkBuiltinCall,hk,hs]
 apply wpAny_bind
 apply hi.at
 simp only [Bool.not_true,Bool.false_eq_true,if_false]
 exact wpAny_of_eq ha hq
theorem exc_entry {tk:Tok}{Q:Fin→Shared→Prop}{f:Found}(X:K.In h) (I:PySem.W.InstAt h x ox C od) (hf:PySem.W.Looks (model prog w) h (find (.ref x) (.ref C) name) f)
  (hq:wpAny (model prog w) A (match f with | .value v=>ret v | .bind g a=>bindTo g a (.ref x) (.ref C) | .missing=>unsupported "") Q E ⟨h,g,d,t,os⟩) (hm:f≠.missing):
  wpAny (model prog w) A (Builtin.«object.__getattribute__» ⟨[.ref x,.str name tk],[]⟩) Q E ⟨h,g,d,t,os⟩:=by
 have L0:=I.type (M:=model prog w)
 unfold Builtin.«object.__getattribute__»
 apply wpAny_bind
 apply wpAny_pure
 apply wpAny_bind
 apply wpAny_pure
 apply wpAny_bind
 apply L0.at
 apply wpAny_bind
 apply hf.at
 cases f with
 | value v=>exact hq
 | bind a b=>exact hq
 | missing=>exact absurd rfl hm
theorem exc_by {tk:Tok}{fill expr:Bool}{Q:Value→Shared→Prop}{f:Found}{v:Value}(X:K.In h) (c:ExA K C) (I:PySem.W.InstAt h x ox C od) (hf:PySem.W.Looks (model prog w) h (find (.ref x) (.ref C) name) f) (hm:f≠.missing)
  (hq:∀ {A:Around} {E:Value→Shared→Prop} {Q:Fin→Shared→Prop},Q (.done (.ret v)) ⟨h,g,d,t,os⟩→wpAny (model prog w) A (match f with | .value v=>ret v | .bind g a=>bindTo g a (.ref x) (.ref C) | .missing=>unsupported "") Q E ⟨h,g,d,t,os⟩)
  (hh:handedIn v=true) (hv:Q v ⟨h,g,d,t,os⟩):wpAny (model prog w) A (getAttrBy (.ref x) (.str name tk) fill expr) Q E ⟨h,g,d,t,os⟩:=by
 have L0:=I.type (M:=model prog w)
 have L1:=looks_findIn (M:=model prog w) X c.ga
 have L2:=looks_findIn (M:=model prog w) X c.gt
 have hx0:(expr&&onTheHeap (Value.builtin "BaseException.__getattribute__"))=false:=by cases expr <;> rfl
 have apart:(onTheHeap (Value.ref C)&&Value.builtin "BaseException.__getattribute__" == Value.builtin "object.__getattribute__")=false:=by
  rw [show (Value.builtin "BaseException.__getattribute__" == Value.builtin "object.__getattribute__")=false from by decide +kernel];rfl
 have f3:=PySem.F.attrBase_ValueError.ga.bind (.ref x)
 have body:∀ {A:Around} {R:Result→Shared→Prop},R (.ok (.ret v)) ⟨h,g,d,t,os⟩→codeAny (model prog w) A (.call (.builtin "BaseException.__getattribute__") ⟨[.ref x,.str name tk],[]⟩) R ⟨h,g,d,t,os⟩:=fun {A R} r =>
  codeAny_call_builtin PySem.F.attrBase_ValueError.ga.plain PySem.F.entry_bexc_ga (exc_check X c.toExC I (exc_entry X I hf (hq r) hm))
 unfold getAttrBy
 apply wpAny_holding
 apply wpAny_bind
 apply L0.at
 apply wpAny_bind
 apply L1.at
 show wpAny _ _ (if (onTheHeap (Value.ref C)&&Value.builtin "BaseException.__getattribute__" == Value.builtin "object.__getattribute__")=true then _ else getAttrByItsOwn (.ref x) (.str name tk) (.ref C) (.builtin "BaseException.__getattribute__") fill expr) _ _ _
 rw [if_neg (by rw [apart];exact Bool.false_ne_true)]
 unfold getAttrByItsOwn
 apply wpAny_bind
 show wpAny _ _ (typeLookup (.ref C) "__getattr__") _ _ _
 apply L2.at
 apply wpAny_bind
 apply wpAny_attempt
 apply wpAny_holding
 unfold callGetattribute
 rw [if_neg (by rw [hx0];exact Bool.false_ne_true)]
 unfold boundAndCalled
 apply wpAny_bind
 refine wpAny_of_eq f3 ?_
 refine wpAny_call (body ?_)
 show wpAny _ _ (handedOut v) _ _ _
 rw [handedOut_of hh]
 exact wpAny_pure hv
theorem exc_kit (c:ExA K C):KitX K (.ref x) (.ref C) (fun h=>InstAt h x ox C od) where
 ty:=fun _ _ _ I=>I.type
 it:=fun _ _ X _=>by
  obtain ⟨nm,q,N,bs,bm,hdct,sn,sub,ab,col,dd,k0,k1,k2,k3,k5,lk⟩:=c.obj
  intro A' Q' E' s' k q
  unfold isType loadHead
  apply wpAny_bind
  apply wpAny_loadPart (k _ _ (X _ _ lk))
  exact wpAny_pure q
 ne:=fun h tp dd its n sl X e=>by
  obtain ⟨nm,q,N,bs,bm,hdct,sn,sub,ab,col,dd,k0,k1,k2,k3,k5,lk⟩:=c.obj
  have hC:=X _ _ lk
  refine Bool.eq_false_iff.mpr fun z=>?_
  have z:C=tp:=Value.ref.inj (beq_iff_eq.mp z)
  rw [z,e] at hC
  have q1:Value.type "tuple"=Value.type "type":=congrArg (fun o=>Option.elim o Value.none Obj.cls) hC
  exact absurd q1 (by decide)
 ca:=fun {prog w A E Q s} X I q=>by
  obtain ⟨hh,g,d,t,os⟩:=s
  have hcls:∃ cd,clsIn K C=some cd:=by
   obtain ⟨nm,q,N,bs,bm,hdct,sn,sub,ab,col,dd,k0,k1,k2,k3,k5,lk⟩:=c.obj
   unfold clsIn
   rw [lk]
   exact ⟨_,rfl⟩
  obtain ⟨cd,hcd⟩:=hcls
  have hf:findObj K C od "__class__"=some (.bind (.builtin "getset_descriptor.__get__") (.builtin "object.__class__")):=by
   unfold findObj
   rw [hcd,c.ca]
   dsimp only [Option.bind]
   rw [c.cg]
   dsimp only
   rw [c.ct]
  unfold getAttr? getAttrBy?
  apply wpAny_bind
  apply wpAny_mkText
  apply wpAny_bind
  apply wpAny_attempt
  refine exc_by X c I (looks_find X I hf) (fun z=>nomatch z) (fun {A E Q} r=>?_) rfl (wpAny_pure q)
  show wpAny _ _ (bindTo (.builtin "getset_descriptor.__get__") (.builtin "object.__class__") (.ref x) (.ref C)) _ _ _
  unfold bindTo
  show wpAny _ _ (holding [.builtin "object.__class__"] (call (.builtin "getset_descriptor.__get__") [.builtin "object.__class__",.ref x,.ref C])>>=ret) _ _ _
  apply wpAny_bind
  apply wpAny_holding
  exact wpAny_call (class_get (ox:=ox) (od:=od) X I c.ob (wpAny_pure r))
end
end L2
namespace L2
open PySem PySem.Spec PyProof.Rows
def XO (e C:Addr) (dx:Option Addr):HO:=.ext fun h=>∃ o,h.get? e=some o∧o.cls=.ref C∧o.dict=dx∧PySem.W.notCls o=true
abbrev TF:=St→Hp→(Hp→Prop)→Prop
def PF (X:Cx) (e:Expr) (t:TF):Prop:=∀ (pins:List (Addr×Obj)) (s:Shared) (σ:St) (H:Hp) (Q:Hp→Prop),Inv X pins σ H s→t σ H Q →
 wpAny (model X.prog X.w) X.A (eval e X.env) (fun u s'=>∃ y tk H',u=.str y tk∧y.length≤100000∧Inv X pins σ H' s'∧Q H') X.xe s
def PFs (X:Cx) (es:List Expr) (t:TF):Prop:=∀ (pins:List (Addr×Obj)) (s:Shared) (σ:St) (H:Hp) (Q:Hp→Prop) (acc:Str) (j:Nat),Inv X pins σ H s→acc.length≤100000 * j→j + es.length≤100→t σ H Q →
 Joins (model X.prog X.w) X.A X.xe (evalEach es X.env) acc (fun out s'=>∃ H',out.length≤10000000∧Inv X pins σ H' s'∧Q H') s
section
variable {X:Cx} {e:Expr} {es:List Expr} {te:TE} {t u:TF} {pos:Pos}
def fCon (x:Str):TF:=fun _ H Q=>x.length≤100000∧Q H
theorem pf_con {x j}:PF X (.Constant (.str x) j pos) (fCon x):=fun _ _ _ H _ I h=>Calls.Constant_str ⟨x,_,H,rfl,h.1,I.tok _,h.2⟩
def fInt (te:TE):TF:=fun σ H Q=>te σ H fun v H1=>∃ i:Int,v=.int i∧i.natAbs<2 ^ 64∧Q H1
theorem int_log {i:Int}(h:i.natAbs<2 ^ 64):i.natAbs.log2<1920:=by
 by_cases z:i.natAbs=0
 ·rw [z];decide
 ·exact Nat.lt_trans ((Nat.log2_lt z).mpr h) (by decide)
theorem int_len {i:Int}(h:i.natAbs<2 ^ 64):(Str.ofString (toString i)).length≤100000:=by
 have e:=PySem.int_text_length_le (k:=1920) (by decide) (int_log h)
 rw [PySem.ofString_length]
 omega
theorem pf_int (he:PE X e te):PF X (.FormattedValue e (-1) none pos) (fInt te):=by
 intro pins s σ H Q I h
 refine wpAny_FormattedValue_plain (thn (he pins s σ H _ I h) fun v s1 ⟨x,H1,I1,r1,i,ex,hi,q⟩=>?_)
 subst ex
 obtain ⟨t,rfl⟩:=r1
 exact wpAny_formatField_int (int_log hi) ⟨_,_,H1,rfl,int_len hi,I1.tok _,q⟩
def fNil:TF:=fun _ H Q=>Q H
def fSeq (t u:TF):TF:=fun σ H Q=>t σ H fun H1=>u σ H1 Q
theorem pfs_nil:PFs X [] fNil:=fun pins s σ H Q acc j I ha hj h=>⟨H,by simp at hj;exact Nat.le_trans ha (Nat.le_trans (Nat.mul_le_mul_left _ hj) (by decide)),I,h⟩
theorem pfs_cons (h1:PF X e t) (h2:PFs X es u):PFs X (e :: es) (fSeq t u):=by
 intro pins s σ H Q acc j I ha hj h
 show wpAny _ _ (eval e X.env) _ _ s
 refine thn (h1 pins s σ H _ I h) fun v s1 ⟨y,tk,H1,ev,hy,I1,q⟩=>?_
 have hl:(acc++y).length≤100000 * (j + 1):=by rw [strLen_append];omega
 have hj':j + 1 + es.length≤100:=by simp at hj;omega
 refine ⟨y,tk,ev,Nat.le_trans hl (Nat.le_trans (Nat.mul_le_mul_left _ (show j + 1≤100 by omega)) (by decide)),?_⟩
 exact h2 pins s1 σ H1 Q _ (j + 1) I1 hl hj' q
def tFs (t:TF):TE:=fun σ H Q=>t σ H fun H1=>∀ x:Str,Q (.str x) H1
theorem pe_fstr {v1 v2:Expr}{Zee:List Expr}(h:PFs X (v1 :: v2 :: Zee) t) (hl:(v1 :: v2 :: Zee).length≤100:=by decide):PE X (.JoinedStr (v1 :: v2 :: Zee) pos) (tFs t):=by
 intro pins s σ H Q I hq
 apply wpAny_JoinedStr
 have z:=h pins s σ H _ Str.empty 0 I (Nat.zero_le _) (by simpa using hl) hq
 have mono:∀ (l:List (Sem Value)) (acc:Str) (P P':Str→Shared→Prop) (s:Shared),(∀ o s',P o s'→P' o s')→Joins (model X.prog X.w) X.A X.xe l acc P s→Joins (model X.prog X.w) X.A X.xe l acc P' s:=by
  intro l
  induction l with
  | nil=>intro acc P P' s f q;exact f _ _ q
  | cons a r ih =>
   intro acc P P' s f q
   exact thn (show wpAny _ _ a _ _ s from q) fun v s1 ⟨y,tk,e1,e2,e3⟩=>⟨y,tk,e1,e2,ih _ P P' s1 f e3⟩
 exact mono _ _ _ _ _ (fun o s' ⟨H',l,I',q'⟩=>⟨Nat.le_trans l (by decide),⟨.str o,H',I'.tok _,⟨_,rfl⟩,q' o⟩⟩) z
end
section
variable {X:Cx} {E:XK} {C:Addr} {x:Str} {np cpos pos:Pos} {e:Expr} {es:List Expr} {t:TA}
def tRz (E:XK) (C:Addr) (t:TA):TS:=fun _ σ H=>t σ H fun vs H1=>vs.length≤sizeLine∧E (.ref C) none H1
theorem exc_made {K:PySem.W.Frag}{prog:Program}{w:World}{A:Around}{E:Value→Shared→Prop}{s:Shared}{us:List Value}{Q:Value→Shared→Prop}(X:K.In s.heap) (c:ExC K C) (hi:PySem.W.findIn K (.ref C) "__init__"=some (some (.builtin "ValueError.__init__"))) (hl:us.length≤sizeLine)
  (h:∀ h' t0,(∀ b o,s.heap.get? b=some o→h'.get? b=some o)→h'.get? (s.heap.objs.size + 1)=some (Zea C t0)→Q (.ref (s.heap.objs.size + 1)) { s with heap:=h' }):
  wpAny (model prog w) A (call (.ref C) us) Q E s:=by
 obtain ⟨hp,g,d,tk,os⟩:=s
 dsimp only at X h ⊢
 refine exc_call X c hi (fun self=>PySem.W.Looks.of_pure (PySem.F.excBase_ValueError.init.bind self)) hl ?_
 have up:∀ b o,hp.get? b=some o→((hp.push (tupObj us)).push (Zea C hp.objs.size)).get? b=some o:=fun b o q=>Heap.get?_push_of_some _ (Heap.get?_push_of_some _ q)
 have got:((hp.push (tupObj us)).push (Zea C hp.objs.size)).get? (hp.objs.size + 1)=some (Zea C hp.objs.size):=Heap.get?_push_at (by rw [Heap.size_push]) rfl
 refine exc_init0 (t0:=hp.objs.size) (X.keeps up) c got hl ⟨rfl,h _ ((hp.push (tupObj us)).push (Zea C hp.objs.size)).objs.size (fun b o q=>?_) ?_⟩
 ·have nb:b≠hp.objs.size + 1:=Nat.ne_of_lt (Nat.lt_succ_of_lt (Heap.lt_size q))
  rw [Heap.get?_update_other _ _ (Ne.symm nb)]
  exact Heap.get?_push_of_some _ (up b o q)
 ·rw [Heap.get?_update_self _ (Heap.get?_push_of_some _ got) rfl]
  rfl
theorem ps_raise (F:Fns X E) (hh:X.A.handled=none) (c:ExC X.K C) (hi:PySem.W.findIn X.K (.ref C) "__init__"=some (some (.builtin "ValueError.__init__"))) (hg:Gl X x) (hm:X.mg x=some (.ref C)) (ha:PA X (e :: es) t)
  (hdb:(x == ("__debug__":Str))=false:=by decide) (he:starEach (e :: es) X.env=(false,eval e X.env):: starEach es X.env:=by rfl) (hpl:(backTo cpos (starEach es X.env)).any (·.1)=false:=by rfl):
  PS X (.Raise (some (.Call (.Name x np) (e :: es) [] cpos)) none pos) (tRz E C t):=by
 intro pins s σ H D I h
 refine raise_made c hh (wpAny_Call_Name_kw (ld_glob I hg hm ?_ hdb))
 refine PySem.W.callWith_K (h₀:=X.base) I.ok.mod.kin c.kp (thn (ha cpos pins s σ H _ I h) fun us s1 ⟨vs,H1,I1,r,hl,q⟩=>⟨I1.kIn,?_⟩) he hpl
 refine exc_made I1.kIn c hi (by rw [List.nil_append,← r.length];exact hl) fun h' t0 k got=>?_
 have I2:Inv X pins σ H1 { s1 with heap:=h' }:=I1.kept (t':=s1.toks) k
 refine ⟨_,t0,none,#[],rfl,I2.kIn,got,?_⟩
 exact F.raised I2 (I1.fpOk (Nat.le_succ _) (I1.hok.fresh (Nat.le_succ _))) got rfl rfl q
end
section
variable {X:Cx} {pins:List (Addr×Obj)} {σ:St} {H:Hp} {s:Shared} {A:Around} {E:Value→Shared→Prop} {Q:Value→Shared→Prop} {e C:Addr} {dx:Option Addr} {cv:Value} {b:Bool}
def XDict (H:Hp) (dx:Option Addr):Prop:=dx=none∨∃ a fs,dx=some a∧H a=some (.xd fs)
theorem xo_inst (I:Inv X pins σ H s) (hx:H e=some (XO e C dx)) (hd:XDict H dx):∃ ox od,PySem.W.InstAt s.heap e ox C od:=by
 have q:Zcv X.prog X.w H s.heap e (XO e C dx):=I.hok e _ hx
 obtain ⟨⟨o,h1,h2,h3,h4⟩,_⟩:=q
 rcases hd with hd | ⟨a,fs,hd,ha⟩
 ·exact ⟨o,none,⟨h1,h2,h4,by rw [h3,hd];trivial⟩⟩
 ·have q:Zcv X.prog X.w H s.heap a (.xd fs):=I.hok a _ ha
  obtain ⟨mA,⟨oa,es,ep,e1,_⟩,_⟩:=q
  exact ⟨o,some oa,⟨h1,h2,h4,by rw [h3,hd];exact e1⟩⟩
theorem isinstX_ok (I:Inv X pins σ H s) (hx:H e=some (XO e C dx)) (hd:XDict H dx) (c:ExA X.K C) (k:PySem.W.kitOne X.K (.ref C) cv=some b) (h:∀ tk,Q (.bool b) { s with toks:=tk }):
  wpAny (model X.prog X.w) A (call (.builtin "isinstance") [.ref e,cv]) Q E s:=by
 obtain ⟨ox,od,J⟩:=xo_inst I hx hd
 exact PySem.W.kia_one (exc_kit (ox:=ox) (od:=od) c) I.kIn J k (fun z=>nomatch z) h
end
abbrev XKs:=Value→Option Addr→St→Hp→Prop
abbrev TSx:=Ends→XKs→St→Hp→Prop
abbrev TEx:=St→Hp→VK→XK→Prop
def XP (X:Cx) (pins:List (Addr×Obj)) (E:XKs) (ev:Value) (s':Shared):Prop:=∃ (e T:Addr) (cls:Value) (dx:Option Addr) (σ':St) (H':Hp),ev=.ref e∧Inv X pins σ' H' s'∧FpOk X pins H' e∧FpOk X pins H' T∧Air s'.heap e T cls dx .none∧E cls dx σ' H'
def PEx (X:Cx) (e:Expr) (t:TEx):Prop:=∀ (pins:List (Addr×Obj)) (s:Shared) (σ:St) (H:Hp) (Q:VK) (E:XK),Inv X pins σ H s→t σ H Q E →
 wpAny (model X.prog X.w) X.A (eval e X.env) (EP X pins σ Q) (XP X pins fun c d σ' H'=>σ'=σ∧E c d H') s
def PSx (X:Cx) (st:Stmt) (t:TSx):Prop:=∀ (pins:List (Addr×Obj)) (s:Shared) (σ:St) (H:Hp) (D:Ends) (E:XKs),Inv X pins σ H s→t D E σ H→wpAny (model X.prog X.w) X.A (exec st X.env) (SP X pins D) (XP X pins E) s
def PSsx (X:Cx) (st:List Stmt) (t:TSx):Prop:=∀ (pins:List (Addr×Obj)) (s:Shared) (σ:St) (H:Hp) (D:Ends) (E:XKs),Inv X pins σ H s→t D E σ H→wpAny (model X.prog X.w) X.A (execs st X.env) (SP X pins D) (XP X pins E) s
section
variable {X:Cx} {st:Stmt} {Zee:List Stmt} {t u:TSx} {e:Expr} {te:TEx} {pos:Pos}
theorem pssx_one (h1:PSx X st t):PSsx X [st] t:=by
 intro pins s σ H D E I h
 refine wpAny_execs_cons (thn (h1 pins s σ H D E I h) fun f s1 q=>?_)
 cases f with
 | next=>exact wpAny_execs_nil q
 | ret v=>exact q
 | brk=>exact q
 | cont=>exact q
theorem xp_mono {pins:List (Addr×Obj)}{E E':XKs}(f:∀ c d σ H,E c d σ H→E' c d σ H) {ev:Value}{s':Shared}(h:XP X pins E ev s'):XP X pins E' ev s':=by
 obtain ⟨e,T,cls,dx,σ',H',r,I,fe,fT,a,q⟩:=h
 exact ⟨e,T,cls,dx,σ',H',r,I,fe,fT,a,f _ _ _ _ q⟩
def xSet (i:Nat) (te:TEx):TSx:=fun D E σ H=>te σ H (fun v H1=>D.nx (σ.set i (some v)) H1) fun c d H1=>E c d σ H1
theorem psx_set {i:Nat}{x:Str}{pos':Pos}(hN:X.N.Nodup) (hi:X.N[i]?=some x) (hx:Loc X.env.scope x) (he:PEx X e te) (hs:swapsWith e (some (.Name x pos')) pos.line X.env=pure false:=by rfl)
  (hf:X.fn x=true∨X.env.scope.names.lookup x=some .local:=by first | exact .inl rfl | exact .inr rfl | assumption):PSx X (.Assign [.Name x pos'] e pos) (xSet i te):=by
 intro pins s σ H D E I h
 refine wpAny_Assign_Name (wpAny_mono (he pins s σ H _ _ I h) (fun v s1 ⟨y,H1,I1,r1,q1⟩=>?_) fun ev s1 z=>xp_mono (fun c d σ' H' q=>?_) z) hs
 ·exact store_ok I1 hN hi hx r1 (fun s2 I2=>⟨_,H1,I2,q1⟩) hf
 ·obtain ⟨rfl,q⟩:=q
  exact q
end
section
variable {X:Cx} {k:Nat} {f C:Addr} {fd:FuncData} {ps:List Str} {sp:Sp} {dvs:List V} {ds:List Value} {x m:Str} {p pos apos:Pos} {e o:Expr} {es:List Expr} {ta:TE} {t:TA}
theorem run_fnx {pins:List (Addr×Obj)}{σ:St}{H:Hp}{s:Shared}{Q:VK}{E:XK}{us:List Value}{vs:List V}(F:Za0 X.prog X.w X.K X.mg X.base (CX1 X.prog X.w) k f fd ps sp) (hr:Zdp k X.A) (hb:Binds X.K fd ps [])
  (I:Inv X pins σ H s) (r:Zcg vs us) (h:sp vs H Q E):wpAny (model X.prog X.w) X.A (call (.ref f) us) (EP X pins σ Q) (XP X pins fun c d σ' H'=>σ'=σ∧E c d H') s:=by
 have hl:(us++[]).length=ps.length:=by rw [List.append_nil,← r.length];exact F.len _ _ _ _ h
 have b:=hb s us I.kIn hl
 rw [List.append_nil] at b
 refine wpAny_call (codeAny_mono (F.run X.A X.stack s H ⟨us,[]⟩ us vs Q E hr I.env0 b r h) fun r s' hq=>?_)
 cases r with
 | error e =>
  obtain ⟨e,T,cls,dx,H',rfl,os,bare,un,hok,he,hT,se,sT,a,q⟩:=hq
  exact ⟨e,T,cls,dx,σ,H',rfl,I.call' (ch:=[]) os un hok bare (fun b z=>nomatch z),I.fpOk se he,I.fpOk sT hT,a,rfl,q⟩
 | ok fl =>
  cases fl with
  | ret u=>exact I.after hq
  | next=>exact False.elim hq
  | brk=>exact False.elim hq
  | cont=>exact False.elim hq
def xCall (sp:Sp) (t:TA):TEx:=fun σ H Q E=>t σ H fun vs H1=>sp vs H1 Q E
theorem pa_wish {pins:List (Addr×Obj)}{s:Shared}{σ:St}{H:Hp}{Q:List V→Hp→Prop}{E:Value→Shared→Prop}(ha:PA X.nox es t) (I:Inv X pins σ H s) (h:t σ H Q):
  wpAny (model X.prog X.w) X.A (spliced (backTo pos (starEach es X.env))) (AP X pins σ Q) E s :=
 wpAny_mono (ha pos pins s σ H Q (I.wish _) h) (fun _ _ ⟨vs,H',I',r,q⟩=>⟨vs,H',I'.unwish,r,q⟩) fun _ _ z=>False.elim z
theorem pex_call {st:Stmt}(d:Def X.K X.mg x st ps f fd) (F:Za0 X.prog X.w X.K X.mg X.base (CX1 X.prog X.w) k f fd ps sp) (hr:Zdp k X.A) (hg:Gl X x) (ha:PA X.nox (e :: es) t) (hdb:(x == ("__debug__":Str))=false:=by decide)
  (he:starEach (e :: es) X.env=(false,eval e X.env):: starEach es X.env:=by rfl) (hpl:(backTo pos (starEach es X.env)).any (·.1)=false:=by rfl):PEx X (.Call (.Name x p) (e :: es) [] pos) (xCall sp t):=by
 intro pins s σ H Q E I h
 refine wpAny_Call_Name_kw (ld_glob I hg d.m ?_ hdb)
 refine PySem.W.callWith_K (h₀:=X.base) I.ok.mod.kin d.fn.kp (thn (pa_wish ha I h) fun us s1 ⟨vs,H1,I1,r,q⟩=>⟨I1.kIn,?_⟩) he hpl
 exact run_fnx F hr d.b I1 r q
end
end L2
namespace L2
open PySem PySem.Spec PyProof.Rows
section
variable {K:PySem.W.Frag} {M:Model} {A:Around} {E:Value→Shared→Prop} {h:Heap} {g:Array GenState} {d:Drawn} {t:Nat} {os:OsState} {e C D:Addr}
theorem exc_matches {oe:Obj}{Q:Bool→Shared→Prop}(X:K.In h) (cD:ExC K D) (he:h.get? e=some oe) (hcls:oe.cls=.ref C) (cC:ExC K C) (hs:PySem.W.subIn K (.ref C) (.ref D)=some true) (hq:Q true ⟨h,g,d,t,os⟩):
  wpAny M A (excMatches (.ref e) (.ref D)) Q E ⟨h,g,d,t,os⟩:=by
 obtain ⟨nm,q,N,bs,bm,hdct,sn,sub,ab,col,dd,k0,k1,k2,k3,k5,lk⟩:=cD.obj
 obtain ⟨nm',q',N',bs',bm',hdct',sn',sub',ab',col',dd',k0',k1',k2',k3',k5',lk'⟩:=cC.obj
 have cB:=Zen lk cD.bas
 have cS:=Zen lk' hs
 have hD:=X _ _ lk
 have hC:=X _ _ lk'
 have f:=tc_notTuple
 unfold excMatches
 repeat (first | (with_reducible refine wpAny_loadPart_at he ?_;rw [hcls]) | with_reducible refine wpAny_loadPart_at hD ?_ | (with_reducible refine wpAny_isSubtype_exc hD ?_;rw [cB]) | (with_reducible refine wpAny_isSubtype_exc hC ?_;rw [cS]) | wp_step)
 exact hq
end
section
variable {X:Cx} {pins:List (Addr×Obj)} {σ:St} {H:Hp} {s:Shared}
theorem Inv.track {a:Addr}{o:HO}(I:Inv X pins σ H s) (f:FpOk X pins H a) (ok:Zcv X.prog X.w (upd H a o) s.heap a o):Inv X pins σ (upd H a o) s:=by
 obtain ⟨f0,f1,f2,f3,f4,f5⟩:=f
 have ne:∀ b u,H b=some u→b≠a:=fun b u q z=>by rw [z,f0] at q;cases q
 have old:∀ b u,X.s₀.heap.get? b=some u→b∉X.ex→b≠a:=fun b u q n z=>by
  rcases f3 with r | r
  ·rw [z] at n;exact n r
  ·exact absurd (Nat.lt_of_lt_of_le (Heap.lt_size q) (by rw [z];exact r)) (Nat.lt_irrefl _)
 refine ⟨I.ok,I.os,I.bare,⟨I.base.keep,I.base.slot,fun b u q n hx=>by rw [Zac (old b u q hx)];exact I.base.free b u q n hx,I.base.there,fun b xs q=>by have z:=I.base.tups b xs q;rw [Zac (ne b _ z)];exact z,
  fun b u xs q=>by have z:=I.base.frzs b u xs q;rw [Zac (ne b _ z)];exact z,fun b ps q=>by obtain ⟨m,z⟩:=I.base.tbls b ps q;exact ⟨m,by rw [Zac (ne b _ z)];exact z⟩⟩,
  I.loc,I.cell,by rw [Zac (Ne.symm f1)];exact I.free,fun x c q=>by rw [Zac (f4 x c q)];exact I.freeC x c q,fun p hp=>?_,fun b u q=>?_,I.len⟩
 ·obtain ⟨p1,p2,p3,p4,p5⟩:=I.pin p hp
  exact ⟨p1,by rw [Zac (f5 p hp)];exact p2,p3,p4,p5⟩
 ·by_cases hb:b=a
  ·subst hb;rw [uS] at q;cases q;exact ok
  ·rw [Zac hb] at q
   exact (I.hok b u q).stay (fun _ _ _ z=>z) (fun c z=>by rw [Zac (ne c _ z)];exact z) fun c xs z=>by rw [Zac (ne c _ z)];exact z
theorem Inv.gone {i:Nat}{x:Str}{m:Str→Option Value}{v:Option Value}{h':Heap}{tk:Nat}(I:Inv X pins σ H s) (hN:X.N.Nodup) (hi:X.N[i]?=some x) (hx:X.env.scope.names.lookup x=some .local)
  (hm:s.heap.Ns X.env.locals m) (hn:h'.Ns X.env.locals fun y=>if y=x then v else m y) (hs:Heap.SameBut X.env.locals s.heap h'):Inv X pins (σ.set i none) H { s with heap:=h',toks:=tk }:=by
 obtain ⟨m0,hm0,hl⟩:=id I.loc
 have hmm:m0=m:=by
  obtain ⟨o1,es1,ep1,a1,a2,_,a3⟩:=hm0
  obtain ⟨o2,es2,ep2,b1,b2,_,b3⟩:=hm
  rw [a1] at b1
  cases b1
  rw [a2] at b2
  cases b2
  funext y
  rw [← a3,← b3]
 subst hmm
 have cne:=I.cne
 obtain ⟨oL,_,_,hoL,_⟩:=id hm
 refine ⟨I.ok,I.os,I.bare,⟨fun b o e n hb hx=>?_,fun b o e n hb hx=>?_,I.base.free,fun b o e hx=>?_,I.base.tups,I.base.frzs,I.base.tbls⟩,⟨_,hn,fun j y v' e1 e2 e3=>?_⟩,fun y c e=>?_,I.free,I.freeC,fun p hp=>?_,fun b ob e=>?_,by simpa using I.len⟩
 ·exact (hs.2 b (Nat.ne_of_lt (Nat.lt_of_lt_of_le (Heap.lt_size e) I.ok.above))).trans (I.base.keep b o e n hb hx)
 ·obtain ⟨sl,e1⟩:=I.base.slot b o e n hb hx
  exact ⟨sl,(hs.2 b (Nat.ne_of_lt (Nat.lt_of_lt_of_le (Heap.lt_size e) I.ok.above))).trans e1⟩
 ·obtain ⟨o',e1⟩:=I.base.there b o e hx
  exact ⟨o',(hs.2 b (Nat.ne_of_lt (Nat.lt_of_lt_of_le (Heap.lt_size e) I.ok.above))).trans e1⟩
 ·have hj:j≠i:=fun z=>by
   subst z
   by_cases hb:j<σ.length
   ·rw [List.getElem?_set_self hb] at e2;cases e2
   ·rw [List.getElem?_eq_none (by simpa using hb)] at e2;cases e2
  rw [List.getElem?_set_ne (Ne.symm hj)] at e2
  obtain ⟨u',r',q⟩:=hl j y v' e1 e2 e3
  refine ⟨u',r',?_⟩
  rcases q with ⟨k,e⟩ | ⟨k,c,e,z⟩
  ·refine .inl ⟨k,?_⟩
   have:y≠x:=fun e=>hj (nodup_ix hN e1 (e ▸ hi))
   simp [this,e]
  ·exact .inr ⟨k,c,e,z.sameBut hs (cne y c e)⟩
 ·obtain ⟨w',z⟩:=I.cell y c e
  exact ⟨w',z.sameBut hs (cne y c e)⟩
 ·obtain ⟨e,n,ne,nf,d⟩:=I.pin p hp
  exact ⟨(hs.2 p.1 ne).trans e,n,ne,nf,d⟩
 ·refine (I.hok b ob e).stay (fun c w' hc q=>(hs.2 c ?_).trans q) (fun _ q=>q) fun _ _ q=>q
  rintro rfl
  rcases hc with rfl | hc
  ·rw [I.free] at e;cases e
  ·rw [I.free] at hc;cases hc
abbrev Cx.marked (X:Cx) (v:Value):Cx:={ X with A:=X.A.mark (some v),calm:=false,xe:=fun _ _=>False }
theorem Inv.mark (I:Inv X pins σ H s) (v:Value):Inv (X.marked v) pins σ H s :=
 ⟨⟨I.ok.mod,I.ok.kind,I.ok.glob,I.ok.blt,I.ok.above,I.ok.inj,I.ok.has,I.ok.cab,fun z=>absurd z Bool.false_ne_true,I.ok.frames,I.ok.stk,I.ok.exf,I.ok.bs,I.ok.bsz,I.ok.noex,I.ok.exfs,I.ok.funs,I.ok.frf⟩,
  I.os,I.bare,I.base,I.loc,I.cell,I.free,I.freeC,I.pin,I.hok,I.len⟩
theorem Inv.unmark {v:Value}(J:Inv (X.marked v) pins σ H s) (ok:X.Ok):Inv X pins σ H s :=
 ⟨ok,J.os,J.bare,J.base,J.loc,J.cell,J.free,J.freeC,J.pin,J.hok,J.len⟩
end
section
variable {X:Cx} {D:Addr} {body:List Stmt} {t:TSx} {x n dn:Str} {np xp ep ap hp pos:Pos} {i j:Nat}
def tTry (K:PySem.W.Frag) (D:Addr) (i j:Nat) (t:TSx):TS:=fun B σ H=>t B (fun cls dx σ' H'=>∃ C,cls=.ref C∧ExC K C∧PySem.W.subIn K (.ref C) (.ref D)=some true ∧
 ∀ e,H' e=none→B.nx (((σ'.set j (some (.ref e))).set i (some (.ref e))).set j none) (upd H' e (XO e C dx))) σ H
theorem ps_try (hst:X.stack=X.env :: X.outer) (hf:X.env.frame=some X.env.locals) (cD:ExC X.K D) (hN:X.N.Nodup) (hg:Gl X dn) (hm:X.mg dn=some (.ref D)) (hi:X.N[i]?=some x) (hx:Loc X.env.scope x) (hj:X.N[j]?=some n)
  (hn:X.env.scope.names.lookup n=some .local) (hb:PSsx X body t) (hfx:X.fn x=true∨X.env.scope.names.lookup x=some .local:=by first | exact .inl rfl | exact .inr rfl | assumption) (hdb:(dn == ("__debug__":Str))=false:=by decide)
  (hd2:(n == ("__debug__":Str))=false:=by decide) (hd3:(n == ("__classdict__":Str))=false:=by decide) (hs:∀ v,swapsWith (.Name n ep) (some (.Name x xp)) ap.line (X.marked v).env=pure false:=by intro;rfl):
  PS X (.Try body [.ExceptHandler (some (.Name dn np)) (some n) [.Assign [.Name x xp] (.Name n ep) ap] hp] [] [] pos) (tTry X.K D i j t):=by
 intro pins s σ H B I h
 refine wpAny_Try_except (wpAny_mono (hb pins s σ H B _ I h) (fun f s1 q=>?_) fun ev s1 z=>?_)
 ·cases f with
  | next=>exact wpAny_execs_nil q
  | ret v=>exact q
  | brk=>exact q
  | cont=>exact q
 ·obtain ⟨e,T,cls,dx,σ',H',rfl,I1,fe,fT,a,C,rfl,cC,csub,q⟩:=z
  have hfr:X.A.frames=some (X.env :: X.outer):=by rw [← hst];exact I1.ok.frames
  have hl:s1.heap.FunFrames X.base (X.env :: X.outer):=by rw [← hst];exact I1.stack
  refine air_notes hfr hl hf a fun h1 T1 hT1 a1 c1=>?_
  refine air_lands a1 fun h2 a2 c2=>?_
  rw [← hst] at c1
  have c3:Chg (frs X.stack) [T1,e,T] s1.heap h2:=(c1.mono (fun b z=>z) fun b z=>by simp at z;rcases z with z | z <;> simp [z]).trans (c2.mono (fun b z=>nomatch z) fun b z=>by simp at z;simp [z])
  have I2:Inv X pins σ' H' { s1 with heap:=h2 }:=I1.call (ch:=[e,T]) (t':=s1.toks) (d':=s1.drawn) (g':=s1.gens) (Un.chg (c3.drop hT1) (fun b z=>z) fun b z=>z) (I1.hok.chg (c3.drop hT1) I1.stkFree fun b z=>by
   simp at z;rcases z with z | z <;> rw [z];exact fe.1;exact fT.1) I1.bare fun b z=>by
   simp at z;rcases z with z | z <;> rw [z];exact ⟨fe.2.2.2.1,fe.2.1,fe.2.2.2.2.1,fe.2.2.2.2.2⟩;exact ⟨fT.2.2.2.1,fT.2.1,fT.2.2.2.2.1,fT.2.2.2.2.2⟩
  have fT1:FpOk X pins H' T1:=I1.fpOk hT1 (I1.hok.fresh hT1)
  have M2:=I2.mark (.ref e)
  refine wpAny_handleBy_cons (codeAny_handlers_test (ld_glob (X:=X.marked (.ref e)) M2 hg hm ?_ hdb)) (by intro q;cases q)
  obtain ⟨oe,vs,he,hc,hdx,hd,hv1⟩:=a2.obj
  refine exc_matches I2.kIn cD he hc cC csub (codeAny_handlers_suite_as ?_)
  refine air_lands a2 fun h3 a3 c4=>?_
  have c5:Chg (frs X.stack) [T1] h2 h3:=c4.mono (fun b z=>nomatch z) fun b z=>z
  have I3:Inv X pins σ' H' { s1 with heap:=h3 }:=I2.call (s:={ s1 with heap:=h2 }) (h':=h3) (ch:=[T1]) (t':=s1.toks) (d':=s1.drawn) (g':=s1.gens) (Un.chg c5 (fun b z=>z) fun b z=>z) (I2.hok.chg c4 (fun b z=>(nomatch z:H' b=none)) fun b z=>by simp at z;rw [z];exact fT1.1) I2.bare fun b z=>by
   simp at z;rw [z];exact ⟨fT1.2.2.2.1,fT1.2.1,fT1.2.2.2.2.1,fT1.2.2.2.2.2⟩
  obtain ⟨oe3,vs3,he3,hc3,hdx3,hd3',hv3⟩:=a3.obj
  have I4:Inv X pins σ' (upd H' e (XO e C dx)) { s1 with heap:=h3 }:=I3.track fe ⟨⟨oe3,he3,hc3,hdx3,by unfold PySem.W.notCls;rw [hd3']⟩,⟨oe3,he3⟩,fun h1 h2 ⟨o,q1,q2⟩ k=>⟨o,k o q1,q2⟩⟩
  have M4:=I4.mark (.ref e)
  refine store_ok (X:=X.marked (.ref e)) (i:=j) M4 hN hj (.inl hn) (v:=.ref e) rfl (fun s5 M5=>?_) (.inr hn)
  have L5:(σ'.set j (some (.ref e)))[j]?=some (some (.ref e)):=by
   have:j<σ'.length:=by rw [I3.len];exact (List.getElem?_eq_some_iff.mp hj).1
   rw [List.getElem?_set_self this]
  have R:=(Zad (Zah (X:=X.marked (.ref e)) (i:=i) (pos:=ap) (pos':=xp) hN hi hx (pe_var (X:=X.marked (.ref e)) (pos:=ep) hj (.inl hn) hd2 hd3) (hs _) hfx)) pins s5 _ _
   { nx:=fun σ6 H6=>σ6=(σ'.set j (some (.ref e))).set i (some (.ref e))∧H6=upd H' e (XO e C dx),rt:=fun _ _=>False } M5 ⟨_,L5,rfl,rfl⟩
  refine wpAny_mono R (fun f s6 q6=>?_) fun _ _ z=>False.elim z
  cases f with
  | ret v=>obtain ⟨_,_,_,_,_,z⟩:=q6;exact z.elim
  | brk=>obtain ⟨_,_,_,z⟩:=q6;exact z.elim
  | cont=>obtain ⟨_,_,_,z⟩:=q6;exact z.elim
  | next =>
   obtain ⟨σ6,H6,M6,rfl,rfl⟩:=q6
   have I6:=M6.unmark I.ok
   obtain ⟨m,hm6,_⟩:=id I6.loc
   refine wpAny_nameGoes_keeps hn hm6 (by rw [I.ok.kind];rfl) fun h7 v hn7 hs7=>?_
   exact ⟨_,_,I6.gone hN hj hn hm6 hn7 hs7,q e fe.1⟩
end
section
variable {X:Cx} {k:Nat} {f C:Addr} {fd:FuncData} {ps:List Str} {sp:Sp} {x m:Str} {p pos apos:Pos} {e o:Expr} {es:List Expr} {ta:TE} {t:TA}
end
end L2
namespace L2
open PySem PySem.Spec PyProof.Rows
theorem bools_its:∀ {bs:List Bool}{us:List Value},Zcg (bs.map V.bl) us→us=bs.map Value.bool
 | [],_,h=>by cases h;rfl
 | b :: r,_,h=>by
  cases h with
  | cons a t=>rw [bools_its t];cases a;rfl
theorem bools_reads (h:Heap):∀ bs:List Bool,ReadsAll h (bs.map Value.bool) (bs.map PyData.bool) []
 | []=>.nil
 | b :: r=>by have:=ReadsAll.cons (Reads.bool (h:=h) b) (bools_reads h r);exact this
theorem bools_count (k:Bool):∀ bs:List Bool,countIn (.bool k) (bs.map PyData.bool)=((bs.countP (· == k):Nat):Int)
 | []=>rfl
 | b :: r=>by
  rw [List.map_cons,countIn,bools_count k r,List.countP_cons]
  cases b <;> cases k <;> simp [same] <;> omega
theorem mt_countB {X:Cx}:MtM X "list.count" (fun x vs H Q=>∃ (l:Addr) (bs:List Bool) (k:Bool),x=.ref l∧vs=[.bl k]∧H l=some (.lst (bs.map V.bl))∧Q (.int ((bs.countP (· == k):Nat):Int)) H):=by
 intro pins s σ H x vs v us Q I rx rv h
 obtain ⟨l,bs,k,rfl,rfl,hH,q⟩:=h
 cases rx
 obtain ⟨u,rfl,ru⟩:=rv.one
 cases ru
 obtain ⟨z,its,n,r,hl,e⟩:=I.lstM hH
 have hb:=bools_its r
 subst hb
 refine count_list_bools (xs:=bs.map PyData.bool) (hp:=s.heap) ⟨_,e,rfl,_,rfl⟩ (bools_reads _ _) ?_ ?_
 ·rw [List.all_map,List.all_eq_true]
  intro b _
  rfl
 ·rw [bools_count]
  exact ⟨.int _,H,I.tok _,⟨_,rfl⟩,q⟩
theorem kit_cls1 {K:PySem.W.Frag}{C D:Addr}{b:Bool} (h1:PySem.W.isClsIn K D=true) (h2:PySem.W.typeIn K (.ref D)=some (.type "type")) (c:ExC K C) (h:PySem.W.subIn K (.ref C) (.ref D)=some b):PySem.W.kitOne K (.ref C) (.ref D)=some b:=by
 unfold PySem.W.kitOne
 by_cases z:C=D
 ·subst z
  obtain ⟨nm,q,N,bs,bm,hdct,sn,sub,ab,col,dd,k0,k1,k2,k3,k5,lk⟩:=c.obj
  have:=Zen lk h
  rw [if_pos (by simp)]
  rw [← this]
  simp
 ·rw [if_neg (by simpa using z)]
  unfold PySem.W.kitCls
  have h1':(PySem.W.clsIn K D).isSome=true:=h1
  show (if ((PySem.W.clsIn K D).isSome&&PySem.W.typeIn K (.ref D) == some (.type "type"))=true then PySem.W.subIn K (.ref C) (.ref D) else none)=some b
  rw [if_pos (by rw [h1',h2];rfl)]
  exact h
theorem kit_value {K:PySem.W.Frag}{C:Addr}(c:ExC K C):PySem.W.kitOne K (.ref C) (.type "ValueError")=some true:=by
 unfold PySem.W.kitOne
 rw [if_neg (by simp)]
 unfold PySem.W.kitCls
 show (if PySem.W.kitMeta "ValueError"=true then PySem.W.subIn K (.ref C) (.type "ValueError") else none)=some true
 rw [if_pos (by decide +kernel)]
 exact c.val
def rIsiX (K:PySem.W.Frag):List V→Hp→VK→Prop:=fun xs H Q=>∃ (e C:Addr) (dx:Option Addr) (y:V) (cv:Value) (b:Bool),xs=[.ref e,y]∧Zcy y cv∧(∀ u,Zcy y u→u=cv)∧H e=some (XO e C dx)∧XDict H dx∧ExA K C∧PySem.W.kitOne K (.ref C) cv=some b∧Q (.bl b) H
theorem Zbh {X:Cx}:CallR X (.builtin "isinstance") (rIsiX X.K):=by
 intro pins s σ H xs us Q I r h
 obtain ⟨e,C,dx,y,cv,b,rfl,ry,hy,hx,hd,c,k,q⟩:=h
 obtain ⟨u,w',rfl,r1,r2⟩:=vals2 r
 cases r1
 rw [hy w' r2]
 exact isinstX_ok I hx hd c k fun tk=>⟨.bl b,H,I.tok _,rfl,q⟩
theorem Zan.xdict {H H':Hp}{dx:Option Addr}(h:XDict H dx) (s:Zan H H'):XDict H' dx:=h.elim .inl fun ⟨a,fs,e,x⟩=>.inr ⟨a,fs,e,s _ _ x⟩
end L2
namespace L2
open PySem PySem.Spec PyProof.Rows
section
variable {X:Cx}
end
end L2
namespace L2
open PySem PySem.Spec PyProof.Rows
end L2
namespace L2
open PySem PySem.Spec PyProof.Rows
end L2
namespace L2
open PySem PySem.W PySem.Spec PyProof.Rows
theorem repsS {K:PySem.W.Frag}{H:Hp}:∀ xs:List Str,Reps K H (xs.map V.str) (xs.map Dat.str)
 | []=>.nil
 | x :: r=>.cons (.str x) (repsS r)
theorem kqdPs_strs:∀ xs:List Str,kqdPs (xs.map Dat.str)=xs.map PyData.str
 | []=>by rw [List.map_nil,kqdPs];rfl
 | x :: r=>by rw [List.map_cons,kqdPs,kqdPs_strs r,kqdP];rfl
theorem depth_strs:∀ xs:List Str,PyData.depthAll (xs.map PyData.str)=0
 | []=>by rw [List.map_nil,PyData.depthAll]
 | x :: r=>by rw [List.map_cons,PyData.depthAll,depth_strs r,PyData.depth];rfl
theorem nodict_strs:∀ xs:List Str,PyData.hasDictAll (xs.map PyData.str)=false
 | []=>by rw [List.map_nil,PyData.hasDictAll]
 | x :: r=>by rw [List.map_cons,PyData.hasDictAll,nodict_strs r,PyData.hasDict];rfl
theorem sum_strs:∀ {xs:List Str},(∀ x∈xs,x.length≤50∧∀ c∈x.cps.toList,c<16 ^ 8)→((xs.map reprText).map (·.length)).sum≤502 * xs.length
 | [],_=>by simp
 | x :: r,h=>by
  have ih:=sum_strs (xs:=r) fun y hy=>h y (by simp [hy])
  obtain ⟨h1,h2⟩:=h x (by simp)
  have b:=StrLaws.reprText_len x h2
  rw [List.map_cons,List.map_cons,List.sum_cons,List.length_cons]
  omega
theorem join_strs {xs:List Str}(h:∀ x∈xs,x.length≤50∧∀ c∈x.cps.toList,c<16 ^ 8) (hl:xs.length≤100):(Str.join ", " (xs.map reprText)).length≤60000:=by
 cases xs with
 | nil=>decide
 | cons a r =>
  have s:=sum_strs h
  rw [List.map_cons,len_join_cons ", " (reprText a) (r.map reprText),← List.map_cons,List.length_map]
  have e:(Str.ofString ", ").length=2:=by decide
  rw [e]
  simp only [List.length_cons] at hl s
  omega
section
variable {X:Cx} {e:Expr} {te:TE} {pos:Pos} {k:Nat}
def Shows (x:Str):Prop:=x.length≤50∧∀ c∈x.cps.toList,c<16 ^ 8
def fRepT (K:PySem.W.Frag) (te:TE):TF:=fun σ H Q=>te σ H fun v H1=>∃ (t:Addr) (xs:List Str),v=.ref t∧(SqT K H1 t (xs.map V.str)∨SqL K H1 t (xs.map V.str))∧xs.length≤100∧(∀ x∈xs,Shows x)∧Q H1
theorem pf_repT (hr:Zdp k X.A) (he:PE X e te):PF X (.FormattedValue e 114 none pos) (fRepT X.K te):=by
 intro pins s σ H Q I h
 refine wpAny_FormattedValue_repr (thn (he pins s σ H _ I h) fun v s1 ⟨y,H1,I1,r1,t,xs,ey,ht,hl,hx,q⟩=>?_)
 subst ey
 obtain rfl:v=Value.ref t:=r1
 have hu:=hr.units
 have hj:=join_strs hx hl
 have fin:∀ z:Str,z.length≤100000→∀ h' u tk,(∀ b o,s1.heap.get? b=some o→h'.get? b=some o)→wpAny (model X.prog X.w) X.A (formatField (.str z u) Str.empty) (fun u s'=>∃ y tk H',u=.str y tk∧y.length≤100000∧Inv X pins σ H' s'∧Q H') X.xe { s1 with heap:=h',toks:=tk }:=fun z hz h' u tk kp=>by
  have I2:Inv X pins σ H1 { s1 with heap:=h',toks:=tk }:=I1.kept kp
  exact wpAny_formatField_str ⟨_,_,H1,rfl,hz,I2,q⟩ ⟨_,_,H1,rfl,hz,I2.tok _,q⟩ (Nat.le_trans hz (by decide))
 rcases ht with ht | ht
 ·obtain ⟨as,ra⟩:=(Rep.tuple ht (repsS xs)).reads I1 rfl
  rw [kqdP,kqdPs_strs] at ra
  have sh:(PyData.tuple (xs.map PyData.str)).shown.length≤100000:=by
   rw [PyData.shown_tuple,PyData.shownAll_strs,strLen_append,strLen_append]
   have e1:(Str.ofString "(").length=1:=by decide
   have e2:(Str.ofString (if (xs.map PyData.str).length == 1 then ",)" else ")")).length≤2:=by split <;> decide
   omega
  refine pyReprObj_of_reads ra ?_ ?_ hr.gd ?_ (fun _ _ z=>z) (fun h' u tk kp=>fin _ sh h' u tk kp) (Nat.le_trans sh (by decide))
  ·rw [PyData.showable,PyData.showableAll_strs]
  ·rw [PyData.hasDict,nodict_strs]
   intro z;cases z
  ·rw [PyData.depth,depth_strs]
   omega
 ·obtain ⟨as,ra⟩:=(Rep.list ht (repsS xs)).reads I1 rfl
  rw [kqdP,kqdPs_strs] at ra
  have sh:(PyData.list (xs.map PyData.str)).shown.length≤100000:=by
   rw [PyData.shown_list,PyData.shownAll_strs,strLen_append,strLen_append]
   have e1:(Str.ofString "[").length=1:=by decide
   have e2:(Str.ofString "]").length=1:=by decide
   omega
  refine pyReprObj_of_reads ra ?_ ?_ hr.gd ?_ (fun _ _ z=>z) (fun h' u tk kp=>fin _ sh h' u tk kp) (Nat.le_trans sh (by decide))
  ·rw [PyData.showable,PyData.showableAll_strs]
  ·rw [PyData.hasDict,nodict_strs]
   intro z;cases z
  ·rw [PyData.depth,depth_strs]
   omega
end
end L2
namespace L2
open PySem PySem.Spec PyProof.Rows HT
section
variable {prog:Program} {w:World} {A:Around} {E:Value→Shared→Prop} {s:Shared}
theorem getItem_tuple_all {t sl:Addr}{items:Array Value}{vl vu:Value}{lo hi:Option Int}{Q:Value→Shared→Prop}(ht:IsTup s.heap t items) (hs:s.heap.IsSliceOf sl vl vu .none) (pl:IsPart vl lo) (pu:IsPart vu hi)
  (hw:sIx items.size 0 lo=0∧sIx items.size items.size hi=items.size) (h:Q (.ref t) s):wpAny (model prog w) A (getItem (.ref t) (.ref sl)) Q E s:=by
 obtain ⟨os,hos,hcs,hds⟩:=id hs
 have hTs:s.TypeIs (.ref sl) "slice":=⟨os,hos,hcs⟩
 unfold getItem
 try with_reducible refine wpAny_holding ?_
 first | refine wpAny_bind (wpAny_pure ?_) | skip
 refine wpAny_bind (wpAny_sequenceKey ht.typeIs (by decide) ?_)
 refine wpAny_bind (wpAny_callSpecial?_slot (name:=Str.ofString "__getitem__") ht.typeIs PyProof.Rows.slot_tuple_getitem
  (wpAny_call_entry PyProof.Rows.slot_tuple_getitem ht.typeIs entry_tuple_getitem ?_ (args_tuple_getitem _ _)))
 show wpAny _ _ (Builtin.Tuple.tupleItemsOf (.ref t)>>=_) _ _ s
 refine wpAny_bind (tupleItemsOf_ ht ?_)
 refine wpAny_bind (wpAny_typeOf hTs ?_)
 rw [if_pos (by decide)]
 refine wpAny_bind (sliceApplied_gen hs pl pu ?_)
 have yes:(((sIx items.size 0 lo:Nat):Int) == 0&&(1:Int) == 1&&(sIx items.size items.size hi - sIx items.size 0 lo) == items.size)=true:=by
  rw [hw.1,hw.2]
  simp
 show wpAny _ _ (if (((sIx items.size 0 lo:Nat):Int) == 0&&(1:Int) == 1&&(sIx items.size items.size hi - sIx items.size 0 lo) == items.size)=true then _ else _) _ _ s
 rw [if_pos yes]
 apply wpAny_bind
 unfold Builtin.Tuple.tupleIsExact
 refine wpAny_bind (wpAny_typeOf ht.typeIs ?_)
 apply wpAny_pure
 rw [if_pos (by decide)]
 refine wpAny_bind (wpAny_rule ?_)
 refine wpAny_pure ?_
 exact ⟨_,rfl,wpAny_pure h⟩
end
def rSlA (K:PySem.W.Frag):V→Option Int→Option Int→Hp→VK→Prop:=fun x lo hi H Q=>∃ a xs,x=.ref a∧SqT K H a xs ∧
 ((sIx xs.length 0 lo=0∧sIx xs.length xs.length hi=xs.length)→Q (.ref a) H)∧(¬ (sIx xs.length 0 lo=0∧sIx xs.length xs.length hi=xs.length)→∀ p,H p=none→Q (.ref p) (upd H p (.tup (cutV xs lo hi))))
theorem sl_tupA {X:Cx}:SlR X (rSlA X.K):=by
 intro pins s σ H x v vl vu lo hi sl Q I rx hs pl pu h
 obtain ⟨a,xs,ex,hx,q1,q2⟩:=h
 by_cases hw:sIx xs.length 0 lo=0∧sIx xs.length xs.length hi=xs.length
 ·subst ex
  cases rx
  obtain ⟨its,r,ht,hz⟩:=I.tuple hx
  have hlen:its.toArray.size=xs.length:=by rw [List.size_toArray];exact r.length.symm
  refine ⟨"tuple",_,PyProof.Rows.slot_tuple_getitem.lookup,ht.typeIs,?_⟩
  exact getItem_tuple_all ht hs pl pu (by rw [hlen];exact hw) ⟨.ref a,H,I,rfl,q1 hw⟩
 ·exact sl_tup pins s σ H x v vl vu lo hi sl Q I rx hs pl pu ⟨a,xs,ex,hx,hw,q2 hw⟩
theorem cut_all {xs:List V}{lo hi:Option Int}(h:sIx xs.length 0 lo=0∧sIx xs.length xs.length hi=xs.length):cutV xs lo hi=xs:=by
 unfold cutV
 rw [h.1,h.2,List.drop_zero,Nat.sub_zero,List.take_length]
theorem rSlA_of {K:PySem.W.Frag}{H:Hp}{a:Addr}{xs:List V}{lo hi:Option Int}{Q:VK}(hx:H a=some (.tup xs)) (q:∀ p H',Zan H H'→H' p=some (.tup (cutV xs lo hi))→Q (.ref p) H'):rSlA K (.ref a) lo hi H Q :=
 ⟨a,xs,rfl,SqT.of hx,fun h=>q a H (Zan.refl _) (by rw [cut_all h];exact hx),fun _ p hp=>q p _ (fun b o e=>by rw [Zac (nNo e hp)];exact e) uS⟩
theorem rCatA_of {K:PySem.W.Frag}{H:Hp}{a b:Addr}{xs ys:List V}{Q:VK}(hx:H a=some (.tup xs)) (hy:H b=some (.tup ys)) (hz:xs.length + ys.length≤sizeLine) (q:∀ p H',Zan H H'→H' p=some (.tup (xs++ys))→Q (.ref p) H'):rCatA K (.ref a) (.ref b) H Q :=
 ⟨a,b,xs,ys,rfl,rfl,SqT.of hx,SqT.of hy,hz,fun e=>q b H (Zan.refl _) (by rw [e];exact hy),fun _ e=>q a H (Zan.refl _) (by rw [e,List.append_nil];exact hx),fun _ _ p hp=>q p _ (fun c o e=>by rw [Zac (nNo e hp)];exact e) uS⟩
theorem cut_strs (xs:List Str) (lo hi:Option Int):∃ ys:List Str,cutV (xs.map V.str) lo hi=ys.map V.str∧(∀ y∈ys,y∈xs)∧ys.length≤xs.length:=by
 refine ⟨((xs.drop (HT.sIx xs.length 0 lo)).take (HT.sIx xs.length xs.length hi - HT.sIx xs.length 0 lo)),?_,fun y hy=>List.mem_of_mem_drop (List.mem_of_mem_take hy),?_⟩
 ·unfold cutV
  rw [List.length_map,← List.map_drop,← List.map_take]
 ·rw [List.length_take,List.length_drop]
  omega
end L2
namespace L2
open PySem PySem.Spec PyProof.Rows
section
variable {X:Cx}
end
end L2
namespace L2
open PySem PySem.Spec PySem.Builtin PySem.Builtin.ObjectAttr PySem.W
structure ExI (K:PySem.W.Frag) (C D:Addr) (a:Str):Prop extends ExA K C where
 lk:∃ nm q N bs sn sub ab col dd k0 k1 k2 k3 k5,K.lookup C=some (excClassObj nm q C N bs [.ref D,.type "ValueError",.type "Exception",.type "BaseException",.type "object"] true sn sub ab col dd k0 k1 k2 k3 k5 "ValueError.__new__")
 sa:PySem.W.findIn K (.ref C) "__setattr__"=some (some (.builtin "object.__setattr__"))
 na:PySem.W.findIn K (.ref C) a=some none
section
variable {K:PySem.W.Frag} {prog:Program} {w:World} {A:Around} {E:Value→Shared→Prop} {s:Shared} {C D e t0:Addr} {a:Str} {v:Value}
end
end L2
namespace L2
open PySem PySem.Spec PyProof.Rows
structure DIn (K:PySem.W.Frag) (D:Addr):Prop where
 ga:PySem.W.specialIn K (.ref D) "__getattribute__"=some (some (.builtin "type.__getattribute__"))
 rd:PySem.W.readsIn K D (.type "type")=true
 fi:PySem.W.findCls K (.ref D) (.type "type") "__init__"=some (.val (.builtin "ValueError.__init__"))
section
variable {X:Cx} {pins:List (Addr×Obj)} {σ:St} {H:Hp} {s:Shared} {a:Addr} {φ:Heap→Prop}
end
section
variable {X:Cx} {C D f:Addr} {fd:FuncData} {k:Nat} {x dn a:Str} {np cpos pos apos pos':Pos} {e o value:Expr} {es:List Expr} {t:TA} {ta tv:TE} {ps:List Str}
end
end L2
namespace L2
open PySem PySem.Spec PyProof.Rows
theorem cf_app:∀ (names:List (Str×NameKind)) (n:Nat) (acc:List (Str×Addr)),cellsFrom n names acc=cellsFrom n names []++acc
 | [],_,_=>rfl
 | (x,k):: r,n,acc=>by
  unfold cellsFrom
  split
  ·rw [cf_app r (n + 1) ((x,n):: acc),cf_app r (n + 1) [(x,n)],List.append_assoc];rfl
  ·exact cf_app r n acc
theorem cf_name:∀ (names:List (Str×NameKind)) (n:Nat) (y:Str×Addr),y∈cellsFrom n names []→(y.1,NameKind.cell)∈names
 | [],_,_,h=>by cases h
 | (x,k):: r,n,y,h=>by
  unfold cellsFrom at h
  split at h
  ·rename_i hk
   have hk':k=.cell:=by simpa using hk
   rw [cf_app] at h
   rcases List.mem_append.mp h with z | z
   ·exact List.mem_cons_of_mem _ (cf_name r (n + 1) y z)
   ·rw [List.mem_singleton.mp z,hk'];exact List.mem_cons_self
  ·exact List.mem_cons_of_mem _ (cf_name r n y h)
theorem env_cells {M:Model}{A:Around}{E:Value→Shared→Prop}{s:Shared}{scope:Scope}{globals:Addr}{closure:List (Str×Addr)}{qual:Str}{outer:Env}{builtins:Addr}{Q:Env→Shared→Prop}
  (hQ:∀ h',h'.Ns s.heap.objs.size (fun _=>none)→(∀ b o,s.heap.get? b=some o→h'.get? b=some o)→CellsOk h' (s.heap.objs.size + 1) (cellsFrom (s.heap.objs.size + 1) scope.names []) →
   Q (newEnv scope s.heap.objs.size globals (cellsFrom (s.heap.objs.size + 1) scope.names []++closure) qual none .none (some outer) builtins) { s with heap:=h' }):
  wpAny M A (newFunctionEnv scope globals closure [] qual none .none (some outer) builtins) Q E s:=by
 simp only [newFunctionEnv,Option.isSome_some,if_true]
 refine wpAny_bind (wpAny_alloc ?_)
 refine wpAny_bind (wpAny_layCells _ (fun name kind cells=>by cases hkc:kind == NameKind.cell <;> simp [hkc]) _ _ _ _ ?_)
 have ok:=cellsFrom_ok scope.names (s.heap.push { cls:=.type "dict",data:=.dict #[] }) (s.heap.objs.size + 1) [] ⟨fun _ _ hm=>(nomatch hm),List.Pairwise.nil⟩ (by rw [Heap.size_push];exact Nat.le_refl _)
 rw [Heap.size_push] at ok
 rw [show ({ s with heap:=s.heap.push { cls:=.type "dict",data:=.dict #[] } }:Shared).heap.objs.size=s.heap.objs.size + 1 from Heap.size_push ..]
 rw [List.forIn_nil]
 refine wpAny_bind (wpAny_pure (wpAny_pure ?_))
 have q:=hQ _ ((Heap.Ns.new s.heap (.type "dict")).keeps (pushCells_keeps scope.names _)) (fun b o e=>pushCells_keeps _ _ b o (Heap.get?_push_of_some _ e)) ok
 rw [cf_app]
 exact q
abbrev Zc9 (X:Cx) (scope:Scope) (N:List Str) (C:Addr) (s:Shared) (H:Hp) (fp:List Addr):Cx :=
 { X with N:=N,s₀:=s,H₀:=H,env:=compEnvC scope (cellsFrom (C + 1) scope.names []++clOf X.env scope.names []) C X.env,outer:=X.stack,ex:=fp,fn:=fun x=>scope.names.lookup x == some .cell,pn:=[],xe:=fun _ _=>False }
structure Zds (X:Cx) (scope:Scope) (own frees:List Str) (js:List Nat):Prop where
 calm:X.calm=true
 kind:scope.kind=.function
 cells:∀ y∈scope.names,y.2=.cell→scope.names.lookup y.1=some .cell
 locals:∀ y∈scope.names,y.2=.local→scope.names.lookup y.1=some .local
 fr:∀ y∈scope.names,y.2=.free→X.env.scope.names.lookup y.1=some .cell∨X.env.scope.names.lookup y.1=some .free
 fre:∀ x∈frees,scope.names.lookup x=some .free
 slots:js.map (fun j=>X.N[j]?)=frees.map some
section
variable {X:Cx} {pins:List (Addr×Obj)} {σ:St} {scope:Scope} {own frees:List Str} {js:List Nat}
theorem Zds.clo (c:Zds X scope own frees js) (ok:X.Ok):∀ y∈scope.names,y.2=.free→∃ a,X.env.cells.lookup y.1=some a:=fun y hy e=>by
 rcases c.fr y hy e with h | h
 ·exact ok.has y.1 (.inl h)
 ·exact ok.has y.1 (.inr h)
theorem Zds.cl (c:Zds X scope own frees js) (ok:X.Ok) {n:Nat}{x:Str}{a:Addr}(h:(cellsFrom n scope.names []++clOf X.env scope.names []).lookup x=some a):
  ((x,a)∈cellsFrom n scope.names []∧scope.names.lookup x=some .cell)∨X.env.cells.lookup x=some a:=by
 rw [List.lookup_append] at h
 cases q:(cellsFrom n scope.names []).lookup x with
 | some b =>
  rw [q] at h
  cases h
  have m:=PySem.mem_of_lookup q
  exact .inl ⟨m,c.cells _ (cf_name _ _ _ m) rfl⟩
 | none =>
  rw [q] at h
  exact .inr (Zd5 scope.names [] x a (c.clo ok) (fun _ _ z=>by simp at z) h)
theorem Zds.has (c:Zds X scope own frees js) {n:Nat}{x:Str}(h:scope.names.lookup x=some .free):∃ a,(cellsFrom n scope.names []++clOf X.env scope.names []).lookup x=some a∧(clOf X.env scope.names []).lookup x=some a:=by
 have q:(cellsFrom n scope.names []).lookup x=none:=by
  cases q:(cellsFrom n scope.names []).lookup x with
  | none=>rfl
  | some b =>
   have z:=c.cells _ (cf_name _ _ _ (PySem.mem_of_lookup q)) rfl
   rw [show scope.names.lookup x=some .cell from z] at h
   cases h
 obtain ⟨a,ha⟩:=Option.isSome_iff_exists.mp (clOf_has (env:=X.env) scope.names [] x (PySem.mem_of_lookup h))
 exact ⟨a,by rw [List.lookup_append,q];exact ha,ha⟩
theorem Zds.hasC {n:Nat}{x:Str}(h:scope.names.lookup x=some .cell):∃ a,(cellsFrom n scope.names []++clOf X.env scope.names []).lookup x=some a:=by
 obtain ⟨a,ha⟩:=Option.isSome_iff_exists.mp (PySem.W.cellsFrom_some scope.names n [] (.inl h))
 exact ⟨a,by rw [List.lookup_append,ha];rfl⟩
theorem Zds.ok {s2:Shared}{H2:Hp}{fp:List Addr}{C:Addr}{h':Heap}(c:Zds X scope own frees js) (I:Inv X pins σ H2 s2) (f2:∀ b∈fp,FpOk X pins H2 b) (hlt:∀ b∈fp,b<s2.heap.objs.size) (hC:s2.heap.objs.size≤C) (N:List Str)
  (co:CellsOk h' (C + 1) (cellsFrom (C + 1) scope.names [])):(Zc9 X scope N C s2 H2 fp).Ok where
 mod:=I.ok.mod
 kind:=c.kind
 glob:=I.ok.glob
 blt:=I.ok.blt
 above:=hC
 inj:=fun x y a h1 h2=>by
  have old:∀ z,X.env.cells.lookup z=some a→a<s2.heap.objs.size:=fun z q=>by
   obtain ⟨v,r⟩:=I.cell z a q
   exact r.lt
  have new:∀ z,(z,a)∈cellsFrom (C + 1) scope.names []→C + 1≤a:=fun z q=>(co.empty z a q).2
  rcases c.cl I.ok h1 with ⟨z1,_⟩ | z1 <;> rcases c.cl I.ok h2 with ⟨z2,_⟩ | z2
  ·exact name_of_addr co.apart z1 z2
  ·exact absurd (Nat.lt_of_lt_of_le (Nat.lt_of_lt_of_le (old _ z2) hC) (Nat.le_of_succ_le (new _ z1))) (Nat.lt_irrefl _)
  ·exact absurd (Nat.lt_of_lt_of_le (Nat.lt_of_lt_of_le (old _ z1) hC) (Nat.le_of_succ_le (new _ z2))) (Nat.lt_irrefl _)
  ·exact I.ok.inj x y a z1 z2
 has:=fun x h=>by
  have h':scope.names.lookup x=some .free∨scope.names.lookup x=some .cell:=Zdl (env:=X.env) h
  rcases h' with h' | h'
  ·obtain ⟨a,z,_⟩:=c.has (n:=C + 1) h'
   exact ⟨a,z⟩
  ·exact Zds.hasC h'
 cab:=fun x a h h1=>by
  have hx:scope.names.lookup x=some .cell:=by simpa using h
  rcases c.cl I.ok h1 with ⟨z,_⟩ | z
  ·have:=(co.empty x a z).2
   show s2.heap.objs.size≤a
   omega
  ·have q:(cellsFrom (C + 1) scope.names []++clOf X.env scope.names []).lookup x=some a:=h1
   obtain ⟨b,hb⟩:=Option.isSome_iff_exists.mp (PySem.W.cellsFrom_some scope.names (C + 1) [] (.inl hx))
   rw [List.lookup_append,hb] at q
   cases q
   have:=(co.empty x a (PySem.mem_of_lookup hb)).2
   show s2.heap.objs.size≤a
   omega
 hd:=fun h=>I.ok.hd h
 frames:=I.ok.frames
 stk:=.inl rfl
 exf:=fun b hb=>⟨Nat.ne_of_lt (Nat.lt_of_lt_of_le (hlt b hb) hC),fun x a h=>by
  rcases c.cl I.ok h with ⟨z,_⟩ | z
  ·exact Nat.ne_of_gt (Nat.lt_of_lt_of_le (Nat.lt_of_lt_of_le (hlt b hb) hC) (Nat.le_of_succ_le (co.empty x a z).2))
  ·exact (f2 b hb).2.2.2.2.1 x a z⟩
 bs:=I.bs
 bsz:=Nat.le_trans I.ok.bsz I.sz
 noex:=fun b o e hb=>by
  rcases (f2 b hb).2.2.2.1 with z | z
  ·exact I.ok.noex b o e z
  ·exact absurd (Nat.lt_of_lt_of_le (Heap.lt_size e) (Nat.le_trans I.ok.bsz z)) (Nat.lt_irrefl _)
 exfs:=fun b hb z=>by
  rcases List.mem_cons.mp (I.stkSub b z) with e | e
  ·exact (f2 b hb).2.1 e
  ·exact (f2 b hb).2.2.1 e
 funs:=I.stack
 frf:=I.stkFree
theorem comp_blockC {s2:Shared}{tg iter elt:Expr}{ifs:List Expr}{pos:Pos}{g:TG}{tt:TT}{te:TE}{Q:VK}{RR:Value→Addr→Result→Shared→Prop}{itv:Value}{E:Value→Shared→Prop}
  (c:Zds X scope own frees js)
  (hg:∀ C s H fp,PG (Zc9 X scope (own++frees) C s H fp) tg g) (ht:∀ C s H fp,PTs (Zc9 X scope (own++frees) C s H fp) ifs tt) (he:∀ C s H fp,PE (Zc9 X scope (own++frees) C s H fp) elt te)
  (h:PIE X pins σ tg (compBody own.length js g tt te σ Q) itv s2)
  (hR:∀ D C H' s',Inv X pins σ H' s'→FpOk X pins H' C→(∃ m,s'.heap.Ns C m)→Q (.ref D) H'→RR (.ref D) C (.ok .next) s'):
  wpAny (model X.prog X.w) X.A (newList []) (fun acc s₃=>wpAny (model X.prog X.w) X.A (newFunctionEnv scope X.env.globals (clOf X.env scope.names []) [] X.env.qual none .none (some X.env)) (fun cenv s₄ =>
   codeAny (model X.prog X.w) X.A (.compStart (.ListComp elt [⟨tg,iter,ifs,0⟩] scope pos) 0 itv acc { cenv with scope:=relabel scope X.env }) (RR acc cenv.locals) s₄) E s₃) E s2:=by
 obtain ⟨it,fp,tn,J,H2,e,I2,T,st2,f2,hq⟩:=h
 subst e
 refine wpAny_newObj_type (env_cells fun h₁ hns₁ kp₁ co₁=>?_)
 dsimp only at hns₁ kp₁ co₁ ⊢
 generalize hH2:s2.heap.push { cls:=.type "list",dict:=none,data:=.seq ([]:List Value).toArray }=G2 at hns₁ kp₁ co₁ ⊢
 have hC:G2.objs.size=s2.heap.objs.size + 1:=by rw [← hH2,Heap.size_push]
 have hDC:s2.heap.objs.size≠G2.objs.size:=by rw [hC];exact Nat.ne_of_lt (Nat.lt_succ_self _)
 have hCle:s2.heap.objs.size≤G2.objs.size:=by rw [hC];exact Nat.le_succ _
 have old:∀ b o,s2.heap.get? b=some o→h₁.get? b=some o:=fun b o e=>kp₁ b o (hH2 ▸ Heap.get?_push_of_some _ e)
 have hD:H2 s2.heap.objs.size=none:=I2.hok.fresh (Nat.le_refl _)
 have hlt:∀ b∈fp,b<s2.heap.objs.size:=fun b hb=>by
  obtain ⟨o,e,_⟩:=T.obj _ _ st2 b hb
  exact Heap.lt_size e
 have hacc:h₁.get? s2.heap.objs.size=some { cls:=.type "list",data:=.seq ([]:List Value).toArray }:=kp₁ _ _ (hH2 ▸ Heap.get?_push_size _ rfl)
 obtain ⟨W,⟨m0,w0⟩,turn⟩:=hq _ hD
 have I0:∀ tk,Inv (Zc9 X scope (own++frees) G2.objs.size s2 H2 fp) [] (sgC own.length js σ) (upd H2 s2.heap.objs.size (.lst [])) { s2 with heap:=h₁,toks:=tk }:=fun tk=>by
  refine ⟨c.ok I2 f2 hlt hCle _ co₁,rfl,I2.bare,Un.laid old (Nat.le_refl _) hD,⟨_,hns₁,fun i x v h1 h2 h3=>?_⟩,fun x a h=>?_,?_,fun x a h=>?_,fun p hp=>absurd (show p∈([]:List (Addr×Obj)) from hp) (by simp),I2.hok.laid old (Nat.le_refl _) ⟨Nat.zero_le _,[],0,.nil,hacc⟩,?_⟩
  ·have hi:own.length≤i:=by
    by_cases hi:i<own.length
    ·unfold sgC at h2
     rw [List.getElem?_append_left (by simpa using hi),List.getElem?_replicate] at h2
     rw [if_pos hi] at h2
     cases h2
    ·omega
   have hx:frees[i - own.length]?=some x:=by
    have h1':(own++frees)[i]?=some x:=h1
    rwa [List.getElem?_append_right hi] at h1'
   have h2':(js.map fun j=>(σ[j]?).join)[i - own.length]?=some (some v):=by
    unfold sgC at h2
    rw [List.getElem?_append_right (by simpa using hi)] at h2
    simpa using h2
   rw [List.getElem?_map] at h2'
   obtain ⟨j,hj,hjv⟩:=Option.map_eq_some_iff.mp h2'
   have hs:=congrArg (fun l=>l[i - own.length]?) c.slots
   rw [List.getElem?_map,List.getElem?_map,hj,hx] at hs
   have hNj:X.N[j]?=some x:=Option.some.inj hs
   have hσ:σ[j]?=some (some v):=by
    cases q:σ[j]? with
    | none=>rw [q] at hjv;cases hjv
    | some o =>
     rw [q] at hjv
     have:o=some v:=hjv
     rw [this]
   have hfree:=c.fre x (List.mem_of_getElem? hx)
   have hXk:=c.fr (x,.free) (PySem.mem_of_lookup hfree) rfl
   obtain ⟨m,hn,hl⟩:=I2.loc
   have vis:Vis X.env.scope x:=by rcases hXk with k | k;exact .inr (.inl k);exact .inr (.inr k)
   obtain ⟨u,r,l⟩:=hl j x v hNj hσ vis
   refine ⟨u,r,.inr ⟨Zdg (env:=X.env) hfree,?_⟩⟩
   rcases l with ⟨hk,_⟩ | ⟨_,a,ha,hcell⟩
   ·rcases hXk with k | k
    ·have hk:X.env.scope.names.lookup x=some .local:=hk
     rw [show X.env.scope.names.lookup x=some .cell from k] at hk;cases hk
    ·have hk:X.env.scope.names.lookup x=some .local:=hk
     rw [show X.env.scope.names.lookup x=some .free from k] at hk;cases hk
   ·obtain ⟨a',ha',hz'⟩:=c.has (n:=G2.objs.size + 1) hfree
    have e:=Zd5 scope.names [] x a' (c.clo I2.ok) (fun _ _ z=>by simp at z) hz'
    rw [ha] at e
    cases e
    obtain ⟨o,ho,hd⟩:=hcell
    exact ⟨a,ha',o,old a o ho,hd⟩
  ·rcases c.cl I2.ok h with ⟨z,_⟩ | z
   ·exact ⟨none,(co₁.empty x a z).1⟩
   ·obtain ⟨v,o,ho,hd⟩:=I2.cell x a z
    exact ⟨v,o,old a o ho,hd⟩
  ·show upd H2 s2.heap.objs.size (.lst []) G2.objs.size=none
   rw [Zac (Ne.symm hDC)]
   exact I2.hok.fresh hCle
  ·rcases c.cl I2.ok h with ⟨z,_⟩ | z
   ·have la:=(co₁.empty x a z).2
    have lb:s2.heap.objs.size<a:=Nat.lt_of_le_of_lt hCle (Nat.lt_of_succ_le la)
    rw [Zac (Nat.ne_of_gt lb)]
    exact I2.hok.fresh (Nat.le_of_lt lb)
   ·obtain ⟨v,o,ho,hd⟩:=I2.cell x a z
    rw [Zac (Nat.ne_of_lt (Heap.lt_size ho))]
    exact I2.freeC x a z
  ·rw [sgC_len,List.length_append]
   have:=congrArg List.length c.slots
   rw [List.length_map,List.length_map] at this
   omega
 have stat:∀ {H':Hp},(∀ b∈fp,H' b=none)→∀ b∈fp,FpOk (Zc9 X scope (own++frees) G2.objs.size s2 H2 fp) [] H' b:=fun {H'} hn b hb=>by
  obtain ⟨f0,f1,f3,f4,f5,f6⟩:=f2 b hb
  refine ⟨hn b hb,Nat.ne_of_lt (Nat.lt_of_lt_of_le (hlt b hb) hCle),fun z=>?_,.inl hb,fun x a h=>by
   rcases c.cl I2.ok h with ⟨z,_⟩ | z
   ·exact Nat.ne_of_gt (Nat.lt_of_lt_of_le (Nat.lt_of_lt_of_le (hlt b hb) hCle) (Nat.le_of_succ_le (co₁.empty x a z).2))
   ·exact f5 x a z,fun p hp=>absurd (show p∈([]:List (Addr×Obj)) from hp) (by simp)⟩
  rcases List.mem_cons.mp (I2.stkSub b z) with e | e
  ·exact f1 e
  ·exact f3 e
 have loop:∀ s₃:Shared,s₃={ s2 with heap:=h₁,toks:=s2.toks } →
   codeAny (model X.prog X.w) X.A (.compLoop (.ListComp elt [⟨tg,iter,ifs,0⟩] scope pos) 0 (.ref it) (.ref s2.heap.objs.size) (compEnvC scope (cellsFrom (G2.objs.size + 1) scope.names []++clOf X.env scope.names []) G2.objs.size X.env))
    (RR (.ref s2.heap.objs.size) G2.objs.size) s₃:=by
  rintro s₃ rfl
  refine compLoop_any (fun n s'=>∃ i ys σ' H',Inv (Zc9 X scope (own++frees) G2.objs.size s2 H2 fp) [] σ' H' s'∧tn i s'.heap∧(∀ b∈fp,H' b=none)∧W i n ys σ' H') ?_ m0
   ⟨0,[],_,_,I0 _,T.keep _ _ _ st2 fun b _ o e=>old b o e,fun b hb=>by rw [Zac (Nat.ne_of_lt (hlt b hb))];exact (f2 b hb).1,w0⟩
  rintro n s3 ⟨i,ys,σ3,H3,I3,st3,fr3,w3⟩ E'
  rcases turn i n ys σ3 H3 w3 with ⟨stop,qn⟩ | ⟨go,hz,N,hN,step⟩
  ·refine thn (T.done (Zc9 X scope (own++frees) G2.objs.size s2 H2 fp) rfl rfl rfl c.calm i [] s3 σ3 H3 E' I3 (stat fr3) st3 stop) fun r s4 ⟨hr,I4⟩=>?_
   subst hr
   have back:Inv X pins σ H3 s4:=I2.call' (ch:=fp) I4.os I4.base I4.hok I4.bare fun b hb=>⟨(f2 b hb).2.2.2.1,(f2 b hb).2.1,(f2 b hb).2.2.2.2.1,(f2 b hb).2.2.2.2.2⟩
   exact hR _ _ H3 s4 back (I2.fpOk hCle I4.free) ⟨_,I4.loc.choose_spec.1⟩ qn
  ·refine thn (T.item (Zc9 X scope (own++frees) G2.objs.size s2 H2 fp) rfl rfl rfl c.calm i [] s3 σ3 H3 E' I3 (stat fr3) st3 go) fun r s4 ⟨u,hr,h4⟩=>?_
   subst hr
   refine thn h4 fun _ s5 ⟨x,H5,I5,r5,y5,st5,fr5⟩=>?_
   have I5':=I5.pinned (stat fr5) (T.obj _ _ st5)
   have nof:∀ (e:Value) (s':Shared),(Zc9 X scope (own++frees) G2.objs.size s2 H2 fp).xe e s'→E' e s':=fun _ _ z=>False.elim z
   refine wpAny_mono (hg _ _ _ _ _ s5 σ3 H5 x u _ I5' r5 (step x H5 y5)) (fun _ s6 ⟨σ6,H6,I6,q6⟩=>?_) nof
   refine wpAny_mono (ht _ _ _ _ _ s6 σ6 H6 _ I6 q6) (fun b s7 ⟨H7,I7,q7⟩=>?_) nof
   have again:∀ {σ7:St} {H7:Hp} {s7:Shared} {ys':List V},Inv (Zc9 X scope (own++frees) G2.objs.size s2 H2 fp) ([]++pinsAt fp s5.heap) σ7 H7 s7→N ys' σ7 H7 →
     ∃ m,m<n∧∃ i ys σ' H',Inv (Zc9 X scope (own++frees) G2.objs.size s2 H2 fp) [] σ' H' s7∧tn i s7.heap∧(∀ b∈fp,H' b=none)∧W i m ys σ' H':=fun {σ7 H7 s7 ys'} I7 n7=>by
    obtain ⟨m',hm,w7⟩:=hN _ _ _ n7
    refine ⟨m',hm,i + 1,ys',σ7,H7,I7.unpinned,T.keep _ _ _ st5 fun b hb o e=>(I7.pin (b,o) (List.mem_append_right _ (List.mem_append_right _ (Zd3 hb e)))).1,fun b hb=>?_,w7⟩
    obtain ⟨o,e,d⟩:=T.obj _ _ st5 b hb
    exact (I7.pin (b,o) (List.mem_append_right _ (List.mem_append_right _ (Zd3 hb e)))).2.1
   cases b with
   | false =>
    rw [if_neg Bool.false_ne_true] at q7 ⊢
    exact again I7 q7
   | true =>
    rw [if_pos rfl] at q7 ⊢
    refine wpAny_mono (he _ _ _ _ _ s7 σ6 H7 _ I7 q7) (fun v s8 ⟨y,H8,I8,r8,hD8,w8⟩=>?_) nof
    refine wpAny_mono (Zde (X:=Zc9 X scope (own++frees) G2.objs.size s2 H2 fp) _ s8 σ6 H8 (.ref s2.heap.objs.size) [y] (.ref s2.heap.objs.size) [v] (fun _ H9=>H9=upd H8 s2.heap.objs.size (.lst (ys++[y]))) I8 rfl (.cons r8 .nil) ⟨_,ys,y,rfl,rfl,hD8,hz,rfl⟩) (fun z s9 ⟨_,H9,I9,_,e9⟩=>?_) nof
    subst e9
    exact again I9 w8
 exact codeAny_compStart_list (loop _ rfl) (T.self X.A 0 _ _ _ (T.keep _ _ _ st2 fun b _ o e=>old b o e) (loop _ rfl))
end
section
variable {X:Cx} {scope:Scope} {own frees:List Str} {js:List Nat} {tg iter elt:Expr} {ifs:List Expr} {wi:TI} {g:TG} {tt:TT} {te:TE} {pos:Pos}
theorem ps_setCompC {k:Nat}{y:Str}{py spos:Pos} (own frees:List Str) (js:List Nat) (hN:X.N.Nodup) (hk:X.N[k]?=some y) (hy:X.env.scope.names.lookup y=some .local) (hc:X.Ok→Zds X scope own frees js) (hi:PI X tg iter wi)
  (hg:∀ C s H fp,PG (Zc9 X scope (own++frees) C s H fp) tg g) (ht:∀ C s H fp,PTs (Zc9 X scope (own++frees) C s H fp) ifs tt) (he:∀ C s H fp,PE (Zc9 X scope (own++frees) C s H fp) elt te)
  (hsw:swapsWith (.ListComp elt [⟨tg,iter,ifs,0⟩] scope pos) (some (.Name y py)) spos.line X.env=pure true:=by rfl)
  (hs:∀ x,foldedSetIterable iter X.env x=pure x:=by intro _;rfl):
  PS X (.Assign [.Name y py] (.ListComp elt [⟨tg,iter,ifs,0⟩] scope pos) spos) (tSetComp k own.length js wi g tt te):=by
 intro pins s σ H D I h
 have c:=hc I.ok
 rw [exec_Assign_Name_used _ _ _ _ hsw]
 refine wpAny_bind (wpAny_standAt (wpAny_bind ?_))
 show wpAny _ X.A (do let _ ← comprehension (.ListComp elt [⟨tg,iter,ifs,0⟩] scope pos) scope X.env _ (newList []) false (eval iter X.env) (some (assign (.Name y py) X.env))) _ _ s
 refine wpAny_bind (wpAny_mono (wpAny_comprehension_free (use:=some (assign (.Name y py) X.env)) (Q:=fun _ s'=>SP X pins D .next s') rfl hs (closureFor_of (c.clo I.ok)) c.kind c.locals
  (thn (hi pins s σ H _ I h) fun xv s₁ h₁=>thn h₁ fun it s₂ h₂=>?_)) (fun _ s' hq=>wpAny_pure (wpAny_pure hq)) fun _ _ e=>e)
 refine comp_blockC (RR:=fun acc C=>compPost (model X.prog X.w) X.A X.xe (some (assign (.Name y py) X.env)) (fun _ s'=>SP X pins D .next s') acc C) c hg ht he h₂ fun A' C H' s' J F n q=>?_
 obtain ⟨m,hn⟩:=n
 obtain ⟨f0,f1,f2,f3,f4,f5⟩:=F
 show wpAny _ X.A (assign (.Name y py) X.env (.ref A')) _ _ _
 refine wpAny_assign_Name (store_ok2 J hN hk (.inl hy) (v:=.ref A') rfl (fun s'' J' ⟨a,sb,ha⟩=>?_) (.inr hy))
 have hne:a≠C:=by
  rcases ha with e | e
  ·rw [e];exact Ne.symm f1
  ·exact f4 y a e
 refine ⟨m,hn.sameBut sb (Ne.symm hne),fun h' hs'=>⟨_,H',J'.turned (t':=s''.toks) (fun b o hb e=>hs'.extBut b o hb e) f0 f1 f3 f4 f5,q⟩⟩
end
def compTC (osc:Scope) (on:List Str) (scope:Scope) (frees:List Str) (js:List Nat):Bool :=
 (scope.kind == .function)&&scope.names.all (fun y=>y.2 != .cell || scope.names.lookup y.1 == some .cell)&&scope.names.all (fun y=>y.2 != .local || scope.names.lookup y.1 == some .local) &&
 scope.names.all (fun y=>y.2 != .free || (osc.names.lookup y.1 == some .cell || osc.names.lookup y.1 == some .free))&&frees.all (fun x=>scope.names.lookup x == some .free)&&decide (js.map (fun j=>on[j]?)=frees.map some)
theorem compTC_ok {X:Cx}{osc scope:Scope}{on own frees:List Str}{js:List Nat}(h:compTC osc on scope frees js=true) (h1:X.env.scope=osc) (h2:X.N=on) (h3:X.calm=true):Zds X scope own frees js:=by
 subst h1
 subst h2
 unfold compTC at h
 simp only [Bool.and_eq_true,List.all_eq_true,decide_eq_true_eq,Bool.or_eq_true,bne_iff_ne,beq_iff_eq,ne_eq] at h
 obtain ⟨⟨⟨⟨⟨a,b⟩,c⟩,d⟩,e⟩,f⟩:=h
 exact ⟨h3,a,fun y hy z=>(b y hy).resolve_left (fun q=>q z),fun y hy z=>(c y hy).resolve_left (fun q=>q z),fun y hy z=>(d y hy).resolve_left (fun q=>q z),e,f⟩
def relab (sc osc:Scope):Scope:={ sc with names:=sc.names.map fun (n,k)=>if (k == NameKind.free&&osc.kind == .function&&osc.names.lookup n == some .cell) then (n,NameKind.cell) else (n,k) }
end L2
namespace L2
open PySem PySem.Spec PyProof.Rows
theorem rv_lookLen:typeLookup (.type "list_reverseiterator") "__len__"=pure none:=by rw [typeLookup_type,builtinLookup_eq_fast];kernel_rfl
theorem rv_lookHint:typeLookup (.type "list_reverseiterator") "__length_hint__"=pure (some (.builtin "list_reverseiterator.__length_hint__")):=by rw [typeLookup_type,builtinLookup_eq_fast];kernel_rfl
section
variable {prog:Program} {w:World} {A:Around} {E:Value→Shared→Prop} {s:Shared} {r:Addr}
theorem rv_hint {Q:Bool→Shared→Prop}(tr:s.TypeIs (.ref r) "list_reverseiterator") (q:Q false s):wpAny (model prog w) A (Builtin.List.listLengthHint (.ref r)) Q E s:=by
 unfold Builtin.List.listLengthHint
 refine wpAny_bind (wpAny_specialOf tr rv_lookLen ?_)
 wp_delta
 refine wpAny_bind (wpAny_specialOf tr rv_lookHint ?_)
 generalize hq:("list_reverseiterator.__length_hint__":String)=nm
 wp_delta
 rw [show splitId nm=some ("list_reverseiterator","__length_hint__") from by subst hq;decide +kernel]
 subst hq
 refine wpAny_bind (wpAny_isInstance (T:="list_reverseiterator") (b:=true) tr (by rw [isSubtype_type];kernel_rfl) ?_)
 refine wpAny_ite_split (fun c=>absurd c (by decide)) (fun _=>?_)
 refine wpAny_ite_split (fun _=>?_) (fun c=>absurd (by decide +kernel) c)
 refine wpAny_ite_split (fun c=>absurd c (by decide +kernel)) (fun _=>?_)
 exact wpAny_pure q
theorem rv_extend {R:Result→Shared→Prop}{l:Addr}{items:Array Value}{c0:Nat}(hh:A.handled=none) (hi:s.heap.IsRevIter r l ((items.size:Int) - 1)) (hl:s.heap.IsList l items) (lr:l≠r) (S:Addr) (Sr:S≠r) (Sl:S≠l) (res:Value) (hn:items.size≤sizeLine)
  (eS:s.heap.get? S=some { cls:=.type "list",data:=.seq #[] c0 })
  (q:∀ g tk acc c,(∀ b o,b≠S→b≠r→s.heap.get? b=some o→g.get? b=some o)→g.get? S=some { cls:=.type "list",dict:=none,data:=.seq acc c,slots:=#[] }→ItemsOf (fun i v=>items[items.size - 1 - i]?=some v) acc items.size→R (.ok (.ret res)) { s with heap:=g,toks:=tk }):
  wpAny (model prog w) A.in1 (Builtin.List.listExtendWith (.ref S) (.ref r) res)
   (fun fin s'=>match fin with | .done f=>R (.ok f) s' | .again c'=>c'.quiet=true∧codeAny (model prog w) A c' R s') (fun e s'=>R (.error e) s') s:=by
 have W:=Walks.listRev (prog:=prog) (w:=w) (A:=A.in1) hh r l lr items
 have nS:S∉[r,l]:=fun z=>by
  rcases List.mem_cons.mp z with e | e
  ·exact Sr e
  ·exact Sl (List.mem_singleton.mp e)
 unfold Builtin.List.listExtendWith
 refine wpAny_bind (wpAny_typeOf hi.typeIs ?_)
 have n1:Builtin.List.listSameRef (.ref S) (.ref r)=false:=by simp [Builtin.List.listSameRef,Sr]
 have n2:(Value.type "list_reverseiterator" == Value.type "list")=false:=by decide +kernel
 have n3:(Value.type "list_reverseiterator" == Value.type "tuple")=false:=by decide +kernel
 simp only [n1,n2,n3,Bool.or_false,Bool.false_eq_true,if_false]
 refine wpAny_bind (wpAny_pyIter_revIter hi ?_)
 refine wpAny_bind (wpAny_holding (rv_hint hi.typeIs ?_))
 refine wpAny_ite_split (fun c=>absurd c (by decide +kernel)) (fun _=>wpAny_pure ⟨plainId_quiet PySem.F.plain_extend_loop _,?_⟩)
 refine codeAny_extend_loopS W.toS hn S nS res items.size 0 _ #[] c0 rfl (Nat.zero_le _) ⟨Nat.zero_le _,?_,hl⟩ eS (ItemsOf.nil _) fun s' acc c mv eS' ia=>?_
 ·have e0:(items.size:Int) - 1 - ((0:Nat):Int)=(items.size:Int) - 1:=by omega
  rw [e0]
  exact hi
 ·rw [Moved.eq_with mv]
  exact q s'.heap s'.toks acc c (fun b o b1 b2 e=>mv.heap b o (fun z=>by
   rcases List.mem_cons.mp z with e' | e'
   ·exact b1 e'
   ·exact b2 (List.mem_singleton.mp e')) e) eS' ia
theorem rv_call {Q:Value→Shared→Prop}{l:Addr}{items:Array Value}(hh:A.handled=none) (hi:s.heap.IsRevIter r l ((items.size:Int) - 1)) (hl:s.heap.IsList l items) (lr:l≠r) (hn:items.size≤sizeLine)
  (q:∀ g tk acc c,(∀ b o,b≠r→s.heap.get? b=some o→g.get? b=some o)→g.get? s.heap.objs.size=some { cls:=.type "list",dict:=none,data:=.seq acc c,slots:=#[] }→ItemsOf (fun i v=>items[items.size - 1 - i]?=some v) acc items.size→Q (.ref s.heap.objs.size) { s with heap:=g,toks:=tk }):
  wpAny (model prog w) A (call (.type "list") [.ref r]) Q E s:=by
 have rlt:r<s.heap.objs.size:=let ⟨_,e,_⟩:=hi;Heap.lt_size e
 have llt:l<s.heap.objs.size:=let ⟨_,e,_⟩:=hl;Heap.lt_size e
 refine callType_codes (Q₁:=fun x s1=>x=.ref s.heap.objs.size∧s1={ s with heap:=s.heap.push { cls:=.type "list",data:=.seq #[] } }) PySem.F.called_list (PySem.F.typeCall_list_1 _) PySem.F.entry_list_init
  (code_list_new _ ⟨rfl,rfl⟩) fun x s1 e1=>?_
 obtain ⟨rfl,rfl⟩:=e1
 have eS:(s.heap.push { cls:=.type "list",data:=.seq #[] }).get? s.heap.objs.size=some { cls:=.type "list",data:=.seq #[] }:=Heap.get?_push_size _ rfl
 refine ⟨⟨_,eS,rfl⟩,PySem.F.args_list_init_2 _ _,?_⟩
 show wpAny _ A.in1.in1 (do let old ← Builtin.List.listItems (.ref s.heap.objs.size);Builtin.List.listUpdate (.ref s.heap.objs.size) (fun _=>#[]);letGo old.toList.reverse;Builtin.List.listExtendWith (.ref s.heap.objs.size) (.ref r) .none) _ _ _
 refine wpAny_bind ?_
 unfold Builtin.List.listItems
 refine wpAny_bind (wpAny_seqItems eS rfl (wpAny_pure ?_))
 show wpAny _ _ (updateSeq s.heap.objs.size (fun _=>#[])>>=fun _=>letGo (#[]:Array Value).toList.reverse>>=fun _=>Builtin.List.listExtendWith (.ref s.heap.objs.size) (.ref r) .none) _ _ _
 refine wpAny_bind (wpAny_updateSeq eS rfl ?_)
 have eS2:=Heap.get?_update_self (Obj.mapSeq (fun _=>(#[]:Array Value))) eS rfl
 have oth:∀ b o,b<s.heap.objs.size→s.heap.get? b=some o→((s.heap.push { cls:=.type "list",data:=.seq #[] }).update s.heap.objs.size (Obj.mapSeq (fun _=>(#[]:Array Value)))).get? b=some o :=
  fun b o hb e=>(Heap.get?_update_other _ _ (Nat.ne_of_gt hb)).trans (Heap.get?_push_of_some _ e)
 refine wpAny_bind (wpAny_letGo ?_)
 refine rv_extend (A:=A.in1) hh (hi.at fun o e=>oth r o rlt e) (hl.at fun o e=>oth l o llt e) lr _ (Nat.ne_of_gt rlt) (Nat.ne_of_gt llt) .none hn eS2 fun g tk acc c k e2 ia=>?_
 exact ⟨rfl,q g tk acc c (fun b o hb e=>k b o (Nat.ne_of_lt (Heap.lt_size e)) hb (oth b o (Heap.lt_size e) e)) e2 ia⟩
end
section
variable {X:Cx}
theorem pe_listRev {a:Expr}{ta:TE}{p1 p2 pos1 pos2:Pos}(hc:X.calm=true) (ha:PE X a ta) (hg1:Gl X "list") (hm1:X.mg "list"=none) (hg2:Gl X "reversed") (hm2:X.mg "reversed"=none)
  (hs:starEach [a] X.env=[(false,eval a X.env)]:=by rfl)
  (hs2:starEach [.Call (.Name "reversed" p2) [a] [] pos2] X.env=[(false,eval (.Call (.Name "reversed" p2) [a] [] pos2) X.env)]:=by rfl):
  PE X (.Call (.Name "list" p1) [.Call (.Name "reversed" p2) [a] [] pos2] [] pos1) (fun σ H Q=>tCons ta tNil σ H fun vs H1=>∃ l xs,vs=[.ref l]∧SqL X.K H1 l xs∧∀ p,H1 p=none→Q (.ref p) (upd H1 p (.lst xs.reverse))):=by
 intro pins s σ H Q I h
 refine wpAny_Call_Name_kw (ld_blt I hg1 hm1 PyProof.Rows.boot_list ?_ (by decide) (by decide))
 refine PyProof.Rows.callWith_type1 ?_ hs2 rfl
 refine Calls.spliced_cons ?_
 refine wpAny_Call_Name_kw (ld_blt I hg2 hm2 PyProof.Rows.boot_reversed ?_ (by decide) (by decide))
 refine PyProof.Rows.callWith_type1 ?_ hs rfl
 have pa:PA X [a] (tCons ta tNil):=pC ha Zaa hs
 refine thn (pa pos2 pins s σ H (fun vs H1=>∃ l xs,vs=[.ref l]∧SqL X.K H1 l xs∧∀ p,H1 p=none→Q (.ref p) (upd H1 p (.lst xs.reverse))) I h) fun us s1 ⟨vs,H1,I1,r1,q1⟩=>?_
 obtain ⟨l,xs,e,hS,q⟩:=q1
 subst e
 obtain ⟨u,rfl,ru⟩:=vals1 r1
 cases ru
 obtain ⟨its,rv,⟨ol,nl,el,cl,dl,dt⟩,hz⟩:=I1.list hS
 have il:s1.heap.IsList l its.toArray:=⟨ol,el,cl,nl,dt⟩
 have lt:=Heap.lt_size el
 refine call_reversed_list il (Calls.spliced_nil ?_)
 have nsz:(s1.heap.push (revObj l ((its.toArray.size:Int) - 1))).objs.size=s1.heap.objs.size + 1:=Heap.size_push ..
 have hl:=rv.length
 refine rv_call (I1.ok.hd hc) ⟨_,Heap.get?_push_size _ rfl,rfl,rfl⟩ (il.at fun o e=>Heap.get?_push_of_some _ e) (Nat.ne_of_lt lt) (by rw [List.size_toArray,← hl];exact hz) fun g tk acc c k eS ia=>?_
 obtain ⟨a1,a2⟩:=ia
 have fr:H1 (s1.heap.push (revObj l ((its.toArray.size:Int) - 1))).objs.size=none:=I1.hok.fresh (by rw [nsz];omega)
 refine ⟨.ref _,_,I1.laid (o:=.lst xs.reverse) (fun b o e=>k b o (Nat.ne_of_lt (Heap.lt_size e)) (Heap.get?_push_of_some _ e)) (by rw [nsz];omega) ⟨by rw [List.length_reverse];exact hz,acc.toList,c,?_,by simpa using eS⟩,rfl,q _ fr⟩
 have len:xs.reverse.length=acc.toList.length:=by
  rw [List.length_reverse]
  have e:acc.toList.length=acc.size:=rfl
  rw [e,a1,List.size_toArray,hl]
 refine vals_of len fun i v u hv hu=>?_
 have hu':=a2 i u (by rw [← Array.getElem?_toList];exact hu)
 have hi:i<xs.length:=by
  have:=(List.getElem?_eq_some_iff.mp hv).1
  rwa [List.length_reverse] at this
 rw [List.getElem?_reverse hi] at hv
 obtain ⟨u',e1,e2⟩:=rv.get hv
 have e3:its.toArray[its.toArray.size - 1 - i]?=some u':=by
  rw [List.getElem?_toArray,List.size_toArray,← hl]
  exact e1
 rw [e3] at hu'
 cases hu'
 exact e2
end
end L2
namespace L2
open PySem PySem.Spec PyProof.Rows
structure IsCls (K:PySem.W.Frag) (D:Addr):Prop where
 ha:PySem.W.findIn K (.ref D) "__class__"=some (some (.builtin "object.__class__"))
 hn:PySem.W.specialIn K (.builtin "object.__class__") "__get__"=some (some (.builtin "getset_descriptor.__get__"))
 ht:PySem.W.takesIn K (.builtin "object.__class__")=some true
 hm:PySem.W.mroIn K D (.type "object")=some true
 ki:PySem.W.kitOne K (.ref D) (.ref D)=some true
end L2
namespace L2
open PySem PySem.Spec PyProof.Rows
section
variable {prog:Program} {w:World} {A:Around}
end
section
variable {X:Cx}
end
end L2
namespace L2
open PySem PySem.Spec PyProof.Rows
section
variable {X:Cx} {pins:List (Addr×Obj)} {σ:St} {H:Hp} {s:Shared} {a:Addr} {o:Obj} {kvs:List (List Key×V)}
end
end L2
namespace L2
open PySem PySem.Spec PySem.Builtin
section
variable {X:Cx}
end
end L2
namespace L2
open PySem PySem.Spec PyProof.Rows
section
variable {X:Cx} {C D f:Addr} {fd:FuncData} {k:Nat} {x dn a:Str} {np cpos pos apos pos':Pos} {e o value:Expr} {es:List Expr} {t:TA} {ta tv:TE} {ps:List Str}
end
end L2
namespace L2
open PySem PySem.Spec PySem.Builtin
theorem strsAre_of {ss:List Str}:∀ {us:List Value},Zcg (ss.map V.str) us→PyProof.Rows.StrsAre us ss:=by
 induction ss with
 | nil=>intro us r;rw [List.map_nil] at r;cases r;exact .nil
 | cons x xs ih =>
  intro us r
  rw [List.map_cons] at r
  cases r with
  | cons h t =>
   obtain ⟨tk,rfl⟩:=h
   exact .cons _ _ (ih t)
theorem vals_strs {ss:List Str}{us:List Value}(h:PyProof.Rows.StrsAre us ss):Zcg (ss.map V.str) us:=by
 induction h with
 | nil=>exact .nil
 | cons y t h ih=>exact .cons ⟨t,rfl⟩ ih
section
variable {X:Cx}
theorem call_sortS:CallR X (.builtin "sorted") (fun xs H Q=>∃ p ss,xs=[.ref p]∧SqL X.K H p (ss.map V.str)∧ss.length<64∧∀ (ss':List Str) l,ss'.Perm ss→PyProof.Rows.sortedS ss'=true→H l=none→Q (.ref l) (upd H l (.lst (ss'.map V.str)))):=by
 intro pins s σ H xs us Q I r h
 obtain ⟨p,ss,rfl,hq,h64,q⟩:=h
 obtain ⟨u,rfl,rx⟩:=vals1 r
 cases rx
 obtain ⟨its,r',pl,hz⟩:=I.list hq
 have hlen:=r'.length
 rw [List.length_map] at hlen
 refine PyProof.Rows.sorted_strs pl.isList (strsAre_of r') (by omega) fun out ss' a1 a2 a3=>?_
 obtain ⟨e,he⟩:=PyProof.Rows.sortedAll_at s.heap its out
 have hl2:(ss'.map V.str).length≤sizeLine:=by
  rw [List.length_map,a2.length_eq]
  rw [List.length_map] at hz
  exact hz
 exact ⟨.ref (s.heap.objs.size + 1),_,I.laid (t':=s.toks) (fun b o eb=>PyProof.Rows.sortedAll_old eb) (Nat.le_succ _) (show Zcv X.prog X.w _ _ _ (.lst (ss'.map V.str)) from ⟨hl2,out.toList,e,vals_strs a1,he⟩),rfl,q ss' _ a2 a3 (I.hok.fresh (Nat.le_succ _))⟩
end
theorem cps_anti:∀ {a b:List Nat},¬ a<b→¬ b<a→a=b
 | [],[],_,_=>rfl
 | [],y :: b,h,_=>absurd (List.Lex.nil:List.Lex (·<·) [] (y :: b)) h
 | x :: a,[],_,h=>absurd (List.Lex.nil:List.Lex (·<·) [] (x :: a)) h
 | x :: a,y :: b,h,k=>by
  rcases Nat.lt_trichotomy x y with z | z | z
  ·exact absurd (List.Lex.rel z:List.Lex (·<·) (x :: a) (y :: b)) h
  ·subst z
   rw [cps_anti (a:=a) (b:=b) (fun z=>h (List.Lex.cons z)) (fun z=>k (List.Lex.cons z))]
  ·exact absurd (List.Lex.rel z:List.Lex (·<·) (y :: b) (x :: a)) k
def leS (a b:Str):Prop:=¬ b.cps.toList<a.cps.toList
theorem leS_trans {a b c:Str}(h:leS a b) (k:leS b c):leS a c:=fun z=>by
 by_cases e:a.cps.toList<b.cps.toList
 ·exact k (List.lt_trans z e)
 ·have:=cps_anti e h
  unfold leS at k
  rw [← this] at k
  exact k z
theorem leS_anti {a b:Str}(h:leS a b) (k:leS b a):a=b:=by
 have:=cps_anti k h
 cases a with
 | mk a=>cases b with
  | mk b =>
   congr 1
   exact Array.toList_inj.mp this
theorem rising_le:∀ {p:Str}{l:List Str},PyProof.Rows.risingS p l=true→(p :: l).Pairwise leS
 | p,[],_=>List.pairwise_cons.mpr ⟨(fun _ h=>nomatch h),List.Pairwise.nil⟩
 | p,x :: r,h=>by
  have h':(!ltCps x.cps.toList p.cps.toList&&PyProof.Rows.risingS x r)=true:=h
  rw [Bool.and_eq_true] at h'
  have ih:=rising_le h'.2
  have px:leS p x:=fun z=>by
   have e:=h'.1
   rw [PyProof.Rows.ltCps_eq,decide_eq_true z] at e
   cases e
  refine List.pairwise_cons.mpr ⟨fun y hy=>?_,ih⟩
  rcases List.mem_cons.mp hy with rfl | hy
  ·exact px
  ·exact leS_trans px ((List.pairwise_cons.mp ih).1 y hy)
theorem sorted_le:∀ {l:List Str},PyProof.Rows.sortedS l=true→l.Pairwise leS
 | [],_=>.nil
 | _ :: _,h=>rising_le h
theorem pw_unique:∀ {a b:List Str},a.Pairwise leS→b.Pairwise leS→a.Perm b→a=b
 | [],b,_,_,p=>(List.Perm.nil_eq p)
 | x :: a,[],_,_,p=>absurd p.length_eq (by simp)
 | x :: a,y :: b,h,k,p=>by
  have e:x=y:=by
   have hx:x∈y :: b:=p.mem_iff.mp (by simp)
   have hy:y∈x :: a:=p.mem_iff.mpr (by simp)
   rcases List.mem_cons.mp hx with e | hx
   ·exact e
   rcases List.mem_cons.mp hy with e | hy
   ·exact e.symm
   exact leS_anti ((List.pairwise_cons.mp h).1 y hy) ((List.pairwise_cons.mp k).1 x hx)
  subst e
  rw [pw_unique (List.pairwise_cons.mp h).2 (List.pairwise_cons.mp k).2 ((List.perm_cons x).mp p)]
theorem sort_unique {a b:List Str}(h:PyProof.Rows.sortedS a=true) (k:PyProof.Rows.sortedS b=true) (p:a.Perm b):a=b:=pw_unique (sorted_le h) (sorted_le k) p
def isS (k:Str) (v:Value):Bool:=match v with
 | .str i _=>i.cps.toList == k.cps.toList
 | _=>false
theorem str_of {ms:List Str}{its:List Value}(r:Zcg (ms.map V.str) its) {m:Nat}{u:Value}(h:its[m]?=some u):∃ i t,ms[m]?=some i∧u=.str i t:=by
 have hl:=r.length
 rw [List.length_map] at hl
 have hm:m<ms.length:=by have:=(List.getElem?_eq_some_iff.mp h).1;omega
 have hx:(ms.map V.str)[m]?=some (V.str ms[m]):=by rw [List.getElem?_map,List.getElem?_eq_getElem hm];rfl
 obtain ⟨u',hu',ru⟩:=r.get hx
 rw [h] at hu'
 cases hu'
 obtain ⟨t,e⟩:=(show ∃ t,u=Value.str ms[m] t from ru)
 exact ⟨ms[m],t,List.getElem?_eq_getElem hm,e⟩
theorem idx_firstS:∀ {ms:List Str}{k:Str}{m:Nat},m<ms.idxOf k→ms[m]?≠some k
 | [],k,m,h=>by simp
 | a :: r,k,m,h=>by
  rw [List.idxOf_cons] at h
  by_cases e:a=k
  ·simp [e] at h
  ·have e':(a == k)=false:=by simpa using e
   rw [e'] at h
   cases m with
   | zero=>simp [e]
   | succ m =>
    rw [List.getElem?_cons_succ]
    exact idx_firstS (by simpa using h)
theorem erase_idxS:∀ (ms:List Str) (k:Str),ms.eraseIdx (ms.idxOf k)=ms.erase k
 | [],k=>by simp
 | a :: r,k=>by
  rw [List.idxOf_cons,List.erase_cons]
  by_cases e:a=k
  ·simp [e]
  ·have e':(a == k)=false:=by simpa using e
   rw [e',if_neg (by decide)]
   simp only [cond_false,List.eraseIdx_cons_succ]
   rw [erase_idxS r k]
theorem str_extX {a b:Str}(h:a.cps.toList=b.cps.toList):a=b:=by
 cases a with
 | mk a=>cases b with
  | mk b =>
   congr 1
   exact Array.toList_inj.mp h
section
variable {X:Cx}
def rRemoveS:V→List V→Hp→VK→Prop:=fun x vs H Q=>∃ (l:Addr) (ms:List Str) (k:Str),x=.ref l∧vs=[.str k]∧H l=some (.lst (ms.map V.str))∧k∈ms∧Q .non (upd H l (.lst ((ms.erase k).map V.str)))
theorem mt_removeS:MtM X "list.remove" rRemoveS:=by
 intro pins s σ H x vs v us Q I rx rv h
 obtain ⟨l,ms,k,rfl,rfl,hH,hk,q⟩:=h
 cases rx
 obtain ⟨u,rfl,ru⟩:=rv.one
 obtain ⟨t,rfl⟩:=ru
 obtain ⟨z,its,n,r,hl,e⟩:=I.lstM hH
 have hl':its.length=ms.length:=by rw [← hl,List.length_map]
 have hj:ms.idxOf k<ms.length:=List.idxOf_lt_length_of_mem hk
 have get:∀ m (hm:m<its.toArray.size),∃ t,its.toArray[m]=.str (ms[m]'(by simp at hm;omega)) t:=fun m hm=>by
  have hm':m<its.length:=by simpa using hm
  obtain ⟨i,t,h1,h2⟩:=str_of r (List.getElem?_eq_getElem hm')
  have e1:ms[m]'(by omega)=i:=Option.some.inj ((List.getElem?_eq_getElem (by omega)).symm.trans h1)
  refine ⟨t,?_⟩
  rw [e1]
  simpa using h2
 refine call_meets PySem.F.slot_list_remove ⟨_,e,rfl⟩ PySem.F.entry_list_remove (PySem.F.args_list_remove_2 _ _)
  (MeetsSeq.list_remove l its.toArray n (.str k t) (isS k) (fun y hy=>?_) (ms.idxOf k) (by simp;omega) ?_ (fun m hm hlt=>?_) (by simp;omega)) ⟨e,?_⟩
 ·obtain ⟨m,hm,e'⟩:=Array.getElem_of_mem hy
  obtain ⟨t',e2⟩:=get m hm
  rw [← e',e2]
  exact SeqRoads2.EqGives.str _ _ _ _
 ·obtain ⟨t',e2⟩:=get (ms.idxOf k) (by simp;omega)
  rw [e2]
  show (ms[ms.idxOf k].cps.toList == k.cps.toList)=true
  rw [List.getElem_idxOf hj]
  simp
 ·obtain ⟨t',e2⟩:=get m hm
  rw [e2]
  have hm':m<ms.length:=by simp at hm;omega
  show (ms[m].cps.toList == k.cps.toList)=false
  have:ms[m]≠k:=fun z=>idx_firstS hlt (by rw [List.getElem?_eq_getElem hm',z])
  rw [beq_eq_false_iff_ne]
  intro z
  exact this (str_extX z)
 ·refine ⟨.non,_,I.lset (its':=its.eraseIdx (ms.idxOf k)) (ys:=(ms.map V.str).eraseIdx (ms.idxOf k)) hH e ?_ (r.eraseIdx _) ?_,rfl,?_⟩
  ·show its.toArray.eraseIdxIfInBounds _=(its.eraseIdx _).toArray
   rw [List.eraseIdxIfInBounds_toArray]
  ·have:=len_erase (ms.map V.str) (ms.idxOf k)
   omega
  ·rw [erase_map,erase_idxS]
   exact q
end
end L2
namespace L2
open PySem PySem.Spec PyProof.Rows
structure ZLt (h:Heap) (z ti to i1 i2 l1 l2:Addr) (k:Nat) (f:Value):Prop where
 z:IsZip h z ti to f
 ti:IsPair h ti (.ref i1) (.ref i2)
 to:∃ a b,IsPair h to a b
 i1:h.IsListIter i1 l1 k
 i2:h.IsListIter i2 l2 k
theorem ZLt.at {h h':Heap}{z ti to i1 i2 l1 l2:Addr}{k:Nat}{f:Value}(x:ZLt h z ti to i1 i2 l1 l2 k f) (e:∀ b∈[z,ti,to,i1,i2],∀ o,h.get? b=some o→h'.get? b=some o):ZLt h' z ti to i1 i2 l1 l2 k f :=
 ⟨e z (by simp) _ x.z,e ti (by simp) _ x.ti,let ⟨a,b,y⟩:=x.to;⟨a,b,e to (by simp) _ y⟩,x.i1.at fun o q=>e i1 (by simp) o q,x.i2.at fun o q=>e i2 (by simp) o q⟩
section
variable {prog:Program} {w:World} {A:Around} {E:Value→Shared→Prop} {s:Shared}
theorem nextZipL_some {z ti to i1 i2 l1 l2:Addr}{k:Nat}{xs ys:Array Value}{x y:Value}{Q:Option Value→Shared→Prop}(D:ZipApart z ti to i1 i2 l1 l2) (st:ZLt s.heap z ti to i1 i2 l1 l2 k .none)
  (t1:s.heap.IsList l1 xs) (t2:s.heap.IsList l2 ys) (hx:xs[k]?=some x) (hy:ys[k]?=some y)
  (q:∀ g,ZLt g z ti to i1 i2 l1 l2 (k + 1) (rawInt s.heap.objs.size)→IsPair g s.heap.objs.size x y→(∀ c o,c≠z→c≠to→c≠i1→c≠i2→s.heap.get? c=some o→g.get? c=some o)→Q (some (.ref s.heap.objs.size)) { s with heap:=g }):
  wpAny (model prog w) A (pyNext (.ref z)) Q E s:=by
 obtain ⟨hz,hti,⟨a,b,hto⟩,h1,h2⟩:=st
 exact wpAny_pyNext_zip_item D hz hti hto h1 h2 t1 t2 hx hy fun g b1 b2 b3 b4 b5 _ b7=>q g ⟨b1,b7 _ _ D.TIz D.TITO D.TIi1 D.TIi2 hti,⟨_,_,b2⟩,b3,b4⟩ b5 b7
theorem nextZipL_none {z ti to i1 i2 l1 l2:Addr}{k:Nat}{xs ys:Array Value}{Q:Option Value→Shared→Prop}(hh:A.handled=none) (D:ZipApart z ti to i1 i2 l1 l2) (st:ZLt s.heap z ti to i1 i2 l1 l2 k .none)
  (t1:s.heap.IsList l1 xs) (t2:s.heap.IsList l2 ys) (hend:xs[k]?=none∨ys[k]?=none)
  (q:∀ g,(∀ c o,c≠z→c≠to→c≠i1→c≠i2→s.heap.get? c=some o→g.get? c=some o)→Q none { s with heap:=g }):wpAny (model prog w) A (pyNext (.ref z)) Q E s:=by
 obtain ⟨hz,hti,⟨a,b,hto⟩,h1,h2⟩:=st
 exact wpAny_pyNext_zip_end hh D hz hti hto h1 h2 t1 t2 hend q
theorem call_zipL {l1 l2:Addr}{xs ys:Array Value}{Q:Value→Shared→Prop} (t1:s.heap.IsList l1 xs) (t2:s.heap.IsList l2 ys)
  (q:∀ g,ZLt g (s.heap.objs.size + 4) (s.heap.objs.size + 2) (s.heap.objs.size + 3) s.heap.objs.size (s.heap.objs.size + 1) l1 l2 0 .none→(∀ c o,s.heap.get? c=some o→g.get? c=some o)→Q (.ref (s.heap.objs.size + 4)) { s with heap:=g }):
  wpAny (model prog w) A (call (.type "zip") [.ref l1,.ref l2]) Q E s :=
 call_zip_2 t1 t2 fun g a1 a2 a3 a4 a5 _ a7=>q g ⟨a1,a2,⟨_,_,a3⟩,a4,a5⟩ a7
end
theorem turn_zipL {P:Program}{w:World}{K:PySem.W.Frag}{elts:List Expr}{x1}{pos:Pos}{xs ys:List V} (a b z ti to i1 i2:Addr) (D:ZipApart z ti to i1 i2 a b):
  Turn P w K (.Tuple elts x1 pos) (Itp (xs.zip ys) fun H=>SqL K H a xs∧SqL K H b ys) [z,ti,to,i1,i2] z (fun i h=>ZLt h z ti to i1 i2 a b i .none) where
 mem:=by simp
 obj:=fun i h st c hc=>by
  have hc':c=z∨c=ti∨c=to∨c=i1∨c=i2:=by simpa using hc
  obtain ⟨x,y,h3⟩:=st.to
  obtain ⟨o1,e1,_,d1⟩:=st.i1
  obtain ⟨o2,e2,_,d2⟩:=st.i2
  rcases hc' with rfl | rfl | rfl | rfl | rfl
  ·exact ⟨_,st.z,fun v q=>by cases q⟩
  ·exact ⟨_,st.ti,fun v q=>by cases q⟩
  ·exact ⟨_,h3,fun v q=>by cases q⟩
  ·exact ⟨_,e1,fun v q=>by rw [d1] at q;cases q⟩
  ·exact ⟨_,e2,fun v q=>by rw [d2] at q;cases q⟩
 keep:=fun i h h' st k=>st.at k
 item:=by
  intro X hP hw hK hc i pins s σ H E I hf st hg
  subst hP hw hK
  obtain ⟨hi,ha,hb⟩:=hg
  obtain ⟨p,hp⟩:∃ p,(xs.zip ys)[i]?=some p:=⟨(xs.zip ys)[i]'hi,List.getElem?_eq_getElem hi⟩
  obtain ⟨hx,hy⟩:=zipV_get hp
  obtain ⟨its,rv,pa',_⟩:=I.list ha
  obtain ⟨jts,rw',pb',_⟩:=I.list hb
  obtain ⟨u,hu,ru⟩:=rv.get hx
  obtain ⟨v,hv,rv'⟩:=rw'.get hy
  refine nextZipL_some D st pa'.isList pb'.isList (by simpa using hu) (by simpa using hv) fun g st' hpr hk=>?_
  refine ⟨_,rfl,?_⟩
  refine wpAny_letOwnedTupleGo_zip (s:={ s with heap:=g }) st'.z fun g' z' sb=>?_
  have zlt:z<s.heap.objs.size:=Heap.lt_size st.z
  have nz:s.heap.objs.size≠z:=Nat.ne_of_gt zlt
  have sb':Heap.ExtBut z g g':=sb.extBut
  have hT:IsPair g' s.heap.objs.size u v:=sb' _ _ nz hpr
  have I1:Inv X pins σ (upd H s.heap.objs.size (.tup [p.1,p.2])) { s with heap:=g' }:=I.turnedNewL (t':=s.toks) (its:=[z,ti,to,i1,i2]) (fun c o hc e=>sb' c o (fun q=>hc (by simp [q])) (hk c o (fun q=>hc (by simp [q])) (fun q=>hc (by simp [q])) (fun q=>hc (by simp [q])) (fun q=>hc (by simp [q])) e)) hf (Nat.le_refl _)
   ⟨sL (by show 2≤100000;decide),[u,v],.cons ru (.cons rv' .nil),⟨_,hT,rfl,_,rfl⟩⟩
  have st2:ZLt g' z ti to i1 i2 a b (i + 1) .none:=by
   obtain ⟨a1,a2,a3⟩:=st'.to
   exact ⟨z',sb' _ _ D.TIz st'.ti,⟨a1,a2,sb' _ _ D.TOz a3⟩,st'.i1.extBut sb' D.i1z,st'.i2.extBut sb' D.i2z⟩
  refine ⟨.ref s.heap.objs.size,_,I1,rfl,⟨s.heap.objs.size,p,hp,I.hok.fresh (Nat.le_refl _),rfl,rfl⟩,st2,fun c hc=>?_⟩
  have lt:∀ c∈[z,ti,to,i1,i2],c<s.heap.objs.size:=fun c hc=>by
   have hc':c=z∨c=ti∨c=to∨c=i1∨c=i2:=by simpa using hc
   obtain ⟨a1,a2,a3⟩:=st.to
   obtain ⟨o1,e1,_⟩:=st.i1
   obtain ⟨o2,e2,_⟩:=st.i2
   rcases hc' with rfl | rfl | rfl | rfl | rfl
   ·exact zlt
   ·exact Heap.lt_size st.ti
   ·exact Heap.lt_size a3
   ·exact Heap.lt_size e1
   ·exact Heap.lt_size e2
  rw [Zac (Nat.ne_of_lt (lt c hc))]
  exact (hf c hc).1
 done:=by
  intro X hP hw hK hc i pins s σ H E I hf st hg
  subst hP hw hK
  obtain ⟨hi,ha,hb⟩:=hg
  obtain ⟨its,rv,pa',_⟩:=I.list ha
  obtain ⟨jts,rw',pb',_⟩:=I.list hb
  have l1:=rv.length
  have l2:=rw'.length
  have hend:its.toArray[i]?=none∨jts.toArray[i]?=none:=by
   rw [List.length_zip] at hi
   rcases Nat.le_total xs.length ys.length with h | h
   ·rw [Nat.min_eq_left h] at hi
    exact .inl (by simp;omega)
   ·rw [Nat.min_eq_right h] at hi
    exact .inr (by simp;omega)
  exact nextZipL_none (I.ok.hd hc) D st pa'.isList pb'.isList hend fun g hk=>⟨rfl,I.turnedL (t':=s.toks) (its:=[z,ti,to,i1,i2]) (fun c o hc e=>hk c o (fun q=>hc (by simp [q])) (fun q=>hc (by simp [q])) (fun q=>hc (by simp [q])) (fun q=>hc (by simp [q])) e) hf⟩
 self:=fun A i s Q E st h=>wpAny_pyIter_zip st.z h
section
variable {X:Cx}
def iZipL (K:PySem.W.Frag) (ta:TA):TI:=fun σ H R=>ta σ H fun vs H1=>∃ (a b:Addr) (xs ys:List V),vs=[.ref a,.ref b]∧SqL K H1 a xs∧SqL K H1 b ys∧R (Itp (xs.zip ys) fun H=>SqL K H a xs∧SqL K H b ys) H1
theorem pi_zipL {elts:List Expr}{x1}{tpos:Pos}{a b:Expr}{ta:TA}{p pos:Pos}(hg:Gl X "zip") (hm:X.mg "zip"=none) (ha:PA X [a,b] ta) (hs:starEach [a,b] X.env=[(false,eval a X.env),(false,eval b X.env)]:=by rfl) (hs2:starEach [b] X.env=[(false,eval b X.env)]:=by rfl):
  PI X (.Tuple elts x1 tpos) (.Call (.Name "zip" p) [a,b] [] pos) (iZipL X.K ta):=by
 intro pins s σ H R I h
 refine Call_ (ld_blt I hg hm boot_zip (PyProof.Rows.callWith_type1 (thn (ha pos pins s σ H _ I h) fun us s1 ⟨vs,H1,I1,r1,q1⟩=>?_) (by rw [hs,hs2]) (by rw [hs2];rfl)))
 obtain ⟨l1,l2,xs,ys,e,t1,t2,q⟩:=q1
 subst e
 cases r1 with
 | cons r rr =>
  cases rr with
  | cons r' rr =>
   cases rr
   obtain rfl:_=Value.ref l1:=r
   obtain rfl:_=Value.ref l2:=r'
   obtain ⟨its,rv,pa,_⟩:=I1.list t1
   obtain ⟨jts,rw',pb,_⟩:=I1.list t2
   have b1:s1.heap.IsList l1 its.toArray:=pa.isList
   have b2:s1.heap.IsList l2 jts.toArray:=pb.isList
   have lt1:l1<s1.heap.objs.size:=let ⟨_,e,_⟩:=b1;Heap.lt_size e
   have lt2:l2<s1.heap.objs.size:=let ⟨_,e,_⟩:=b2;Heap.lt_size e
   refine call_zipL b1 b2 fun g st hk=>wpAny_pyIter_zip (s:={ s1 with heap:=g }) st.z ?_
   have D:ZipApart (s1.heap.objs.size + 4) (s1.heap.objs.size + 2) (s1.heap.objs.size + 3) s1.heap.objs.size (s1.heap.objs.size + 1) l1 l2:=PySem.W.ktu_apart _ _ _ lt1 lt2
   refine ⟨_,[s1.heap.objs.size + 4,s1.heap.objs.size + 2,s1.heap.objs.size + 3,s1.heap.objs.size,s1.heap.objs.size + 1],_,_,H1,rfl,I1.kept (t':=s1.toks) fun b o e=>hk b o e,turn_zipL l1 l2 _ _ _ _ _ D,st,fun c hc=>?_,q⟩
   have hc':c=s1.heap.objs.size + 4∨c=s1.heap.objs.size + 2∨c=s1.heap.objs.size + 3∨c=s1.heap.objs.size∨c=s1.heap.objs.size + 1:=by simpa using hc
   have ge:s1.heap.objs.size≤c:=by
    rcases hc' with rfl | rfl | rfl | rfl | rfl
    ·exact Nat.le_add_right _ _
    ·exact Nat.le_add_right _ _
    ·exact Nat.le_add_right _ _
    ·exact Nat.le_refl _
    ·exact Nat.le_add_right _ _
   exact I1.fpOk ge (I1.hok.fresh ge)
end
end L2
namespace L2
open PySem PySem.Spec PyProof.Rows
theorem intsAre_vals {ns:List Int}{us:List Value}(h:IntsAre us ns):Zcg (ns.map V.int) us:=by
 induction h with
 | nil=>exact .nil
 | cons y t h ih=>exact .cons ⟨t,rfl⟩ ih
section
variable {X:Cx}
theorem call_sortI:CallR X (.builtin "sorted") (fun xs H Q=>∃ p ns,xs=[.ref p]∧SqL X.K H p (ns.map V.int)∧ns.length<64∧∀ (ns':List Int) l,ns'.Perm ns→ns'.Pairwise (·≤·)→H l=none→Q (.ref l) (upd H l (.lst (ns'.map V.int)))):=by
 intro pins s σ H xs us Q I r h
 obtain ⟨p,ns,rfl,hq,h64,q⟩:=h
 obtain ⟨u,rfl,rx⟩:=vals1 r
 cases rx
 obtain ⟨its,r',pl,hz⟩:=I.list hq
 have hlen:=r'.length
 rw [List.length_map] at hlen
 refine sorted_ints pl.isList (intsAre_of r') (by omega) fun out ns' a1 a2 a3=>?_
 obtain ⟨e,he⟩:=sortedAll_at s.heap its out
 have hl2:(ns'.map V.int).length≤sizeLine:=by
  rw [List.length_map,a2.length_eq]
  rw [List.length_map] at hz
  exact hz
 exact ⟨.ref (s.heap.objs.size + 1),_,I.laid (t':=s.toks) (fun b o eb=>sortedAll_old eb) (Nat.le_succ _) (show Zcv X.prog X.w _ _ _ (.lst (ns'.map V.int)) from ⟨hl2,out.toList,e,intsAre_vals a1,he⟩),rfl,q ns' _ a2 a3 (I.hok.fresh (Nat.le_succ _))⟩
end
theorem ints_unique:∀ {a b:List Int},a.Pairwise (·≤·)→b.Pairwise (·≤·)→a.Perm b→a=b
 | [],b,_,_,p=>(List.Perm.nil_eq p)
 | x :: a,[],_,_,p=>absurd p.length_eq (by simp)
 | x :: a,y :: b,h,k,p=>by
  have e:x=y:=by
   have hx:x∈y :: b:=p.mem_iff.mp (by simp)
   have hy:y∈x :: a:=p.mem_iff.mpr (by simp)
   rcases List.mem_cons.mp hx with e | hx
   ·exact e
   rcases List.mem_cons.mp hy with e | hy
   ·exact e.symm
   have:=(List.pairwise_cons.mp h).1 y hy
   have:=(List.pairwise_cons.mp k).1 x hx
   omega
  subst e
  rw [ints_unique (List.pairwise_cons.mp h).2 (List.pairwise_cons.mp k).2 ((List.perm_cons x).mp p)]
section
variable {prog:Program} {w:World} {A:Around} {E:Value→Shared→Prop} {s:Shared}
structure ZMt (h:Heap) (z ti to i1 i2 l1 l2:Addr) (k:Nat) (f:Value):Prop where
 z:IsZip h z ti to f
 ti:IsPair h ti (.ref i1) (.ref i2)
 to:∃ a b,IsPair h to a b
 i1:h.IsTupleIter i1 l1 k
 i2:h.IsListIter i2 l2 k
theorem ZMt.at {h h':Heap}{z ti to i1 i2 l1 l2:Addr}{k:Nat}{f:Value}(x:ZMt h z ti to i1 i2 l1 l2 k f) (e:∀ b∈[z,ti,to,i1,i2],∀ o,h.get? b=some o→h'.get? b=some o):ZMt h' z ti to i1 i2 l1 l2 k f :=
 ⟨e z (by simp) _ x.z,e ti (by simp) _ x.ti,let ⟨a,b,y⟩:=x.to;⟨a,b,e to (by simp) _ y⟩,x.i1.at fun o q=>e i1 (by simp) o q,x.i2.at fun o q=>e i2 (by simp) o q⟩
theorem zipM_some {z ti to i1 i2 l1 l2:Addr}{k:Nat}{xs ys:Array Value}{x y:Value}{Q:Value→Shared→Prop}(D:ZipApart z ti to i1 i2 l1 l2) (st:ZMt s.heap z ti to i1 i2 l1 l2 k .none)
  (t1:s.heap.IsTuple l1 xs) (t2:s.heap.IsList l2 ys) (hx:xs[k]?=some x) (hy:ys[k]?=some y)
  (q:∀ g,ZMt g z ti to i1 i2 l1 l2 (k + 1) (rawInt s.heap.objs.size)→IsPair g s.heap.objs.size x y→(∀ c o,c≠z→c≠to→c≠i1→c≠i2→s.heap.get? c=some o→g.get? c=some o)→Q (.ref s.heap.objs.size) { s with heap:=g }):
  wpAny (model prog w) A (Builtin.«zip.__next__» ⟨[.ref z],[]⟩) (fun fin s'=>∃ v,fin=.done (.ret v)∧Q v s') E s:=by
 obtain ⟨hz,hti,⟨a,b,hto⟩,hi1,hi2⟩:=st
 show wpAny _ _ (field (.ref z) 2>>=_) _ _ _
 refine wpAny_bind (wpAny_field hz rfl (x:=.bool false) rfl ?_)
 show wpAny _ _ (field (.ref z) 3>>=_) _ _ _
 refine wpAny_bind (wpAny_field hz rfl (x:=.ref ti) rfl (wpAny_bind (wpAny_seqItems hti rfl ?_)))
 show wpAny _ _ (Builtin.SmallTypes.ownedTupleIsFree (.ref z)>>=_) _ _ _
 refine wpAny_bind ?_
 unfold Builtin.SmallTypes.ownedTupleIsFree
 refine wpAny_bind (wpAny_field hz rfl (x:=.none) rfl (wpAny_pure ?_))
 simp only [if_true]
 refine wpAny_bind (wpAny_rule (wpAny_bind (wpAny_field hz rfl (x:=.ref to) rfl (wpAny_bind (wpAny_setField_rec hz (by simp) fun g1 z1 e1=>?_)))))
 replace z1:IsZip g1 z ti to .ellipsis:=z1
 refine wpAny_bind ?_
 simp only [List.zipIdx_cons,List.zipIdx_nil,List.forIn_cons,List.forIn_nil]
 refine wpAny_bind (wpAny_bind (wpAny_onRaise ?_))
 show wpAny _ _ (Builtin.SmallTypes.nextOf (.ref i1)>>=_) _ _ _
 refine wpAny_bind (nextTup_some (hi1.extBut e1.extBut D.i1z) (t1.extBut e1.extBut D.l1z) hx fun g2 j1 e2=>wpAny_pure ?_)
 have to2:IsPair g2 to a b:=e2.extBut _ _ D.TOi1 (e1.extBut _ _ D.TOz hto)
 refine wpAny_bind (wpAny_seqItems to2 rfl (wpAny_bind (wpAny_updateSeq_pair to2 fun g3 to3 e3=>?_)))
 replace to3:IsPair g3 to x b:=to3
 refine wpAny_bind (wpAny_letGo (wpAny_pure (wpAny_bind (wpAny_bind (wpAny_onRaise ?_)))))
 show wpAny _ _ (Builtin.SmallTypes.nextOf (.ref i2)>>=_) _ _ _
 refine wpAny_bind (wpAny_nextOf_list_item (((hi2.extBut e1.extBut D.i2z).extBut e2.extBut D.i12.symm).extBut e3.extBut D.TOi2.symm) (((t2.extBut e1.extBut D.l2z).extBut e2.extBut D.l2i1).extBut e3.extBut D.l2TO) hy fun g4 j2 e4=>wpAny_pure ?_)
 have to4:IsPair g4 to x b:=e4.extBut _ _ D.TOi2 to3
 refine wpAny_bind (wpAny_seqItems to4 rfl (wpAny_bind (wpAny_updateSeq_pair to4 fun g5 to5 e5=>?_)))
 replace to5:IsPair g5 to x y:=to5
 refine wpAny_bind (wpAny_letGo (wpAny_pure (wpAny_pure (wpAny_bind (wpAny_seqItems to5 rfl (wpAny_bind (wpAny_newTuple ?_)))))))
 have sz:g5.objs.size=s.heap.objs.size:=by rw [e5.1,e4.1,e3.1,e2.1,e1.1]
 have z5:IsZip g5 z ti to .ellipsis:=e5.extBut _ _ D.TOz.symm (e4.extBut _ _ D.i2z.symm (e3.extBut _ _ D.TOz.symm (e2.extBut _ _ D.i1z.symm z1)))
 have k5:∀ c o,c≠z→c≠to→c≠i1→c≠i2→s.heap.get? c=some o→g5.get? c=some o:=fun c o c1 c2 c3 c4 e=>e5.extBut _ _ c2 (e4.extBut _ _ c4 (e3.extBut _ _ c2 (e2.extBut _ _ c3 (e1.extBut _ _ c1 e))))
 have j15:g5.IsTupleIter i1 l1 (k + 1):=((j1.extBut e3.extBut D.TOi1.symm).extBut e4.extBut D.i12).extBut e5.extBut D.TOi1.symm
 have j25:g5.IsListIter i2 l2 (k + 1):=j2.extBut e5.extBut D.TOi2.symm
 have zlt:z<g5.objs.size:=Heap.lt_size z5
 show wpAny _ _ (Builtin.SmallTypes.ownedTupleHandOut (.ref z) (.ref g5.objs.size)>>=_) _ _ _
 refine wpAny_bind ?_
 unfold Builtin.SmallTypes.ownedTupleHandOut
 have z6:IsZip (g5.push { cls:=.type "tuple",data:=.seq #[x,y] }) z ti to .ellipsis:=Heap.get?_push_of_some _ z5
 refine wpAny_bind (wpAny_setField_rec z6 (by simp) fun g7 z7 e7=>?_)
 replace z7:IsZip g7 z ti to (rawInt g5.objs.size):=z7
 refine wpAny_setField_rec z7 (by simp) fun g8 z8 e8=>?_
 replace z8:IsZip g8 z ti to (rawInt g5.objs.size):=z8
 have up:∀ c o,c≠z→g5.get? c=some o→g8.get? c=some o:=fun c o c1 e=>e8.extBut _ _ c1 (e7.extBut _ _ c1 (Heap.get?_push_of_some _ e))
 have p8:IsPair g8 g5.objs.size x y:=e8.extBut _ _ (Nat.ne_of_gt zlt) (e7.extBut _ _ (Nat.ne_of_gt zlt) (Heap.get?_push_size _ rfl))
 rw [sz] at z8 p8
 refine wpAny_pure ⟨_,rfl,?_⟩
 show Q (.ref g5.objs.size) _
 rw [sz]
 exact q g8 ⟨z8,up _ _ D.TIz (k5 _ _ D.TIz D.TITO D.TIi1 D.TIi2 hti),⟨x,y,up _ _ D.TOz to5⟩,j15.at fun o e=>up _ o D.i1z e,j25.at fun o e=>up _ o D.i2z e⟩ p8 fun c o c1 c2 c3 c4 e=>up c o c1 (k5 c o c1 c2 c3 c4 e)
theorem zipM_none {z ti to i1 i2 l1 l2:Addr}{k:Nat}{xs ys:Array Value}{Q:Fin→Shared→Prop}(hh:A.handled=none) (D:ZipApart z ti to i1 i2 l1 l2) (st:ZMt s.heap z ti to i1 i2 l1 l2 k .none)
  (t1:s.heap.IsTuple l1 xs) (t2:s.heap.IsList l2 ys) (hend:xs[k]?=none∨ys[k]?=none)
  (q:∀ g e,(∀ c o,c≠z→c≠to→c≠i1→c≠i2→s.heap.get? c=some o→g.get? c=some o)→(∃ o,g.get? e=some o∧o.cls=.type "StopIteration")→E (.ref e) { s with heap:=g }):
  wpAny (model prog w) A (Builtin.«zip.__next__» ⟨[.ref z],[]⟩) Q E s:=by
 obtain ⟨hz,hti,⟨a,b,hto⟩,hi1,hi2⟩:=st
 show wpAny _ _ (field (.ref z) 2>>=_) _ _ _
 refine wpAny_bind (wpAny_field hz rfl (x:=.bool false) rfl ?_)
 show wpAny _ _ (field (.ref z) 3>>=_) _ _ _
 refine wpAny_bind (wpAny_field hz rfl (x:=.ref ti) rfl (wpAny_bind (wpAny_seqItems hti rfl ?_)))
 show wpAny _ _ (Builtin.SmallTypes.ownedTupleIsFree (.ref z)>>=_) _ _ _
 refine wpAny_bind ?_
 unfold Builtin.SmallTypes.ownedTupleIsFree
 refine wpAny_bind (wpAny_field hz rfl (x:=.none) rfl (wpAny_pure ?_))
 simp only [if_true]
 refine wpAny_bind (wpAny_rule (wpAny_bind (wpAny_field hz rfl (x:=.ref to) rfl (wpAny_bind (wpAny_setField_rec hz (by simp) fun g1 z1 e1=>?_)))))
 replace z1:IsZip g1 z ti to .ellipsis:=z1
 refine wpAny_bind ?_
 simp only [List.zipIdx_cons,List.zipIdx_nil,List.forIn_cons,List.forIn_nil]
 refine wpAny_bind (wpAny_bind (wpAny_onRaise ?_))
 show wpAny _ _ (Builtin.SmallTypes.nextOf (.ref i1)>>=_) _ _ _
 cases hx:xs[k]? with
 | none =>
  refine wpAny_bind (nextTup_none hh (hi1.extBut e1.extBut D.i1z) (t1.extBut e1.extBut D.l1z) hx fun g2 e e2 he=>?_)
  obtain ⟨oe,ho,hc⟩:=he
  have z2:IsZip g2 z ti to .ellipsis:=e2 _ _ D.i1z.symm z1
  have ez:e≠z:=fun x=>by subst x;rw [z2] at ho;cases ho;simp at hc
  exact wpAny_setField_rec z2 (by simp) fun g3 _ e3=>q g3 e (fun c o c1 _ c3 _ x=>e3.extBut _ _ c1 (e2 _ _ c3 (e1.extBut _ _ c1 x))) ⟨oe,e3.extBut _ _ ez ho,hc⟩
 | some x =>
  have hy:ys[k]?=none:=by rcases hend with h | h;rw [hx] at h;cases h;exact h
  refine wpAny_bind (nextTup_some (hi1.extBut e1.extBut D.i1z) (t1.extBut e1.extBut D.l1z) hx fun g2 j1 e2=>wpAny_pure ?_)
  have to2:IsPair g2 to a b:=e2.extBut _ _ D.TOi1 (e1.extBut _ _ D.TOz hto)
  refine wpAny_bind (wpAny_seqItems to2 rfl (wpAny_bind (wpAny_updateSeq_pair to2 fun g3 to3 e3=>?_)))
  refine wpAny_bind (wpAny_letGo (wpAny_pure (wpAny_bind (wpAny_bind (wpAny_onRaise ?_)))))
  show wpAny _ _ (Builtin.SmallTypes.nextOf (.ref i2)>>=_) _ _ _
  refine wpAny_bind (wpAny_nextOf_list_end hh (((hi2.extBut e1.extBut D.i2z).extBut e2.extBut D.i12.symm).extBut e3.extBut D.TOi2.symm) (((t2.extBut e1.extBut D.l2z).extBut e2.extBut D.l2i1).extBut e3.extBut D.l2TO) hy fun g4 e e4 he=>?_)
  obtain ⟨oe,ho,hc⟩:=he
  have z4:IsZip g4 z ti to .ellipsis:=e4 _ _ D.i2z.symm (e3.extBut _ _ D.TOz.symm (e2.extBut _ _ D.i1z.symm z1))
  have ez:e≠z:=fun x=>by subst x;rw [z4] at ho;cases ho;simp at hc
  exact wpAny_setField_rec z4 (by simp) fun g5 _ e5=>q g5 e (fun c o c1 c2 c3 c4 x=>e5.extBut _ _ c1 (e4 _ _ c4 (e3.extBut _ _ c2 (e2.extBut _ _ c3 (e1.extBut _ _ c1 x))))) ⟨oe,e5.extBut _ _ ez ho,hc⟩
theorem nextZipM_some {z ti to i1 i2 l1 l2:Addr}{k:Nat}{xs ys:Array Value}{x y:Value}{Q:Option Value→Shared→Prop}(D:ZipApart z ti to i1 i2 l1 l2) (st:ZMt s.heap z ti to i1 i2 l1 l2 k .none)
  (t1:s.heap.IsTuple l1 xs) (t2:s.heap.IsList l2 ys) (hx:xs[k]?=some x) (hy:ys[k]?=some y)
  (q:∀ g,ZMt g z ti to i1 i2 l1 l2 (k + 1) (rawInt s.heap.objs.size)→IsPair g s.heap.objs.size x y→(∀ c o,c≠z→c≠to→c≠i1→c≠i2→s.heap.get? c=some o→g.get? c=some o)→Q (some (.ref s.heap.objs.size)) { s with heap:=g }):
  wpAny (model prog w) A (pyNext (.ref z)) Q E s:=by
 have hT:s.TypeIs (.ref z) "zip":=⟨_,st.z,rfl⟩
 unfold pyNext
 exact wpAny_bind (wpAny_attempt (wpAny_callSpecial?_slot (name:=Str.ofString "__next__") hT PySem.F.slot_zip_next (wpAny_call_entry PySem.F.slot_zip_next hT PySem.F.entry_zip_next (zipM_some D st t1 t2 hx hy fun g a1 a2 a3=>wpAny_pure (q g a1 a2 a3)) (PySem.F.args_zip_next_1 _))))
theorem nextZipM_none {z ti to i1 i2 l1 l2:Addr}{k:Nat}{xs ys:Array Value}{Q:Option Value→Shared→Prop}(hh:A.handled=none) (D:ZipApart z ti to i1 i2 l1 l2) (st:ZMt s.heap z ti to i1 i2 l1 l2 k .none)
  (t1:s.heap.IsTuple l1 xs) (t2:s.heap.IsList l2 ys) (hend:xs[k]?=none∨ys[k]?=none)
  (q:∀ g,(∀ c o,c≠z→c≠to→c≠i1→c≠i2→s.heap.get? c=some o→g.get? c=some o)→Q none { s with heap:=g }):wpAny (model prog w) A (pyNext (.ref z)) Q E s:=by
 have hT:s.TypeIs (.ref z) "zip":=⟨_,st.z,rfl⟩
 unfold pyNext
 refine wpAny_bind (wpAny_attempt (wpAny_callSpecial?_slot (name:=Str.ofString "__next__") hT PySem.F.slot_zip_next (wpAny_call_entry PySem.F.slot_zip_next hT PySem.F.entry_zip_next (zipM_none hh D st t1 t2 hend fun g e hk he=>?_) (PySem.F.args_zip_next_1 _))))
 obtain ⟨o,ho,hc⟩:=he
 refine wpAny_bind (wpAny_isInstance (T:="StopIteration") (b:=true) ⟨o,ho,hc⟩ isSubtype_stop ?_)
 exact wpAny_pure (q _ hk)
abbrev zm1 (h:Heap) (l1:Addr):Heap:=h.push { cls:=.type "tuple_iterator",data:=.fields #[.ref l1,.int 0 0] }
abbrev zm2 (h:Heap) (l1 l2:Addr):Heap:=(zm1 h l1).push { cls:=.type "list_iterator",data:=.fields #[.ref l2,.int 0 0] }
abbrev zm3 (h:Heap) (l1 l2:Addr):Heap:=(zm2 h l1 l2).push { cls:=.type "tuple",data:=.seq #[.ref h.objs.size,.ref (zm1 h l1).objs.size] }
abbrev zm4 (h:Heap) (l1 l2:Addr):Heap:=(zm3 h l1 l2).push { cls:=.type "tuple",data:=.seq #[.none,.none] }
abbrev zm5 (h:Heap) (l1 l2:Addr):Heap:=(zm4 h l1 l2).push { cls:=.type "zip",data:=.fields #[.none,.bool false,.bool false,.ref (zm2 h l1 l2).objs.size,.ref (zm3 h l1 l2).objs.size] }
theorem meets_zipM (l1 l2:Addr) (xs ys:Array Value):Meets (Builtin.«zip.__new__» ⟨[.type "zip",.ref l1,.ref l2],[]⟩) (fun _ R s=>s.heap.IsTuple l1 xs∧s.heap.IsList l2 ys ∧
   R (.ok (.ret (.ref (zm4 s.heap l1 l2).objs.size))) { s with heap:=zm5 s.heap l1 l2 }):=
 .of_wp fun prog w A R s h=>by
  obtain ⟨hp,g,d,tk,os⟩:=s
  obtain ⟨t1,t2,h⟩:=h
  have hsub:=sub_zip
  have T1:Heap.IsTuple (Shared.heap ⟨hp,g,d,tk,os⟩) l1 xs:=t1
  have T2:Heap.IsList (Shared.heap ⟨hp.push { cls:=.type "tuple_iterator",data:=.fields #[.ref l1,.int 0 0] },g,d,tk,os⟩) l2 ys:=Heap.IsList.push t2 _
  wp_walk using wpAny_pyIter_tuple T1,wpAny_pyIter_list T2
  exact ⟨_,rfl,h⟩
theorem call_zipM {l1 l2:Addr}{xs ys:Array Value}{Q:Value→Shared→Prop} (t1:s.heap.IsTuple l1 xs) (t2:s.heap.IsList l2 ys)
  (q:∀ g,ZMt g (s.heap.objs.size + 4) (s.heap.objs.size + 2) (s.heap.objs.size + 3) s.heap.objs.size (s.heap.objs.size + 1) l1 l2 0 .none→(∀ c o,s.heap.get? c=some o→g.get? c=some o)→Q (.ref (s.heap.objs.size + 4)) { s with heap:=g }):
  wpAny (model prog w) A (call (.type "zip") [.ref l1,.ref l2]) Q E s:=by
 refine callType_new PySem.F.called_zip (by decide) (PySem.F.typeCall_zip_2 _ _) (PySem.F.newCall_zip_2 _ _) (fun obj=>PySem.F.args_object_init_3 obj _ _) PySem.F.entry_zip_new (meets_zipM l1 l2 xs ys) ⟨t1,t2,?_⟩
 have n1:(zm1 s.heap l1).objs.size=s.heap.objs.size + 1:=Heap.size_push ..
 have n2:(zm2 s.heap l1 l2).objs.size=s.heap.objs.size + 2:=by rw [Heap.size_push,n1]
 have n3:(zm3 s.heap l1 l2).objs.size=s.heap.objs.size + 3:=by rw [Heap.size_push,n2]
 have n4:(zm4 s.heap l1 l2).objs.size=s.heap.objs.size + 4:=by rw [Heap.size_push,n3]
 have up:∀ {h:Heap} {a:Addr} {o:Obj} (x:Obj),h.get? a=some o→(h.push x).get? a=some o:=fun x e=>Heap.get?_push_of_some _ e
 have f5:(zm5 s.heap l1 l2).get? (zm4 s.heap l1 l2).objs.size=some _:=Heap.get?_push_size _ rfl
 have f4:(zm5 s.heap l1 l2).get? (zm3 s.heap l1 l2).objs.size=some _:=up _ (Heap.get?_push_size _ rfl)
 have f3:(zm5 s.heap l1 l2).get? (zm2 s.heap l1 l2).objs.size=some _:=up _ (up _ (Heap.get?_push_size _ rfl))
 have f2:(zm5 s.heap l1 l2).get? (zm1 s.heap l1).objs.size=some _:=up _ (up _ (up _ (Heap.get?_push_size _ rfl)))
 have f1:(zm5 s.heap l1 l2).get? s.heap.objs.size=some _:=up _ (up _ (up _ (up _ (Heap.get?_push_size _ rfl))))
 show _∧_
 rw [n2,n3,n4] at f5
 rw [n1,n2] at f3
 rw [n3] at f4
 rw [n1] at f2
 rw [n4]
 exact ⟨⟨_,f5,rfl⟩,q _ ⟨f5,f3,⟨_,_,f4⟩,⟨_,f1,rfl,rfl⟩,⟨_,f2,rfl,rfl⟩⟩ fun c o x=>up _ (up _ (up _ (up _ (up _ x))))⟩
end
theorem turn_zipM {P:Program}{w:World}{K:PySem.W.Frag}{elts:List Expr}{x1}{pos:Pos}{xs ys:List V} (a b z ti to i1 i2:Addr) (D:ZipApart z ti to i1 i2 a b):
  Turn P w K (.Tuple elts x1 pos) (Itp (xs.zip ys) fun H=>SqT K H a xs∧SqL K H b ys) [z,ti,to,i1,i2] z (fun i h=>ZMt h z ti to i1 i2 a b i .none) where
 mem:=by simp
 obj:=fun i h st c hc=>by
  have hc':c=z∨c=ti∨c=to∨c=i1∨c=i2:=by simpa using hc
  obtain ⟨x,y,h3⟩:=st.to
  obtain ⟨o1,e1,_,d1⟩:=st.i1
  obtain ⟨o2,e2,_,d2⟩:=st.i2
  rcases hc' with rfl | rfl | rfl | rfl | rfl
  ·exact ⟨_,st.z,fun v q=>by cases q⟩
  ·exact ⟨_,st.ti,fun v q=>by cases q⟩
  ·exact ⟨_,h3,fun v q=>by cases q⟩
  ·exact ⟨_,e1,fun v q=>by rw [d1] at q;cases q⟩
  ·exact ⟨_,e2,fun v q=>by rw [d2] at q;cases q⟩
 keep:=fun i h h' st k=>st.at k
 item:=by
  intro X hP hw hK hc i pins s σ H E I hf st hg
  subst hP hw hK
  obtain ⟨hi,ha,hb⟩:=hg
  obtain ⟨p,hp⟩:∃ p,(xs.zip ys)[i]?=some p:=⟨(xs.zip ys)[i]'hi,List.getElem?_eq_getElem hi⟩
  obtain ⟨hx,hy⟩:=zipV_get hp
  obtain ⟨its,rv,pa,_⟩:=I.tuple ha
  obtain ⟨jts,rw',pb,_⟩:=I.list hb
  obtain ⟨u,hu,ru⟩:=rv.get hx
  obtain ⟨v,hv,rv'⟩:=rw'.get hy
  refine nextZipM_some D st (show s.heap.IsTuple a its.toArray from pa) pb.isList (by simpa using hu) (by simpa using hv) fun g st' hpr hk=>?_
  refine ⟨_,rfl,?_⟩
  refine wpAny_letOwnedTupleGo_zip (s:={ s with heap:=g }) st'.z fun g' z' sb=>?_
  have zlt:z<s.heap.objs.size:=Heap.lt_size st.z
  have nz:s.heap.objs.size≠z:=Nat.ne_of_gt zlt
  have sb':Heap.ExtBut z g g':=sb.extBut
  have hT:IsPair g' s.heap.objs.size u v:=sb' _ _ nz hpr
  have I1:Inv X pins σ (upd H s.heap.objs.size (.tup [p.1,p.2])) { s with heap:=g' }:=I.turnedNewL (t':=s.toks) (its:=[z,ti,to,i1,i2]) (fun c o hc e=>sb' c o (fun q=>hc (by simp [q])) (hk c o (fun q=>hc (by simp [q])) (fun q=>hc (by simp [q])) (fun q=>hc (by simp [q])) (fun q=>hc (by simp [q])) e)) hf (Nat.le_refl _)
   ⟨sL (by show 2≤100000;decide),[u,v],.cons ru (.cons rv' .nil),⟨_,hT,rfl,_,rfl⟩⟩
  have st2:ZMt g' z ti to i1 i2 a b (i + 1) .none:=by
   obtain ⟨a1,a2,a3⟩:=st'.to
   exact ⟨z',sb' _ _ D.TIz st'.ti,⟨a1,a2,sb' _ _ D.TOz a3⟩,st'.i1.extBut sb' D.i1z,st'.i2.extBut sb' D.i2z⟩
  refine ⟨.ref s.heap.objs.size,_,I1,rfl,⟨s.heap.objs.size,p,hp,I.hok.fresh (Nat.le_refl _),rfl,rfl⟩,st2,fun c hc=>?_⟩
  have lt:∀ c∈[z,ti,to,i1,i2],c<s.heap.objs.size:=fun c hc=>by
   have hc':c=z∨c=ti∨c=to∨c=i1∨c=i2:=by simpa using hc
   obtain ⟨a1,a2,a3⟩:=st.to
   obtain ⟨o1,e1,_⟩:=st.i1
   obtain ⟨o2,e2,_⟩:=st.i2
   rcases hc' with rfl | rfl | rfl | rfl | rfl
   ·exact zlt
   ·exact Heap.lt_size st.ti
   ·exact Heap.lt_size a3
   ·exact Heap.lt_size e1
   ·exact Heap.lt_size e2
  rw [Zac (Nat.ne_of_lt (lt c hc))]
  exact (hf c hc).1
 done:=by
  intro X hP hw hK hc i pins s σ H E I hf st hg
  subst hP hw hK
  obtain ⟨hi,ha,hb⟩:=hg
  obtain ⟨its,rv,pa,_⟩:=I.tuple ha
  obtain ⟨jts,rw',pb,_⟩:=I.list hb
  have l1:=rv.length
  have l2:=rw'.length
  have hend:its.toArray[i]?=none∨jts.toArray[i]?=none:=by
   rw [List.length_zip] at hi
   rcases Nat.le_total xs.length ys.length with h | h
   ·rw [Nat.min_eq_left h] at hi
    exact .inl (by simp;omega)
   ·rw [Nat.min_eq_right h] at hi
    exact .inr (by simp;omega)
  exact nextZipM_none (I.ok.hd hc) D st (show s.heap.IsTuple a its.toArray from pa) pb.isList hend fun g hk=>⟨rfl,I.turnedL (t':=s.toks) (its:=[z,ti,to,i1,i2]) (fun c o hc e=>hk c o (fun q=>hc (by simp [q])) (fun q=>hc (by simp [q])) (fun q=>hc (by simp [q])) (fun q=>hc (by simp [q])) e) hf⟩
 self:=fun A i s Q E st h=>wpAny_pyIter_zip st.z h
section
variable {X:Cx}
def iZipM (K:PySem.W.Frag) (ta:TA):TI:=fun σ H R=>ta σ H fun vs H1=>∃ (a b:Addr) (xs ys:List V),vs=[.ref a,.ref b]∧SqT K H1 a xs∧SqL K H1 b ys∧R (Itp (xs.zip ys) fun H=>SqT K H a xs∧SqL K H b ys) H1
theorem pi_zipM {elts:List Expr}{x1}{tpos:Pos}{a b:Expr}{ta:TA}{p pos:Pos}(hg:Gl X "zip") (hm:X.mg "zip"=none) (ha:PA X [a,b] ta) (hs:starEach [a,b] X.env=[(false,eval a X.env),(false,eval b X.env)]:=by rfl) (hs2:starEach [b] X.env=[(false,eval b X.env)]:=by rfl):
  PI X (.Tuple elts x1 tpos) (.Call (.Name "zip" p) [a,b] [] pos) (iZipM X.K ta):=by
 intro pins s σ H R I h
 refine Call_ (ld_blt I hg hm boot_zip (PyProof.Rows.callWith_type1 (thn (ha pos pins s σ H _ I h) fun us s1 ⟨vs,H1,I1,r1,q1⟩=>?_) (by rw [hs,hs2]) (by rw [hs2];rfl)))
 obtain ⟨l1,l2,xs,ys,e,t1,t2,q⟩:=q1
 subst e
 cases r1 with
 | cons r rr =>
  cases rr with
  | cons r' rr =>
   cases rr
   obtain rfl:_=Value.ref l1:=r
   obtain rfl:_=Value.ref l2:=r'
   obtain ⟨its,rv,pa,_⟩:=I1.tuple t1
   obtain ⟨jts,rw',pb,_⟩:=I1.list t2
   have b1:s1.heap.IsTuple l1 its.toArray:=pa
   have b2:s1.heap.IsList l2 jts.toArray:=pb.isList
   have lt1:l1<s1.heap.objs.size:=let ⟨_,e,_⟩:=b1;Heap.lt_size e
   have lt2:l2<s1.heap.objs.size:=let ⟨_,e,_⟩:=b2;Heap.lt_size e
   refine call_zipM b1 b2 fun g st hk=>wpAny_pyIter_zip (s:={ s1 with heap:=g }) st.z ?_
   have D:ZipApart (s1.heap.objs.size + 4) (s1.heap.objs.size + 2) (s1.heap.objs.size + 3) s1.heap.objs.size (s1.heap.objs.size + 1) l1 l2:=PySem.W.ktu_apart _ _ _ lt1 lt2
   refine ⟨_,[s1.heap.objs.size + 4,s1.heap.objs.size + 2,s1.heap.objs.size + 3,s1.heap.objs.size,s1.heap.objs.size + 1],_,_,H1,rfl,I1.kept (t':=s1.toks) fun b o e=>hk b o e,turn_zipM l1 l2 _ _ _ _ _ D,st,fun c hc=>?_,q⟩
   have hc':c=s1.heap.objs.size + 4∨c=s1.heap.objs.size + 2∨c=s1.heap.objs.size + 3∨c=s1.heap.objs.size∨c=s1.heap.objs.size + 1:=by simpa using hc
   have ge:s1.heap.objs.size≤c:=by
    rcases hc' with rfl | rfl | rfl | rfl | rfl
    ·exact Nat.le_add_right _ _
    ·exact Nat.le_add_right _ _
    ·exact Nat.le_add_right _ _
    ·exact Nat.le_refl _
    ·exact Nat.le_add_right _ _
   exact I1.fpOk ge (I1.hok.fresh ge)
end
end L2
namespace K23
open PySem L2
def top (i:Nat):Stmt:=PySem.Challenge.pw_manydeeds_k23_lineups_known.main.body.getD i (.Pass ⟨0,0,0,0⟩)
abbrev Zcu:Stmt:=top 21
abbrev Zb9:Stmt:=top 22
abbrev Zbk:Stmt:=inClass (top 23) 0
abbrev Zcd:Stmt:=inClass (top 23) 1
abbrev Zby:Stmt:=inClass (top 23) 2
abbrev Zbt:Stmt:=top 25
abbrev Zdk:Stmt:=top 27
abbrev Zau:Stmt:=top 28
abbrev Zb0:Stmt:=top 30
abbrev Zda:Stmt:=top 36
abbrev Zco:Stmt:=top 37
abbrev Zc1:Stmt:=top 38
abbrev Zbd:Stmt:=top 39
abbrev Zdb:Stmt:=top 40
abbrev Zc0:Stmt:=top 41
abbrev Zc2:Stmt:=top 42
abbrev Zbj:Stmt:=inClass (top 43) 0
abbrev Zc3:Stmt:=inClass (top 43) 1
abbrev Zbo:Stmt:=inClass (top 43) 2
abbrev Zcc:Stmt:=inClass (top 43) 6
abbrev Zbf:Stmt:=inClass (top 43) 7
abbrev Zbp:Stmt:=inClass (top 43) 8
abbrev Zc6:Stmt:=top 45
abbrev Zas:Stmt:=top 46
abbrev Za6:Stmt:=top 47
abbrev Zav:Stmt:=top 48
abbrev Zcp:Stmt:=top 49
abbrev Zb7:Stmt:=top 50
abbrev Zch:Stmt:=top 51
abbrev Zcb:Stmt:=top 52
abbrev Zbx:Stmt:=top 53
abbrev Zcq:Stmt:=top 54
abbrev Zbb:Stmt:=top 55
abbrev Zbe:Stmt:=top 56
abbrev Zax:Stmt:=top 57
abbrev Zca:Stmt:=top 58
abbrev Zbv:Stmt:=top 59
abbrev Zbm:Stmt:=top 60
abbrev Zbn:Stmt:=top 61
abbrev Za1:Stmt:=top 62
abbrev Zb1:Stmt:=top 63
abbrev Zbw:Stmt:=top 64
abbrev Zbl:Stmt:=top 65
abbrev Zbu:Stmt:=top 66
abbrev s_law:Stmt:=top 67
end K23
namespace K23
open PySem L2 Md
structure ErrD (K:PySem.W.Frag) (mg:Str→Option Value) (D:Addr):Prop where
 m:mg "DeedError"=some (.ref D)
 ex:ExC K D
 cl:PySem.W.isClsIn K D=true
 ty:PySem.W.typeIn K (.ref D)=some (.type "type")
structure Fifteen (K:PySem.W.Frag) (mg:Str→Option Value) (Ds:Nat→Addr):Prop where
 m0:mg "NoKind"=some (.ref (Ds 0))
 m1:mg "Twice"=some (.ref (Ds 1))
 m2:mg "NoName"=some (.ref (Ds 2))
 m3:mg "Ring"=some (.ref (Ds 3))
 m4:mg "NoDeed"=some (.ref (Ds 4))
 m5:mg "Same"=some (.ref (Ds 5))
 m6:mg "NoText"=some (.ref (Ds 6))
 m7:mg "TooMany"=some (.ref (Ds 7))
 m8:mg "NoBoard"=some (.ref (Ds 8))
 m9:mg "NoCall"=some (.ref (Ds 9))
 m10:mg "NoLine"=some (.ref (Ds 10))
 m11:mg "NoPlace"=some (.ref (Ds 11))
 m12:mg "NoWeights"=some (.ref (Ds 12))
 m13:mg "NoTerm"=some (.ref (Ds 13))
 m14:mg "NoRow"=some (.ref (Ds 14))
 cl:∀ k,k<15→PySem.W.isClsIn K (Ds k)=true
 ty:∀ k,k<15→PySem.W.typeIn K (.ref (Ds k))=some (.type "type")
structure OneOf (K:PySem.W.Frag) (D:Addr) (Ds:Nat→Addr) (i:Nat):Prop where
 ex:ExA K (Ds i)
 sub:PySem.W.subIn K (.ref (Ds i)) (.ref D)=some true
 one:∀ k,k<15→PySem.W.subIn K (.ref (Ds i)) (.ref (Ds k))=some (decide (k=i))
theorem all15 {P:Nat→Prop} (h0:P 0) (h1:P 1) (h2:P 2) (h3:P 3) (h4:P 4) (h5:P 5) (h6:P 6) (h7:P 7) (h8:P 8) (h9:P 9) (h10:P 10) (h11:P 11) (h12:P 12) (h13:P 13) (h14:P 14):∀ k,k<15→P k:=fun k h=>by
 rcases k with _ | _ | _ | _ | _ | _ | _ | _ | _ | _ | _ | _ | _ | _ | _ | k
 ·exact h0
 ·exact h1
 ·exact h2
 ·exact h3
 ·exact h4
 ·exact h5
 ·exact h6
 ·exact h7
 ·exact h8
 ·exact h9
 ·exact h10
 ·exact h11
 ·exact h12
 ·exact h13
 ·exact h14
 ·omega
def fif (a0 a1 a2 a3 a4 a5 a6 a7 a8 a9 a10 a11 a12 a13 a14:Addr):Nat→Addr
 | 0=>a0 | 1=>a1 | 2=>a2 | 3=>a3 | 4=>a4 | 5=>a5 | 6=>a6 | 7=>a7 | 8=>a8 | 9=>a9 | 10=>a10 | 11=>a11 | 12=>a12 | 13=>a13 | _=>a14
abbrev flags (i:Nat):List Bool:=(List.range 15).map fun k=>decide (k=i)
theorem flags_one:∀ i,i<15→(flags i).countP (· == true)=1:=by decide +kernel
theorem flags_at {i p:Nat}(hp:p<15):((flags i).map V.bl)[p]?=some (.bl (decide (p=i))):=by
 rw [List.getElem?_map,List.getElem?_map,List.getElem?_range hp]
 rfl
def spAlone (K:PySem.W.Frag) (D:Addr) (Ds:Nat→Addr):Sp:=fun vs H Q _=>∃ (e:Addr) (i p:Nat) (dx:Option Addr),vs=[.ref e,.int p]∧H e=some (XO e (Ds i) dx)∧XDict H dx∧OneOf K D Ds i∧i<15∧p<15∧∀ H',Zan H H'→Q (.bl (decide (p=i))) H'
section
variable {P:Program} {w:World} {K:PySem.W.Frag} {mg:Str→Option Value} {base:Heap}
abbrev nAl:List Str:=["e","place","some"]
theorem scAl:Zap nAl ["e","place"] (Zab Zcq):=⟨rfl,rfl,rfl,by decide +kernel,rfl,by decide +kernel,by decide +kernel⟩
theorem ok_alone {f D:Addr}{Ds:Nat→Addr}{fd:FuncData}(F:Def K mg "_law_alone" Zcq ["e","place"] f fd) (TD:ErrD K mg D) (TF:Fifteen K mg Ds) (isi:mg "isinstance"=none) (vr:mg "ValueError"=none):Za0 P w K mg base CX0 1 f fd ["e","place"] (spAlone K D Ds):=by
 refine F.fn.ok scAl (fun vs H Q E h=>?_) (fun cdv A outer s H vs Q E hr h=>?_)
 ·obtain ⟨e,i,p,dx,rfl,_⟩:=h
  rfl
 ·obtain ⟨e,i,p,dx,rfl,hx,hd,O,i15,p15,q⟩:=h
  have nd:=scAl.nd
  have one:∀ k,k<15→PySem.W.kitOne K (.ref (Ds i)) (.ref (Ds k))=some (decide (k=i)):=fun k hk=>kit_cls1 (TF.cl k hk) (TF.ty k hk) O.ex.toExC (O.one k hk)
  refine' ⟨_,pS (Zah (i:=2) nd rfl (Or.inl rfl) (Zcx (pC ?a0 (pC ?a1 (pC ?a2 (pC ?a3 (pC ?a4 (pC ?a5 (pC ?a6 (pC ?a7 (pC ?a8 (pC ?a9 (pC ?a10 (pC ?a11 (pC ?a12 (pC ?a13 (pC ?a14 Zaa)))))))))))))))))
   (pS (Za5 (PW.pt (pw_or (Zd9 (pt_val ?b1)) (pw_or1 (Zd9 (pt_val ?b2))))) (Zad (Zar pe_bl)) Zai) (Zad (Zar (pe_and ?c1 (pe_one ?c2))))),?_⟩
  case a0=>exact Zag Zbh (by rfl) isi PyProof.Rows.boot_isinstance (pC (pv 0) (pC (Zb4 (v:=.ref (Ds 0)) (by rfl) TF.m0 rfl) Zaa))
  case a1=>exact Zag Zbh (by rfl) isi PyProof.Rows.boot_isinstance (pC (pv 0) (pC (Zb4 (v:=.ref (Ds 1)) (by rfl) TF.m1 rfl) Zaa))
  case a2=>exact Zag Zbh (by rfl) isi PyProof.Rows.boot_isinstance (pC (pv 0) (pC (Zb4 (v:=.ref (Ds 2)) (by rfl) TF.m2 rfl) Zaa))
  case a3=>exact Zag Zbh (by rfl) isi PyProof.Rows.boot_isinstance (pC (pv 0) (pC (Zb4 (v:=.ref (Ds 3)) (by rfl) TF.m3 rfl) Zaa))
  case a4=>exact Zag Zbh (by rfl) isi PyProof.Rows.boot_isinstance (pC (pv 0) (pC (Zb4 (v:=.ref (Ds 4)) (by rfl) TF.m4 rfl) Zaa))
  case a5=>exact Zag Zbh (by rfl) isi PyProof.Rows.boot_isinstance (pC (pv 0) (pC (Zb4 (v:=.ref (Ds 5)) (by rfl) TF.m5 rfl) Zaa))
  case a6=>exact Zag Zbh (by rfl) isi PyProof.Rows.boot_isinstance (pC (pv 0) (pC (Zb4 (v:=.ref (Ds 6)) (by rfl) TF.m6 rfl) Zaa))
  case a7=>exact Zag Zbh (by rfl) isi PyProof.Rows.boot_isinstance (pC (pv 0) (pC (Zb4 (v:=.ref (Ds 7)) (by rfl) TF.m7 rfl) Zaa))
  case a8=>exact Zag Zbh (by rfl) isi PyProof.Rows.boot_isinstance (pC (pv 0) (pC (Zb4 (v:=.ref (Ds 8)) (by rfl) TF.m8 rfl) Zaa))
  case a9=>exact Zag Zbh (by rfl) isi PyProof.Rows.boot_isinstance (pC (pv 0) (pC (Zb4 (v:=.ref (Ds 9)) (by rfl) TF.m9 rfl) Zaa))
  case a10=>exact Zag Zbh (by rfl) isi PyProof.Rows.boot_isinstance (pC (pv 0) (pC (Zb4 (v:=.ref (Ds 10)) (by rfl) TF.m10 rfl) Zaa))
  case a11=>exact Zag Zbh (by rfl) isi PyProof.Rows.boot_isinstance (pC (pv 0) (pC (Zb4 (v:=.ref (Ds 11)) (by rfl) TF.m11 rfl) Zaa))
  case a12=>exact Zag Zbh (by rfl) isi PyProof.Rows.boot_isinstance (pC (pv 0) (pC (Zb4 (v:=.ref (Ds 12)) (by rfl) TF.m12 rfl) Zaa))
  case a13=>exact Zag Zbh (by rfl) isi PyProof.Rows.boot_isinstance (pC (pv 0) (pC (Zb4 (v:=.ref (Ds 13)) (by rfl) TF.m13 rfl) Zaa))
  case a14=>exact Zag Zbh (by rfl) isi PyProof.Rows.boot_isinstance (pC (pv 0) (pC (Zb4 (v:=.ref (Ds 14)) (by rfl) TF.m14 rfl) Zaa))
  case b1=>exact Zag Zbh (by rfl) isi PyProof.Rows.boot_isinstance (pC (pv 0) (pC (Zb4 (v:=.ref D) (by rfl) TD.m rfl) Zaa))
  case b2=>exact Zag Zbh (by rfl) isi PyProof.Rows.boot_isinstance (pC (pv 0) (pC (pe_bltn (v:=.ty "ValueError") (by rfl) vr (by decide +kernel) rfl) Zaa))
  case c1=>exact Zes Zc7 (pe_bm PySem.F.plainAttrs_list PySem.F.slot_list_count PySem.F.type_list_count mt_countB (pv 2) (pC pe_bl Zaa)) Zae (Zaq _)
  case c2=>exact Zbc Zaw (pv 2) (pv 1) (fun _ _=>rfl)
  refine ⟨_,rfl,e,Ds i,dx,_,_,_,rfl,rfl,fun u z=>z,hx,hd,O.ex,one 0 (by decide),?_⟩
  refine ⟨_,rfl,e,Ds i,dx,_,_,_,rfl,rfl,fun u z=>z,hx,hd,O.ex,one 1 (by decide),?_⟩
  refine ⟨_,rfl,e,Ds i,dx,_,_,_,rfl,rfl,fun u z=>z,hx,hd,O.ex,one 2 (by decide),?_⟩
  refine ⟨_,rfl,e,Ds i,dx,_,_,_,rfl,rfl,fun u z=>z,hx,hd,O.ex,one 3 (by decide),?_⟩
  refine ⟨_,rfl,e,Ds i,dx,_,_,_,rfl,rfl,fun u z=>z,hx,hd,O.ex,one 4 (by decide),?_⟩
  refine ⟨_,rfl,e,Ds i,dx,_,_,_,rfl,rfl,fun u z=>z,hx,hd,O.ex,one 5 (by decide),?_⟩
  refine ⟨_,rfl,e,Ds i,dx,_,_,_,rfl,rfl,fun u z=>z,hx,hd,O.ex,one 6 (by decide),?_⟩
  refine ⟨_,rfl,e,Ds i,dx,_,_,_,rfl,rfl,fun u z=>z,hx,hd,O.ex,one 7 (by decide),?_⟩
  refine ⟨_,rfl,e,Ds i,dx,_,_,_,rfl,rfl,fun u z=>z,hx,hd,O.ex,one 8 (by decide),?_⟩
  refine ⟨_,rfl,e,Ds i,dx,_,_,_,rfl,rfl,fun u z=>z,hx,hd,O.ex,one 9 (by decide),?_⟩
  refine ⟨_,rfl,e,Ds i,dx,_,_,_,rfl,rfl,fun u z=>z,hx,hd,O.ex,one 10 (by decide),?_⟩
  refine ⟨_,rfl,e,Ds i,dx,_,_,_,rfl,rfl,fun u z=>z,hx,hd,O.ex,one 11 (by decide),?_⟩
  refine ⟨_,rfl,e,Ds i,dx,_,_,_,rfl,rfl,fun u z=>z,hx,hd,O.ex,one 12 (by decide),?_⟩
  refine ⟨_,rfl,e,Ds i,dx,_,_,_,rfl,rfl,fun u z=>z,hx,hd,O.ex,one 13 (by decide),?_⟩
  refine ⟨_,rfl,e,Ds i,dx,_,_,_,rfl,rfl,fun u z=>z,hx,hd,O.ex,one 14 (by decide),?_⟩
  refine ⟨sL (by show 15≤100000;decide),fun l hl=>?_⟩
  have s1:Zan H (upd H l (.lst ((flags i).map V.bl))):=snew hl
  have hx1:=s1 _ _ hx
  have hd1:=Zan.xdict hd s1
  refine ⟨_,rfl,e,Ds i,dx,_,_,_,rfl,rfl,fun u z=>z,hx1,hd1,O.ex,kit_cls1 TD.cl TD.ty O.ex.toExC O.sub,_,rfl,?_⟩
  refine iteF ⟨_,rfl,e,Ds i,dx,_,_,_,rfl,rfl,fun u z=>z,hx1,hd1,O.ex,kit_value O.ex.toExC,_,rfl,iteF ?_⟩
  refine ⟨_,rfl,.inl ⟨rfl,_,SqL.of uS⟩,l,flags i,true,rfl,rfl,uS,rfl,_,rfl,?_⟩
  rw [flags_one i i15]
  exact iteT ⟨_,rfl,_,rfl,l,_,p,.bl (decide (p=i)),rfl,rfl,SqL.of uS,Zdh (flags_at p15),q _ s1⟩
end
end K23
namespace K23
open PySem L2 Md
def spPot (K:PySem.W.Frag):Sp:=fun vs H Q _=>∃ (a:Addr) (k:Int) (ns:List Int),vs=[.ref a,.int k]∧SqL K H a (ns.map V.int)∧ns.length≤100∧0≤k∧k≤1000∧∀ p o,H p=none→PotO o→Q (.ref p) (upd H p o)
def Zef:Sp:=fun vs H Q _=>∃ (p:Addr) (m:Int) (o:HO),vs=[.ref p,.int m]∧H p=some o∧PotO o∧0<m∧m<4611686018427387904∧∀ (v:Int) o',0≤v→v<m→PotO o'→Q (.int v) (upd H p o')
def spLetters:Sp:=fun vs H Q _=>∃ n:Nat,vs=[.int n]∧n<26 ^ 8∧Q (.str (Zct n)) H
section
variable {P:Program} {w:World} {K:PySem.W.Frag} {mg:Str→Option Value} {base:Heap}
theorem scPot:Zap ["script","k","cell","rest"] ["script","k"] (Zab Zc6):=⟨rfl,rfl,rfl,by decide +kernel,rfl,by decide +kernel,by decide +kernel⟩
theorem big_eq:(10:Int) ^ (64:Int).toNat * 10 ^ (64:Int).toNat * 10 ^ (64:Int).toNat * 10 ^ (64:Int).toNat=10 ^ 256:=by decide +kernel
theorem ok_pot {f:Addr}{fd:FuncData}(F:Def K mg "_law_pot" Zc6 ["script","k"] f fd) (len:mg "len"=none):Za0 P w K mg base CX0 1 f fd ["script","k"] (spPot K):=by
 refine F.fn.ok scPot (fun vs H Q E h=>?_) (fun cdv A outer s H vs Q E hr h=>?_)
 ·obtain ⟨a,k,ns,rfl,_⟩:=h
  rfl
 ·obtain ⟨a,k,ns,rfl,hS,hl,hk0,hk1,q⟩:=h
  refine ⟨_,pS (Zah (i:=2) scPot.nd rfl (Or.inl rfl) Zae)
   (Zbq (Za5 (Zal op_lt (pv 1) (Zag Zdo (by rfl) len PySem.boot_len (pC (pv 0) Zaa)) (Zaq _))
    (Zad (Zah (i:=2) scPot.nd rfl (Or.inl rfl) (Za8 op_mod (Zbc Zaw (pv 0) (pv 1) (fun _ _=>rfl))
     (Za8 op_mulB (Za8 op_mulB (Za8 op_mulB (Za8 op_pow Zae Zae) (Za8 op_pow Zae Zae)) (Za8 op_pow Zae Zae)) (Za8 op_pow Zae Zae))))) Zai)
   (pS (Zah (i:=3) scPot.nd rfl (Or.inl rfl) Zae)
   (Zbq (Za5 (Zal op_ge (pv 2) (Za8 op_pow Zae Zae) (Zaq _)) (Zad (Zah (i:=3) scPot.nd rfl (Or.inl rfl) (pv 2))) Zai)
   (Zad (Zar (Zcx (pC (pv 3) (pC (Za8 op_mod (Za8 op_mul (Za8 Zei (Za8 Zei (Za8 op_mod (pv 2) Zae) (Za8 op_mul Zae (pv 1))) Zae) Zae) Zae) Zaa)))))))),?_⟩
  refine ⟨fun σ' H'=>H'=H∧∃ c:Int,0≤c∧c<10 ^ 256∧σ'=[some (.ref a),some (.int k),some (.int c),none],?_,?_⟩
  ·refine ⟨_,rfl,_,rfl,_,_,rfl,.inl ⟨_,hS,rfl⟩,_,_,rfl,rfl,_,rfl,?_⟩
   refine Zdy (fun h1=>?_) (fun h1=>?_)
   ·have h1:k<((ns.map V.int).length:Int):=of_decide_eq_true h1
    rw [List.length_map] at h1
    have hi:k.toNat<ns.length:=by omega
    have hat:atI (ns.map V.int) k=some (V.int ns[k.toNat]):=by
     have e:(ns.map V.int)[k.toNat]?=some (V.int ns[k.toNat]):=by rw [List.getElem?_map,List.getElem?_eq_getElem hi];rfl
     have:=Zdh e
     rwa [Int.toNat_of_nonneg hk0] at this
    refine ⟨_,rfl,_,rfl,_,_,_,_,rfl,rfl,hS,hat,_,_,rfl,rfl,⟨by decide,by decide,by decide +kernel⟩,_,_,rfl,rfl,⟨by decide,by decide,by decide +kernel⟩,_,_,rfl,rfl,⟨by decide +kernel,by decide +kernel⟩,
     _,_,rfl,rfl,⟨by decide,by decide,by decide +kernel⟩,_,_,rfl,rfl,⟨by decide +kernel,by decide +kernel⟩,_,_,rfl,rfl,⟨by decide,by decide,by decide +kernel⟩,_,_,rfl,rfl,⟨by decide +kernel,by decide +kernel⟩,_,_,rfl,rfl,?_,rfl,_,?_,?_,rfl⟩
    ·show (0:Int)<_
     rw [big_eq];decide +kernel
    ·rw [big_eq];exact Int.emod_nonneg _ (by decide +kernel)
    ·rw [big_eq];exact Int.emod_lt_of_pos _ (by decide +kernel)
   ·exact ⟨rfl,0,by decide,by decide +kernel,rfl⟩
  ·rintro σ' H' ⟨rfl,c,hc0,hc1,rfl⟩
   refine ⟨fun σ2 H2=>H2=H'∧∃ r:Int,0≤r∧r<10 ^ 256∧σ2=[some (.ref a),some (.int k),some (.int c),some (.int r)],?_,?_⟩
   ·refine ⟨_,rfl,_,_,rfl,rfl,⟨by decide,by decide,by decide +kernel⟩,_,_,rfl,rfl,_,rfl,?_⟩
    refine Zdy (fun h1=>?_) (fun h1=>?_)
    ·exact ⟨_,rfl,rfl,c,hc0,hc1,rfl⟩
    ·exact ⟨rfl,0,by decide,by decide +kernel,rfl⟩
   ·rintro σ2 H2 ⟨rfl,r,hr0,hr1,rfl⟩
    have m0:=Int.emod_nonneg c (b:=2147483629) (by decide)
    have m1:=Int.emod_lt_of_pos c (b:=2147483629) (by decide)
    refine ⟨_,rfl,_,rfl,_,_,rfl,rfl,(by show (0:Int)<2147483629;decide),_,rfl,_,_,rfl,rfl,.inl ⟨by decide,by decide⟩,_,_,rfl,rfl,_,_,rfl,rfl,_,_,rfl,rfl,.inr ⟨by decide,by decide⟩,_,_,rfl,rfl,(by show (0:Int)<2147483647;decide),sL (by show 2≤100000;decide),fun p hp=>?_⟩
    refine q p _ hp ⟨r,_,rfl,hr0,hr1,Int.emod_nonneg _ (by decide),Int.emod_lt_of_pos _ (by decide)⟩
theorem scTake:Zap ["pot","many","found"] ["pot","many"] (Zab Zas):=⟨rfl,rfl,rfl,by decide +kernel,rfl,by decide +kernel,by decide +kernel⟩
theorem ok_take {f:Addr}{fd:FuncData}(F:Def K mg "_law_take" Zas ["pot","many"] f fd):Za0 P w K mg base CX0 1 f fd ["pot","many"] Zef:=by
 refine F.fn.ok scTake (fun vs H Q E h=>?_) (fun cdv A outer s H vs Q E hr h=>?_)
 ·obtain ⟨p,m,o,rfl,_⟩:=h
  rfl
 ·obtain ⟨p,m,o,rfl,hp,⟨r,b,rfl,hr0,hr1,hb0,hb1⟩,hm0,hm1,q⟩:=h
  refine ⟨_,pS (Za5 (Zal op_gt (Zbc Zaw (pv 0) Zae (fun _ _=>rfl)) Zae (Zaq _))
    (pS (Zah (i:=2) scTake.nd rfl (Or.inl rfl) (Za8 op_mod (Zbc Zaw (pv 0) Zae (fun _ _=>rfl)) (pv 1)))
    (pS (ps_asg (Za8 op_fdivB (Zbc Zaw (pv 0) Zae (fun _ _=>rfl)) (pv 1)) (pg_sub (pv 0) Zae Zd0)) (Zad (Zar (pv 2))))) Zai)
   (pS (ps_asg (Za8 op_mod (Za8 Zei (Za8 op_mul (Zbc Zaw (pv 0) Zae (fun _ _=>rfl)) Zae) Zae) Zae) (pg_sub (pv 0) Zae Zd0))
   (Zad (Zar (Za8 op_mod (Za8 op_fdiv (Za8 op_mod (Za8 op_mul (Zbc Zaw (pv 0) Zae (fun _ _=>rfl)) (Zbc Zaw (pv 0) Zae (fun _ _=>rfl))) Zae) Zae) (pv 1))))),?_⟩
  refine ⟨_,rfl,p,_,_,_,rfl,rfl,SqL.of hp,rfl,_,_,rfl,rfl,_,rfl,?_⟩
  refine Zdy (fun h1=>?_) (fun h1=>?_)
  ·refine ⟨_,rfl,p,_,_,_,rfl,rfl,SqL.of hp,rfl,_,rfl,_,_,rfl,rfl,hm0,?_⟩
   refine ⟨_,rfl,p,_,_,_,rfl,rfl,SqL.of hp,rfl,_,rfl,_,_,rfl,rfl,⟨hm0,hm1⟩,?_⟩
   refine ⟨_,rfl,p,_,_,0,rfl,rfl,hp,rfl,_,rfl,?_⟩
   have h1:0<r:=of_decide_eq_true h1
   exact q _ _ (Int.emod_nonneg _ (by omega)) (Int.emod_lt_of_pos _ hm0) ⟨r / m,b,rfl,Int.ediv_nonneg hr0 (by omega),Int.lt_of_le_of_lt (Int.ediv_le_self _ hr0) hr1,hb0,hb1⟩
  ·refine ⟨_,rfl,p,_,_,_,rfl,rfl,SqL.of hp,rfl,_,_,rfl,rfl,.inr ⟨by decide,by decide⟩,_,_,rfl,rfl,_,_,rfl,rfl,(by show (0:Int)<2147483647;decide),?_⟩
   refine ⟨_,rfl,p,_,_,1,rfl,rfl,hp,rfl,?_⟩
   have m0:=Int.emod_nonneg (b * 69621 + 12345) (b:=2147483647) (by decide)
   have m1:=Int.emod_lt_of_pos (b * 69621 + 12345) (b:=2147483647) (by decide)
   refine ⟨_,rfl,p,_,_,_,rfl,rfl,SqL.of uS,rfl,_,rfl,p,_,_,_,rfl,rfl,SqL.of uS,rfl,_,_,rfl,rfl,.inl ⟨by omega,by omega⟩,_,_,rfl,rfl,(by show (0:Int)<2147483629;decide),_,_,rfl,rfl,⟨by decide,by decide⟩,_,rfl,_,_,rfl,rfl,hm0,?_⟩
   exact q _ _ (Int.emod_nonneg _ (by omega)) (Int.emod_lt_of_pos _ hm0) ⟨r,_,rfl,hr0,hr1,m0,m1⟩
theorem scLet:Zap ["number","word"] ["number"] (Zab Za6):=⟨rfl,rfl,rfl,by decide +kernel,rfl,by decide +kernel,by decide +kernel⟩
theorem ok_letters {f:Addr}{fd:FuncData}(F:Def K mg "_law_letters" Za6 ["number"] f fd):Za0 P w K mg base CX0 1 f fd ["number"] spLetters:=by
 refine F.fn.ok scLet (fun vs H Q E h=>?_) (fun cdv A outer s H vs Q E hr h=>?_)
 ·obtain ⟨n,rfl,_⟩:=h
  rfl
 ·obtain ⟨n,rfl,hn,q⟩:=h
  have nd:=scLet.nd
  refine ⟨_,pS (Zah (i:=1) nd rfl (Or.inl rfl) pe_str)
   (pS (ps_while PassesOwn.never (pw_or (Zal Zc7 (pv 1) pe_str (Zaq _)) (pw_or1 (Zal op_gt (pv 0) Zae (Zaq _)))).pt
    (pS (Zah (i:=1) nd rfl (Or.inl rfl) (Za8 op_add_str (pv 1) (Zbc ix_str pe_str (Za8 op_mod (pv 0) Zae) (fun _ _=>rfl))))
    (Zad (Zah (i:=0) nd rfl (Or.inl rfl) (Za8 op_fdiv (pv 0) Zae)))))
   (Zad (Zar (pv 1)))),?_⟩
  have e0:("":Str).cps.toList=[]:=by decide +kernel
  have hlen:(Zbr n).length≤8:=lettersF_len 7 n hn
  refine ⟨fun m σ H2=>H2=H∧∃ (x:Str) (k:Nat),σ=[some (.int k),some (.str x)]∧m=k + (if x.cps.toList=[] then 1 else 0) ∧
   ((x.cps.toList=[]∧k=n)∨(x.cps.toList≠[]∧k=0∧x.cps.toList=Zbr n)∨(x.cps.toList≠[]∧0<k∧x.cps.toList++Zbr k=Zbr n)),⟨_,rfl,_,n,rfl,rfl,.inl ⟨e0,rfl⟩⟩,?_⟩
  rintro m σ H2 ⟨rfl,x,k,rfl,rfl,inv⟩
  have more:(x.cps.toList=[]∨0<k)→∃ N:St→Hp→Prop,(∀ σ' H',N σ' H'→∃ m',m'<k + (if x.cps.toList=[] then 1 else 0)∧(H'=H2∧∃ (y:Str) (j:Nat),σ'=[some (.int j),some (.str y)]∧m'=j + (if y.cps.toList=[] then 1 else 0) ∧
    ((y.cps.toList=[]∧j=n)∨(y.cps.toList≠[]∧j=0∧y.cps.toList=Zbr n)∨(y.cps.toList≠[]∧0<j∧y.cps.toList++Zbr j=Zbr n)))) ∧
    N [some (.int ((k:Int) / 26)),some (.str (x++⟨#[97 + k % 26]⟩))] H2:=fun hk=>by
   refine ⟨fun σ' H'=>σ'=[some (.int ((k:Int) / 26)),some (.str (x++⟨#[97 + k % 26]⟩))]∧H'=H2,?_,rfl,rfl⟩
   rintro σ' H' ⟨rfl,rfl⟩
   have el:(x++⟨#[97 + k % 26]⟩:Str).cps.toList=x.cps.toList++[97 + k % 26]:=app_list _ _
   have ne:(x++⟨#[97 + k % 26]⟩:Str).cps.toList≠[]:=by rw [el];simp
   have kd:((k:Int) / 26)=((k / 26:Nat):Int):=by omega
   have whole:(x.cps.toList++[97 + k % 26])++(if k / 26=0 then [] else Zbr (k / 26))=Zbr n:=by
    rw [List.append_assoc,List.singleton_append,← Zdr]
    rcases inv with ⟨h1,h2⟩ | ⟨h1,h2,_⟩ | ⟨_,_,h3⟩
    ·rw [h1,h2];rfl
    ·rcases hk with z | z
     ·exact absurd z h1
     ·omega
    ·exact h3
   refine ⟨k / 26,?_,rfl,_,k / 26,by rw [kd],by rw [if_neg ne];rfl,?_⟩
   ·rcases hk with z | z
    ·rw [if_pos z];omega
    ·have:k / 26<k:=by omega
     omega
   ·right
    rw [el]
    by_cases z:k / 26=0
    ·rw [if_pos z,List.append_nil] at whole
     exact .inl ⟨by simp,z,whole⟩
    ·rw [if_neg z] at whole
     exact .inr ⟨by simp,by omega,whole⟩
  have xlen:x.length≤8:=by
   rw [← Zec]
   rcases inv with ⟨h1,_⟩ | ⟨_,_,h3⟩ | ⟨_,_,h3⟩
   ·rw [h1];simp
   ·rw [h3];exact hlen
   ·have:=congrArg List.length h3
    rw [List.length_append] at this
    omega
  have at1:atI letters.cps.toList ((k:Int) % 26)=some (97 + k % 26):=by
   have:=Zdh (letters_at (i:=k % 26) (by omega))
   have e:((k % 26:Nat):Int)=(k:Int) % 26:=by omega
   rwa [e] at this
  refine ⟨_,rfl,rfl,_,rfl,?_⟩
  refine Zdy (fun h1=>?_) (fun h1=>?_)
  ·have hx:x.cps.toList=[]:=by
    have:=of_decide_eq_true h1
    injection this with this
    rw [this];exact e0
   obtain ⟨N,hN,n0⟩:=more (.inl hx)
   refine iteT ⟨N,hN,?_⟩
   exact ⟨_,rfl,_,rfl,_,_,rfl,rfl,(by show (0:Int)<26;decide),_,_,_,rfl,rfl,sL (by rw [← Zec,letters_eq];decide),at1,_,_,rfl,rfl,sL (by rw [len_one];omega),_,rfl,_,_,rfl,rfl,⟨by decide,by decide⟩,n0⟩
  ·have hx:x.cps.toList≠[]:=fun z=>h1 (decide_eq_true (by rw [str_ext (z.trans e0.symm)]))
   refine ⟨_,rfl,_,_,rfl,rfl,_,rfl,?_⟩
   refine Zdy (fun h2=>?_) (fun h2=>?_)
   ·have hk:0<k:=by have:(0:Int)<(k:Int):=of_decide_eq_true h2;omega
    obtain ⟨N,hN,n0⟩:=more (.inr hk)
    refine ⟨N,hN,?_⟩
    exact ⟨_,rfl,_,rfl,_,_,rfl,rfl,(by show (0:Int)<26;decide),_,_,_,rfl,rfl,sL (by rw [← Zec,letters_eq];decide),at1,_,_,rfl,rfl,sL (by rw [len_one];omega),_,rfl,_,_,rfl,rfl,⟨by decide,by decide⟩,n0⟩
   ·have hk:k=0:=by
     have:¬ (0:Int)<(k:Int):=fun z=>h2 (decide_eq_true z)
     omega
    have hf:x=Zct n:=by
     refine str_ext ?_
     rw [lettersS_list]
     rcases inv with ⟨h1,_⟩ | ⟨_,_,h3⟩ | ⟨_,h2,_⟩
     ·exact absurd h1 hx
     ·exact h3
     ·omega
    rw [hf]
    exact ⟨_,rfl,q⟩
end
end K23
namespace K23
open PySem L2 Md
structure WordsOk (ws:List Str):Prop where
 word:∀ x∈ws,Za2 x=true
 nd:ws.Nodup
def spWord:Sp:=fun vs H Q _=>∃ (p a:Addr) (ws:List Str),vs=[.ref p,.ref a]∧p≠a∧(∃ o,H p=some o∧PotO o)∧H a=some (.lst (ws.map V.str))∧WordsOk ws∧ws.length≤24 ∧
 ∀ x H',Drawn p H H'→Za2 x=true→x∉ws→Q (.str x) H'
def spWords:Sp:=fun vs H Q _=>∃ (p:Addr) (m:Nat),vs=[.ref p,.int m]∧(∃ o,H p=some o∧PotO o)∧m≤24 ∧
 ∀ l (ws:List Str) H',Drawn p H H'→H l=none→H' l=some (.lst (ws.map V.str))→WordsOk ws→ws.length=m→Q (.ref l) H'
def some13:List Str:=["kind","under","name","deed","gives","with","none","clash","a","ab","abc","abcdefgh","even"]
theorem some13_ok:some13.all Za2=true:=by decide +kernel
theorem at_strs {ws:List Str}{v:Int} (h0:0≤v) (h1:v<ws.length):∃ x,x∈ws∧atI (ws.map V.str) v=some (.str x):=by
 have hi:v.toNat<ws.length:=by omega
 have e:(ws.map V.str)[v.toNat]?=some (V.str ws[v.toNat]):=by rw [List.getElem?_map,List.getElem?_eq_getElem hi];rfl
 have:=Zdh e
 rw [Int.toNat_of_nonneg h0] at this
 exact ⟨_,List.getElem_mem hi,this⟩
theorem ne_nil_dat (ws:List Str):(!dEq (.list (ws.map PySem.W.Dat.str)) (.list []))=true↔ws≠[]:=by
 cases ws with
 | nil=>simp [Zd2]
 | cons w r =>
  rw [dEq_neg (by simp)]
  simp
theorem ok_dat {ws:List Str}(h:∀ x∈ws,Za2 x=true):PySem.W.kqdOk 9 (.list (ws.map PySem.W.Dat.str))=true:=by
 show (ws.map PySem.W.Dat.str).all (PySem.W.kqdOk 8)=true
 rw [List.all_eq_true]
 intro d hd
 obtain ⟨x,hx,e⟩:=List.mem_map.mp hd
 rw [← e]
 exact Zem (h x hx)
section
variable {P:Program} {w:World} {K:PySem.W.Frag} {mg:Str→Option Value} {base:Heap}
theorem scWord:Zap ["pot","words","some","way","word","number"] ["pot","words"] (Zab Zav):=⟨rfl,rfl,rfl,by decide +kernel,rfl,by decide +kernel,by decide +kernel⟩
theorem prefix_word {x y:Str}{n:Nat}(hn:1≤n) (h:y.cps.toList=x.cps.toList.take n) (h1:1≤x.length) (h8:x.length≤8∨n≤8) (hl:∀ c∈x.cps.toList,isLow c=true):Za2 y=true:=by
 rw [Zdj,h,List.length_take,Zec]
 refine ⟨⟨by omega,by omega⟩,fun c hc=>hl c (List.mem_of_mem_take hc)⟩
def tupStrs:Expr→Option (List Str)
 | .Tuple es _ _=>strsOf es
 | _=>none
theorem pe_tupOf {X:Cx}{ws:List Str}:∀ {e:Expr},tupStrs e=some ws→PE X e (tTup (fun _ H Q=>Q (ws.map V.str) H)):=by
 intro e h
 cases e with
 | Tuple es x p=>exact Zdw (pa_strsOf h)
 | _=>cases h
def bodyE:Stmt→Expr
 | .Assign _ e _=>e
 | _=>.Constant (.int 0) 0 ⟨0,0,0,0⟩
def hdS:List Stmt→Stmt
 | s :: _=>s
 | []=>.Pass ⟨0,0,0,0⟩
theorem e13:tupStrs (bodyE (hdS (Zak Zav)))=some some13:=by decide +kernel
def t13:TE:=tTup (fun _ H Q=>Q (some13.map V.str) H)
theorem pe_13g {X:Cx}{e:Expr}(h:tupStrs e=some some13):PE X e t13:=pe_tupOf h
def isTup:Expr→Bool
 | .Tuple _ _ _=>true
 | _=>false
theorem sw_tup {e:Expr}{t:Option Expr}{l:Nat}{env:Env}(h:isTup e=true):swapsWith e t l env=pure false:=by
 cases e with
 | Tuple es x p=>rfl
 | _=>cases h
def asgs:Stmt→Option (Str×Expr)
 | .Assign [.Name x _] e _=>some (x,e)
 | _=>none
theorem ps_asgs {X:Cx}{st:Stmt}{i:Nat}{x:Str}{e:Expr}{te:TE}(h:asgs st=some (x,e)) (he:PE X e te) (ht:isTup e=true) (hN:X.N.Nodup) (hi:X.N[i]?=some x) (hx:Loc X.env.scope x) (hf:X.fn x=true∨X.env.scope.names.lookup x=some .local):PS X st (tAsg te (gName i)):=by
 unfold asgs at h
 split at h
 ·next x' p' e' p =>
  have h1:x'=x:=congrArg Prod.fst (Option.some.inj h)
  have h2:e'=e:=congrArg Prod.snd (Option.some.inj h)
  subst h1
  subst h2
  exact Zah hN hi hx he (sw_tup ht) hf
 ·cases h
def s13:Stmt:=hdS (Zak Zav)
def e13x:Expr:=bodyE s13
theorem a13:asgs s13=some (("some":Str),e13x):=by rfl
theorem u13:isTup e13x=true:=by decide +kernel
theorem p13 {X:Cx}:PE X e13x t13:=@pe_13g X e13x e13
theorem ps_13 {X:Cx}(hN:X.N.Nodup) (hi:X.N[2]?=some ("some":Str)) (hx:Loc X.env.scope ("some":Str)) (hf:X.fn ("some":Str)=true∨X.env.scope.names.lookup ("some":Str)=some NameKind.local):PS X s13 (tAsg t13 (gName 2)):=
 @ps_asgs X s13 2 ("some":Str) e13x t13 a13 (@p13 X) u13 hN hi hx hf
def tlS:List Stmt→List Stmt
 | _ :: r=>r
 | []=>[]
theorem pss_hd {X:Cx}{l:List Stmt}{t u:TS} (h0:l.isEmpty=false) (h1:PS X (hdS l) t) (h2:PSs X (tlS l) u):PSs X l (tSeq t u):=by
 cases l with
 | nil=>cases h0
 | cons a r=>exact pS h1 h2
theorem n13:(Zak Zav).isEmpty=false:=by decide +kernel
theorem pss_13 {X:Cx}{u:TS}(hN:X.N.Nodup) (hi:X.N[2]?=some ("some":Str)) (hx:Loc X.env.scope ("some":Str)) (hf:X.fn ("some":Str)=true∨X.env.scope.names.lookup ("some":Str)=some NameKind.local) (h2:PSs X (tlS (Zak Zav)) u):PSs X (Zak Zav) (tSeq (tAsg t13 (gName 2)) u):=
 @pss_hd X (Zak Zav) (tAsg t13 (gName 2)) u n13 (@ps_13 X hN hi hx hf) h2
theorem ex_13 {X:Cx}{D:Ends}{σ:St}{H:Hp}(hN:X.N.Nodup) (hi:X.N[2]?=some ("some":Str)) (hx:Loc X.env.scope ("some":Str)) (hf:X.fn ("some":Str)=true∨X.env.scope.names.lookup ("some":Str)=some NameKind.local)
  (h:∃ u,PSs X (tlS (Zak Zav)) u∧tSeq (tAsg t13 (gName 2)) u D σ H):∃ t,PSs X (Zak Zav) t∧t D σ H:=by
 obtain ⟨u,h1,h2⟩:=h
 exact ⟨tSeq (tAsg t13 (gName 2)) u,@pss_13 X u hN hi hx hf h1,h2⟩
theorem ok_word {f fT fL:Addr}{fd fdT fdL:FuncData}(F:Def K mg "_law_word" Zav ["pot","words"] f fd) (DT:Def K mg "_law_take" Zas ["pot","many"] fT fdT) (DL:Def K mg "_law_letters" Za6 ["number"] fL fdL) (len:mg "len"=none):
  Za0 P w K mg base CX0 2 f fd ["pot","words"] spWord:=by
 have GT:Za0 P w K mg base CX0 1 fT fdT ["pot","many"] Zef:=ok_take DT
 have GL:Za0 P w K mg base CX0 1 fL fdL ["number"] spLetters:=ok_letters DL
 refine F.fn.ok scWord (fun vs H Q E h=>?_) (fun cdv A outer s H vs Q E hr h=>?_)
 ·obtain ⟨p,a,ws,rfl,_⟩:=h
  rfl
 ·obtain ⟨p,a,ws,rfl,hpa,hpot,ha,hw,hl24,q⟩:=h
  have nd:=scWord.nd
  have hu:=hr.units
  refine @ex_13 _ _ _ _ nd rfl (Or.inl rfl) (Or.inl rfl) ?_
  refine ⟨_,(pS (Zah (i:=3) nd rfl (Or.inl rfl) (Zaf DT GT hr (pC (pv 0) (pC Zae Zaa))))
   (pS (Zah (i:=4) nd rfl (Or.inl rfl) (Zbc Zdz (pv 2) (Zaf DT GT hr (pC (pv 0) (pC Zae Zaa))) (fun _ _=>rfl)))
   (Zbq (Za5 (Zal Zc7 (pv 3) Zae (Zaq _)) (Zad (Zah (i:=4) nd rfl (Or.inl rfl) (Zaf DL GL hr (pC (Zaf DT GT hr (pC (pv 0) (pC (Za8 op_sub (Za8 op_pow Zae Zae) Zae) Zaa))) Zaa)))) Zai)
   (Zbq (Za5 (pw_and (Zal Zc7 (pv 3) Zae (Zaq _)) (pw_and1 (Zal (op_neD hu) (pv 1) (Zcx Zaa) (Zaq _)))).pt
    (pS (Zah (i:=4) nd rfl (Or.inl rfl) (Zbc Zaw (pv 1) (Zaf DT GT hr (pC (pv 0) (pC (Zag Zdo (by rfl) len PySem.boot_len (pC (pv 1) Zaa)) Zaa))) (fun _ _=>rfl)))
    (Zad (Zah (i:=4) nd rfl (Or.inl rfl) (Zd1 sl_str (Za8 op_add_str (pv 4) (Zaf DL GL hr (pC (Zaf DT GT hr (pC (pv 0) (pC Zae Zaa))) Zaa))) Zeq (Zep Zae))))) Zai)
   (Zbq (Za5 (pw_and (Zal Zc7 (pv 3) Zae (Zaq _)) (pw_and1 (Zal (op_neD hu) (pv 1) (Zcx Zaa) (Zaq _)))).pt
    (pS (Zah (i:=4) nd rfl (Or.inl rfl) (Zbc Zaw (pv 1) (Zaf DT GT hr (pC (pv 0) (pC (Zag Zdo (by rfl) len PySem.boot_len (pC (pv 1) Zaa)) Zaa))) (fun _ _=>rfl)))
    (Zad (Zah (i:=4) nd rfl (Or.inl rfl) (Zd1 sl_str (pv 4) Zeq (Zep (Za8 Zei Zae (Zaf DT GT hr (pC (pv 0) (pC (Zag Zdo (by rfl) len PySem.boot_len (pC (pv 4) Zaa)) Zaa))))))))) Zai)
   (pS (Zah (i:=5) nd rfl (Or.inl rfl) Zae)
   (pS (ps_while PassesOwn.never (Zal op_in_seq (pv 4) (pv 1) (by with_unfolding_all rfl))
    (pS (Zah (i:=4) nd rfl (Or.inl rfl) (Zaf DL GL hr (pC (pv 5) Zaa)))
    (Zad (Zah (i:=5) nd rfl (Or.inl rfl) (Za8 Zei (pv 5) Zae)))))
   (Zad (Zar (pv 4)))))))))),?_⟩
  have hap:a≠p:=Ne.symm hpa
  obtain ⟨o0,hp0,ho0⟩:=hpot
  have wl:∀ {H':Hp},Drawn p H H'→SqL K H' a (ws.map V.str):=fun d=>SqL.of (d.keep _ _ hap ha)
  refine ⟨sL (by show 13≤100000;decide),fun t ht=>?_⟩
  have d1:Drawn p H (upd H t (.tup (some13.map V.str))):=(Drawn.refl ⟨o0,hp0,ho0⟩).new ht
  have tp:t≠p:=fun e=>by rw [e,hp0] at ht;cases ht
  refine ⟨_,rfl,p,4,o0,rfl,(by rw [Zac (Ne.symm tp)];exact hp0),ho0,by decide,by decide,fun way o1 hw0 hw1 ho1=>?_⟩
  refine ⟨_,rfl,_,rfl,p,13,o1,rfl,uS,ho1,by decide,by decide,fun v o2 hv0 hv1 ho2=>?_⟩
  obtain ⟨x0,hx0,hat⟩:=at_strs (ws:=some13) hv0 (by show v<13;exact hv1)
  refine ⟨t,some13.map V.str,_,_,rfl,rfl,SqT.of (by rw [Zac tp,Zac tp];exact uS),hat,?_⟩
  have w0:Za2 x0=true:=List.all_eq_true.mp some13_ok x0 hx0
  have d3:Drawn p H (upd (upd (upd H t (.tup (some13.map V.str))) p o1) p o2):=(d1.trans (Drawn.upd ho1)).trans (Drawn.upd ho2)
  refine ⟨fun σ' H'=>∃ x:Str,σ'=[some (.ref p),some (.ref a),some (.ref t),some (.int way),some (.str x),none]∧Za2 x=true∧Drawn p H H',?_,?_⟩
  ·refine ⟨_,rfl,rfl,_,rfl,?_⟩
   refine Zdy (fun _=>?_) (fun _=>?_)
   ·obtain ⟨o3,hp3,ho3⟩:=d3.pot
    refine ⟨_,rfl,_,_,rfl,rfl,⟨by decide,by decide,by decide +kernel⟩,_,_,rfl,rfl,p,_,o3,rfl,hp3,ho3,by decide,by decide,fun v o4 hv0 hv1 ho4=>?_⟩
    have hv1:v<208827064550:=hv1
    refine ⟨v.toNat,by rw [Int.toNat_of_nonneg hv0];rfl,by omega,_,rfl,lettersS_word (by omega),d3.trans (Drawn.upd ho4)⟩
   ·exact ⟨x0,rfl,w0,d3⟩
  ·rintro σ' H1 ⟨x1,rfl,w1,d4⟩
   refine ⟨fun σ' H'=>∃ x:Str,σ'=[some (.ref p),some (.ref a),some (.ref t),some (.int way),some (.str x),none]∧Za2 x=true∧Drawn p H H',?_,?_⟩
   ·refine ⟨_,rfl,rfl,_,rfl,?_⟩
    refine Zdy (fun _=>?_) (fun _=>iteF ⟨x1,rfl,w1,d4⟩)
    refine ⟨_,rfl,Nat.zero_le _,fun t2 ht2=>⟨.list (ws.map PySem.W.Dat.str),.list [],.list ((wl d4).mono_new ht2) (Zdc ws),.list (SqL.of uS) .nil,ok_dat hw.word,rfl,_,rfl,?_⟩⟩
    have d5:Drawn p H (upd H1 t2 (.lst [])):=d4.new ht2
    refine Zdy (fun hne=>?_) (fun _=>⟨x1,rfl,w1,d5⟩)
    have hne:ws≠[]:=(ne_nil_dat ws).mp hne
    have hpos:0<ws.length:=List.length_pos_iff.mpr hne
    obtain ⟨o5,hp5,ho5⟩:=d5.pot
    refine ⟨_,rfl,_,rfl,_,rfl,_,_,rfl,.inl ⟨_,wl d5,rfl⟩,p,_,o5,rfl,hp5,ho5,by rw [List.length_map];omega,by rw [List.length_map];omega,fun v o6 hv0 hv1 ho6=>?_⟩
    rw [List.length_map] at hv1
    obtain ⟨x2,hx2,hat2⟩:=at_strs (ws:=ws) hv0 hv1
    have d6:Drawn p H (upd (upd H1 t2 (.lst [])) p o6):=d5.trans (Drawn.upd ho6)
    have w2:Za2 x2=true:=hw.word x2 hx2
    refine ⟨a,ws.map V.str,_,_,rfl,rfl,wl d6,hat2,?_⟩
    refine ⟨_,rfl,_,rfl,p,26,o6,rfl,uS,ho6,by decide,by decide,fun v o7 hv0 hv1 ho7=>?_⟩
    refine ⟨v.toNat,by rw [Int.toNat_of_nonneg hv0];rfl,by omega,?_⟩
    have wl3:Za2 (Zct v.toNat)=true:=lettersS_word (by omega)
    have l2:=word_len w2
    have l3:=word_len wl3
    refine ⟨_,_,rfl,rfl,sL (by omega),_,rfl,_,rfl,sL (by rw [len_app];omega),?_⟩
    refine ⟨_,rfl,?_,d6.trans (Drawn.upd ho7)⟩
    refine prefix_word (x:=x2++Zct v.toNat) (n:=8) (by decide) (slice_take _ 8 (by decide)) (by rw [len_app];omega) (.inr (Nat.le_refl _)) fun c hc=>?_
    rw [app_list] at hc
    rcases List.mem_append.mp hc with hc | hc
    ·exact ((Zdj x2).mp w2).2 c hc
    ·exact ((Zdj _).mp wl3).2 c hc
   ·rintro σ' H2 ⟨x2,rfl,w2,d5⟩
    refine ⟨fun σ' H'=>∃ x:Str,σ'=[some (.ref p),some (.ref a),some (.ref t),some (.int way),some (.str x),none]∧Za2 x=true∧Drawn p H H',?_,?_⟩
    ·refine ⟨_,rfl,rfl,_,rfl,?_⟩
     refine Zdy (fun _=>?_) (fun _=>iteF ⟨x2,rfl,w2,d5⟩)
     refine ⟨_,rfl,Nat.zero_le _,fun t2 ht2=>⟨.list (ws.map PySem.W.Dat.str),.list [],.list ((wl d5).mono_new ht2) (Zdc ws),.list (SqL.of uS) .nil,ok_dat hw.word,rfl,_,rfl,?_⟩⟩
     have d6:Drawn p H (upd H2 t2 (.lst [])):=d5.new ht2
     refine Zdy (fun hne=>?_) (fun _=>⟨x2,rfl,w2,d6⟩)
     have hne:ws≠[]:=(ne_nil_dat ws).mp hne
     have hpos:0<ws.length:=List.length_pos_iff.mpr hne
     obtain ⟨o6,hp6,ho6⟩:=d6.pot
     refine ⟨_,rfl,_,rfl,_,rfl,_,_,rfl,.inl ⟨_,wl d6,rfl⟩,p,_,o6,rfl,hp6,ho6,by rw [List.length_map];omega,by rw [List.length_map];omega,fun v o7 hv0 hv1 ho7=>?_⟩
     rw [List.length_map] at hv1
     obtain ⟨x3,hx3,hat3⟩:=at_strs (ws:=ws) hv0 hv1
     have d7:Drawn p H (upd (upd H2 t2 (.lst [])) p o7):=d6.trans (Drawn.upd ho7)
     have w3:Za2 x3=true:=hw.word x3 hx3
     have l3:=word_len w3
     refine ⟨a,ws.map V.str,_,_,rfl,rfl,wl d7,hat3,?_⟩
     refine ⟨_,rfl,_,rfl,_,rfl,_,_,rfl,⟨sL (by omega),rfl⟩,p,_,o7,rfl,uS,ho7,by omega,by omega,fun v o8 hv0 hv1 ho8=>?_⟩
     refine ⟨_,_,rfl,rfl,_,rfl,_,rfl,sL (by omega),?_⟩
     refine ⟨_,rfl,?_,d7.trans (Drawn.upd ho8)⟩
     exact prefix_word (x:=x3) (n:=(1 + v).toNat) (by omega) (slice_take _ (1 + v) (by omega)) (by omega) (.inl (by omega)) ((Zdj x3).mp w3).2
    ·rintro σ' H3 ⟨x3,rfl,w3,d6⟩
     refine ⟨fun m σ H'=>∃ (x:Str) (n:Nat),σ=[some (.ref p),some (.ref a),some (.ref t),some (.int way),some (.str x),some (.int n)]∧Za2 x=true∧Drawn p H H'∧m=ws.length + 1 - n∧n≤ws.length + 1 ∧
      (n=0∨x=Zct (n - 1))∧∀ j,j + 1<n→Zct j∈ws,⟨_,x3,0,rfl,w3,d6,rfl,by omega,.inl rfl,fun j hj=>by omega⟩,?_⟩
     rintro m σ H4 ⟨x,n,rfl,wx,dx,rfl,hn,hxn,hall⟩
     refine ⟨_,rfl,_,rfl,a,_,rfl,.inl (wl dx),rfl,flat_strs ws,_,rfl,?_⟩
     show if inV (.str x) (ws.map V.str)=true then _ else _
     rw [in_strs]
     refine Zdy (fun hin=>?_) (fun hin=>?_)
     ·have hin:x∈ws:=of_decide_eq_true hin
      have all:∀ j,j<n→Zct j∈ws:=fun j hj=>by
       by_cases z:j + 1<n
       ·exact hall j z
       ·rcases hxn with e | e
        ·omega
        ·have:j=n - 1:=by omega
         rw [this,← e];exact hin
      have hle:n≤ws.length:=by
       have:=Graph.nodup_le (l:=(List.range n).map Zct) (k:=ws) ?_ ?_
       ·simpa using this
       ·rw [List.nodup_iff_pairwise_ne,List.pairwise_map]
        exact (List.nodup_iff_pairwise_ne.mp List.nodup_range).imp fun h e=>h (lettersS_inj e)
       ·intro y hy
        obtain ⟨j,hj,e⟩:=List.mem_map.mp hy
        rw [← e]
        exact all j (List.mem_range.mp hj)
      refine ⟨fun σ' H'=>σ'=[some (.ref p),some (.ref a),some (.ref t),some (.int way),some (.str (Zct n)),some (.int ((n:Int) + 1))]∧H'=H4,?_,?_⟩
      ·rintro σ' H' ⟨rfl,rfl⟩
       exact ⟨ws.length + 1 - (n + 1),by omega,Zct n,n + 1,rfl,lettersS_word (by omega),dx,rfl,by omega,.inr rfl,fun j hj=>all j (by omega)⟩
      ·exact ⟨_,rfl,n,rfl,by omega,_,rfl,_,_,rfl,rfl,rfl,rfl⟩
     ·have hin:x∉ws:=fun z=>hin (decide_eq_true z)
      exact ⟨_,rfl,q x H4 dx wx hin⟩
theorem scWords:Zap ["pot","many","words","k"] ["pot","many"] (Zab Zcp):=⟨rfl,rfl,rfl,by decide +kernel,rfl,by decide +kernel,by decide +kernel⟩
theorem ok_words {f fW fT fL:Addr}{fd fdW fdT fdL:FuncData}(F:Def K mg "_law_words" Zcp ["pot","many"] f fd) (DW:Def K mg "_law_word" Zav ["pot","words"] fW fdW) (DT:Def K mg "_law_take" Zas ["pot","many"] fT fdT) (DL:Def K mg "_law_letters" Za6 ["number"] fL fdL) (len:mg "len"=none) (range:mg "range"=none):
  Za0 P w K mg base CX0 3 f fd ["pot","many"] spWords:=by
 have GW:Za0 P w K mg base CX0 2 fW fdW ["pot","words"] spWord:=ok_word DW DT DL len
 refine F.fn.ok scWords (fun vs H Q E h=>?_) (fun cdv A outer s H vs Q E hr h=>?_)
 ·obtain ⟨p,m,rfl,_⟩:=h
  rfl
 ·obtain ⟨p,m,rfl,⟨o0,hp0,ho0⟩,hm,q⟩:=h
  have nd:=scWords.nd
  refine ⟨_,pS (Zah (i:=2) nd rfl (Or.inl rfl) (Zcx Zaa))
   (pS (Zdd PassesOwn.never rfl (Zcm rfl range (pC (pv 1) Zaa)) (Zaj (i:=3) nd rfl (Or.inl rfl))
    (Zad (Zbg (pe_bm PySem.F.plainAttrs_list PySem.F.slot_list_append PySem.F.type_list_append Zde (pv 2) (pC (Zaf DW GW hr (pC (pv 0) (pC (pv 2) Zaa))) Zaa)))))
   (Zad (Zar (pv 2)))),?_⟩
  refine ⟨Nat.zero_le _,fun l hl=>?_⟩
  have lp:p≠l:=nNo hp0 hl
  refine ⟨_,rfl,m,rfl,by omega,by omega,Zbs Zbz (fun i σ H'=>∃ (ws:List Str) (kv:Option V),σ=[some (.ref p),some (.int m),some (.ref l),kv]∧Drawn p H H'∧H' l=some (.lst (ws.map V.str))∧WordsOk ws∧ws.length=i)
   ⟨[],none,rfl,(Drawn.refl ⟨o0,hp0,ho0⟩).new hl,uS,⟨(fun _ h=>nomatch h),List.nodup_nil⟩,rfl⟩ (fun _ _ _ _ _=>trivial) ?_ ?_⟩
  ·rintro i v σ H' hi ⟨ws,kv,rfl,d,hw,ok,rfl⟩
   obtain ⟨hi,rfl⟩:=Za4 hi
   refine ⟨_,rfl,.inl ⟨rfl,_,SqL.of hw⟩,_,rfl,_,rfl,p,l,ws,rfl,lp,d.pot,hw,ok,by omega,fun x H2 d2 wx nx=>?_⟩
   have hw2:H2 l=some (.lst (ws.map V.str)):=d2.keep _ _ (Ne.symm lp) hw
   refine ⟨l,_,_,rfl,rfl,hw2,Za7 (by rw [List.length_map];omega),?_⟩
   refine ⟨ws++[x],_,rfl,?_,by rw [uS,List.map_append];rfl,⟨fun y hy=>?_,?_⟩,by simp⟩
   ·refine (d.trans d2).sub (q:=l) (o':=.lst []) (fun b o hb e=>by rw [Zac hb];exact e) hl lp
   ·rcases List.mem_append.mp hy with hy | hy
    ·exact ok.word y hy
    ·rw [List.mem_singleton.mp hy];exact wx
   ·rw [List.nodup_append]
    exact ⟨ok.nd,by simp,fun a ha b hb e=>nx (by rw [← List.mem_singleton.mp hb,← e];exact ha)⟩
  ·rintro σ H' ⟨ws,kv,rfl,d,hw,ok,hlen⟩
   rw [Zat] at hlen
   exact ⟨_,rfl,q l ws H' d hl hw ok (by simpa using hlen)⟩
end
end K23
namespace K23
open PySem L2 Md
def Zdm (js:List Nat):List V:=js.map fun (j:Nat)=>V.int (j:Int)
structure UpsOk (k:Nat) (js:List Nat):Prop where
 below:∀ j∈js,j<k
 nd:js.Nodup
 few:js.length≤8
def spUps:Sp:=fun vs H Q _=>∃ (p:Addr) (k sh:Nat),vs=[.ref p,.int k,.int sh]∧(∃ o,H p=some o∧PotO o)∧k≤24 ∧
 ∀ l (js:List Nat) H',Drawn p H H'→H' l=some (.lst (Zdm js))→UpsOk k js→Q (.ref l) H'
section
variable {P:Program} {w:World} {K:PySem.W.Frag} {mg:Str→Option Value} {base:Heap}
structure TxtU (mg:Str→Option Value):Prop where
 range:mg "range"=none
 int:mg "int"=none
theorem scUps:Zap ["pot","k","shape","one","other","bits"] ["pot","k","shape"] (Zab Zb7):=⟨rfl,rfl,rfl,by decide +kernel,rfl,by decide +kernel,by decide +kernel⟩
abbrev nUps:List Str:=["pot","k","shape","one","other","bits"]
theorem nd_j:(["j"]:List Str).Nodup:=by decide +kernel
theorem nd_jb:(["j","bits"]:List Str).Nodup:=by decide +kernel
def okJ (v:V):Bool:=match v with | .int i=>decide (0≤i) | _=>false
def eight:List V:=[.int 1,.int 2,.int 4,.int 8,.int 16,.int 32,.int 64,.int 128]
def bitV (bits:Int) (v:V):Bool:=match v with
 | .int j=>decide (j<8)&&(match atI eight j with | some (.int e)=>decide (bits / e % 2=1) | _=>false)
 | _=>false
theorem eight_at {j:Int} (h0:0≤j) (h1:j<8):∃ e:Int,atI eight j=some (.int e)∧0<e∧e<1000:=by
 have:∀ i:_root_.Fin 8,∃ e:Int,atI eight (i.1:Int)=some (.int e)∧0<e∧e<1000:=by
  intro i
  match i with
  | ⟨0,_⟩=>exact ⟨1,rfl,by decide,by decide⟩
  | ⟨1,_⟩=>exact ⟨2,rfl,by decide,by decide⟩
  | ⟨2,_⟩=>exact ⟨4,rfl,by decide,by decide⟩
  | ⟨3,_⟩=>exact ⟨8,rfl,by decide,by decide⟩
  | ⟨4,_⟩=>exact ⟨16,rfl,by decide,by decide⟩
  | ⟨5,_⟩=>exact ⟨32,rfl,by decide,by decide⟩
  | ⟨6,_⟩=>exact ⟨64,rfl,by decide,by decide⟩
  | ⟨7,_⟩=>exact ⟨128,rfl,by decide,by decide⟩
 have q:=this ⟨j.toNat,by omega⟩
 rwa [Int.toNat_of_nonneg h0] at q
theorem filt_range (k:Nat) (p:V→Bool):∃ js:List Nat,(Zdi 0 k).filter p=Zdm js∧(∀ j∈js,j<k∧p (.int (j:Int))=true)∧js.Nodup:=by
 refine ⟨(List.range k).filter fun j=>p (.int (j:Int)),?_,fun j hj=>?_,List.nodup_range.filter _⟩
 ·unfold Zdi Zdm
  rw [List.filter_map]
  have e:((fun (j:Nat)=>V.int (0 + (j:Int))))=fun (j:Nat)=>V.int (j:Int):=by
   funext j
   rw [Int.zero_add]
  rw [e]
  rfl
 ·obtain ⟨h1,h2⟩:=List.mem_filter.mp hj
  exact ⟨List.mem_range.mp h1,h2⟩
theorem paired_self:∀ {xs ys:List V},Paired (fun x v=>v=x) xs ys→ys=xs
 | _,_,.nil=>rfl
 | _,_,.cons h t=>by rw [h,paired_self t]
theorem ok_ups {f fT:Addr}{fd fdT:FuncData}(F:Def K mg "_law_ups" Zb7 ["pot","k","shape"] f fd) (DT:Def K mg "_law_take" Zas ["pot","many"] fT fdT) (T:TxtU mg):Za0 P w K mg base CX0 2 f fd ["pot","k","shape"] spUps:=by
 have GT:Za0 P w K mg base CX0 1 fT fdT ["pot","many"] Zef:=ok_take DT
 refine F.fn.ok scUps (fun vs H Q E h=>?_) (fun cdv A outer s H vs Q E hr h=>?_)
 ·obtain ⟨p,k,sh,rfl,_⟩:=h
  rfl
 ·obtain ⟨p,k,sh,rfl,⟨o0,hp0,ho0⟩,hk,q⟩:=h
  have nd:=scUps.nd
  refine ⟨_,pS (Za5 (Zal Zc7 (pv 1) Zae (Zaq _)) (Zad (Zar (Zcx Zaa))) Zai)
   (pS (Zah (i:=3) nd rfl (Or.inl rfl) (Zaf DT GT hr (pC (pv 0) (pC (pv 1) Zaa))))
   (pS (Zah (i:=4) nd rfl (Or.inl rfl) (Zaf DT GT hr (pC (pv 0) (pC (pv 1) Zaa))))
   (pS (Za5 (Zal Zc7 (pv 2) Zae (Zaq _)) (Zad (Zar (Zcx (pC (pv 3) Zaa)))) Zai)
   (pS (Za5 (Zal Zc7 (pv 2) Zae (Zaq _)) (Zad (Zar (Zd1 sl_list
     (Zb5 ["j"] [] [] (fun _=>Zay (osc:=Zab Zb7) (on:=nUps) (by decide +kernel) rfl rfl rfl) (pi_tup (Zdw (pC (pv 3) (pC (pv 4) Zaa)))) (fun C s H fp=>Zaj (i:=0) nd_j rfl (Or.inl rfl) (Or.inr rfl)) (fun C s H fp=>Zb2) (fun C s H fp=>pv 0))
     Zeq (Zep (Za8 Zei Zae (Za9 call_int1 (by rfl) T.int PyProof.Rows.boot_int (pC (Zes op_ne (pv 3) (pv 4) (Zaq _)) Zaa))))))) Zai)
   (pS (Za5 (Zal Zc7 (pv 2) Zae (Zaq _)) (Zad (Zar
     (Zb5 ["j"] [] [] (fun _=>Zay (osc:=Zab Zb7) (on:=nUps) (by decide +kernel) rfl rfl rfl) (pi_tup (Zdw (pC (Za8 op_sub (Za8 op_sub (pv 1) Zae) (Za8 op_mod (pv 1) Zae)) (pC (Za8 op_sub (Za8 op_sub (pv 1) Zae) (Za8 op_mod (pv 1) Zae)) Zaa)))) (fun C s H fp=>Zaj (i:=0) nd_j rfl (Or.inl rfl) (Or.inr rfl))
      (fun C s H fp=>pts_one (Zal op_ge (pv 0) Zae (Zaq _))) (fun C s H fp=>pv 0)))) Zai)
   (pS (Za5 (Zal Zc7 (pv 2) Zae (Zaq _)) (Zad (Zar (Zcx (pC (Za8 op_sub (pv 1) Zae) Zaa)))) Zai)
   (pS (Zah (i:=5) nd rfl (Or.inr rfl) (Zaf DT GT hr (pC (pv 0) (pC Zae Zaa))))
   (Zad (Zar (Zb5 ["j"] ["bits"] [5] (fun _=>Zay (osc:=Zab Zb7) (on:=nUps) (by decide +kernel) rfl rfl rfl) (Zcm rfl T.range (pC (pv 1) Zaa)) (fun C s H fp=>Zaj (i:=0) nd_jb rfl (Or.inl rfl) (Or.inr rfl))
    (fun C s H fp=>pts_one (PW.pt (pw_and (Zal op_lt (pv 0) Zae (Zaq _)) (pw_and1 (Zal Zc7 (Za8 op_mod (Za8 op_fdiv (pv 1) (Zbc (r:=rIxT K) Zdz (Zdw (pC Zae (pC Zae (pC Zae (pC Zae (pC Zae (pC Zae (pC Zae (pC Zae Zaa))))))))) (pv 0) (fun _ _=>rfl))) Zae) Zae (Zaq _)))))) (fun C s H fp=>pv 0))))))))))),?_⟩
  have dr:Drawn p H H:=Drawn.refl ⟨o0,hp0,ho0⟩
  refine ⟨_,rfl,rfl,_,rfl,?_⟩
  refine Zdy (fun h0=>?_) (fun h0=>?_)
  ·exact ⟨Nat.zero_le _,fun l hl=>q l [] _ (dr.new hl) uS ⟨(fun _ h=>nomatch h),List.nodup_nil,Nat.zero_le _⟩⟩
  have hk0:0<k:=by
   refine Nat.pos_of_ne_zero fun z=>h0 (decide_eq_true ?_)
   rw [z]
   rfl
  refine ⟨_,rfl,_,rfl,p,k,o0,rfl,hp0,ho0,by omega,by omega,fun one o1 h10 h11 ho1=>?_⟩
  refine ⟨_,rfl,_,rfl,p,k,o1,rfl,uS,ho1,by omega,by omega,fun oth o2 h20 h21 ho2=>?_⟩
  rw [upd_upd]
  have d2:Drawn p H (upd H p o2):=Drawn.upd ho2
  refine ⟨_,rfl,rfl,_,rfl,?_⟩
  refine Zdy (fun _=>?_) (fun _=>?_)
  ·refine ⟨_,rfl,sL (by show 1≤100000;decide),fun l hl=>q l [one.toNat] _ (d2.new hl) ?_ ⟨fun j hj=>?_,by simp,by simp⟩⟩
   ·rw [uS]
    show some (HO.lst [V.int one])=some (HO.lst [V.int ((one.toNat:Nat):Int)])
    rw [Int.toNat_of_nonneg h10]
   ·rw [List.mem_singleton.mp hj];omega
  refine ⟨_,rfl,rfl,_,rfl,?_⟩
  refine Zdy (fun _=>?_) (fun _=>?_)
  ·-- [j for j in (one,other)][:1 + int(one != other)]
   refine ⟨_,rfl,_,rfl,sL (by show 2≤100000;decide),fun t ht=>⟨t,rfl,⟨_,SqT.of uS⟩,Zdx (Zd8 (xs:=[V.int one,V.int oth])) (sL (by show 2≤100000;decide)) (fun _=>true) (fun v=>v) (fun D ys hD=>SqT.of (by rw [Zac (nNo uS hD)];exact uS)) ?_ ?_ ?_⟩⟩
   ·intro D ys x R _ _ hR
    exact hR
   ·intro D ys x R _ _ _ hR
    exact ⟨_,rfl,hR⟩
   ·intro D hD
    have e2:([V.int one,V.int oth].filter fun _=>true).map (fun v=>v)=[V.int one,V.int oth]:=rfl
    rw [e2]
    have d4:Drawn p H (upd (upd (upd H p o2) t (.tup [V.int one,V.int oth])) D (.lst [V.int one,V.int oth])):=(d2.new ht).new hD
    refine ⟨_,rfl,_,rfl,rfl,.inr ⟨_,rfl,_,_,rfl,rfl,_,rfl,D,_,rfl,SqL.of uS,fun l hl=>?_⟩⟩
    by_cases he:one=oth
    ·have e3:(!decide (V.int one=V.int oth))=false:=by rw [he];simp
     rw [e3]
     refine q l [one.toNat] _ (d4.new hl) ?_ ⟨fun j hj=>by rw [List.mem_singleton.mp hj];omega,by simp,by simp⟩
     rw [uS]
     show some (HO.lst [V.int one])=some (HO.lst [V.int ((one.toNat:Nat):Int)])
     rw [Int.toNat_of_nonneg h10]
    ·have e3:(!decide (V.int one=V.int oth))=true:=by
      rw [decide_eq_false (fun z=>he (by injection z))]
      rfl
     rw [e3]
     refine q l [one.toNat,oth.toNat] _ (d4.new hl) ?_ ⟨fun j hj=>?_,?_,by simp⟩
     ·rw [uS]
      show some (HO.lst [V.int one,V.int oth])=some (HO.lst [V.int ((one.toNat:Nat):Int),V.int ((oth.toNat:Nat):Int)])
      rw [Int.toNat_of_nonneg h10,Int.toNat_of_nonneg h20]
     ·rcases List.mem_cons.mp hj with e | e
      ·rw [e];omega
      ·rw [List.mem_singleton.mp e];omega
     ·refine List.nodup_cons.mpr ⟨fun z=>he ?_,by simp⟩
      have:=List.mem_singleton.mp z
      omega
  refine ⟨_,rfl,rfl,_,rfl,?_⟩
  refine Zdy (fun _=>?_) (fun _=>?_)
  ·-- diamonds
   have hm0:=Int.emod_nonneg (k:Int) (b:=2) (by decide)
   have hm1:=Int.emod_lt_of_pos (k:Int) (b:=2) (by decide)
   refine ⟨_,rfl,_,_,rfl,rfl,_,rfl,_,_,rfl,rfl,(by show (0:Int)<2;decide),_,_,rfl,rfl,_,rfl,_,_,rfl,rfl,_,rfl,_,_,rfl,rfl,(by show (0:Int)<2;decide),_,_,rfl,rfl,sL (by show 2≤100000;decide),fun t ht=>⟨t,rfl,⟨_,SqT.of uS⟩,
    Zdx (Zd8 (xs:=[V.int ((k:Int) - 2 - (k:Int) % 2),V.int ((k:Int) - 1 - (k:Int) % 2)])) (sL (by show 2≤100000;decide)) okJ (fun v=>v) (fun D ys hD=>SqT.of (by rw [Zac (nNo uS hD)];exact uS)) ?_ ?_ ?_⟩⟩
   ·intro D ys x R _ hx hR
    obtain ⟨i,rfl⟩:∃ i,x=V.int i:=by
     rcases List.mem_cons.mp hx with e | e
     ·exact ⟨_,e⟩
     ·exact ⟨_,List.mem_singleton.mp e⟩
    exact ⟨_,rfl,_,_,rfl,rfl,_,rfl,hR⟩
   ·intro D ys x R _ _ _ hR
    exact ⟨_,rfl,hR⟩
   ·intro D hD
    have d4:=(d2.new (o:=.tup [V.int ((k:Int) - 2 - (k:Int) % 2),V.int ((k:Int) - 1 - (k:Int) % 2)]) ht).new (o:=.lst (([V.int ((k:Int) - 2 - (k:Int) % 2),V.int ((k:Int) - 1 - (k:Int) % 2)].filter okJ).map fun v=>v)) hD
    by_cases h2:2≤(k:Int) - (k:Int) % 2
    ·refine q D [((k:Int) - 2 - (k:Int) % 2).toNat,((k:Int) - 1 - (k:Int) % 2).toNat] _ d4 ?_ ⟨fun j hj=>?_,?_,by simp⟩
     ·rw [uS]
      have a1:okJ (V.int ((k:Int) - 2 - (k:Int) % 2))=true:=decide_eq_true (by omega)
      have a2:okJ (V.int ((k:Int) - 1 - (k:Int) % 2))=true:=decide_eq_true (by omega)
      rw [List.filter_cons,a1,if_pos rfl,List.filter_cons,a2,if_pos rfl]
      show some (HO.lst [V.int _,V.int _])=some (HO.lst [V.int ((Int.toNat _:Nat):Int),V.int ((Int.toNat _:Nat):Int)])
      rw [Int.toNat_of_nonneg (by omega),Int.toNat_of_nonneg (by omega)]
     ·rcases List.mem_cons.mp hj with e | e
      ·rw [e];omega
      ·rw [List.mem_singleton.mp e];omega
     ·refine List.nodup_cons.mpr ⟨fun z=>?_,by simp⟩
      have:=List.mem_singleton.mp z
      omega
    ·refine q D [] _ d4 ?_ ⟨(fun _ h=>nomatch h),List.nodup_nil,Nat.zero_le _⟩
     rw [uS]
     have a1:okJ (V.int ((k:Int) - 2 - (k:Int) % 2))=false:=decide_eq_false (by omega)
     have a2:okJ (V.int ((k:Int) - 1 - (k:Int) % 2))=false:=decide_eq_false (by omega)
     rw [List.filter_cons,a1,if_neg Bool.false_ne_true,List.filter_cons,a2,if_neg Bool.false_ne_true]
     rfl
  refine ⟨_,rfl,rfl,_,rfl,?_⟩
  refine Zdy (fun _=>?_) (fun _=>?_)
  ·refine ⟨_,rfl,_,_,rfl,rfl,sL (by show 1≤100000;decide),fun l hl=>q l [k - 1] _ (d2.new hl) ?_ ⟨fun j hj=>?_,by simp,by simp⟩⟩
   ·rw [uS]
    show some (HO.lst [V.int ((k:Int) - 1)])=some (HO.lst [V.int ((k - 1:Nat):Int)])
    have:((k - 1:Nat):Int)=(k:Int) - 1:=by omega
    rw [this]
   ·rw [List.mem_singleton.mp hj];omega
  refine ⟨_,rfl,p,256,o2,rfl,uS,ho2,by decide,by decide,fun bits o3 hb0 hb1 ho3=>?_⟩
  rw [upd_upd]
  have d3:Drawn p H (upd H p o3):=Drawn.upd ho3
  refine ⟨_,rfl,(k:Int),rfl,by omega,by omega,?_⟩
  rw [show ((k:Int)).toNat=k from rfl]
  refine comp_rel Zbz (sL (by rw [Zat];omega)) (bitV bits) (fun _ x v _=>v=x) (fun _ _ _ _ _ _ h=>h) (fun _ _=>trivial) ?_ ?_ ?_
  ·intro x H2 R hs hx hR
   obtain ⟨i,hi⟩:=List.mem_iff_getElem?.mp hx
   obtain ⟨hik,rfl⟩:=Za4 hi
   refine ⟨_,rfl,_,_,rfl,rfl,_,rfl,?_⟩
   refine Zdy (fun h8=>?_) (fun h8=>?_)
   ·have h8:(0:Int) + (i:Int)<8:=of_decide_eq_true h8
    obtain ⟨e,he,he0,he1⟩:=eight_at (j:=(0:Int) + (i:Int)) (by omega) h8
    refine ⟨_,rfl,sL (by show 8≤100000;decide),fun t ht=>⟨_,rfl,t,eight,_,_,rfl,rfl,SqT.of uS,he,_,_,rfl,rfl,⟨he0,by omega⟩,_,_,rfl,rfl,(by show (0:Int)<2;decide),rfl,_,rfl,?_⟩⟩
    have e1:bitV bits (V.int (0 + (i:Int)))=decide (V.int (bits / e % 2)=V.int 1):=by
     show (decide ((0:Int) + (i:Int)<8)&&(match atI eight (0 + (i:Int)) with | some (.int e)=>decide (bits / e % 2=1) | _=>false))=_
     rw [he,decide_eq_true h8,Bool.true_and]
     show decide (bits / e % 2=1)=_
     rw [decide_eq_decide]
     constructor
     ·intro z;rw [z]
     ·intro z;injection z
    have:=hR (upd H2 t (.tup eight)) fun b o e=>by rw [Zac (nNo e ht)];exact e
    rw [e1] at this
    exact this
   ·have h8:¬ ((0:Int) + (i:Int)<8):=fun z=>h8 (decide_eq_true z)
    have e1:bitV bits (V.int (0 + (i:Int)))=false:=by
     show (decide ((0:Int) + (i:Int)<8)&&_)=false
     rw [decide_eq_false h8,Bool.false_and]
    have:=hR H2 (Zan.refl _)
    rw [e1] at this
    exact this
  ·intro D x H2 R hs _ _ hx _ hR
   exact ⟨_,rfl,hR x H2 (Zan.refl _) rfl⟩
  ·intro D H2 ys hD hs hl hp
   have e:=paired_self hp
   subst e
   obtain ⟨js,e,hj,hnd⟩:=filt_range k (bitV bits)
   refine q D js H2 (d3.same hs) (by rw [hl,e]) ⟨fun j h=>(hj j h).1,hnd,?_⟩
   have:=Graph.nodup_le (l:=js) (k:=List.range 8) hnd fun j h=>by
    have h2:(decide ((j:Int)<8)&&_)=true:=(hj j h).2
    have h3:=(Bool.and_eq_true _ _ ▸ h2:_∧_).1
    have h4:(j:Int)<8:=of_decide_eq_true h3
    exact List.mem_range.mpr (by omega)
   simpa using this
end
end K23
namespace K23
open PySem L2 Md
def spRowsL:Sp:=fun vs H Q _=>∃ (p:Addr) (m:Nat),vs=[.ref p,.int m]∧(∃ o,H p=some o∧PotO o)∧1≤m∧m≤24 ∧
 ∀ l (rows:List (Str×List Str)) H',Drawn p H H'→H l=none→Zd6 H' l rows→Zd7 rows→rows.length≤m→Q (.ref l) H'
def wAt (ws:List Str):V→V
 | .int j=>.str (ws.getD j.toNat "")
 | _=>.non
theorem wAt_ints (ws:List Str) (js:List Nat):(Zdm js).map (wAt ws)=(js.map fun i=>ws.getD i "").map V.str:=by
 unfold Zdm
 rw [List.map_map,List.map_map]
 rfl
theorem at_word {ws:List Str}{j:Nat}(h:j<ws.length):atI (ws.map V.str) (j:Int)=some (.str (ws.getD j "")):=by
 have e:(ws.map V.str)[j]?=some (V.str (ws.getD j "")):=by
  rw [List.getElem?_map,List.getD_eq_getElem?_getD,List.getElem?_eq_getElem h]
  rfl
 exact Zdh e
theorem intsV_range (m:Nat):Zdi 0 m=Zdm (List.range m):=by
 unfold Zdi Zdm
 refine List.map_congr_left fun j _=>?_
 rw [Int.zero_add]
theorem all_true {α:Type}(l:List α):l.filter (fun _=>true)=l:=List.filter_eq_self.mpr fun _ _=>rfl
def UpV (ws:List Str) (H:Hp) (js:List Nat) (v:V):Prop:=∃ t,v=.ref t∧H t=some (.tup ((js.map fun i=>ws.getD i "").map V.str))
theorem UpV.mono {ws:List Str}{H H':Hp}{js:List Nat}{v:V}(h:UpV ws H js v) (k:∀ b xs,H b=some (.tup xs)→H' b=some (.tup xs)):UpV ws H' js v:=by
 obtain ⟨t,e,h⟩:=h
 exact ⟨t,e,k _ _ h⟩
theorem paired_get {α β:Type}{F:α→β→Prop}:∀ {l:List α}{k:List β},Paired F l k→∀ {i:Nat}{a:α},l[i]?=some a→∃ b,k[i]?=some b∧F a b
 | _,_,.nil,i,a,h=>by simp at h
 | _,_,.cons r t,0,a,h=>by simp at h;subst h;exact ⟨_,rfl,r⟩
 | _,_,.cons r t,i + 1,a,h=>by
  obtain ⟨b,h1,h2⟩:=paired_get t (i:=i) (a:=a) (by simpa using h)
  exact ⟨b,by simpa using h1,h2⟩
theorem keepD_of {H:Hp}{D b:Addr}{o u:HO}(hD:H D=none) (e:H b=some o):(upd H D u) b=some o:=by rw [Zac (nNo e hD)];exact e
theorem paired_rows {ws:List Str}{uf:List (List Nat)}{D:Addr}{H:Hp}:∀ {os:List Nat}{ys:List V},
  Paired (fun x v=>∃ (j:Nat) (t u:Addr),x=V.int (j:Int)∧v=.ref t∧t≠D∧u≠D∧H t=some (.tup [.str (ws.getD j ""),.ref u])∧H u=some (.tup (((uf.getD j []).map fun i=>ws.getD i "").map V.str))) (Zdm os) ys→Paired (RowV H) (Zdu ws uf os) ys
 | [],_,h=>by cases h;exact .nil
 | j :: os,_,h=>by
  cases h with
  | cons r t =>
   obtain ⟨i,a,u,e,rfl,_,_,h3,h4⟩:=r
   have e':(j:Int)=(i:Int):=by injection e
   have e'':j=i:=by omega
   subst e''
   exact .cons ⟨a,u,rfl,h3,h4⟩ (paired_rows t)
structure Grown (p lw lo lu:Addr) (ws:List Str) (H H':Hp) (i:Nat) (os:List Nat) (uf:List (List Nat)) (us:List V):Prop where
 d:Drawn p H H'
 w:H' lw=some (.lst (ws.map V.str))
 o:H' lo=some (.lst (Zdm os))
 u:H' lu=some (.lst us)
 pu:Paired (UpV ws H') uf us
 ul:uf.length=i
 uok:∀ (k:Nat) (js:List Nat),uf[k]?=some js→UpsOk k js
 on:os.Nodup
 om:∀ j,j∈os↔j<i
 ol:os.length=i
theorem nd_jw:(["j","words"]:List Str).Nodup:=by decide +kernel
theorem nd_kwu:(["k","words","ups"]:List Str).Nodup:=by decide +kernel
structure TxtR (mg:Str→Option Value):Prop where
 range:mg "range"=none
 int:mg "int"=none
 len:mg "len"=none
 tuple:mg "tuple"=none
 list:mg "list"=none
section
variable {P:Program} {w:World} {K:PySem.W.Frag} {mg:Str→Option Value} {base:Heap}
abbrev nRows:List Str:=["pot","most","many","words","shape","order","ups","k"]
theorem scRows:Zap nRows ["pot","most"] (Zab Zch):=⟨rfl,rfl,rfl,by decide +kernel,rfl,by decide +kernel,by decide +kernel⟩
theorem ok_rowsL {f fT fU fWs fW fL:Addr}{fd fdT fdU fdWs fdW fdL:FuncData}(F:Def K mg "_law_rows" Zch ["pot","most"] f fd) (DT:Def K mg "_law_take" Zas ["pot","many"] fT fdT) (DU:Def K mg "_law_ups" Zb7 ["pot","k","shape"] fU fdU)
  (DWs:Def K mg "_law_words" Zcp ["pot","many"] fWs fdWs) (DW:Def K mg "_law_word" Zav ["pot","words"] fW fdW) (DL:Def K mg "_law_letters" Za6 ["number"] fL fdL) (T:TxtR mg):Za0 P w K mg base CX0 4 f fd ["pot","most"] spRowsL:=by
 have GT:Za0 P w K mg base CX0 1 fT fdT ["pot","many"] Zef:=ok_take DT
 have GU:Za0 P w K mg base CX0 2 fU fdU ["pot","k","shape"] spUps:=ok_ups DU DT ⟨T.range,T.int⟩
 have GW:Za0 P w K mg base CX0 3 fWs fdWs ["pot","many"] spWords:=ok_words DWs DW DT DL T.len T.range
 refine F.fn.ok scRows (fun vs H Q E h=>?_) (fun cdv A outer s H vs Q E hr h=>?_)
 ·obtain ⟨p,m,rfl,_⟩:=h
  rfl
 ·obtain ⟨p,most,rfl,⟨o0,hp0,ho0⟩,hm1,hm24,q⟩:=h
  have nd:=scRows.nd
  have hr1:Zdp 1 _:=hr.mono (by decide)
  have hr2:Zdp 2 _:=hr.mono (by decide)
  refine ⟨_,pS (Zah (i:=2) nd rfl (Or.inl rfl) (Za8 Zei Zae (Zaf DT GT hr1 (pC (pv 0) (pC (pv 1) Zaa)))))
   (pS (Zah (i:=3) nd rfl (Or.inr rfl) (Zaf DWs GW hr (pC (pv 0) (pC (pv 2) Zaa))))
   (pS (Zah (i:=4) nd rfl (Or.inl rfl) (Zaf DT GT hr1 (pC (pv 0) (pC Zae Zaa))))
   (pS (Zah (i:=5) nd rfl (Or.inl rfl) (Zcx Zaa))
   (pS (Zah (i:=6) nd rfl (Or.inr rfl) (Zcx Zaa))
   (pS (Zdd PassesOwn.never rfl (Zcm (by rfl) T.range (pC (pv 2) Zaa)) (Zaj (i:=7) nd rfl (Or.inl rfl))
    (pS (Zbg (pe_bm PySem.F.plainAttrs_list PySem.F.slot_list_append PySem.F.type_list_append Zde (pv 6) (pC (Za9 Zcf (by rfl) T.tuple PyProof.Rows.boot_tuple (pC
     (Zb5 ["j"] ["words"] [3] (fun _=>Zay (osc:=Zab Zch) (on:=nRows) (by decide +kernel) rfl rfl rfl) (Zcw (Zaf DU GU hr2 (pC (pv 0) (pC (pv 7) (pC (pv 4) Zaa))))) (fun C s H fp=>Zaj (i:=0) nd_jw rfl (Or.inl rfl) (Or.inr rfl)) (fun C s H fp=>Zb2)
      (fun C s H fp=>Zbc (r:=rIxL K) Zaw (pv 1) (pv 0) (fun _ _=>rfl))) Zaa)) Zaa)))
    (Zad (Zbg (pe_bm PySem.F.plainAttrs_list PySem.F.slot_list_insert PySem.F.type_list_insert Zej (pv 5) (pC (Zaf DT GT hr1 (pC (pv 0) (pC (Za8 Zei (pv 7) Zae) Zaa))) (pC (pv 7) Zaa)))))))
   (Zbq (Za5 (Zal Zc7 (Zaf DT GT hr1 (pC (pv 0) (pC Zae Zaa))) Zae (Zaq _)) (Zad (Zah (i:=5) nd rfl (Or.inl rfl) (pe_listRange rfl (pv 2) (by rfl) T.list (by rfl) T.range))) Zai)
   (Zad (Zar (Zb5 ["k"] ["words","ups"] [3,6] (fun _=>Zay (osc:=Zab Zch) (on:=nRows) (by decide +kernel) rfl rfl rfl) (Zcw (pv 5)) (fun C s H fp=>Zaj (i:=0) nd_kwu rfl (Or.inl rfl) (Or.inr rfl)) (fun C s H fp=>Zb2)
    (fun C s H fp=>Zdw (pC (Zbc (r:=rIxL K) Zaw (pv 1) (pv 0) (fun _ _=>rfl)) (pC (Zbc (r:=rIxL K) Zaw (pv 2) (pv 0) (fun _ _=>rfl)) Zaa)))))))))))),?_⟩
  refine ⟨_,rfl,_,rfl,p,most,o0,rfl,hp0,ho0,by omega,by omega,fun v o1 hv0 hv1 ho1=>⟨_,_,rfl,rfl,?_⟩⟩
  have hv:(1:Int) + v=((1 + v.toNat:Nat):Int):=by omega
  have d1:Drawn p H (upd H p o1):=Drawn.upd ho1
  refine ⟨_,rfl,_,rfl,p,1 + v.toNat,(by show [V.ref p,V.int (1 + v)]=[V.ref p,V.int ((1 + v.toNat:Nat):Int)];rw [← hv]),d1.pot,by omega,fun lw ws H2 d2 hlw hw ok hwl=>?_⟩
  have hlw0:H lw=none:=by
   cases e:H lw with
   | none=>rfl
   | some o =>
    by_cases z:lw=p
    ·rw [z] at hlw
     rw [uS] at hlw
     cases hlw
    ·rw [d1.keep lw o z e] at hlw
     cases hlw
  have d12:=d1.trans d2
  obtain ⟨o2,hp2,ho2⟩:=d2.pot
  have pw:p≠lw:=ne_of hp2 hw (by
   obtain ⟨r,b,e,_⟩:=ho2
   rw [e]
   intro z
   injection z with z
   have z2:=congrArg (fun l=>l[0]?) z
   cases ws with
   | nil=>simp at z2
   | cons x r=>simp at z2)
  refine ⟨_,rfl,p,5,o2,rfl,hp2,ho2,by decide,by decide,fun sh o3 hs0 hs1 ho3=>?_⟩
  have d3:Drawn p H (upd H2 p o3):=d12.trans (Drawn.upd ho3)
  refine ⟨Nat.zero_le _,fun lo hlo=>⟨Nat.zero_le _,fun lu hlu=>?_⟩⟩
  have d5:Drawn p H (upd (upd (upd H2 p o3) lo (.lst [])) lu (.lst [])):=(d3.new hlo).new hlu
  have w5:(upd (upd (upd H2 p o3) lo (.lst [])) lu (.lst [])) lw=some (.lst (ws.map V.str)):=by
   have a1:(upd H2 p o3) lw=some (.lst (ws.map V.str)):=by rw [Zac (Ne.symm pw)];exact hw
   have a2:(upd (upd H2 p o3) lo (.lst [])) lw=some (.lst (ws.map V.str)):=by rw [Zac (nNo a1 hlo)];exact a1
   rw [Zac (nNo a2 hlu)];exact a2
  have o5:(upd (upd (upd H2 p o3) lo (.lst [])) lu (.lst [])) lo=some (.lst (Zdm [])):=by
   rw [Zac (nNo uS hlu)];exact uS
  have plo:p≠lo:=nNo (show (upd H2 p o3) p=some o3 from uS) hlo
  have plu:p≠lu:=nNo (show (upd (upd H2 p o3) lo (.lst [])) p=some o3 by rw [Zac plo];exact uS) hlu
  have lou:lo≠lu:=nNo uS hlu
  have lwo:lw≠lo:=fun z=>by
   have a1:(upd H2 p o3) lw=some (.lst (ws.map V.str)):=by rw [Zac (Ne.symm pw)];exact hw
   rw [z,hlo] at a1;cases a1
  have lwu:lw≠lu:=fun z=>by
   have a1:(upd H2 p o3) lw=some (.lst (ws.map V.str)):=by rw [Zac (Ne.symm pw)];exact hw
   have a2:(upd (upd H2 p o3) lo (.lst [])) lw=some (.lst (ws.map V.str)):=by rw [Zac lwo];exact a1
   rw [z,hlu] at a2;cases a2
  have hloH:H lo=none:=by
   cases e:H lo with
   | none=>rfl
   | some o=>rw [d3.keep lo o (Ne.symm plo) e] at hlo;cases hlo
  have hluH:H lu=none:=by
   cases e:H lu with
   | none=>rfl
   | some o=>rw [(d3.new (o:=.lst []) hlo).keep lu o (Ne.symm plu) e] at hlu;cases hlu
  refine ⟨_,rfl,(1:Int) + v,rfl,by omega,by omega,?_⟩
  have hmn:((1:Int) + v).toNat=ws.length:=by omega
  rw [hmn]
  refine Zbs Zbz (fun i σ H'=>∃ (os:List Nat) (uf:List (List Nat)) (us:List V) (kv:Option V),σ=[some (.ref p),some (.int most),some (.int (1 + v)),some (.ref lw),some (.int sh),some (.ref lo),some (.ref lu),kv]∧Grown p lw lo lu ws H H' i os uf us)
   ⟨[],[],[],none,rfl,d5,w5,o5,uS,.nil,rfl,fun k js h=>by simp at h,List.nodup_nil,fun j=>by simp,rfl⟩ (fun _ _ _ _ _=>trivial) ?_ ?_
  ·rintro i x σ H' hi ⟨os,uf,us,kv,rfl,g⟩
   obtain ⟨hi,rfl⟩:=Za4 hi
   have hul:us.length=i:=by rw [← g.pu.length];exact g.ul
   refine ⟨_,rfl,.inl ⟨rfl,_,SqL.of g.u⟩,_,rfl,_,rfl,_,rfl,p,i,sh.toNat,by rw [Int.zero_add,Int.toNat_of_nonneg hs0];rfl,g.d.pot,by omega,fun l js H6 d6 hl uok=>⟨l,rfl,⟨_,SqL.of hl⟩,?_⟩⟩
   have w6:H6 lw=some (.lst (ws.map V.str)):=d6.keep _ _ (Ne.symm pw) g.w
   refine Zdx (Zce (xs:=Zdm js)) (sL (by unfold Zdm;rw [List.length_map];have:=uok.few;omega)) (fun _=>true) (wAt ws) (fun D ys hD=>SqL.of (by rw [Zac (nNo hl hD)];exact hl)) ?_ ?_ ?_
   ·intro D ys y R _ _ hR
    exact hR
   ·intro D ys y R hD hy _ hR
    obtain ⟨j,hj,rfl⟩:=List.mem_map.mp hy
    have hjl:j<ws.length:=by have:=uok.below j hj;omega
    exact ⟨_,rfl,_,rfl,lw,_,_,_,rfl,rfl,SqL.of (by rw [Zac (nNo w6 hD)];exact w6),at_word hjl,hR⟩
   ·intro D hD
    rw [all_true,wAt_ints]
    refine ⟨D,_,rfl,.inl ⟨SqL.of uS,fun t ht=>?_⟩⟩
    have keepDt:∀ b o,H6 b=some o→(upd (upd H6 D (.lst ((js.map fun i=>ws.getD i "").map V.str))) t (.tup ((js.map fun i=>ws.getD i "").map V.str))) b=some o:=fun b o e=>by
     have e1:(upd H6 D (.lst ((js.map fun i=>ws.getD i "").map V.str))) b=some o:=by rw [Zac (nNo e hD)];exact e
     rw [Zac (nNo e1 ht)];exact e1
    have u6:H6 lu=some (.lst us):=d6.keep _ _ (Ne.symm plu) g.u
    have o6:H6 lo=some (.lst (Zdm os)):=d6.keep _ _ (Ne.symm plo) g.o
    refine ⟨lu,us,_,rfl,rfl,keepDt _ _ u6,Za7 (by omega),?_⟩
    obtain ⟨o7,hp7,ho7⟩:=d6.pot
    refine ⟨_,rfl,.inl ⟨rfl,_,SqL.of (by rw [Zac lou];exact keepDt _ _ o6)⟩,_,rfl,_,rfl,_,_,rfl,rfl,p,_,o7,rfl,(by rw [Zac plu];exact keepDt _ _ hp7),ho7,by omega,by omega,fun at_ o8 ha0 ha1 ho8=>?_⟩
    refine ⟨_,rfl,lo,Zdm os,at_,_,rfl,rfl,(by rw [Zac (Ne.symm plo),Zac lou];exact keepDt _ _ o6),ha0,(by unfold Zdm;rw [List.length_map,g.ol];omega),Za7 (by unfold Zdm;rw [List.length_map,g.ol];omega),?_⟩
    have tlu:t≠lu:=fun z=>by rw [z] at ht;rw [keepD_of hD u6] at ht;cases ht
    have tlo:t≠lo:=fun z=>by rw [z] at ht;rw [keepD_of hD o6] at ht;cases ht
    have tp:t≠p:=fun z=>by rw [z] at ht;rw [keepD_of hD hp7] at ht;cases ht
    have all:∀ b o,b≠p→b≠lu→b≠lo→H6 b=some o→(upd (upd (upd (upd (upd H6 D (.lst ((js.map fun i=>ws.getD i "").map V.str))) t (.tup ((js.map fun i=>ws.getD i "").map V.str))) lu (.lst (us++[.ref t]))) p o8) lo (.lst ((Zdm os).take at_.toNat++V.int (0 + (i:Int)):: (Zdm os).drop at_.toNat))) b=some o:=fun b o h1 h2 h3 e=>by
     rw [Zac h3,Zac h1,Zac h2];exact keepDt _ _ e
    have tt:(upd (upd (upd (upd (upd H6 D (.lst ((js.map fun i=>ws.getD i "").map V.str))) t (.tup ((js.map fun i=>ws.getD i "").map V.str))) lu (.lst (us++[.ref t]))) p o8) lo (.lst ((Zdm os).take at_.toNat++V.int (0 + (i:Int)):: (Zdm os).drop at_.toNat))) t=some (.tup ((js.map fun i=>ws.getD i "").map V.str)):=by
     rw [Zac tlo,Zac tp,Zac tlu];exact uS
    have tups:∀ b xs,H' b=some (.tup xs)→(upd (upd (upd (upd (upd H6 D (.lst ((js.map fun i=>ws.getD i "").map V.str))) t (.tup ((js.map fun i=>ws.getD i "").map V.str))) lu (.lst (us++[.ref t]))) p o8) lo (.lst ((Zdm os).take at_.toNat++V.int (0 + (i:Int)):: (Zdm os).drop at_.toNat))) b=some (.tup xs):=fun b xs e=>by
     obtain ⟨oP,hP,r,b',eP,_⟩:=g.d.pot
     have bp:b≠p:=fun z=>by rw [z,hP,eP] at e;cases e
     have bu:b≠lu:=fun z=>by rw [z,g.u] at e;cases e
     have bo:b≠lo:=fun z=>by rw [z,g.o] at e;cases e
     exact all b _ bp bu bo (d6.keep b _ bp e)
    refine ⟨os.take at_.toNat++i :: os.drop at_.toNat,uf++[js],us++[.ref t],_,rfl,?_⟩
    refine ⟨⟨fun b o hb e=>?_,?_⟩,?_,?_,?_,?_,by rw [List.length_append,g.ul];rfl,?_,?_,?_,?_⟩
    ·have e6:=(g.d.trans d6).keep b o hb e
     exact all b o hb (fun z=>by rw [z,hluH] at e;cases e) (fun z=>by rw [z,hloH] at e;cases e) e6
    ·exact ⟨o8,by rw [Zac plo];exact uS,ho8⟩
    ·exact all lw _ (Ne.symm pw) lwu lwo w6
    ·rw [uS]
     unfold Zdm
     rw [List.map_append,List.map_cons,List.map_take,List.map_drop,Int.zero_add]
    ·rw [Zac (Ne.symm lou),Zac (Ne.symm plu)];exact uS
    ·exact Paired.snoc (Paired.mapP g.pu fun a b z=>z.mono tups) ⟨t,rfl,tt⟩
    ·intro k js' hk
     by_cases hki:k<uf.length
     ·rw [List.getElem?_append_left hki] at hk
      exact g.uok k js' hk
     ·rw [List.getElem?_append_right (by omega)] at hk
      have hk0:k - uf.length=0:=by
       have:=(List.getElem?_eq_some_iff.mp hk).1
       simp at this
       omega
      rw [hk0] at hk
      have e:js=js':=by simpa using hk
      have e2:k=i:=by have:=g.ul;omega
      rw [← e,e2]
      exact uok
    ·have hperm:(os.take at_.toNat++i :: os.drop at_.toNat).Perm (i :: os):=by
      refine List.perm_middle.trans ?_
      rw [List.take_append_drop]
     exact hperm.nodup_iff.mpr (List.nodup_cons.mpr ⟨fun z=>by have:=(g.om i).mp z;omega,g.on⟩)
    ·intro j
     have hperm:(os.take at_.toNat++i :: os.drop at_.toNat).Perm (i :: os):=by
      refine List.perm_middle.trans ?_
      rw [List.take_append_drop]
     rw [hperm.mem_iff,List.mem_cons,g.om]
     omega
    ·have hperm:(os.take at_.toNat++i :: os.drop at_.toNat).Perm (i :: os):=by
      refine List.perm_middle.trans ?_
      rw [List.take_append_drop]
     rw [hperm.length_eq,List.length_cons,g.ol]
  ·rintro σ H' ⟨os,uf,us,kv,rfl,g⟩
   rw [Zat] at g
   refine ⟨fun σ' H2=>∃ (lo':Addr) (os':List Nat) (kv:Option V),σ'=[some (.ref p),some (.int most),some (.int (1 + v)),some (.ref lw),some (.int sh),some (.ref lo'),some (.ref lu),kv]∧Drawn p H H2∧H2 lw=some (.lst (ws.map V.str))∧H2 lo'=some (.lst (Zdm os')) ∧
    H2 lu=some (.lst us)∧Paired (UpV ws H2) uf us∧os'.Nodup∧(∀ j,j∈os'↔j<ws.length)∧os'.length=ws.length,?_,?_⟩
   ·obtain ⟨oP,hP,hoP⟩:=g.d.pot
    refine ⟨_,rfl,p,3,oP,rfl,hP,hoP,by decide,by decide,fun v3 o9 _ _ ho9=>⟨rfl,_,rfl,?_⟩⟩
    have d9:Drawn p H (upd H' p o9):=g.d.trans (Drawn.upd ho9)
    have t9:∀ b xs,H' b=some (.tup xs)→(upd H' p o9) b=some (.tup xs):=fun b xs e=>by
     obtain ⟨r,b',eP,_⟩:=hoP
     rw [Zac (fun z=>by rw [z,hP,eP] at e;cases e)];exact e
    refine Zdy (fun _=>?_) (fun _=>?_)
    ·refine ⟨_,rfl,(1:Int) + v,rfl,by omega,by omega,fun l hl=>?_⟩
     rw [hmn,intsV_range]
     have nn:∀ {b:Addr} {o:HO},(upd H' p o9) b=some o→(upd (upd H' p o9) l (.lst (Zdm (List.range ws.length)))) b=some o:=fun {b o} e=>by rw [Zac (nNo e hl)];exact e
     exact ⟨l,List.range ws.length,_,rfl,d9.new hl,nn (by rw [Zac (Ne.symm pw)];exact g.w),uS,nn (by rw [Zac (Ne.symm plu)];exact g.u),Paired.mapP g.pu fun a b z=>(z.mono t9).mono fun b xs e=>nn e,List.nodup_range,fun j=>List.mem_range,by simp⟩
    ·exact ⟨lo,os,_,rfl,d9,by rw [Zac (Ne.symm pw)];exact g.w,by rw [Zac (Ne.symm plo)];exact g.o,by rw [Zac (Ne.symm plu)];exact g.u,Paired.mapP g.pu fun a b z=>z.mono t9,g.on,g.om,g.ol⟩
   ·rintro σ' H2 ⟨lo',os',kv',rfl,dE,wE,oE,uE,pE,on,om,ol⟩
    refine ⟨_,rfl,lo',rfl,⟨_,SqL.of oE⟩,?_⟩
    refine comp_rel (Zce (xs:=Zdm os')) (sL (by unfold Zdm;rw [List.length_map];omega)) (fun _=>true)
     (fun D x v H=>∃ (j:Nat) (t u:Addr),x=.int (j:Int)∧v=.ref t∧t≠D∧u≠D∧H t=some (.tup [.str (ws.getD j ""),.ref u])∧H u=some (.tup (((uf.getD j []).map fun i=>ws.getD i "").map V.str))) ?_ ?_ ?_ ?_ ?_
    ·rintro D x v H H'' hk ⟨j,t,u,e1,e2,h1,h2,h3,h4⟩
     exact ⟨j,t,u,e1,e2,h1,h2,hk _ _ h1 h3,hk _ _ h2 h4⟩
    ·intro H3 hs
     exact hs.seq (SqL.of oE)
    ·intro x H3 R hs hx hR
     exact hR H3 (Zan.refl _)
    ·intro D x H3 R hs ⟨ys,hD⟩ hD0 hx _ hR
     obtain ⟨j,hj,rfl⟩:=List.mem_map.mp hx
     have hjl:j<ws.length:=(om j).mp hj
     have huj:uf[j]?=some (uf.getD j []):=by
      have:j<uf.length:=by rw [g.ul];exact hjl
      rw [List.getD_eq_getElem?_getD,List.getElem?_eq_getElem this]
      rfl
     obtain ⟨uv,hu1,t,rfl,hu2⟩:=paired_get pE huj
     have hu3:=hs _ _ hu2
     refine ⟨_,rfl,_,rfl,lw,_,_,_,rfl,rfl,SqL.of (hs _ _ wE),at_word hjl,_,rfl,_,rfl,lu,_,_,_,rfl,rfl,SqL.of (hs _ _ uE),Zdh hu1,sL (by show 2≤100000;decide),fun tn htn=>?_⟩
     have tD:tn≠D:=fun z=>by rw [z,hD] at htn;cases htn
     have uD:t≠D:=fun z=>by rw [z,hD] at hu3;cases hu3
     exact hR _ _ (fun b o e=>by rw [Zac (nNo e htn)];exact e) ⟨j,tn,t,rfl,rfl,tD,uD,uS,by rw [Zac (nNo hu3 htn)];exact hu3⟩
    ·intro D H3 ys hD hs hl hp
     rw [all_true] at hp
     have hDH:H D=none:=by
      cases e:H D with
      | none=>rfl
      | some o =>
       by_cases z:D=p
       ·obtain ⟨oP,hP,_⟩:=dE.pot
        rw [z,hP] at hD;cases hD
       ·rw [dE.keep D o z e] at hD;cases hD
     refine q D (Zdu ws uf os') H3 (dE.same hs) hDH ⟨ys,hl,?_⟩ (good_of (m:=ws.length) (by omega) (by omega) ok.word ok.nd rfl (fun k js h=>⟨(g.uok k js h).below,(g.uok k js h).nd,(g.uok k js h).few⟩) g.ul on om ol) (by unfold Zdu;rw [List.length_map];omega)
     exact paired_rows hp
end
end K23
namespace K23
open PySem L2 Md
def spIsWord:Sp:=fun vs H Q _=>∃ x:Str,vs=[.str x]∧x.length≤1000∧∀ H',Zan H H'→Q (.bl (Za2 x)) H'
def spCheckRows (K:PySem.W.Frag):Sp:=fun vs H Q _=>∃ (l:Addr) (rows:List (Str×List Str)),vs=[.ref l]∧RowsG K H l rows∧Zd7 rows∧∀ H',Zan H H'→Q .non H'
structure BookD (H:Hp) (d:Addr) (o:Obj) (rows:List (Str×List Str)) (kvs:List (Key×V)):Prop where
 at_:H d=some (.frz o (.dK kvs))
 ups:UpsD H rows kvs
theorem BookD.mono {H H':Hp}{d:Addr}{o:Obj}{rows:List (Str×List Str)}{kvs:List (Key×V)}(b:BookD H d o rows kvs) (s:Zan H H'):BookD H' d o rows kvs:=⟨s _ _ b.at_,b.ups.mono fun _ _ e=>s _ _ e⟩
def spCheckUps:Sp:=fun vs H Q _=>∃ (d:Addr) (o:Obj) (rows:List (Str×List Str)) (kvs:List (Key×V)),vs=[.ref d]∧BookD H d o rows kvs∧Zd7 rows∧∀ H',Zan H H'→Q .non H'
def foundV (us left:List Str):V:=match us.find? (fun x=>decide (x∈left)) with | some x=>.str x | none=>.non
def spFirst (K:PySem.W.Frag):Sp:=fun vs H Q _=>∃ (a b:Addr) (us left:List Str),vs=[.ref a,.ref b]∧SqT K H a (us.map V.str)∧SqL K H b (left.map V.str)∧Q (foundV us left) H
def spEndless:Sp:=fun vs H Q _=>∃ (d:Addr) (o:Obj) (rows:List (Str×List Str)) (kvs:List (Key×V)),vs=[.ref d]∧BookD H d o rows kvs∧Zd7 rows∧∀ l H',Zan H H'→H' l=some (.lst [])→Q (.ref l) H'
def spRing:Sp:=fun vs H Q _=>∃ (d:Addr) (o:Obj) (rows:List (Str×List Str)) (kvs:List (Key×V)),vs=[.ref d]∧BookD H d o rows kvs∧Zd7 rows∧∀ H',Zan H H'→Q .non H'
structure TxtK (mg:Str→Option Value):Prop where
 letters:∃ t,mg "LETTERS"=some (.str letters t)
 most:∃ t,mg "MOST_LETTERS"=some (.int 8 t)
 kinds:∃ t,mg "MOST_KINDS"=some (.int 24 t)
 ups:∃ t,mg "MOST_UPS"=some (.int 8 t)
 len:mg "len"=none
 all:mg "all"=none
 list:mg "list"=none
 tuple:mg "tuple"=none
section
variable {P:Program} {w:World} {K:PySem.W.Frag} {mg:Str→Option Value} {base:Heap}
theorem scW:Zap ["text"] ["text"] (Zab Zda):=⟨rfl,rfl,rfl,by decide +kernel,rfl,by decide +kernel,by decide +kernel⟩
theorem nd_sign:(["sign"]:List Str).Nodup:=by decide +kernel
theorem ok_isword {f:Addr}{fd:FuncData}(F:Def K mg "is_word" Zda ["text"] f fd) (T:TxtK mg):Za0 P w K mg base CX0 1 f fd ["text"] spIsWord:=by
 refine F.fn.ok scW (fun vs H Q E h=>?_) (fun cdv A outer s H vs Q E hr h=>?_)
 ·obtain ⟨x,rfl,_⟩:=h
  rfl
 ·obtain ⟨x,rfl,hx,k⟩:=h
  obtain ⟨t1,hl⟩:=T.letters
  obtain ⟨t2,hm⟩:=T.most
  refine ⟨_,pS (Za5 (Zd9 (pt_chain op_le op_le Zae (Zag Zdo (by rfl) T.len PySem.boot_len (pC (pv 0) Zaa)) (Zb4 (v:=.int 8) (by rfl) hm ⟨_,rfl⟩))) (Zad (Zar pe_bl)) Zai)
   (Zad (Zar (Zag (call_all rfl) (by rfl) T.all PyProof.Rows.boot_all (pC
    (Zb5 ["sign"] [] [] (fun _=>Zay (osc:=Zab Zda) (on:=["text"]) (by decide +kernel) rfl rfl rfl) (pi_str (pv 0)) (fun C s H fp=>Zaj (i:=0) nd_sign rfl (Or.inl rfl) (Or.inr rfl)) (fun C s H fp=>Zb2)
     (fun C s H fp=>Zes op_in_str (pv 0) (Zb4 (v:=.str letters) (by rfl) hl ⟨_,rfl⟩) (by with_unfolding_all rfl))) Zaa)))),?_⟩
  refine ⟨_,rfl,_,_,rfl,⟨sL (by omega),rfl⟩,_,_,rfl,rfl,_,rfl,?_⟩
  have no:¬ (1≤x.length∧x.length≤8)→Za2 x=false:=fun h=>by unfold Za2;rw [decide_eq_false h];rfl
  have same:Zan H H:=Zan.refl H
  refine Zdy (fun h1=>?_) (fun h1=>?_)
  ·have h1:(1:Int)≤(x.length:Int):=of_decide_eq_true h1
   refine ⟨_,_,rfl,rfl,_,rfl,?_⟩
   refine Zdy (fun h2=>?_) (fun h2=>?_)
   ·have h2:¬ ((x.length:Int)≤8):=by simpa using h2
    have q:=k H same
    rw [no (by omega)] at q
    exact q
   ·have h2:((x.length:Int)≤8):=by simpa using h2
    refine ⟨_,rfl,_,rfl,Zdx runs_str (by unfold signsV;rw [List.length_map,Zec];exact sL (by omega)) (fun _=>true) inLet (fun _ _ _=>trivial) ?_ ?_ ?_⟩
    ·intro D ys v R _ _ hR
     exact hR
    ·intro D ys v R _ hv _ hR
     obtain ⟨c,_,e⟩:=List.mem_map.mp hv
     subst e
     exact ⟨_,rfl,_,_,rfl,rfl,hR⟩
    ·intro D hD
     refine ⟨D,x.cps.toList.map isLow,rfl,SqL.of (by rw [← signs_low];exact uS),?_⟩
     have e:(x.cps.toList.map isLow).all id=Za2 x:=by
      unfold Za2
      rw [decide_eq_true (by omega),Bool.true_and,List.all_map]
      rfl
     have q:=k (upd H D (.lst (((signsV x).filter fun _=>true).map inLet))) fun b o hb=>by rw [Zac (nNo hb hD)];exact hb
     rw [← e] at q
     exact q
  ·have h1:¬ ((1:Int)≤(x.length:Int)):=fun z=>h1 (decide_eq_true z)
   refine ⟨_,rfl,?_⟩
   refine iteT ?_
   have q:=k H same
   rw [no (by omega)] at q
   exact q
theorem len_seq {b:Bool}{H:Hp}{a:Addr}{xs:List V}(h:SqB K b H a xs):LenV K (.ref a) H xs.length:=by
 cases b with
 | true=>exact .inl ⟨xs,h,rfl⟩
 | false=>exact .inr ⟨xs,h,rfl⟩
theorem scCR:Zap ["rows","seen","word","ups"] ["rows"] (Zab Zco):=⟨rfl,rfl,rfl,by decide +kernel,rfl,by decide +kernel,by decide +kernel⟩
theorem ok_check_rows {f fW:Addr}{fd fdW:FuncData}(F:Def K mg "check_rows" Zco ["rows"] f fd) (DW:Def K mg "is_word" Zda ["text"] fW fdW) (T:TxtK mg):Za0 P w K mg base CX0 2 f fd ["rows"] (spCheckRows K):=by
 have GW:Za0 P w K mg base CX0 1 fW fdW ["text"] spIsWord:=ok_isword DW T
 refine F.fn.ok scCR (fun vs H Q E h=>?_) (fun cdv A outer s H vs Q E hr h=>?_)
 ·obtain ⟨l,rows,rfl,_⟩:=h
  rfl
 ·obtain ⟨l,rows,rfl,⟨b,vs,hl,hp⟩,g,q⟩:=h
  obtain ⟨t1,hK⟩:=T.kinds
  obtain ⟨t2,hU⟩:=T.ups
  have nd:=scCR.nd
  have hu:=hu_of hr
  refine ⟨_,pS (Za5 (Zd9 (pt_chain op_le op_le Zae (Zag Zdo (by rfl) T.len PySem.boot_len (pC (pv 0) Zaa)) (Zb4 (v:=.int 24) (by rfl) hK ⟨_,rfl⟩))) Zb3 Zai)
   (pS (Zah (i:=1) nd rfl (Or.inl rfl) pe_dnewK)
   (Zad (Zdd PassesOwn.never rfl (pi_seq (pv 0)) (pg_tup rfl (gC (Zaj (i:=2) nd rfl (Or.inl rfl)) (gC (Zaj (i:=3) nd rfl (Or.inl rfl)) Zer)))
    (pS (Za5 (Zd9 (pt_val (Zaf DW GW hr (pC (pv 2) Zaa)))) Zb3 Zai)
    (pS (Za5 (pt_cmp (pc_din hu (pv 2) (pv 1))) Zb3 Zai)
    (pS (Za5 (Zal op_gt (Zag Zdo (by rfl) T.len PySem.boot_len (pC (pv 3) Zaa)) (Zb4 (v:=.int 8) (by rfl) hU ⟨_,rfl⟩) (Zaq _)) Zb3 Zai)
    (Zad (ps_dput hu (pv 1) (pv 2) pe_bl rfl)))))))),?_⟩
  have hvl:=hp.length
  have g1:=g.ne
  have g2:=g.le
  refine ⟨_,rfl,_,_,rfl,len_seq hl,_,_,rfl,rfl,_,rfl,?_⟩
  rw [show decide ((1:Int)≤(vs.length:Int))=true from decide_eq_true (by omega)]
  refine iteT ⟨_,_,rfl,rfl,_,rfl,?_⟩
  rw [show (decide ((vs.length:Int)≤24))=true from decide_eq_true (by omega)]
  refine iteF ?_
  intro d hd
  have s0:Zan H (upd H d (.dK [])):=fun b o e=>by rw [Zac (nNo e hd)];exact e
  refine ⟨_,rfl,b,l,vs,rfl,hl.mono s0,Zbs runs_seq (fun i σ H'=>∃ (kvs:List (Key×V)) (a c:Option V),σ=[some (.ref l),some (.ref d),a,c]∧Zan H H'∧H' d=some (.dK kvs)∧kvs.map (·.1)=(rows.take i).map fun r=>(Sum.inr r.1:Key))
   ⟨[],none,none,rfl,s0,uS,by simp⟩ (fun i σ H' _ ⟨_,_,_,_,s,_⟩=>hl.mono s) ?_ ?_⟩
  ·rintro i v σ H' hi ⟨kvs,a,c,rfl,s,hdk,hk⟩
   obtain ⟨r,hr',t,u,rfl,ht,hug⟩:=Zba hp hi
   obtain ⟨b',hu'⟩:=hug.sq
   have hmem:r∈rows:=List.mem_of_getElem? hr'
   have hw:=g.word r hmem
   have hwl:=word_len hw
   refine ⟨t,_,rfl,s.tup ht,rfl,_,_,rfl,_,_,rfl,rfl,?_⟩
   refine ⟨_,rfl,r.1,rfl,by omega,fun H2 s2=>⟨_,rfl,?_⟩⟩
   rw [hw]
   refine iteF ?_
   have hd2:H2 d=some (.dK kvs):=s2 _ _ hdk
   refine ⟨_,rfl,_,rfl,d,_,rfl,DGet.k (k:=Sum.inr r.1) hd2,_,rfl,?_⟩
   have hnew:(Sum.inr r.1:Key)∉kvs.map (·.1):=by rw [hk];exact taken_not g.nd hr'
   rw [Zcz hnew]
   refine iteF ?_
   refine ⟨_,rfl,_,_,rfl,len_seq (hu'.mono (s.trans s2)),_,_,rfl,rfl,_,rfl,?_⟩
   rw [show decide ((8:Int)<((r.2.map V.str).length:Int))=false from decide_eq_false (by rw [List.length_map];have:=g.few r hmem;omega)]
   refine iteF ?_
   have hkl:kvs.length=(rows.take i).length:=by have:=congrArg List.length hk;simpa using this
   have hil:(rows.take i).length≤24:=by rw [List.length_take];omega
   refine ⟨_,rfl,_,rfl,d,_,rfl,DPut.k (k:=Sum.inr r.1) hd2 (Za7 (by omega)),?_⟩
   refine ⟨_,_,_,rfl,fun b o e=>?_,uS,?_⟩
   ·rw [Zac (nNo e hd)];exact s2 _ _ (s _ _ e)
   ·rw [putK_keys hnew,hk,List.take_add_one,hr',List.map_append]
    rfl
  ·rintro σ H' ⟨kvs,a,c,rfl,s,hdk,hk⟩
   exact q H' s
theorem scCU:Zap ["ups_of","ups","seen","up"] ["ups_of"] (Zab Zc1):=⟨rfl,rfl,rfl,by decide +kernel,rfl,by decide +kernel,by decide +kernel⟩
theorem strs_at {us:List Str}{i:Nat}{v:V}(h:(us.map V.str)[i]?=some v):∃ x,us[i]?=some x∧v=.str x:=by
 rw [List.getElem?_map] at h
 obtain ⟨x,hx,e⟩:=Option.map_eq_some_iff.mp h
 exact ⟨x,hx,e.symm⟩
theorem taken_str {us:List Str}{i:Nat}{x:Str}(nd:us.Nodup) (h:us[i]?=some x):(Sum.inr x:Key)∉(us.take i).map fun y=>(Sum.inr y:Key):=by
 intro m
 obtain ⟨y,hy,e⟩:=List.mem_map.mp m
 have e:y=x:=by injection e
 subst e
 obtain ⟨j,hj,ej⟩:=List.mem_iff_getElem.mp hy
 rw [List.length_take] at hj
 rw [List.getElem_take] at ej
 have a:us[j]?=some y:=by rw [List.getElem?_eq_getElem (by omega),ej]
 have:=nodup_ix nd a h
 omega
theorem ok_check_ups {f:Addr}{fd:FuncData}(F:Def K mg "check_ups" Zc1 ["ups_of"] f fd):Za0 P w K mg base CX0 1 f fd ["ups_of"] spCheckUps:=by
 refine F.fn.ok scCU (fun vs H Q E h=>?_) (fun cdv A outer s H vs Q E hr h=>?_)
 ·obtain ⟨d,o,rows,kvs,rfl,_⟩:=h
  rfl
 ·obtain ⟨d,o,rows,kvs,rfl,bk,g,q⟩:=h
  have nd:=scCU.nd
  have hu:=hu_of hr
  refine ⟨_,Zad (Zdd PassesOwn.never rfl (pi_vals (pv 0)) (Zaj (i:=1) nd rfl (Or.inl rfl))
    (pS (Zah (i:=2) nd rfl (Or.inl rfl) pe_dnewK)
    (Zad (Zdd PassesOwn.never rfl (pi_tup (pv 1)) (Zaj (i:=3) nd rfl (Or.inl rfl))
     (pS (Za5 (pt_cmp (pc_dnotin hu (pv 3) (pv 0))) Zb3 Zai)
     (pS (Za5 (pt_cmp (pc_din hu (pv 3) (pv 2))) Zb3 Zai)
     (Zad (ps_dput hu (pv 2) (pv 3) pe_bl rfl)))))))),?_⟩
  refine ⟨_,rfl,d,o,kvs,rfl,bk.at_,Zbs runs_vals (fun i σ H'=>∃ (a b c:Option V),σ=[some (.ref d),a,b,c]∧Zan H H') ⟨none,none,none,rfl,Zan.refl H⟩ (fun i σ H' _ ⟨_,_,_,_,s⟩=>s _ _ bk.at_) ?_ ?_⟩
  ·rintro i v σ H' hi ⟨a,b,c,rfl,s⟩
   rw [List.getElem?_map] at hi
   obtain ⟨p,hp,e⟩:=Option.map_eq_some_iff.mp hi
   obtain ⟨r,hr',hk,t,ht,htup⟩:=Zba bk.ups hp
   have hmem:r∈rows:=List.mem_of_getElem? hr'
   subst e
   show gName 1 p.2 _ _ _
   rw [ht]
   intro sd hsd
   have s1:Zan H (upd H' sd (.dK [])):=fun b o e=>by rw [Zac (nNo (s _ _ e) hsd)];exact s _ _ e
   have t1:(upd H' sd (.dK [])) t=some (.tup (r.2.map V.str)):=s1 _ _ htup
   refine ⟨_,rfl,t,rfl,⟨_,SqT.of t1⟩,Zbs (Zd8 (xs:=r.2.map V.str)) (fun j σ H2=>∃ (kvs':List (Key×V)) (c:Option V),σ=[some (.ref d),some (.ref t),some (.ref sd),c]∧Zan H H2∧H2 sd=some (.dK kvs')∧kvs'.map (·.1)=(r.2.take j).map fun y=>(Sum.inr y:Key))
    ⟨[],_,rfl,s1,uS,by simp⟩ (fun j σ H2 _ ⟨_,_,_,s,_⟩=>SqT.of (s _ _ htup)) ?_ ?_⟩
   ·rintro j v σ H2 hj ⟨kvs',c,rfl,s2,hsd2,hk'⟩
    obtain ⟨x,hx,rfl⟩:=strs_at hj
    have xm:x∈r.2:=List.mem_of_getElem? hx
    have known:=g.known r hmem x xm
    refine ⟨_,rfl,_,rfl,d,_,rfl,DGet.f (k:=Sum.inr x) (s2 _ _ bk.at_),_,rfl,?_⟩
    obtain ⟨r2,hr2,er2⟩:=List.mem_map.mp known
    obtain ⟨t2,hv2,_⟩:=bk.ups.val g.nd hr2
    rw [← er2,hv2,er2]
    refine iteF ?_
    have hnew:(Sum.inr x:Key)∉kvs'.map (·.1):=by rw [hk'];exact taken_str (g.upnd r hmem) hx
    refine ⟨_,rfl,_,rfl,sd,_,rfl,DGet.k (k:=Sum.inr x) hsd2,_,rfl,?_⟩
    rw [Zcz hnew]
    refine iteF ?_
    have hkl:kvs'.length=(r.2.take j).length:=by have:=congrArg List.length hk';simpa using this
    have hjl:(r.2.take j).length≤8:=by rw [List.length_take];have:=g.few r hmem;omega
    have hsH:H sd=none:=s.free hsd
    refine ⟨_,rfl,_,rfl,sd,_,rfl,DPut.k (k:=Sum.inr x) hsd2 (Za7 (by omega)),_,_,rfl,fun b o e=>?_,uS,?_⟩
    ·rw [Zac (nNo e hsH)];exact s2 _ _ e
    ·rw [putK_keys hnew,hk',List.take_add_one,hx,List.map_append]
     rfl
   ·rintro σ H2 ⟨kvs',c,rfl,s2,hsd2,hk'⟩
    exact ⟨_,_,_,rfl,s2⟩
  ·rintro σ H' ⟨a,b,c,rfl,s⟩
   exact q H' s
theorem scFA:Zap ["words","others","word"] ["words","others"] (Zab Zbd):=⟨rfl,rfl,rfl,by decide +kernel,rfl,by decide +kernel,by decide +kernel⟩
theorem ok_first {f:Addr}{fd:FuncData}(F:Def K mg "first_among" Zbd ["words","others"] f fd):Za0 P w K mg base CX0 1 f fd ["words","others"] (spFirst K):=by
 refine F.fn.ok scFA (fun vs H Q E h=>?_) (fun cdv A outer s H vs Q E hr h=>?_)
 ·obtain ⟨a,b,us,left,rfl,_⟩:=h
  rfl
 ·obtain ⟨a,b,us,left,rfl,ha,hb,q⟩:=h
  have nd:=scFA.nd
  refine ⟨_,pS (Zdd PassesOwn.never rfl (pi_tup (pv 0)) (Zaj (i:=2) nd rfl (Or.inl rfl)) (Zad (Za5 (Zal op_in_seq (pv 2) (pv 1) (by with_unfolding_all rfl)) (Zad (Zar (pv 2))) Zai)))
   (Zad (Zar pe_non)),?_⟩
  refine ⟨_,rfl,a,rfl,⟨_,ha⟩,Zbs (Zd8 (xs:=us.map V.str)) (fun i σ H'=>H'=H∧(∃ c:Option V,σ=[some (.ref a),some (.ref b),c])∧(us.take i).find? (fun x=>decide (x∈left))=none) ⟨rfl,⟨none,rfl⟩,by simp⟩ (fun i σ H' _ ⟨e,_⟩=>by rw [e];exact ha) ?_ ?_⟩
  ·rintro i v σ H' hi ⟨rfl,⟨c,rfl⟩,hf⟩
   obtain ⟨x,hx,rfl⟩:=strs_at hi
   refine ⟨_,rfl,_,rfl,b,_,rfl,.inl hb,rfl,flat_strs left,_,rfl,?_⟩
   show if inV (.str x) (left.map V.str)=true then _ else _
   rw [in_strs]
   have split:us=us.take i++x :: us.drop (i + 1):=by
    have hlt:=(List.getElem?_eq_some_iff.mp hx).1
    have e:us[i]=x:=(List.getElem?_eq_some_iff.mp hx).2
    rw [← e,List.getElem_cons_drop hlt,List.take_append_drop]
   refine Zdy (fun h=>?_) (fun h=>?_)
   ·have fv:foundV us left=.str x:=by
     unfold foundV
     rw [split,List.find?_append,hf,List.find?_cons]
     simp only [h]
     rfl
    rw [fv] at q
    exact ⟨_,rfl,q⟩
   ·refine ⟨rfl,⟨_,rfl⟩,?_⟩
    rw [List.take_add_one,hx,List.find?_append,hf]
    have h':decide (x∈left)=false:=by simpa using h
    simp [h']
  ·rintro σ H' ⟨rfl,⟨c,rfl⟩,hf⟩
   rw [List.length_map,List.take_length] at hf
   have fv:foundV us left=.non:=by unfold foundV;rw [hf]
   rw [fv] at q
   exact q
end
end K23
namespace K23
open PySem L2 Md
def keptV (rows:List (Str×List Str)) (ls:List Str):V→Bool
 | .str x=>(Zb8 rows x).any fun u=>decide (u∈ls)
 | _=>false
theorem kept_map (rows:List (Str×List Str)) (ls:List Str):((ls.map V.str).filter (keptV rows ls)).map (fun v=>v)=(Graph.kept (Zb8 rows) ls).map V.str:=by
 rw [List.map_id',List.filter_map]
 rfl
theorem found_is (us ls:List Str):(!decide (foundV us ls=V.non))=us.any fun u=>decide (u∈ls):=by
 unfold foundV
 cases e:us.find? fun x=>decide (x∈ls) with
 | none =>
  have:∀ x∈us,¬ decide (x∈ls)=true:=List.find?_eq_none.mp e
  rw [Bool.eq_iff_iff]
  constructor
  ·intro h;simp at h
  ·intro h
   obtain ⟨x,hx,h1⟩:=List.any_eq_true.mp h
   exact absurd h1 (this x hx)
 | some x =>
  have h1:=List.find?_some e
  have h2:=List.mem_of_find?_eq_some e
  rw [Bool.eq_iff_iff]
  constructor
  ·intro _;exact List.any_eq_true.mpr ⟨x,h2,h1⟩
  ·intro _;rfl
section
variable {P:Program} {w:World} {K:PySem.W.Frag} {mg:Str→Option Value} {base:Heap}
abbrev nEnd:List Str:=["ups_of","left","kept"]
theorem scE:Zap nEnd ["ups_of"] (Zab Zdb):=⟨rfl,rfl,rfl,by decide +kernel,rfl,by decide +kernel,by decide +kernel⟩
theorem nd_wul:(["word","ups_of","left"]:List Str).Nodup:=by decide +kernel
theorem Zc5 {rows:List (Str×List Str)}{x:Str}(h:x∈rows.map (·.1)):∃ r∈rows,r.1=x:=by
 obtain ⟨r,hr,e⟩:=List.mem_map.mp h
 exact ⟨r,hr,e⟩
theorem ok_endless {f fF:Addr}{fd fdF:FuncData}(F:Def K mg "endless" Zdb ["ups_of"] f fd) (DF:Def K mg "first_among" Zbd ["words","others"] fF fdF) (T:TxtK mg):Za0 P w K mg base CX0 2 f fd ["ups_of"] spEndless:=by
 have GF:Za0 P w K mg base CX0 1 fF fdF ["words","others"] (spFirst K):=ok_first DF
 refine F.fn.ok scE (fun vs H Q E h=>?_) (fun cdv A outer s H vs Q E hr h=>?_)
 ·obtain ⟨d,o,rows,kvs,rfl,_⟩:=h
  rfl
 ·obtain ⟨d,o,rows,kvs,rfl,bk,g,q⟩:=h
  have nd:=scE.nd
  have hu:=hu_of hr
  refine ⟨_,pS (Zah (i:=1) nd rfl (Or.inr rfl) (Za9 (call_list_keys rfl) (by rfl) T.list PyProof.Rows.boot_list (pC (pv 0) Zaa)))
   (Zad (ps_while PassesOwn.never (pt_val pe_bl)
    (pS (Zeh (k:=2) ["word"] ["ups_of","left"] [0,1] nd rfl rfl (fun _=>Zay (osc:=Zab Zdb) (on:=nEnd) (by decide +kernel) rfl rfl rfl) (Zcw (pv 1)) (fun C s H fp=>Zaj (i:=0) nd_wul rfl (Or.inl rfl) (Or.inr rfl))
     (fun C s H fp=>pts_one (pt_cmp (pc_notN (Zaf DF GF hr (pC (Zed hu (pv 1) (pv 0) (fun _ _=>rfl)) (pC (pv 2) Zaa)))))) (fun C s H fp=>pv 0))
    (pS (Za5 (Zal Zc7 (Zag Zdo (by rfl) T.len PySem.boot_len (pC (pv 2) Zaa)) (Zag Zdo (by rfl) T.len PySem.boot_len (pC (pv 1) Zaa)) (Zaq _)) (Zad (Zar (pv 2))) Zai)
    (Zad (Zah (i:=1) nd rfl (Or.inr rfl) (pv 2))))))),?_⟩
  have wl:(rows.map (·.1)).length≤24:=by rw [List.length_map];exact g.le
  refine ⟨_,rfl,d,kvs,rfl,.inr ⟨o,bk.at_⟩,fun l0 hl0=>?_⟩
  refine ⟨fun m σ H'=>∃ (ll:Addr) (ls:List Str) (c:Option V),σ=[some (.ref d),some (.ref ll),c]∧Zan H H'∧H' ll=some (.lst (ls.map V.str))∧(∀ x∈ls,x∈rows.map (·.1))∧ls.length≤24∧m=ls.length,
   ⟨_,l0,rows.map (·.1),none,rfl,fun b o e=>by rw [Zac (nNo e hl0)];exact e,by rw [uS,keysV bk.ups],fun x h=>h,wl,rfl⟩,?_⟩
  rintro m σ H' ⟨ll,ls,c,rfl,s1,hll,hsub,h24,rfl⟩
  refine ⟨true,rfl,?_⟩
  refine iteT ⟨fun σ' H2=>∃ m',m'<ls.length∧∃ (ll:Addr) (ls:List Str) (c:Option V),σ'=[some (.ref d),some (.ref ll),c]∧Zan H H2∧H2 ll=some (.lst (ls.map V.str))∧(∀ x∈ls,x∈rows.map (·.1))∧ls.length≤24∧m'=ls.length,fun _ _ h=>h,?_⟩
  refine ⟨_,rfl,ll,rfl,⟨_,SqL.of hll⟩,Zdx (Zce (xs:=ls.map V.str)) (sL (by rw [List.length_map];omega)) (keptV rows ls) (fun v=>v) (fun D ys hD=>SqL.of (by rw [Zac (nNo hll hD)];exact hll)) ?_ ?_ ?_⟩
  ·intro D ys v R hD hv hR
   obtain ⟨x,hx,rfl⟩:=List.mem_map.mp hv
   obtain ⟨r,hr',rfl⟩:=Zc5 (hsub x hx)
   obtain ⟨t,hvt,ht⟩:=bk.ups.val g.nd hr'
   have kp:∀ b o,H b=some o→(upd H' D (.lst ys)) b=some o:=fun b o e=>by rw [Zac (nNo (s1 _ _ e) hD)];exact s1 _ _ e
   refine ⟨_,rfl,_,rfl,d,_,rfl,(by rw [← hvt];exact DGet.f (k:=Sum.inr r.1) (kp _ _ bk.at_)),_,rfl,t,ll,r.2,ls,rfl,SqT.of (kp _ _ ht),SqL.of (by rw [Zac (nNo hll hD)];exact hll),_,rfl,?_⟩
   have e:(!decide (foundV r.2 ls=V.non))=keptV rows ls (V.str r.1):=by
    rw [found_is]
    show _=(Zb8 rows r.1).any _
    rw [upsOf_at g.nd hr']
   rw [e]
   exact hR
  ·intro D ys v R hD hv _ hR
   exact ⟨_,rfl,hR⟩
  ·intro D hD
   rw [kept_map]
   have hDl:(upd H' D (.lst ((Graph.kept (Zb8 rows) ls).map V.str))) ll=some (.lst (ls.map V.str)):=by rw [Zac (nNo hll hD)];exact hll
   have s2:Zan H (upd H' D (.lst ((Graph.kept (Zb8 rows) ls).map V.str))):=fun b o e=>by rw [Zac (nNo (s1 _ _ e) hD)];exact s1 _ _ e
   refine ⟨_,rfl,_,_,rfl,.inl ⟨_,SqL.of uS,rfl⟩,_,rfl,_,_,rfl,.inl ⟨_,SqL.of hDl,rfl⟩,rfl,_,rfl,?_⟩
   have kle:=Graph.kept_le (Zb8 rows) ls
   refine Zdy (fun h=>?_) (fun h=>?_)
   ·have h:(Graph.kept (Zb8 rows) ls).length=ls.length:=by
     have:=of_decide_eq_true h
     injection this with this
     rw [List.length_map,List.length_map] at this
     omega
    obtain ⟨rk,hrk⟩:=g.rank
    have nil:ls=[]:=Graph.kept_nil (rk:=rk) (fun a ha b hb=>by
     obtain ⟨r,hr',rfl⟩:=Zc5 (hsub a ha)
     rw [upsOf_at g.nd hr'] at hb
     exact hrk r hr' b hb) h
    have kn:Graph.kept (Zb8 rows) ls=[]:=by rw [nil];rfl
    refine ⟨_,rfl,q D _ s2 ?_⟩
    rw [uS,kn]
    rfl
   ·have h:(Graph.kept (Zb8 rows) ls).length≠ls.length:=fun z=>h (decide_eq_true (by rw [List.length_map,List.length_map,z]))
    exact ⟨_,rfl,_,by omega,D,_,_,rfl,s2,uS,fun x hx=>hsub x (Graph.kept_sub hx),by omega,rfl⟩
theorem scR:Zap ["ups_of","left","way","here"] ["ups_of"] (Zab Zc0):=⟨rfl,rfl,rfl,by decide +kernel,rfl,by decide +kernel,by decide +kernel⟩
theorem ok_ring {f fE fF:Addr}{fd fdE fdF:FuncData}(F:Def K mg "find_ring" Zc0 ["ups_of"] f fd) (DE:Def K mg "endless" Zdb ["ups_of"] fE fdE) (DF:Def K mg "first_among" Zbd ["words","others"] fF fdF) (T:TxtK mg):Za0 P w K mg base CX0 3 f fd ["ups_of"] spRing:=by
 have GE:Za0 P w K mg base CX0 2 fE fdE ["ups_of"] spEndless:=ok_endless DE DF T
 refine F.fn.ok scR (fun vs H Q E h=>?_) (fun cdv A outer s H vs Q E hr h=>?_)
 ·obtain ⟨d,o,rows,kvs,rfl,_⟩:=h
  rfl
 ·obtain ⟨d,o,rows,kvs,rfl,bk,g,q⟩:=h
  have nd:=scR.nd
  refine ⟨_,pS (Zah (i:=1) nd rfl (Or.inl rfl) (Zaf DE GE hr (pC (pv 0) Zaa)))
   (pS (Za5 (Zd9 (pt_truth (pv 1) (fun _=>rfl))) (Zad (Zar pe_non)) Zai) Zb3),?_⟩
  refine ⟨_,rfl,d,o,rows,kvs,rfl,bk,g,fun l H' s1 hl=>?_⟩
  exact ⟨_,rfl,false,.inl ⟨[],SqL.of hl,rfl⟩,iteT (q H' s1)⟩
def inK (x:Str):Key:=Sum.inr x
def spAbove:Sp:=fun vs H Q _=>∃ (d:Addr) (o:Obj) (rows:List (Str×List Str)) (kvs:List (Key×V)) (x:Str),vs=[.ref d,.str x]∧BookD H d o rows kvs∧Zd7 rows∧x∈rows.map (·.1) ∧
 ∀ a o' fk H',H a=none→Zan H H'→H' a=some (.frz o' (.dK fk))→(∀ y,(Sum.inr y:Key)∈fk.map (·.1)↔Graph.Reach (Zb8 rows) x y)→Q (.ref a) H'
structure Going (rows:List (Str×List Str)) (x:Str) (fs ws:List Str):Prop where
 start:x∈fs
 sub:∀ y∈ws,y∈fs
 known:∀ y∈fs,y∈rows.map (·.1)
 nd:fs.Nodup
 reach:∀ y∈fs,Graph.Reach (Zb8 rows) x y
 closed:∀ y∈fs,y∉ws→∀ u∈Zb8 rows y,u∈fs
 few:ws.length≤fs.length
theorem scA:Zap ["ups_of","word","found","waiting","here","up"] ["ups_of","word"] (Zab Zc2):=⟨rfl,rfl,rfl,by decide +kernel,rfl,by decide +kernel,by decide +kernel⟩
theorem keys_strs {fk:List (Key×V)}{fs:List Str}(h:fk.map (·.1)=fs.map inK) (y:Str):(Sum.inr y:Key)∈fk.map (·.1)↔y∈fs:=by
 rw [h]
 constructor
 ·intro m
  obtain ⟨z,hz,e⟩:=List.mem_map.mp m
  have e:z=y:=by
   unfold inK at e
   injection e
  rw [← e];exact hz
 ·intro m
  exact List.mem_map.mpr ⟨y,m,rfl⟩
theorem Zeo {fk:List (Key×V)}{k:Key}(h:k∈fk.map (·.1)):(valV fk k).isSome=true:=by
 cases e:valV fk k with
 | none=>exact absurd h (valV_not e)
 | some v=>rfl
theorem ok_above {f:Addr}{fd:FuncData}(F:Def K mg "all_above" Zc2 ["ups_of","word"] f fd):Za0 P w K mg base CX0 1 f fd ["ups_of","word"] spAbove:=by
 refine F.fn.ok scA (fun vs H Q E h=>?_) (fun cdv A outer s H vs Q E hr h=>?_)
 ·obtain ⟨d,o,rows,kvs,x,rfl,_⟩:=h
  rfl
 ·obtain ⟨d,o,rows,kvs,x,rfl,bk,g,hx,q⟩:=h
  have nd:=scA.nd
  have hu:=hu_of hr
  refine ⟨_,pS (Zah (i:=2) nd rfl (Or.inl rfl) (pe_disp (pps_cons (pv 1) pe_bl pps_nil) rfl rfl (by simp) (by show 1≤15;decide)))
   (pS (Zah (i:=3) nd rfl (Or.inl rfl) (Zcx (pC (pv 1) Zaa)))
   (pS (ps_while PassesOwn.never (pt_truth (pv 3) (fun _=>rfl))
    (pS (Zah (i:=4) nd rfl (Or.inl rfl) (pe_bm0 PySem.F.plainAttrs_list PySem.F.slot_list_pop PySem.F.type_list_pop mt_pop (pv 3)))
    (Zad (Zdd PassesOwn.never rfl (pi_tup (Zed hu (pv 0) (pv 4) (fun _ _=>rfl))) (Zaj (i:=5) nd rfl (Or.inl rfl))
     (Zad (Za5 (pt_cmp (pc_dnotin hu (pv 5) (pv 2))) (pS (ps_dput hu (pv 2) (pv 5) pe_bl rfl)
      (Zad (Zbg (pe_bm PySem.F.plainAttrs_list PySem.F.slot_list_append PySem.F.type_list_append Zde (pv 3) (pC (pv 5) Zaa))))) Zai))))))
   (pss_frz (Zad (Zar (pv 2)))))),?_⟩
  intro fa hfa
  refine ⟨_,rfl,uS,[(Sum.inr x,.bl true)],rfl,(by show 1≤15;decide),?_⟩
  rw [upd_upd]
  refine ⟨_,rfl,sL (by show 1≤100000;decide),fun wa hwa=>?_⟩
  have fw:fa≠wa:=nNo uS hwa
  have hwaH:H wa=none:=by
   cases e:H wa with
   | none=>rfl
   | some u=>rw [Zac (Ne.symm fw),e] at hwa;cases hwa
  have bound:∀ {fs ws:List Str},Going rows x fs ws→fs.length≤rows.length:=fun {fs ws} h=>by
   have:=Graph.nodup_le h.nd h.known
   rwa [List.length_map] at this
  have gle:=g.le
  refine ⟨fun m σ H'=>∃ (fs ws:List Str) (fk:List (Key×V)) (a b:Option V),σ=[some (.ref d),some (.str x),some (.ref fa),some (.ref wa),a,b]∧Zan H H'∧H' fa=some (.dK fk)∧fk.map (·.1)=fs.map inK∧H' wa=some (.lst (ws.map V.str))∧Going rows x fs ws∧m + 2 * fs.length=2 * rows.length + ws.length,
   ⟨2 * rows.length - 1,[x],[x],[(Sum.inr x,.bl true)],none,none,rfl,fun b o e=>by rw [Zac (nNo e hwaH),Zac (nNo e hfa)];exact e,by rw [Zac fw];exact uS,rfl,uS,
    ⟨by simp,fun y h=>h,fun y h=>by rw [List.mem_singleton.mp h];exact hx,by simp,fun y h=>by rw [List.mem_singleton.mp h];exact .refl x,fun y h n=>absurd h n,Nat.le_refl _⟩,by have:=g.ne;simp;omega⟩,?_⟩
  rintro m σ H' ⟨fs,ws,fk,a,b,rfl,s1,hf,hk,hw,go,hm⟩
  have flen:=bound go
  refine ⟨_,rfl,_,.inl ⟨_,SqL.of hw,rfl⟩,?_⟩
  refine Zdy (fun hne=>?_) (fun hne=>?_)
  ·-- here=waiting.pop()
   have wne:ws≠[]:=by
    intro z
    rw [z] at hne
    cases hne
   have hpos:0<ws.length:=List.length_pos_iff.mpr wne
   have split:ws=ws.dropLast++[ws.getLast wne]:=(List.dropLast_concat_getLast wne).symm
   generalize hhere:ws.getLast wne=here at split
   have hmem:here∈ws:=by rw [split];simp
   have hfs:here∈fs:=go.sub here hmem
   obtain ⟨r,hr',er⟩:=Zc5 (go.known here hfs)
   obtain ⟨t,hvt,ht⟩:=bk.ups.val g.nd hr'
   have last:(ws.map V.str)[(ws.map V.str).length - 1]?=some (V.str here):=by
    rw [List.getElem?_map,List.length_map]
    have:ws[ws.length - 1]?=some here:=by
     rw [← hhere,List.getLast_eq_getElem,List.getElem?_eq_getElem (by omega)]
    rw [this]
    rfl
   refine ⟨fun σ' H2=>∃ m',m'<m∧∃ (fs ws:List Str) (fk:List (Key×V)) (a b:Option V),σ'=[some (.ref d),some (.str x),some (.ref fa),some (.ref wa),a,b]∧Zan H H2∧H2 fa=some (.dK fk)∧fk.map (·.1)=fs.map inK∧H2 wa=some (.lst (ws.map V.str))∧Going rows x fs ws∧m' + 2 * fs.length=2 * rows.length + ws.length,fun _ _ h=>h,?_⟩
   refine ⟨_,rfl,.inl ⟨rfl,_,SqL.of hw⟩,wa,_,_,rfl,rfl,hw,last,?_⟩
   have s2:Zan H (upd H' wa (.lst (ws.map V.str).dropLast)):=fun b o e=>by rw [Zac (nNo e hwaH)];exact s1 _ _ e
   refine ⟨_,rfl,_,rfl,d,_,rfl,(by rw [← hvt,er];exact DGet.f (k:=Sum.inr here) (s2 _ _ bk.at_)),t,rfl,⟨_,SqT.of (s2 _ _ ht)⟩,?_⟩
   have uo:Zb8 rows here=r.2:=by rw [← er];exact upsOf_at g.nd hr'
   refine Zbs (Zd8 (xs:=r.2.map V.str)) (fun j σ H2=>∃ (fs' ws':List Str) (fk':List (Key×V)) (b:Option V),σ=[some (.ref d),some (.str x),some (.ref fa),some (.ref wa),some (.str here),b]∧Zan H H2∧H2 fa=some (.dK fk')∧fk'.map (·.1)=fs'.map inK∧H2 wa=some (.lst (ws'.map V.str)) ∧
    (∀ y∈fs,y∈fs')∧(∀ y∈ws.dropLast,y∈ws')∧(∀ y∈ws',y∈fs')∧(∀ y∈fs',y∈rows.map (·.1))∧fs'.Nodup∧(∀ y∈fs',Graph.Reach (Zb8 rows) x y)∧(∀ y∈fs',y∈fs∨y∈ws')∧(∀ u∈r.2.take j,u∈fs')∧ws'.length + 2 * fs.length + fs'.length≤ws.dropLast.length + 2 * fs'.length + fs.length)
    ⟨fs,ws.dropLast,fk,_,rfl,s2,by rw [Zac fw];exact hf,hk,by rw [uS,List.map_dropLast],fun y h=>h,fun y h=>h,fun y h=>go.sub y ((List.dropLast_sublist ws).subset h),go.known,go.nd,go.reach,fun y h=>.inl h,fun u h=>by simp at h,by omega⟩ (fun j σ H2 _ ⟨_,_,_,_,_,s,_⟩=>SqT.of (s _ _ ht)) ?_ ?_
   ·rintro j v σ H2 hj ⟨fs',ws',fk',b,rfl,s3,hf3,hk3,hw3,c1,c2,c3,c4,c5,c6,c7,c8,c9⟩
    obtain ⟨u,hu',rfl⟩:=strs_at hj
    have um:u∈r.2:=List.mem_of_getElem? hu'
    have fl3:fs'.length≤rows.length:=by
     have:=Graph.nodup_le c5 c4
     rwa [List.length_map] at this
    have kl:fk'.length=fs'.length:=by have:=congrArg List.length hk3;simpa using this
    refine ⟨_,rfl,_,rfl,fa,_,rfl,DGet.k (k:=Sum.inr u) hf3,_,rfl,?_⟩
    have dl:ws.dropLast.length=ws.length - 1:=List.length_dropLast
    have gf:=go.few
    by_cases nin:u∉fs'
    ·have nk:(Sum.inr u:Key)∉fk'.map (·.1):=fun z=>nin ((keys_strs hk3 u).mp z)
     have wl3:ws'.length≤rows.length * 3:=by omega
     rw [Zcz nk]
     refine iteT ?_
     refine ⟨_,rfl,_,rfl,fa,_,rfl,DPut.k (k:=Sum.inr u) hf3 (Za7 (by omega)),?_⟩
     have hw4:(upd H2 fa (.dK (putK fk' (Sum.inr u) (.bl true)))) wa=some (.lst (ws'.map V.str)):=by rw [Zac (Ne.symm fw)];exact hw3
     refine ⟨_,rfl,.inl ⟨rfl,_,SqL.of hw4⟩,_,rfl,wa,_,_,rfl,rfl,hw4,Za7 (by rw [List.length_map];omega),?_⟩
     refine ⟨fs'++[u],ws'++[u],putK fk' (Sum.inr u) (.bl true),_,rfl,fun b o e=>by rw [Zac (nNo e hwaH),Zac (nNo e hfa)];exact s3 _ _ e,by rw [Zac fw];exact uS,?_,by rw [uS,List.map_append];rfl,fun y h=>List.mem_append_left _ (c1 y h),fun y h=>List.mem_append_left _ (c2 y h),fun y h=>?_,fun y h=>?_,?_,fun y h=>?_,fun y h=>?_,fun y h=>?_,?_⟩
     ·rw [putK_keys nk,hk3,List.map_append]
      rfl
     ·rcases List.mem_append.mp h with h | h
      ·exact List.mem_append_left _ (c3 y h)
      ·exact List.mem_append_right _ h
     ·rcases List.mem_append.mp h with h | h
      ·exact c4 y h
      ·rw [List.mem_singleton.mp h];exact g.known r hr' u um
     ·rw [List.nodup_append]
      exact ⟨c5,by simp,fun a ha b hb e=>nin (by rw [← List.mem_singleton.mp hb,← e];exact ha)⟩
     ·rcases List.mem_append.mp h with h | h
      ·exact c6 y h
      ·rw [List.mem_singleton.mp h];exact (go.reach here hfs).snoc (by rw [uo];exact um)
     ·rcases List.mem_append.mp h with h | h
      ·rcases c7 y h with h | h
       ·exact .inl h
       ·exact .inr (List.mem_append_left _ h)
      ·exact .inr (List.mem_append_right _ h)
     ·rw [List.take_add_one,hu'] at h
      rcases List.mem_append.mp h with h | h
      ·exact List.mem_append_left _ (c8 y h)
      ·have:y=u:=by simpa using h
       rw [this];exact List.mem_append_right _ (by simp)
     ·rw [List.length_append,List.length_append]
      simp only [List.length_singleton]
      omega
    ·have yin:u∈fs':=Classical.byContradiction nin
     rw [Zeo ((keys_strs hk3 u).mpr yin)]
     refine iteF ?_
     refine ⟨fs',ws',fk',_,rfl,s3,hf3,hk3,hw3,c1,c2,c3,c4,c5,c6,c7,fun y h=>?_,c9⟩
     rw [List.take_add_one,hu'] at h
     rcases List.mem_append.mp h with h | h
     ·exact c8 y h
     ·have:y=u:=by simpa using h
      rw [this];exact yin
   ·rintro σ H2 ⟨fs',ws',fk',b,rfl,s3,hf3,hk3,hw3,c1,c2,c3,c4,c5,c6,c7,c8,c9⟩
    rw [List.length_map,List.take_length] at c8
    have fl3:fs'.length≤rows.length:=by
     have:=Graph.nodup_le c5 c4
     rwa [List.length_map] at this
    have dl:ws.dropLast.length=ws.length - 1:=List.length_dropLast
    have fle:fs.length≤fs'.length:=Graph.nodup_le go.nd c1
    have gf:=go.few
    refine ⟨2 * rows.length + ws'.length - 2 * fs'.length,by omega,fs',ws',fk',_,_,rfl,s3,hf3,hk3,hw3,⟨c1 x go.start,c3,c4,c5,c6,fun y hy hn u hu'=>?_,by omega⟩,by omega⟩
    rcases c7 y hy with hy' | hy'
    ·by_cases yh:y=here
     ·rw [yh,uo] at hu'
      exact c8 u hu'
     ·have nw:y∉ws:=fun z=>by
       rw [split] at z
       rcases List.mem_append.mp z with z | z
       ·exact hn (c2 y z)
       ·exact yh (List.mem_singleton.mp z)
      exact c1 u (go.closed y hy' nw u hu')
    ·exact absurd hy' hn
  ·have wnil:ws=[]:=by
    cases ws with
    | nil=>rfl
    | cons y r=>exact absurd rfl hne
   refine ⟨fa,fk,hf,fun o'=>⟨_,rfl,q fa o' fk _ hfa (fun b o e=>by rw [Zac (nNo e hfa)];exact s1 _ _ e) uS fun y=>?_⟩⟩
   rw [keys_strs hk y]
   constructor
   ·exact fun h=>go.reach y h
   ·intro h
    refine Graph.closed_reach (S:=fun y=>y∈fs) (fun y hy u hu'=>go.closed y hy (by rw [wnil];simp) u hu') h go.start
end
end K23
namespace K23
open PySem L2 Md
theorem fne:¬ (("ups_of":Str)="above_of"):=by decide +kernel
def flds (d a:Addr):List (Str×V):=putF "above_of" (.ref a) (putF "ups_of" (.ref d) [])
theorem flds_u (d a:Addr):(flds d a).lookup ("ups_of":Str)=some (.ref d):=by
 unfold flds
 rw [Za3,if_neg fne,Za3,if_pos rfl]
theorem flds_a (d a:Addr):(flds d a).lookup ("above_of":Str)=some (.ref a):=by
 unfold flds
 rw [Za3,if_pos rfl]
theorem flds_no (d a:Addr) {m:Str} (h1:¬ m="above_of") (h2:¬ m="ups_of"):(flds d a).lookup m=none:=by
 unfold flds
 rw [Za3,if_neg h1,Za3,if_neg h2]
 rfl
def AboveD (H:Hp) (all rows:List (Str×List Str)) (avs:List (Key×V)):Prop :=
 Paired (fun r (p:Key×V)=>p.1=Sum.inr r.1∧∃ t o' fk,p.2=.ref t∧H t=some (.frz o' (.dK fk))∧∀ y,(Sum.inr y:Key)∈fk.map (·.1)↔Graph.Reach (Zb8 all) r.1 y) rows avs
theorem AboveD.mono {H H':Hp}{all rows:List (Str×List Str)}{avs:List (Key×V)}(h:AboveD H all rows avs) (s:∀ b o' fk,H b=some (.frz o' (.dK fk))→H' b=some (.frz o' (.dK fk))):AboveD H' all rows avs :=
 Paired.mapP h fun _ _ z=>⟨z.1,let ⟨t,o',fk,e,x,y⟩:=z.2;⟨t,o',fk,e,s _ _ _ x,y⟩⟩
theorem AboveD.keys:∀ {H:Hp}{all rows:List (Str×List Str)}{kvs:List (Key×V)},AboveD H all rows kvs→kvs.map (·.1)=rows.map fun r=>(Sum.inr r.1:Key)
 | _,_,_,_,.nil=>rfl
 | _,_,_,_,.cons r t=>by rw [List.map_cons,List.map_cons,r.1,AboveD.keys t]
theorem AboveD.val:∀ {H:Hp}{all rows:List (Str×List Str)}{kvs:List (Key×V)},AboveD H all rows kvs→(rows.map (·.1)).Nodup→∀ {r:Str×List Str},r∈rows→∃ t o' fk,valV kvs (Sum.inr r.1)=some (.ref t)∧H t=some (.frz o' (.dK fk))∧∀ y,(Sum.inr y:Key)∈fk.map (·.1)↔Graph.Reach (Zb8 all) r.1 y
 | _,_,_,_,.nil,_,r,h=>nomatch h
 | _,_,q :: rs,p :: ps,.cons z t,nd,r,h=>by
  have nd':(q.1 :: rs.map (·.1)).Nodup:=nd
  obtain ⟨n1,n2⟩:=List.nodup_cons.mp nd'
  obtain ⟨z1,u,o',fk,z2,z3,z4⟩:=z
  rcases List.mem_cons.mp h with e | h
  ·subst e
   exact ⟨u,o',fk,by rw [valV_pos z1,z2],z3,z4⟩
  ·have ne:¬ p.1=(Sum.inr r.1:Key):=fun e=>n1 (by
    rw [z1] at e
    have e':q.1=r.1:=by injection e
    rw [e']
    exact List.mem_map.mpr ⟨r,h,rfl⟩)
   obtain ⟨u',o'',fk',h1,h2⟩:=AboveD.val t n2 h
   exact ⟨u',o'',fk',by rw [valV_neg ne];exact h1,h2⟩
structure Zck (C:Addr) (H:Hp) (p:Addr) (rows:List (Str×List Str)):Prop where
 ex:∃ (dx d a:Addr) (o oa:Obj) (kvs avs:List (Key×V)),H p=some (.ins C dx (flds d a))∧BookD H d o rows kvs∧H a=some (.frz oa (.dK avs))∧AboveD H rows rows avs
theorem Zck.mono {C:Addr}{H H':Hp}{p:Addr}{rows:List (Str×List Str)}(h:Zck C H p rows) (s:Zan H H'):Zck C H' p rows:=by
 obtain ⟨dx,d,a,o,oa,kvs,avs,h1,h2,h3,h4⟩:=h.ex
 exact ⟨dx,d,a,o,oa,kvs,avs,s _ _ h1,h2.mono s,s _ _ h3,h4.mono fun _ _ _ e=>s _ _ e⟩
structure TxtC (K:PySem.W.Frag) (C:Addr):Prop where
 cl:Cls K C
 nU:NoAttr K C "ups_of"
 nA:NoAttr K C "above_of"
structure MDef (K:PySem.W.Frag) (C:Addr) (m qual:Str) (st:Stmt) (ps:List Str) (f:Addr) (fd:FuncData):Prop where
 fn:Fun K m qual st f fd
 b:Binds K fd ps []
 me:Meth K C m f
def spInit (K:PySem.W.Frag) (C:Addr):Sp:=fun vs H Q _=>∃ (p dx l:Addr) (rows:List (Str×List Str)),vs=[.ref p,.ref l]∧H p=some (.ins C dx [])∧RowsG K H l rows∧Zd7 rows ∧
 ∀ H',Zck C H' p rows→(∀ b o,b≠p→H b=some o→H' b=some o)→Q .non H'
def spCheck (C:Addr):Sp:=fun vs H Q _=>∃ (p:Addr) (rows:List (Str×List Str)) (x:Str),vs=[.ref p,.str x]∧Zck C H p rows∧Zd7 rows∧x∈rows.map (·.1)∧Q .non H
def spHas (C:Addr):Sp:=fun vs H Q _=>∃ (p:Addr) (rows:List (Str×List Str)) (x:Str),vs=[.ref p,.str x]∧Zck C H p rows∧Zd7 rows∧Q (.bl (decide (x∈rows.map (·.1)))) H
noncomputable def Zcl (rows:List (Str×List Str)) (x y:Str):Bool:=@decide (Graph.Reach (Zb8 rows) x y) (Classical.propDecidable _)
noncomputable def spUnder (C:Addr):Sp:=fun vs H Q _=>∃ (p:Addr) (rows:List (Str×List Str)) (x y:Str),vs=[.ref p,.str x,.str y]∧Zck C H p rows∧Zd7 rows∧x∈rows.map (·.1)∧y∈rows.map (·.1)∧Q (.bl (Zcl rows x y)) H
section
variable {P:Program} {w:World} {K:PySem.W.Frag} {mg:Str→Option Value} {base:Heap}
theorem scI:Zap ["self","rows","ups_of","word","ups","ring","above_of"] ["self","rows"] (Zab Zbj):=⟨rfl,rfl,rfl,by decide +kernel,rfl,by decide +kernel,by decide +kernel⟩
theorem ok_init {f C f1 f2 f3 f4 f5 f6 f7:Addr}{fd d1 d2 d3 d4 d5 d6 d7:FuncData}(F:Fun K "__init__" "Kinds.__init__" Zbj f fd) (T:TxtK mg) (TC:TxtC K C) (D1:Def K mg "check_rows" Zco ["rows"] f1 d1) (D2:Def K mg "is_word" Zda ["text"] f2 d2)
  (D3:Def K mg "check_ups" Zc1 ["ups_of"] f3 d3) (D4:Def K mg "find_ring" Zc0 ["ups_of"] f4 d4) (D5:Def K mg "endless" Zdb ["ups_of"] f5 d5) (D6:Def K mg "first_among" Zbd ["words","others"] f6 d6) (D7:Def K mg "all_above" Zc2 ["ups_of","word"] f7 d7):
  Za0 P w K mg base CX0 4 f fd ["self","rows"] (spInit K C):=by
 have G1:Za0 P w K mg base CX0 2 f1 d1 ["rows"] (spCheckRows K):=ok_check_rows D1 D2 T
 have G3:Za0 P w K mg base CX0 1 f3 d3 ["ups_of"] spCheckUps:=ok_check_ups D3
 have G4:Za0 P w K mg base CX0 3 f4 d4 ["ups_of"] spRing:=ok_ring D4 D5 D6 T
 have G7:Za0 P w K mg base CX0 1 f7 d7 ["ups_of","word"] spAbove:=ok_above D7
 refine F.ok scI (fun vs H Q E h=>?_) (fun cdv A outer s H vs Q E hr h=>?_)
 ·obtain ⟨p,dx,l,rows,rfl,_⟩:=h
  rfl
 ·obtain ⟨p,dx,l,rows,rfl,hp,hR,g,q⟩:=h
  have nd:=scI.nd
  have hu:=hu_of hr
  have hr1:Zdp 1 _:=hr.mono (by decide)
  have hr2:Zdp 2 _:=hr.mono (by decide)
  refine ⟨_,pS (Zbg (Zaf D1 G1 hr2 (pC (pv 1) Zaa)))
   (pS (Zah (i:=2) nd rfl (Or.inl rfl) pe_dnewK)
   (pS (Zdd PassesOwn.never rfl (pi_seq (pv 1)) (pg_tup rfl (gC (Zaj (i:=3) nd rfl (Or.inl rfl)) (gC (Zaj (i:=4) nd rfl (Or.inl rfl)) Zer)))
    (Zad (ps_dput hu (pv 2) (pv 3) (Za9 Zcf (by rfl) T.tuple PyProof.Rows.boot_tuple (pC (pv 4) Zaa)) rfl)))
   (pss_frz (pS (Zbg (Zaf D3 G3 hr1 (pC (pv 2) Zaa)))
   (pS (Zah (i:=5) nd rfl (Or.inl rfl) (Zaf D4 G4 hr (pC (pv 2) Zaa)))
   (pS (Za5 (pt_cmp (pc_notN (pv 5))) Zb3 Zai)
   (pS (Zah (i:=6) nd rfl (Or.inl rfl) pe_dnewK)
   (pS (Zdd PassesOwn.never rfl (pi_keys (pv 2)) (Zaj (i:=3) nd rfl (Or.inl rfl)) (Zad (ps_dput hu (pv 6) (pv 3) (Zaf D7 G7 hr1 (pC (pv 2) (pC (pv 3) Zaa))) rfl)))
   (pss_frz (pS (ps_fld (pv 0) (pv 2) rfl) (Zad (ps_fld (pv 0) (pv 6) rfl)))))))))))),?_⟩
  refine ⟨_,rfl,l,rows,rfl,hR,g,fun H1 s1=>?_⟩
  intro d hd
  have s2:Zan H (upd H1 d (.dK [])):=fun b o e=>by rw [Zac (nNo (s1 _ _ e) hd)];exact s1 _ _ e
  obtain ⟨b,vs,hl,hpr⟩:=hR
  refine ⟨_,rfl,b,l,vs,rfl,hl.mono s2,Zbs runs_seq (fun i σ H'=>∃ (kvs:List (Key×V)) (a c:Option V),σ=[some (.ref p),some (.ref l),some (.ref d),a,c,none,none]∧Zan H H'∧H' d=some (.dK kvs)∧UpsD H' (rows.take i) kvs)
   ⟨[],none,none,rfl,s2,uS,by rw [List.take_zero];exact .nil⟩ (fun i σ H' _ ⟨_,_,_,_,s,_⟩=>hl.mono s) ?_ ?_⟩
  ·rintro i v σ H' hi ⟨kvs,a,c,rfl,s3,hdk,hU⟩
   obtain ⟨r,hr',t,u,rfl,ht,hug⟩:=Zba hpr hi
   have dH:H d=none:=s1.free hd
   refine ⟨t,_,rfl,s3.tup ht,rfl,_,_,rfl,_,_,rfl,rfl,?_⟩
   have hnew:(Sum.inr r.1:Key)∉kvs.map (·.1):=by rw [hU.keys];exact taken_not g.nd hr'
   have hil:(rows.take i).length≤24:=by rw [List.length_take];have:=g.le;omega
   have hkl:kvs.length=(rows.take i).length:=(Paired.length hU).symm
   have fin:∀ (t2:Addr) (H2:Hp),Zan H' H2→H2 t2=some (.tup (r.2.map V.str))→∃ (kvs':List (Key×V)) (a c:Option V),[some (V.ref p),some (V.ref l),some (V.ref d),some (V.str r.1),some (V.ref u),none,none]=[some (V.ref p),some (V.ref l),some (V.ref d),a,c,none,none]∧Zan H (upd H2 d (.dK (putK kvs (Sum.inr r.1) (.ref t2)))) ∧
     (upd H2 d (.dK (putK kvs (Sum.inr r.1) (.ref t2)))) d=some (.dK kvs')∧UpsD (upd H2 d (.dK (putK kvs (Sum.inr r.1) (.ref t2)))) (rows.take (i + 1)) kvs':=fun t2 H2 s4 ht2=>by
    have d2:=s4 _ _ hdk
    have tk:∀ b xs,H2 b=some (.tup xs)→(upd H2 d (.dK (putK kvs (Sum.inr r.1) (.ref t2)))) b=some (.tup xs):=fun b xs e=>by
     rw [Zac (fun z=>by rw [z,d2] at e;cases e)];exact e
    refine ⟨_,_,_,rfl,fun b o e=>by rw [Zac (nNo e dH)];exact s4 _ _ (s3 _ _ e),uS,?_⟩
    have sn:UpsD (upd H2 d (.dK (putK kvs (Sum.inr r.1) (.ref t2)))) (rows.take i++[r]) (kvs++[(Sum.inr r.1,V.ref t2)]):=Paired.snoc ((hU.mono fun b xs e=>s4 _ _ e).mono tk) ⟨rfl,t2,rfl,tk t2 _ ht2⟩
    rw [← putK_new _ (Zcz hnew)] at sn
    rw [List.take_add_one,hr']
    exact sn
   rcases hug with hug | hug
   ·refine ⟨_,rfl,u,_,rfl,.inr ⟨SqT.of (s3 _ _ hug),_,rfl,_,rfl,d,_,rfl,DPut.k (k:=Sum.inr r.1) hdk (Za7 (by omega)),fin u H' (Zan.refl _) (s3 _ _ hug)⟩⟩
   ·refine ⟨_,rfl,u,_,rfl,.inl ⟨s3.seq hug,fun t2 ht2=>?_⟩⟩
    have s4:Zan H' (upd H' t2 (.tup (r.2.map V.str))):=fun b o e=>by rw [Zac (nNo e ht2)];exact e
    exact ⟨_,rfl,_,rfl,d,_,rfl,DPut.k (k:=Sum.inr r.1) (s4 _ _ hdk) (Za7 (by omega)),fin t2 _ s4 uS⟩
  ·rintro σ H2 ⟨kvs,a,c,rfl,s3,hdk,hU⟩
   have hvl:=hpr.length
   rw [← hvl,List.take_length] at hU
   refine ⟨d,kvs,hdk,fun o=>?_⟩
   have dH:H d=none:=s1.free hd
   have s4:Zan H (upd H2 d (.frz o (.dK kvs))):=fun b u e=>by rw [Zac (nNo e dH)];exact s3 _ _ e
   have bk:BookD (upd H2 d (.frz o (.dK kvs))) d o rows kvs:=⟨uS,hU.mono fun b xs e=>by rw [Zac (fun z=>by rw [z,hdk] at e;cases e)];exact e⟩
   refine ⟨_,rfl,d,o,rows,kvs,rfl,bk,g,fun H5 s5=>?_⟩
   refine ⟨_,rfl,d,o,rows,kvs,rfl,bk.mono s5,g,fun H6 s6=>?_⟩
   refine ⟨_,rfl,_,rfl,iteF ?_⟩
   have s56:=s5.trans s6
   have bk6:=bk.mono s56
   have s7:Zan H H6:=s4.trans s56
   intro aa haa
   have s8:Zan H (upd H6 aa (.dK [])):=fun b u e=>by rw [Zac (nNo (s7 _ _ e) haa)];exact s7 _ _ e
   have s68:Zan H6 (upd H6 aa (.dK [])):=fun b u e=>by rw [Zac (nNo e haa)];exact e
   refine ⟨_,rfl,d,o,kvs,rfl,(bk6.mono s68).at_,Zbs runs_keys (fun i σ H'=>∃ (avs:List (Key×V)) (a b c:Option V),σ=[some (.ref p),some (.ref l),some (.ref d),a,b,c,some (.ref aa)]∧Zan H H'∧BookD H' d o rows kvs∧H' aa=some (.dK avs)∧AboveD H' rows (rows.take i) avs)
    ⟨[],_,_,_,rfl,s8,bk6.mono s68,uS,by rw [List.take_zero];exact .nil⟩ (fun i σ H' _ ⟨_,_,_,_,_,_,b,_⟩=>b.at_) ?_ ?_⟩
   ·rintro i v σ H' hi ⟨avs,a,b,c,rfl,s9,bk9,haa9,hA⟩
    rw [List.getElem?_map] at hi
    obtain ⟨pr,hpr',e⟩:=Option.map_eq_some_iff.mp hi
    obtain ⟨r,hr',hk,_⟩:=Zba bk9.ups hpr'
    have hmem:r∈rows:=List.mem_of_getElem? hr'
    have ev:v=.str r.1:=by rw [← e,hk];rfl
    subst ev
    have aaH:H aa=none:=s7.free haa
    refine ⟨_,rfl,_,rfl,d,o,rows,kvs,r.1,rfl,bk9,g,List.mem_map.mpr ⟨r,hmem,rfl⟩,fun x o' fk H10 hx s10 hxk hreach=>?_⟩
    have hnew:(Sum.inr r.1:Key)∉avs.map (·.1):=by rw [hA.keys];exact taken_not g.nd hr'
    have hil:(rows.take i).length≤24:=by rw [List.length_take];have:=g.le;omega
    have hkl:avs.length=(rows.take i).length:=(Paired.length hA).symm
    have aa10:=s10 _ _ haa9
    refine ⟨_,rfl,_,rfl,aa,_,rfl,DPut.k (k:=Sum.inr r.1) aa10 (Za7 (by omega)),?_⟩
    have kp:∀ b u,b≠aa→H10 b=some u→(upd H10 aa (.dK (putK avs (Sum.inr r.1) (.ref x)))) b=some u:=fun b u hb e=>by rw [Zac hb];exact e
    refine ⟨_,_,_,_,rfl,fun b u e=>kp b u (nNo e aaH) (s10 _ _ (s9 _ _ e)),⟨kp _ _ (fun z=>?_) (s10 _ _ bk9.at_),(bk9.ups.mono fun b xs e=>s10 _ _ e).mono fun b xs e=>kp _ _ (fun z=>by rw [z,aa10] at e;cases e) e⟩,uS,?_⟩
    ·have:=bk9.at_
     rw [z,haa9] at this
     cases this
    ·rw [putK_new _ (Zcz hnew),List.take_add_one,hr']
     have fz:∀ b o'' fk',H10 b=some (.frz o'' (.dK fk'))→(upd H10 aa (.dK (avs++[(Sum.inr r.1,V.ref x)]))) b=some (.frz o'' (.dK fk')):=fun b o'' fk' e=>by rw [Zac (fun z=>by rw [z,aa10] at e;cases e)];exact e
     exact Paired.snoc ((hA.mono fun b o'' fk' e=>s10 _ _ e).mono fz) ⟨rfl,x,o',fk,rfl,fz _ _ _ hxk,hreach⟩
   ·rintro σ H' ⟨avs,a,b,c,rfl,s9,bk9,haa9,hA⟩
    have hkv:kvs.length=rows.length:=(Paired.length bk9.ups).symm
    rw [List.length_map,hkv,List.take_length] at hA
    have aaH:H aa=none:=s7.free haa
    refine ⟨aa,avs,haa9,fun oa=>?_⟩
    have hp9:H' p=some (.ins C dx []):=s9 _ _ hp
    have pa:p≠aa:=nNo hp aaH
    have pd:p≠d:=nNo hp dH
    have da:d≠aa:=fun z=>by have:=bk9.at_;rw [z,haa9] at this;cases this
    refine ⟨_,rfl,_,rfl,p,C,dx,[],rfl,(by rw [Zac pa];exact hp9),TC.cl,TC.nU,(by show 0<1000;decide),_,rfl,_,rfl,p,C,dx,_,rfl,uS,TC.cl,TC.nA,(by show 1<1000;decide),?_⟩
    rw [upd_upd]
    have kp:∀ b u,b≠p→b≠aa→H' b=some u→(upd (upd H' aa (.frz oa (.dK avs))) p (.ins C dx (flds d aa))) b=some u:=fun b u h1 h2 e=>by rw [Zac h1,Zac h2];exact e
    refine q _ ⟨dx,d,aa,o,oa,kvs,avs,uS,⟨kp _ _ (Ne.symm pd) da bk9.at_,bk9.ups.mono fun b xs e=>kp _ _ (fun z=>by rw [z,hp9] at e;cases e) (fun z=>by rw [z,haa9] at e;cases e) e⟩,by rw [Zac (Ne.symm pa)];exact uS,hA.mono fun b o'' fk' e=>kp _ _ (fun z=>by rw [z,hp9] at e;cases e) (fun z=>by rw [z,haa9] at e;cases e) e⟩ fun b u hb e=>kp _ _ hb (nNo e aaH) (s9 _ _ e)
theorem scHa:Zap ["self","word"] ["self","word"] (Zab Zc3):=⟨rfl,rfl,rfl,by decide +kernel,rfl,by decide +kernel,by decide +kernel⟩
theorem ok_has {f C:Addr}{fd:FuncData}(F:Fun K "has" "Kinds.has" Zc3 f fd) (TC:TxtC K C):Za0 P w K mg base CX0 1 f fd ["self","word"] (spHas C):=by
 refine F.ok scHa (fun vs H Q E h=>?_) (fun cdv A outer s H vs Q E hr h=>?_)
 ·obtain ⟨p,rows,x,rfl,_⟩:=h
  rfl
 ·obtain ⟨p,rows,x,rfl,⟨dx,d,a,o,oa,kvs,avs,h1,h2,h3,h4⟩,g,q⟩:=h
  have hu:=hu_of hr
  refine ⟨_,Zad (Zar (pe_cmp (pc_din hu (pv 1) (pe_fld (pv 0) rfl)))),?_⟩
  refine ⟨_,rfl,_,rfl,p,C,dx,_,_,rfl,h1,TC.cl,TC.nU,flds_u _ _,d,_,rfl,DGet.f (k:=Sum.inr x) h2.at_,?_⟩
  have e:(valV kvs (Sum.inr x:Key)).isSome=decide (x∈rows.map (·.1)):=by
   have hk:(Sum.inr x:Key)∈kvs.map (·.1)↔x∈rows.map (·.1):=by
    rw [h2.ups.keys]
    constructor
    ·intro m
     obtain ⟨r,hr',e⟩:=List.mem_map.mp m
     exact List.mem_map.mpr ⟨r,hr',by injection e⟩
    ·intro m
     obtain ⟨r,hr',e⟩:=List.mem_map.mp m
     exact List.mem_map.mpr ⟨r,hr',by rw [e]⟩
   by_cases z:x∈rows.map (·.1)
   ·rw [Zeo (hk.mpr z),decide_eq_true z]
   ·rw [Zcz fun k=>z (hk.mp k),decide_eq_false z]
    rfl
  rw [e]
  exact q
abbrev MHas (K:PySem.W.Frag) (C fH:Addr) (fdH:FuncData):Prop:=MDef K C "has" "Kinds.has" Zc3 ["self","word"] fH fdH
theorem scCk:Zap ["self","word"] ["self","word"] (Zab Zbo):=⟨rfl,rfl,rfl,by decide +kernel,rfl,by decide +kernel,by decide +kernel⟩
theorem no_has (d a:Addr):(flds d a).lookup ("has":Str)=none:=flds_no d a (by decide +kernel) (by decide +kernel)
theorem ok_check {f C fH:Addr}{fd fdH:FuncData}(F:Fun K "check" "Kinds.check" Zbo f fd) (TC:TxtC K C) (MH:MHas K C fH fdH):Za0 P w K mg base CX0 2 f fd ["self","word"] (spCheck C):=by
 have GH:Za0 P w K mg base CX0 1 fH fdH ["self","word"] (spHas C):=ok_has MH.fn TC
 refine F.ok scCk (fun vs H Q E h=>?_) (fun cdv A outer s H vs Q E hr h=>?_)
 ·obtain ⟨p,rows,x,rfl,_⟩:=h
  rfl
 ·obtain ⟨p,rows,x,rfl,kd,g,hx,q⟩:=h
  obtain ⟨dx,d,a,o,oa,kvs,avs,h1,h2,h3,h4⟩:=kd.ex
  refine ⟨_,Zad (Za5 (Zd9 (pt_val (pe_meth (pv 0) TC.cl MH.me GH hr MH.b .nil pass0 (pC (pv 1) Zaa)))) Zb3 Zai),?_⟩
  refine ⟨_,rfl,p,dx,_,rfl,h1,no_has _ _,_,rfl,p,rows,x,rfl,kd,g,_,rfl,?_⟩
  rw [decide_eq_true hx]
  exact iteF q
theorem no_check (d a:Addr):(flds d a).lookup ("check":Str)=none:=flds_no d a (by decide +kernel) (by decide +kernel)
theorem scUn:Zap ["self","one","other"] ["self","one","other"] (Zab Zcc):=⟨rfl,rfl,rfl,by decide +kernel,rfl,by decide +kernel,by decide +kernel⟩
theorem ok_under {f C fC fH:Addr}{fd fdC fdH:FuncData}(F:Fun K "under" "Kinds.under" Zcc f fd) (TC:TxtC K C) (MC:MDef K C "check" "Kinds.check" Zbo ["self","word"] fC fdC) (MH:MHas K C fH fdH):Za0 P w K mg base CX0 3 f fd ["self","one","other"] (spUnder C):=by
 have GC:Za0 P w K mg base CX0 2 fC fdC ["self","word"] (spCheck C):=ok_check MC.fn TC MH
 refine F.ok scUn (fun vs H Q E h=>?_) (fun cdv A outer s H vs Q E hr h=>?_)
 ·obtain ⟨p,rows,x,y,rfl,_⟩:=h
  rfl
 ·obtain ⟨p,rows,x,y,rfl,kd,g,hx,hy,q⟩:=h
  obtain ⟨dx,d,a,o,oa,kvs,avs,h1,h2,h3,h4⟩:=kd.ex
  have hu:=hu_of hr
  refine ⟨_,pS (Zbg (pe_meth (pv 0) TC.cl MC.me GC hr MC.b .nil pass0 (pC (pv 1) Zaa)))
   (pS (Zbg (pe_meth (pv 0) TC.cl MC.me GC hr MC.b .nil pass0 (pC (pv 2) Zaa)))
   (Zad (Zar (pe_cmp (pc_din hu (pv 2) (Zed hu (pe_fld (pv 0) rfl) (pv 1) (fun _ _=>rfl))))))),?_⟩
  obtain ⟨r,hr',er⟩:=Zc5 hx
  obtain ⟨t,o',fk,hv,ht,hreach⟩:=h4.val g.nd hr'
  refine ⟨_,rfl,p,dx,_,rfl,h1,no_check _ _,_,rfl,p,rows,x,rfl,kd,g,hx,?_⟩
  refine ⟨_,rfl,p,dx,_,rfl,h1,no_check _ _,_,rfl,p,rows,y,rfl,kd,g,hy,?_⟩
  refine ⟨_,rfl,_,rfl,p,C,dx,_,_,rfl,h1,TC.cl,TC.nA,flds_a _ _,_,rfl,a,_,rfl,(by rw [← hv,er];exact DGet.f (k:=Sum.inr x) h3),t,_,rfl,DGet.f (k:=Sum.inr y) ht,?_⟩
  have e:(valV fk (Sum.inr y:Key)).isSome=Zcl rows x y:=by
   have hh:=hreach y
   rw [er] at hh
   unfold Zcl
   by_cases z:Graph.Reach (Zb8 rows) x y
   ·rw [Zeo (hh.mpr z)]
    exact (@decide_eq_true _ (Classical.propDecidable _) z).symm
   ·rw [Zcz fun k=>z (hh.mp k)]
    exact (@decide_eq_false _ (Classical.propDecidable _) z).symm
  rw [e]
  exact q
end
end K23
namespace K23
open PySem L2 Md
noncomputable def spBeneath (C:Addr):Sp:=fun vs H Q _=>∃ (p:Addr) (rows:List (Str×List Str)) (x y:Str),vs=[.ref p,.str x,.str y]∧Zck C H p rows∧Zd7 rows∧x∈rows.map (·.1)∧y∈rows.map (·.1)∧Q (.bl (Zcl rows x y&&!decide (x=y))) H
noncomputable def highs (rows:List (Str×List Str)) (x:Str):List Str:=(rows.map (·.1)).filter fun y=>Zcl rows x y
noncomputable def spAboveOf (C:Addr):Sp:=fun vs H Q _=>∃ (p:Addr) (rows:List (Str×List Str)) (x:Str),vs=[.ref p,.str x]∧Zck C H p rows∧Zd7 rows∧x∈rows.map (·.1)∧∀ l,H l=none→Q (.ref l) (upd H l (.lst ((highs rows x).map V.str)))
noncomputable def upV (rows:List (Str×List Str)) (x:Str):V→Bool
 | .str y=>Zcl rows x y
 | _=>false
theorem highs_map (rows:List (Str×List Str)) (x:Str):(((rows.map (·.1)).map V.str).filter (upV rows x)).map (fun v=>v)=(highs rows x).map V.str:=by
 rw [List.map_id',List.filter_map]
 rfl
theorem key_reach {fk:List (Key×V)}{rows:List (Str×List Str)}{x:Str}(h:∀ y,(Sum.inr y:Key)∈fk.map (·.1)↔Graph.Reach (Zb8 rows) x y) (y:Str):(valV fk (Sum.inr y:Key)).isSome=Zcl rows x y:=by
 unfold Zcl
 by_cases z:Graph.Reach (Zb8 rows) x y
 ·rw [Zeo ((h y).mpr z)]
  exact (@decide_eq_true _ (Classical.propDecidable _) z).symm
 ·rw [Zcz fun k=>z ((h y).mp k)]
  exact (@decide_eq_false _ (Classical.propDecidable _) z).symm
theorem no_under (d a:Addr):(flds d a).lookup ("under":Str)=none:=flds_no d a (by decide +kernel) (by decide +kernel)
theorem no_beneath (d a:Addr):(flds d a).lookup ("beneath":Str)=none:=flds_no d a (by decide +kernel) (by decide +kernel)
theorem no_above (d a:Addr):(flds d a).lookup ("above":Str)=none:=flds_no d a (by decide +kernel) (by decide +kernel)
theorem nd_hsw:(["high","self","word"]:List Str).Nodup:=by decide +kernel
section
variable {P:Program} {w:World} {K:PySem.W.Frag} {mg:Str→Option Value} {base:Heap}
abbrev MCheck (K:PySem.W.Frag) (C fC:Addr) (fdC:FuncData):Prop:=MDef K C "check" "Kinds.check" Zbo ["self","word"] fC fdC
abbrev MUnder (K:PySem.W.Frag) (C fU:Addr) (fdU:FuncData):Prop:=MDef K C "under" "Kinds.under" Zcc ["self","one","other"] fU fdU
theorem pe_fldK {X:Cx}{e:Expr}{ta:TE}{f:Str}{pos:Pos}{K:PySem.W.Frag}(hK:X.K=K) (he:PE X e ta) (hb:attributeBase e f X.env (eval e X.env)=eval e X.env):PE X (.Attribute e f pos) (tFld K ta f):=by
 subst hK
 exact pe_fld he hb
end
end K23
namespace K23
open PySem L2 Md
section
variable {P:Program} {w:World} {K:PySem.W.Frag} {mg:Str→Option Value} {base:Heap}
theorem scBe:Zap ["self","one","other"] ["self","one","other"] (Zab Zbf):=⟨rfl,rfl,rfl,by decide +kernel,rfl,by decide +kernel,by decide +kernel⟩
theorem ok_beneath {f C fU fC fH:Addr}{fd fdU fdC fdH:FuncData}(F:Fun K "beneath" "Kinds.beneath" Zbf f fd) (TC:TxtC K C) (MU:MUnder K C fU fdU) (MC:MCheck K C fC fdC) (MH:MHas K C fH fdH):Za0 P w K mg base CX0 4 f fd ["self","one","other"] (spBeneath C):=by
 have GU:Za0 P w K mg base CX0 3 fU fdU ["self","one","other"] (spUnder C):=ok_under MU.fn TC MC MH
 refine F.ok scBe (fun vs H Q E h=>?_) (fun cdv A outer s H vs Q E hr h=>?_)
 ·obtain ⟨p,rows,x,y,rfl,_⟩:=h
  rfl
 ·obtain ⟨p,rows,x,y,rfl,kd,g,hx,hy,q⟩:=h
  obtain ⟨dx,d,a,o,oa,kvs,avs,h1,_⟩:=kd.ex
  refine' ⟨_,Zad (Zar (pe_and ?ea (pe_one ?eb))),?_⟩
  case ea=>exact pe_meth (pv 0) TC.cl MU.me GU hr MU.b .nil pass0 (pC (pv 1) (pC (pv 2) Zaa))
  case eb=>exact Zes op_ne (pv 1) (pv 2) (Zaq _)
  refine ⟨_,rfl,p,dx,_,rfl,h1,no_under _ _,_,rfl,_,rfl,p,rows,x,y,rfl,kd,g,hx,hy,_,rfl,?_⟩
  have e:decide (V.str x=V.str y)=decide (x=y):=decide_eq_decide.mpr ⟨fun z=>by injection z,fun z=>by rw [z]⟩
  refine Zdy (fun h=>?_) (fun h=>?_)
  ·refine ⟨_,rfl,_,rfl,rfl,?_⟩
   rw [h,Bool.true_and] at q
   rw [e]
   exact q
  ·have h':Zcl rows x y=false:=by simpa using h
   rw [h',Bool.false_and] at q
   exact q
end
end K23
namespace K23
open PySem L2 Md
section
variable {P:Program} {w:World} {K:PySem.W.Frag} {mg:Str→Option Value} {base:Heap}
theorem scAb:Zap ["self","word"] ["self","word"] (Zab Zbp):=⟨rfl,rfl,rfl,by decide +kernel,rfl,by decide +kernel,by decide +kernel⟩
theorem ok_aboveOf {f C fC fH:Addr}{fd fdC fdH:FuncData}(F:Fun K "above" "Kinds.above" Zbp f fd) (TC:TxtC K C) (MC:MCheck K C fC fdC) (MH:MHas K C fH fdH):Za0 P w K mg base CX0 3 f fd ["self","word"] (spAboveOf C):=by
 have GC:Za0 P w K mg base CX0 2 fC fdC ["self","word"] (spCheck C):=ok_check MC.fn TC MH
 refine F.ok scAb (fun vs H Q E h=>?_) (fun cdv A outer s H vs Q E hr h=>?_)
 ·obtain ⟨p,rows,x,rfl,_⟩:=h
  rfl
 ·obtain ⟨p,rows,x,rfl,kd,g,hx,q⟩:=h
  obtain ⟨dx,d,a,o,oa,kvs,avs,h1,h2,h3,h4⟩:=kd.ex
  have hu:=hu_of hr
  refine ⟨_,pS (Zbg (pe_meth (pv 0) TC.cl MC.me GC hr MC.b .nil pass0 (pC (pv 1) Zaa)))
   (Zad (Zar (Zb5 ["high"] ["self","word"] [0,1] (fun _=>Zay (osc:=Zab Zbp) (on:=["self","word"]) (by decide +kernel) rfl rfl rfl) (pi_keys (pe_fld (pv 0) rfl)) (fun C s H fp=>Zaj (i:=0) nd_hsw rfl (Or.inl rfl) (Or.inr rfl))
    (fun C s H fp=>pts_one (pt_cmp (pc_din hu (pv 0) (Zed hu (pe_fldK (K:=K) rfl (pv 1) rfl) (pv 2) (fun _ _=>rfl))))) (fun C s H fp=>pv 0)))),?_⟩
  obtain ⟨r,hr',er⟩:=Zc5 hx
  obtain ⟨t,o',fk,hv,ht,hreach⟩:=h4.val g.nd hr'
  rw [er] at hv hreach
  have hkv:kvs.length≤24:=by rw [← Paired.length h2.ups];exact g.le
  refine ⟨_,rfl,p,dx,_,rfl,h1,no_check _ _,_,rfl,p,rows,x,rfl,kd,g,hx,?_⟩
  refine ⟨_,rfl,p,C,dx,_,_,rfl,h1,TC.cl,TC.nU,flds_u _ _,d,o,kvs,rfl,h2.at_,Zdx runs_keys (sL (by rw [List.length_map];omega)) (upV rows x) (fun v=>v) (fun D ys hD=>by rw [Zac (nNo h2.at_ hD)];exact h2.at_) ?_ ?_ ?_⟩
  ·intro D ys v R hD hv' hR
   rw [keysV h2.ups] at hv'
   obtain ⟨y,hy,rfl⟩:=List.mem_map.mp hv'
   have kp:∀ b o,H b=some o→(upd H D (.lst ys)) b=some o:=fun b o e=>by rw [Zac (nNo e hD)];exact e
   refine ⟨_,rfl,_,rfl,p,C,dx,_,_,rfl,kp _ _ h1,TC.cl,TC.nA,flds_a _ _,_,rfl,a,_,rfl,(by rw [← hv];exact DGet.f (k:=Sum.inr x) (kp _ _ h3)),t,_,rfl,DGet.f (k:=Sum.inr y) (kp _ _ ht),_,rfl,?_⟩
   rw [key_reach hreach y]
   exact hR
  ·intro D ys v R hD hv' _ hR
   exact ⟨_,rfl,hR⟩
  ·intro D hD
   rw [keysV h2.ups,highs_map]
   exact q D hD
end
end K23
namespace K23
open PySem L2 Md
def Zcs (H:Hp) (all rows:List (Str×List Str)) (avs:List (Key×V)):Prop :=
 Paired (fun r (p:Key×V)=>p.1=Sum.inr r.1∧∃ (t:Addr) (fs:List Str),p.2=.ref t∧H t=some (.lst (fs.map V.str))∧(∀ y,y∈fs↔Graph.Reach (Zb8 all) r.1 y)∧fs.length≤all.length∧fs.Nodup) rows avs
theorem Zcs.mono {H H':Hp}{all rows:List (Str×List Str)}{avs:List (Key×V)}(h:Zcs H all rows avs) (s:∀ b xs,H b=some (.lst xs)→H' b=some (.lst xs)):Zcs H' all rows avs :=
 Paired.mapP h fun _ _ z=>⟨z.1,let ⟨t,fs,e,x,y⟩:=z.2;⟨t,fs,e,s _ _ x,y⟩⟩
theorem Zcs.keys:∀ {H:Hp}{all rows:List (Str×List Str)}{kvs:List (Key×V)},Zcs H all rows kvs→kvs.map (·.1)=rows.map fun r=>(Sum.inr r.1:Key)
 | _,_,_,_,.nil=>rfl
 | _,_,_,_,.cons r t=>by rw [List.map_cons,List.map_cons,r.1,Zcs.keys t]
theorem Zcs.val':∀ {H:Hp}{all rows:List (Str×List Str)}{kvs:List (Key×V)},Zcs H all rows kvs→(rows.map (·.1)).Nodup→∀ {r:Str×List Str},r∈rows→∃ (t:Addr) (fs:List Str),valV kvs (Sum.inr r.1)=some (.ref t)∧H t=some (.lst (fs.map V.str))∧(∀ y,y∈fs↔Graph.Reach (Zb8 all) r.1 y)∧fs.length≤all.length∧fs.Nodup
 | _,_,_,_,.nil,_,r,h=>nomatch h
 | _,_,q :: rs,p :: ps,.cons z t,nd,r,h=>by
  have nd':(q.1 :: rs.map (·.1)).Nodup:=nd
  obtain ⟨n1,n2⟩:=List.nodup_cons.mp nd'
  obtain ⟨z1,u,fs,z2,z3,z4⟩:=z
  rcases List.mem_cons.mp h with e | h
  ·subst e
   exact ⟨u,fs,by rw [valV_pos z1,z2],z3,z4⟩
  ·have ne:¬ p.1=(Sum.inr r.1:Key):=fun e=>n1 (by
    rw [z1] at e
    have e':q.1=r.1:=by injection e
    rw [e']
    exact List.mem_map.mpr ⟨r,h,rfl⟩)
   obtain ⟨u',fs',h1,h2⟩:=Zcs.val' t n2 h
   exact ⟨u',fs',by rw [valV_neg ne];exact h1,h2⟩
theorem Zcs.val {H:Hp}{all rows:List (Str×List Str)}{kvs:List (Key×V)}(h:Zcs H all rows kvs) (nd:(rows.map (·.1)).Nodup) {r:Str×List Str}(hr:r∈rows):∃ (t:Addr) (fs:List Str),valV kvs (Sum.inr r.1)=some (.ref t)∧H t=some (.lst (fs.map V.str))∧∀ y,y∈fs↔Graph.Reach (Zb8 all) r.1 y :=
 let ⟨u,fs,h1,h2,h3,_⟩:=h.val' nd hr;⟨u,fs,h1,h2,h3⟩
theorem mem_reach {rows:List (Str×List Str)}{x:Str}{fs:List Str}(h:∀ y,y∈fs↔Graph.Reach (Zb8 rows) x y) (y:Str):decide (y∈fs)=Zcl rows x y:=by
 unfold Zcl
 by_cases z:Graph.Reach (Zb8 rows) x y
 ·rw [decide_eq_true ((h y).mpr z)]
  exact (@decide_eq_true _ (Classical.propDecidable _) z).symm
 ·rw [decide_eq_false fun k=>z ((h y).mp k)]
  exact (@decide_eq_false _ (Classical.propDecidable _) z).symm
def spLAbove:Sp:=fun vs H Q _=>∃ (l:Addr) (rows:List (Str×List Str)),vs=[.ref l]∧Zd6 H l rows∧Zd7 rows∧∀ a avs H',Zan H H'→H' a=some (.dK avs)→Zcs H' rows rows avs→Q (.ref a) H'
structure GoL (rows:List (Str×List Str)) (x:Str) (fs:List Str) (k:Nat):Prop where
 start:x∈fs
 known:∀ y∈fs,y∈rows.map (·.1)
 nd:fs.Nodup
 reach:∀ y∈fs,Graph.Reach (Zb8 rows) x y
 closed:∀ y∈fs.take k,∀ u∈Zb8 rows y,u∈fs
theorem GoL.le {rows:List (Str×List Str)}{x:Str}{fs:List Str}{k:Nat}(h:GoL rows x fs k):fs.length≤rows.length:=by
 have:=Graph.nodup_le h.nd h.known
 rwa [List.length_map] at this
theorem GoL.all {rows:List (Str×List Str)}{x:Str}{fs:List Str}{k:Nat}(h:GoL rows x fs k) (hk:fs.length≤k) (y:Str):y∈fs↔Graph.Reach (Zb8 rows) x y :=
 ⟨h.reach y,fun r=>Graph.closed_reach (S:=fun y=>y∈fs) (fun z hz u hu=>h.closed z (by rw [List.take_of_length_le hk];exact hz) u hu) r h.start⟩
theorem reach_known {rows:List (Str×List Str)}(g:Zd7 rows) {y u:Str}(hy:y∈rows.map (·.1)) (hu:u∈Zb8 rows y):u∈rows.map (·.1):=by
 obtain ⟨r,hr,e⟩:=Zc5 hy
 rw [← e,upsOf_at g.nd hr] at hu
 exact g.known r hr u hu
section
variable {P:Program} {w:World} {K:PySem.W.Frag} {mg:Str→Option Value} {base:Heap}
abbrev nLA:List Str:=["rows","ups","word","some","above","found","at","up"]
theorem scLA:Zap nLA ["rows"] (Zab Zcb):=⟨rfl,rfl,rfl,by decide +kernel,rfl,by decide +kernel,by decide +kernel⟩
theorem ok_labove {f:Addr}{fd:FuncData}(F:Def K mg "_law_above" Zcb ["rows"] f fd) (len:mg "len"=none):Za0 P w K mg base CX0 1 f fd ["rows"] spLAbove:=by
 refine F.fn.ok scLA (fun vs H Q E h=>?_) (fun cdv A outer s H vs Q E hr h=>?_)
 ·obtain ⟨l,rows,rfl,_⟩:=h
  rfl
 ·obtain ⟨l,rows,rfl,hR,g,q⟩:=h
  have nd:=scLA.nd
  have hu:=hu_of hr
  refine ⟨_,pS (Zah (i:=1) nd rfl (Or.inl rfl) pe_dnewK)
   (pS (Zdd PassesOwn.never rfl (Zcw (pv 0)) (pg_tup rfl (gC (Zaj (i:=2) nd rfl (Or.inl rfl)) (gC (Zaj (i:=3) nd rfl (Or.inl rfl)) Zer)))
    (Zad (ps_dput hu (pv 1) (pv 2) (pv 3) rfl)))
   (pS (Zah (i:=4) nd rfl (Or.inl rfl) pe_dnewK)
   (pS (Zdd PassesOwn.never rfl (Zcw (pv 0)) (pg_tup rfl (gC (Zaj (i:=2) nd rfl (Or.inl rfl)) (gC (Zaj (i:=3) nd rfl (Or.inl rfl)) Zer)))
    (pS (Zah (i:=5) nd rfl (Or.inl rfl) (Zcx (pC (pv 2) Zaa)))
    (pS (Zah (i:=6) nd rfl (Or.inl rfl) Zae)
    (pS (ps_while PassesOwn.never (Zal op_lt (pv 6) (Zag Zdo (by rfl) len PySem.boot_len (pC (pv 5) Zaa)) (Zaq _))
     (pS (Zdd PassesOwn.never rfl (pi_tup (Zed hu (pv 1) (Zbc Zaw (pv 5) (pv 6) (fun _ _=>rfl)) (fun _ _=>rfl))) (Zaj (i:=7) nd rfl (Or.inl rfl))
      (Zad (Za5 (Zal op_notIn_seq (pv 7) (pv 5) (by with_unfolding_all rfl)) (Zad (Zbg (pe_bm PySem.F.plainAttrs_list PySem.F.slot_list_append PySem.F.type_list_append Zde (pv 5) (pC (pv 7) Zaa)))) Zai)))
     (Zad (Zah (i:=6) nd rfl (Or.inl rfl) (Za8 Zei (pv 6) Zae)))))
    (Zad (ps_dput hu (pv 4) (pv 2) (pv 5) rfl))))))
   (Zad (Zar (pv 4)))))),?_⟩
  have gle:=g.le
  obtain ⟨vs,hvs,hpr⟩:=hR
  intro d hd
  have s1:Zan H (upd H d (.dK [])):=fun b o e=>by rw [Zac (nNo e hd)];exact e
  refine ⟨_,rfl,l,rfl,⟨_,SqL.of (s1 _ _ hvs)⟩,Zbs (Zce (xs:=vs)) (fun i σ H'=>∃ (kvs:List (Key×V)) (a c:Option V),σ=[some (.ref l),some (.ref d),a,c,none,none,none,none]∧Zan H H'∧H' d=some (.dK kvs)∧UpsD H' (rows.take i) kvs)
   ⟨[],none,none,rfl,s1,uS,by rw [List.take_zero];exact .nil⟩ (fun i σ H' _ ⟨_,_,_,_,s,_⟩=>SqL.of (s _ _ hvs)) ?_ ?_⟩
  ·rintro i v σ H' hi ⟨kvs,a,c,rfl,s3,hdk,hU⟩
   obtain ⟨r,hr',t,u,rfl,ht,hug⟩:=Zba hpr hi
   refine ⟨t,_,rfl,SqT.of (s3 _ _ ht),rfl,_,_,rfl,_,_,rfl,rfl,?_⟩
   have hnew:(Sum.inr r.1:Key)∉kvs.map (·.1):=by rw [hU.keys];exact taken_not g.nd hr'
   have hil:(rows.take i).length≤24:=by rw [List.length_take];omega
   have hkl:kvs.length=(rows.take i).length:=(Paired.length hU).symm
   refine ⟨_,rfl,_,rfl,_,rfl,d,_,rfl,DPut.k (k:=Sum.inr r.1) hdk (Za7 (by omega)),?_⟩
   have tk:∀ b xs,H' b=some (.tup xs)→(upd H' d (.dK (putK kvs (Sum.inr r.1) (.ref u)))) b=some (.tup xs):=fun b xs e=>by
    rw [Zac (fun z=>by rw [z,hdk] at e;cases e)];exact e
   refine ⟨_,_,_,rfl,fun b o e=>by rw [Zac (nNo e hd)];exact s3 _ _ e,uS,?_⟩
   have sn:UpsD (upd H' d (.dK (putK kvs (Sum.inr r.1) (.ref u)))) (rows.take i++[r]) (kvs++[(Sum.inr r.1,V.ref u)]):=Paired.snoc (hU.mono tk) ⟨rfl,u,rfl,tk u _ (s3 _ _ hug)⟩
   rw [← putK_new _ (Zcz hnew)] at sn
   rw [List.take_add_one,hr']
   exact sn
  ·rintro σ H2 ⟨kvs,a,c,rfl,s3,hdk,hU⟩
   have hvl:=hpr.length
   rw [← hvl,List.take_length] at hU
   intro aa haa
   have s4:Zan H2 (upd H2 aa (.dK [])):=fun b o e=>by rw [Zac (nNo e haa)];exact e
   have aaH:H aa=none:=s3.free haa
   have daa:d≠aa:=nNo hdk haa
   have hU4:UpsD (upd H2 aa (.dK [])) rows kvs:=hU.mono fun b xs e=>s4 _ _ e
   have hd4:=s4 _ _ hdk
   have s04:=s3.trans s4
   refine ⟨_,rfl,l,rfl,⟨_,SqL.of (s04 _ _ hvs)⟩,Zbs (Zce (xs:=vs)) (fun i σ H'=>∃ (avs:List (Key×V)) (a b c e f:Option V),σ=[some (.ref l),some (.ref d),a,b,some (.ref aa),c,e,f]∧(∀ b o,b≠aa→H2 b=some o→H' b=some o)∧H' aa=some (.dK avs)∧Zcs H' rows (rows.take i) avs)
    ⟨[],_,_,_,_,_,rfl,fun b o hb e=>by rw [Zac hb];exact e,uS,by rw [List.take_zero];exact .nil⟩ (fun i σ H' _ ⟨_,_,_,_,_,_,_,k,_⟩=>SqL.of (k _ _ (nNo hvs aaH) (s3 _ _ hvs))) ?_ ?_⟩
   ·rintro i v σ H' hi ⟨avs,a,b,c,e,f',rfl,k1,haa1,hA⟩
    obtain ⟨r,hr',t,u,rfl,ht,hug⟩:=Zba hpr hi
    have hmem:r∈rows:=List.mem_of_getElem? hr'
    have keep1:∀ b o,H b=some o→H' b=some o:=fun b o e=>k1 b o (nNo e aaH) (s3 _ _ e)
    refine ⟨t,_,rfl,SqT.of (keep1 _ _ ht),rfl,_,_,rfl,_,_,rfl,rfl,?_⟩
    refine ⟨_,rfl,sL (by show 1≤100000;decide),fun fa hfa=>?_⟩
    have sF:∀ {H5:Hp},Zan H' H5→UpsD H5 rows kvs:=fun {H5} s=>hU.mono fun b xs e=>s _ _ (k1 b _ (fun z=>by rw [z,haa] at e;cases e) e)
    have dF:∀ {H5:Hp},Zan H' H5→H5 d=some (.dK kvs):=fun {H5} s=>s _ _ (k1 _ _ daa hdk)
    refine ⟨fun m σ H5=>∃ (fs:List Str) (k:Nat) (f:Option V),σ=[some (.ref l),some (.ref d),some (.str r.1),some (.ref u),some (.ref aa),some (.ref fa),some (.int (k:Int)),f]∧Zan H' H5∧H5 fa=some (.lst (fs.map V.str))∧GoL rows r.1 fs k∧k≤fs.length∧m + k=rows.length,
     ⟨rows.length,[r.1],0,_,rfl,fun b o e=>by rw [Zac (nNo e hfa)];exact e,uS,⟨by simp,fun y h=>by rw [List.mem_singleton.mp h];exact List.mem_map.mpr ⟨r,hmem,rfl⟩,by simp,fun y h=>by rw [List.mem_singleton.mp h];exact .refl _,fun y h=>by simp at h⟩,by simp,rfl⟩,?_⟩
    rintro m σ H5 ⟨fs,k,f2,rfl,s5,hf5,go,hk,hm⟩
    have flen:=go.le
    refine ⟨_,rfl,_,rfl,_,_,rfl,.inl ⟨_,SqL.of hf5,rfl⟩,_,_,rfl,rfl,_,rfl,?_⟩
    rw [List.length_map]
    refine Zdy (fun hlt=>?_) (fun hlt=>?_)
    ·have hlt:k<fs.length:=by have:=of_decide_eq_true hlt;omega
     refine ⟨fun σ' H6=>∃ m',m'<m∧∃ (fs:List Str) (k:Nat) (f:Option V),σ'=[some (.ref l),some (.ref d),some (.str r.1),some (.ref u),some (.ref aa),some (.ref fa),some (.int (k:Int)),f]∧Zan H' H6∧H6 fa=some (.lst (fs.map V.str))∧GoL rows r.1 fs k∧k≤fs.length∧m' + k=rows.length,fun _ _ h=>h,?_⟩
     have hat:fs[k]?=some fs[k]:=List.getElem?_eq_getElem hlt
     generalize hhere:fs[k]=here at hat
     have hin:here∈fs:=List.mem_of_getElem? hat
     obtain ⟨r2,hr2,er⟩:=Zc5 (go.known here hin)
     obtain ⟨t2,hvt,ht2⟩:=(sF s5).val g.nd hr2
     rw [er] at hvt
     have uo:Zb8 rows here=r2.2:=by rw [← er];exact upsOf_at g.nd hr2
     have hix:atI (fs.map V.str) (k:Int)=some (V.str here):=Zdh (by rw [List.getElem?_map,hat];rfl)
     refine ⟨_,rfl,_,rfl,_,rfl,fa,_,_,_,rfl,rfl,SqL.of hf5,hix,d,_,rfl,(by rw [← hvt];exact DGet.k (k:=Sum.inr here) (dF s5)),t2,rfl,⟨_,SqT.of ht2⟩,?_⟩
     have ht2f:t2≠fa:=fun z=>by rw [z,hf5] at ht2;cases ht2
     refine Zbs (Zd8 (xs:=r2.2.map V.str)) (fun j σ H6=>∃ (ex:List Str) (f:Option V),σ=[some (.ref l),some (.ref d),some (.str r.1),some (.ref u),some (.ref aa),some (.ref fa),some (.int (k:Int)),f]∧(∀ b o,b≠fa→H5 b=some o→H6 b=some o)∧H6 fa=some (.lst ((fs++ex).map V.str)) ∧
      (∀ y∈fs++ex,y∈rows.map (·.1))∧(fs++ex).Nodup∧(∀ y∈fs++ex,Graph.Reach (Zb8 rows) r.1 y)∧∀ z∈r2.2.take j,z∈fs++ex)
      ⟨[],_,rfl,fun b o _ e=>e,by rw [List.append_nil];exact hf5,by rw [List.append_nil];exact go.known,by rw [List.append_nil];exact go.nd,by rw [List.append_nil];exact go.reach,fun z h=>by simp at h⟩ (fun j σ H6 _ ⟨_,_,_,k6,_⟩=>SqT.of (k6 _ _ ht2f ht2)) ?_ ?_
     ·rintro j v σ H6 hj ⟨ex,f3,rfl,k6,hf6,kn,ndx,rch,seen⟩
      obtain ⟨z,hz,rfl⟩:=strs_at hj
      have hzu:z∈Zb8 rows here:=by rw [uo];exact List.mem_of_getElem? hz
      have hle:(fs++ex).length≤24:=by
       have:=Graph.nodup_le ndx kn
       rw [List.length_map] at this
       omega
      refine ⟨_,rfl,_,rfl,fa,_,rfl,.inl (SqL.of hf6),rfl,flat_strs _,_,rfl,?_⟩
      show if (!inV (.str z) ((fs++ex).map V.str))=true then _ else _
      rw [in_strs]
      have sj:∀ y∈r2.2.take (j + 1),y∈r2.2.take j∨y=z:=fun y h=>by
       rw [List.take_add_one,hz] at h
       rcases List.mem_append.mp h with h | h
       ·exact .inl h
       ·simp at h;exact .inr h
      refine Zdy (fun hn=>?_) (fun hn=>?_)
      ·have hn:z∉fs++ex:=fun c=>by rw [decide_eq_true c] at hn;cases hn
       refine ⟨_,rfl,.inl ⟨rfl,_,SqL.of hf6⟩,_,rfl,fa,_,_,rfl,rfl,hf6,Za7 (by rw [List.length_map];omega),?_⟩
       refine ⟨ex++[z],_,rfl,fun b o hb e=>by rw [Zac hb];exact k6 b o hb e,?_,?_,?_,?_,?_⟩
       ·have e:(fs++(ex++[z])).map V.str=(fs++ex).map V.str++[V.str z]:=by simp
        rw [uS,e]
       ·intro y hy
        rw [← List.append_assoc] at hy
        rcases List.mem_append.mp hy with h | h
        ·exact kn y h
        ·rw [List.mem_singleton.mp h]
         exact reach_known g (go.known here hin) hzu
       ·rw [← List.append_assoc]
        refine List.nodup_append.mpr ⟨ndx,by simp,fun a ha b hb e=>?_⟩
        rw [List.mem_singleton.mp hb] at e
        rw [e] at ha
        exact hn ha
       ·intro y hy
        rw [← List.append_assoc] at hy
        rcases List.mem_append.mp hy with h | h
        ·exact rch y h
        ·rw [List.mem_singleton.mp h]
         exact (go.reach here hin).snoc hzu
       ·intro y hy
        rw [← List.append_assoc]
        rcases sj y hy with h | h
        ·exact List.mem_append.mpr (.inl (seen y h))
        ·rw [h];simp
      ·have hn:z∈fs++ex:=Classical.byContradiction fun c=>hn (by rw [decide_eq_false c];rfl)
       refine ⟨ex,_,rfl,k6,hf6,kn,ndx,rch,fun y hy=>?_⟩
       rcases sj y hy with h | h
       ·exact seen y h
       ·rw [h];exact hn
     ·rintro σ H6 ⟨ex,f3,rfl,k6,hf6,kn,ndx,rch,seen⟩
      rw [List.length_map,List.take_length] at seen
      refine ⟨_,rfl,_,_,rfl,rfl,m - 1,by omega,fs++ex,k + 1,_,rfl,fun b o e=>k6 b o (nNo e hfa) (s5 _ _ e),hf6,⟨List.mem_append.mpr (.inl go.start),kn,ndx,rch,?_⟩,by rw [List.length_append];omega,by omega⟩
      intro y hy z hz
      have htk:(fs++ex).take (k + 1)=fs.take k++[here]:=by
       rw [List.take_append_of_le_length (by omega),List.take_add_one,hat]
       rfl
      rw [htk] at hy
      rcases List.mem_append.mp hy with h | h
      ·exact List.mem_append.mpr (.inl (go.closed y h z hz))
      ·rw [List.mem_singleton.mp h,uo] at hz
       exact seen z hz
    ·have hge:fs.length≤k:=by
      have:¬ ((k:Int)<(fs.length:Int)):=fun z=>hlt (decide_eq_true z)
      omega
     have aa5:=s5 _ _ haa1
     have hnew:(Sum.inr r.1:Key)∉avs.map (·.1):=by rw [hA.keys];exact taken_not g.nd hr'
     have hil:(rows.take i).length≤24:=by rw [List.length_take];omega
     have hkl:avs.length=(rows.take i).length:=(Paired.length hA).symm
     refine ⟨_,rfl,_,rfl,_,rfl,aa,_,rfl,DPut.k (k:=Sum.inr r.1) aa5 (Za7 (by omega)),?_⟩
     have lk:∀ b xs,H5 b=some (.lst xs)→(upd H5 aa (.dK (putK avs (Sum.inr r.1) (.ref fa)))) b=some (.lst xs):=fun b xs e=>by
      rw [Zac (fun z=>by rw [z,aa5] at e;cases e)];exact e
     refine ⟨_,_,_,_,_,_,rfl,fun b o hb e=>by rw [Zac hb];exact s5 _ _ (k1 b o hb e),uS,?_⟩
     have sn:Zcs (upd H5 aa (.dK (putK avs (Sum.inr r.1) (.ref fa)))) rows (rows.take i++[r]) (avs++[(Sum.inr r.1,V.ref fa)]):=Paired.snoc ((hA.mono fun b xs e=>s5 _ _ e).mono lk) ⟨rfl,fa,fs,rfl,lk _ _ hf5,go.all hge,go.le,go.nd⟩
     rw [← putK_new _ (Zcz hnew)] at sn
     rw [List.take_add_one,hr']
     exact sn
   ·rintro σ H' ⟨avs,a,b,c,e,f',rfl,k1,haa1,hA⟩
    rw [← hvl,List.take_length] at hA
    exact ⟨_,rfl,q aa avs H' (fun b o e=>k1 b o (nNo e aaH) (s3 _ _ e)) haa1 hA⟩
end
end K23
namespace K23
open PySem L2 Md
def callB (rows:List (Str×List Str)) (n:Nat) (xs:List Str):Bool:=decide (xs.length=n)&&xs.all fun x=>decide (x∈rows.map (·.1))
structure Zdf (rows:List (Str×List Str)) (n:Nat) (xs:List Str):Prop where
 len:xs.length=n
 known:∀ x∈xs,x∈rows.map (·.1)
theorem Zdf.is {rows:List (Str×List Str)}{n:Nat}{xs:List Str}(h:Zdf rows n xs):callB rows n xs=true:=by
 unfold callB
 rw [decide_eq_true h.len,Bool.true_and,List.all_eq_true]
 exact fun x hx=>decide_eq_true (h.known x hx)
def spIsCall (C:Addr):Sp:=fun vs H Q _=>∃ (p t:Addr) (n:Nat) (rows:List (Str×List Str)) (xs:List Str),vs=[.ref p,.int n,.ref t]∧Zck C H p rows∧Zd7 rows∧H t=some (.tup (xs.map V.str))∧xs.length≤1000∧∀ H',Zan H H'→Q (.bl (callB rows n xs)) H'
def knownV (rows:List (Str×List Str)):V→V
 | .str x=>.bl (decide (x∈rows.map (·.1)))
 | _=>.non
theorem knownV_map (rows:List (Str×List Str)) (xs:List Str):(((xs.map V.str).filter fun _=>true).map (knownV rows))=(xs.map fun x=>decide (x∈rows.map (·.1))).map V.bl:=by
 rw [List.filter_eq_self.mpr (fun _ _=>rfl),List.map_map,List.map_map]
 rfl
theorem nd_wk:(["word","kinds"]:List Str).Nodup:=by decide +kernel
section
variable {P:Program} {w:World} {K:PySem.W.Frag} {mg:Str→Option Value} {base:Heap}
abbrev nIC:List Str:=["kinds","places","call"]
theorem scIC:Zap nIC nIC (Zab Zcu):=⟨rfl,rfl,rfl,by decide +kernel,rfl,by decide +kernel,by decide +kernel⟩
theorem ok_is_call {f C fH:Addr}{fd fdH:FuncData}(F:Def K mg "is_call" Zcu nIC f fd) (len:mg "len"=none) (all:mg "all"=none) (TC:TxtC K C) (MH:MHas K C fH fdH):Za0 P w K mg base CX0 2 f fd nIC (spIsCall C):=by
 have GH:Za0 P w K mg base CX0 1 fH fdH ["self","word"] (spHas C):=ok_has MH.fn TC
 refine F.fn.ok scIC (fun vs H Q E h=>?_) (fun cdv A outer s H vs Q E hr h=>?_)
 ·obtain ⟨p,t,n,rows,xs,rfl,_⟩:=h
  rfl
 ·obtain ⟨p,t,n,rows,xs,rfl,kd,g,ht,hz,q⟩:=h
  obtain ⟨dx,d,a,o,oa,kvs,avs,h1,_⟩:=kd.ex
  have hr1:Zdp 1 _:=hr.mono (by decide)
  refine' ⟨_,Zad (Zar (pe_and ?ea (pe_one ?eb))),?_⟩
  case ea=>exact Zes Zc7 (Zag Zam (by rfl) len PySem.boot_len (pC (pv 2) Zaa)) (pv 1) (Zaq _)
  case eb=>exact Zag (call_all rfl) (by rfl) all PyProof.Rows.boot_all (pC
    (Zb5 ["word"] ["kinds"] [0] (fun _=>Zay (osc:=Zab Zcu) (on:=nIC) (by decide +kernel) rfl rfl rfl) (pi_tup (pv 2)) (fun C s H fp=>Zaj (i:=0) nd_wk rfl (Or.inl rfl) (Or.inr rfl)) (fun C s H fp=>Zb2)
     (fun C s H fp=>pe_meth (pv 1) TC.cl MH.me GH hr1 MH.b .nil pass0 (pC (pv 0) Zaa))) Zaa)
  refine ⟨_,rfl,t,_,rfl,.inr (SqT.of ht),_,rfl,rfl,_,rfl,?_⟩
  have e:decide (V.int ((xs.map V.str).length:Nat)=V.int n)=decide (xs.length=n):=by
   rw [List.length_map]
   exact decide_eq_decide.mpr ⟨fun z=>by injection z with z;omega,fun z=>by rw [z]⟩
  rw [e]
  refine Zdy (fun h=>?_) (fun h=>?_)
  ·refine ⟨_,rfl,t,rfl,⟨_,SqT.of ht⟩,Zdx (Zd8 (xs:=xs.map V.str)) (sL (by rw [List.length_map];omega)) (fun _=>true) (knownV rows) (fun D ys hD=>SqT.of (by rw [Zac (nNo ht hD)];exact ht)) ?_ ?_ ?_⟩
   ·intro D ys v R _ _ hR
    exact hR
   ·intro D ys v R hD hv _ hR
    obtain ⟨x,hx,rfl⟩:=List.mem_map.mp hv
    have s2:Zan H (upd H D (.lst ys)):=snew hD
    exact ⟨_,rfl,p,dx,_,rfl,s2 _ _ h1,no_has _ _,_,rfl,p,rows,x,rfl,kd.mono s2,g,hR⟩
   ·intro D hD
    refine ⟨D,_,rfl,SqL.of (by rw [uS,knownV_map]),?_⟩
    have q':=q _ (snew (o:=.lst (((xs.map V.str).filter fun _=>true).map (knownV rows))) hD)
    unfold callB at q'
    rw [h,Bool.true_and] at q'
    show Q (.bl ((xs.map fun x=>decide (x∈rows.map (·.1))).all id)) _
    rw [List.all_map]
    exact q'
  ·have q':=q H (Zan.refl H)
   unfold callB at q'
   rw [show decide (xs.length=n)=false by simpa using h,Bool.false_and] at q'
   exact q'
def Zdq (H:Hp) (ds:List (List Str)) (vs:List V):Prop:=Paired (fun (d:List Str) v=>∃ t,v=V.ref t∧H t=some (.tup (d.map V.str))) ds vs
theorem Zdq.mono {H H':Hp}{ds:List (List Str)}{vs:List V}(h:Zdq H ds vs) (s:Zan H H'):Zdq H' ds vs:=Paired.mapP h fun _ _ ⟨t,e,x⟩=>⟨t,e,s _ _ x⟩
structure Zel (rows:List (Str×List Str)) (n:Nat) (ds:List (List Str)):Prop where
 call:∀ d∈ds,Zdf rows n d
 nd:ds.Nodup
 few:ds.length≤64
def keyC (d:List Str):List Key:=d.map Sum.inr
theorem keyC_map (d:List Str):(keyC d).map kV=d.map V.str:=by
 unfold keyC
 rw [List.map_map]
 rfl
theorem keyC_inj {d e:List Str}(h:keyC d=keyC e):d=e:=by
 unfold keyC at h
 exact List.map_inj_right (fun a b z=>by injection z) |>.mp h
theorem taken_notD {ds:List (List Str)}(nd:ds.Nodup) {i:Nat}{d:List Str}(h:ds[i]?=some d):keyC d∉(ds.take i).map keyC:=by
 intro m
 obtain ⟨e,he,q⟩:=List.mem_map.mp m
 rw [keyC_inj q] at he
 exact not_taken nd h he
def spCheckDeeds (K:PySem.W.Frag) (C:Addr):Sp:=fun vs H Q _=>∃ (p l:Addr) (n:Nat) (b:Bool) (rows:List (Str×List Str)) (ds:List (List Str)) (us:List V),vs=[.ref p,.int n,.ref l]∧Zck C H p rows∧Zd7 rows∧SqB K b H l us∧Zdq H ds us∧Zel rows n ds∧n≤4∧∀ H',Zan H H'→Q .non H'
abbrev nCD:List Str:=["kinds","places","deeds","seen","number","call"]
theorem scCD:Zap nCD ["kinds","places","deeds"] (Zab Zb9):=⟨rfl,rfl,rfl,by decide +kernel,rfl,by decide +kernel,by decide +kernel⟩
theorem ok_check_deeds {f C fI fH:Addr}{fd fdI fdH:FuncData}(F:Def K mg "check_deeds" Zb9 ["kinds","places","deeds"] f fd) (DI:Def K mg "is_call" Zcu nIC fI fdI) (enum:mg "enumerate"=none) (len:mg "len"=none) (all:mg "all"=none) (TC:TxtC K C) (MH:MHas K C fH fdH):
  Za0 P w K mg base CX0 3 f fd ["kinds","places","deeds"] (spCheckDeeds K C):=by
 have GI:Za0 P w K mg base CX0 2 fI fdI nIC (spIsCall C):=ok_is_call DI len all TC MH
 refine F.fn.ok scCD (fun vs H Q E h=>?_) (fun cdv A outer s H vs Q E hr h=>?_)
 ·obtain ⟨p,l,n,b,rows,ds,us,rfl,_⟩:=h
  rfl
 ·obtain ⟨p,l,n,b,rows,ds,us,rfl,kd,g,hl,hD,gd,hn,q⟩:=h
  have nd:=scCD.nd
  have hu:=hu_of hr
  refine ⟨_,pS (Zah (i:=3) nd rfl (Or.inl rfl) pe_dnewT)
   (Zad (Zdd PassesOwn.never rfl (pi_enum (by rfl) enum (pC (pv 2) Zaa)) (pg_tup rfl (gC (Zaj (i:=4) nd rfl (Or.inl rfl)) (gC (Zaj (i:=5) nd rfl (Or.inl rfl)) Zer)))
    (pS (Za5 (Zd9 (pt_val (Zaf DI GI hr (pC (pv 0) (pC (pv 1) (pC (pv 5) Zaa)))))) Zb3 Zai)
    (pS (Za5 (pt_cmp (pc_din hu (pv 5) (pv 3))) Zb3 Zai)
    (Zad (ps_dput hu (pv 3) (pv 5) pe_bl rfl)))))),?_⟩
  intro d hd
  have s0:Zan H (upd H d (.dT [])):=snew hd
  have hvl:=hD.length
  have few:=gd.few
  refine ⟨_,rfl,b,l,us,rfl,hl.mono s0,for_pairs (fun i σ H'=>∃ (kvs:List (List Key×V)) (a c:Option V),σ=[some (.ref p),some (.int n),some (.ref l),some (.ref d),a,c]∧Zan H H'∧H' d=some (.dT kvs)∧kvs.map (·.1)=(ds.take i).map keyC)
   ⟨[],none,none,rfl,s0,uS,by simp⟩ (fun i σ H' _ ⟨_,_,_,_,s,_⟩=>hl.mono s) ?_ ?_⟩
  ·rintro i pr t σ H' hi ⟨kvs,a,c,rfl,s1,hdk,hk⟩ ht0
   obtain ⟨e1,hx⟩:=enumV_get hi
   obtain ⟨dd,hdd,t2,e2,ht2⟩:=Zba hD hx
   refine g2_new ?_
   have s2:Zan H' (upd H' t (.tup [pr.1,pr.2])):=snew ht0
   have hmem:dd∈ds:=List.mem_of_getElem? hdd
   have gc:=gd.call dd hmem
   rw [e2]
   show tSeq _ _ _ [some (.ref p),some (.int n),some (.ref l),some (.ref d),some pr.1,some (.ref t2)] _
   have s02:=s1.trans s2
   refine ⟨_,rfl,_,rfl,_,rfl,p,t2,n,rows,dd,rfl,kd.mono ?_,g,?_,by have:=gc.len;omega,fun H3 s3=>⟨_,rfl,?_⟩⟩
   ·rw [← e2];exact s02
   ·rw [← e2];exact s02 _ _ ht2
   rw [gc.is]
   refine iteF ?_
   rw [← e2] at s3
   have s03:=s02.trans s3
   have hd3:H3 d=some (.dT kvs):=s3 _ _ (s2 _ _ hdk)
   have ht3:H3 t2=some (.tup ((keyC dd).map kV)):=by rw [keyC_map];exact s03 _ _ ht2
   refine ⟨_,rfl,_,rfl,d,_,rfl,DGet.t (k:=keyC dd) hd3 ht3,_,rfl,?_⟩
   have hnew:keyC dd∉kvs.map (·.1):=by rw [hk];exact taken_notD gd.nd hdd
   rw [valV_noneG hnew]
   refine iteF ?_
   have hkl:kvs.length=(ds.take i).length:=by have:=congrArg List.length hk;simpa using this
   have hil:(ds.take i).length≤64:=by rw [List.length_take];omega
   refine ⟨_,rfl,_,rfl,d,_,rfl,DPut.t (k:=keyC dd) hd3 ht3 (Za7 (by omega)),?_⟩
   refine ⟨_,_,_,rfl,fun b o e=>?_,uS,?_⟩
   ·rw [Zac (nNo e hd)];exact s03 _ _ e
   ·rw [putK_keysG hnew,hk,List.take_add_one,hdd,List.map_append]
    rfl
  ·rintro σ H' ⟨kvs,a,c,rfl,s1,hdk,hk⟩
   exact q H' s1
end
end K23
namespace K23
open PySem L2 Md
theorem bne1:¬ (("book":Str)="stands"):=by decide +kernel
theorem bne2:¬ (("book":Str)="width"):=by decide +kernel
theorem bne3:¬ (("width":Str)="stands"):=by decide +kernel
def fldsB (k t:Addr) (n:Nat):List (Str×V):=putF "stands" (.ref t) (putF "width" (.int n) (putF "book" (.ref k) []))
theorem fldsB_b (k t:Addr) (n:Nat):(fldsB k t n).lookup ("book":Str)=some (.ref k):=by
 unfold fldsB
 rw [Za3,if_neg bne1,Za3,if_neg bne2,Za3,if_pos rfl]
theorem fldsB_w (k t:Addr) (n:Nat):(fldsB k t n).lookup ("width":Str)=some (.int n):=by
 unfold fldsB
 rw [Za3,if_neg bne3,Za3,if_pos rfl]
theorem fldsB_no (k t:Addr) (n:Nat) {m:Str} (h1:¬ m="stands") (h2:¬ m="width") (h3:¬ m="book"):(fldsB k t n).lookup m=none:=by
 unfold fldsB
 rw [Za3,if_neg h1,Za3,if_neg h2,Za3,if_neg h3]
 rfl
theorem no_bkinds (k t:Addr) (n:Nat):(fldsB k t n).lookup ("kinds":Str)=none:=fldsB_no k t n (by decide +kernel) (by decide +kernel) (by decide +kernel)
theorem no_bplaces (k t:Addr) (n:Nat):(fldsB k t n).lookup ("places":Str)=none:=fldsB_no k t n (by decide +kernel) (by decide +kernel) (by decide +kernel)
structure Zdt (C B:Addr) (H:Hp) (p k:Addr) (rows:List (Str×List Str)) (n:Nat) (ds:List (List Str)):Prop where
 ex:∃ (dx t:Addr) (us:List V),H p=some (.ins B dx (fldsB k t n))∧Zck C H k rows∧H t=some (.tup us)∧Zdq H ds us
theorem Zdt.mono {C B:Addr}{H H':Hp}{p k:Addr}{rows:List (Str×List Str)}{n:Nat}{ds:List (List Str)}(h:Zdt C B H p k rows n ds) (s:Zan H H'):Zdt C B H' p k rows n ds:=by
 obtain ⟨dx,t,us,h1,h2,h3,h4⟩:=h.ex
 exact ⟨dx,t,us,s _ _ h1,h2.mono s,s _ _ h3,h4.mono s⟩
structure TxtBd (K:PySem.W.Frag) (B:Addr):Prop where
 cl:Cls K B
 nB:NoAttr K B "book"
 nW:NoAttr K B "width"
 nS:NoAttr K B "stands"
structure TxtBm (mg:Str→Option Value):Prop where
 places:∃ t,mg "MOST_PLACES"=some (.int 4 t)
 deeds:∃ t,mg "MOST_DEEDS"=some (.int 64 t)
 len:mg "len"=none
 all:mg "all"=none
 tuple:mg "tuple"=none
 list:mg "list"=none
 enum:mg "enumerate"=none
def spBInit (K:PySem.W.Frag) (C B:Addr):Sp:=fun vs H Q _=>∃ (p dx k l:Addr) (n:Nat) (rows:List (Str×List Str)) (ds:List (List Str)) (us:List V),vs=[.ref p,.ref k,.int n,.ref l]∧H p=some (.ins B dx [])∧Zck C H k rows∧Zd7 rows∧(SqL K H l us∨H l=some (.tup us))∧Zdq H ds us∧Zel rows n ds∧1≤n∧n≤4 ∧
 ∀ H',Zdt C B H' p k rows n ds→(∀ b o,b≠p→H b=some o→H' b=some o)→Q .non H'
theorem kinds_keep {C p:Addr}{H H':Hp}{k:Addr}{rows:List (Str×List Str)}{o:HO}(h:Zck C H k rows) (hp:H p=some o) (s:∀ b o,b≠p→H b=some o→H' b=some o) (nk:k≠p) (no:∀ o' u,o≠.frz o' u) (nt:∀ xs,o≠.tup xs):Zck C H' k rows:=by
 obtain ⟨dx,d,a,o1,oa,kvs,avs,h1,h2,h3,h4⟩:=h.ex
 have ne:∀ {b o' u},H b=some (.frz o' u)→b≠p:=fun {b o' u} e z=>by rw [z,hp] at e;exact no _ _ (Option.some.inj e)
 have net:∀ {b xs},H b=some (.tup xs)→b≠p:=fun {b xs} e z=>by rw [z,hp] at e;exact nt _ (Option.some.inj e)
 exact ⟨dx,d,a,o1,oa,kvs,avs,s _ _ nk h1,⟨s _ _ (ne h2.at_) h2.at_,h2.ups.mono fun b xs e=>s _ _ (net e) e⟩,s _ _ (ne h3) h3,h4.mono fun b o' fk e=>s _ _ (ne e) e⟩
section
variable {P:Program} {w:World} {K:PySem.W.Frag} {mg:Str→Option Value} {base:Heap}
abbrev nBI:List Str:=["self","kinds","places","deeds"]
theorem scBI:Zap nBI nBI (Zab Zbk):=⟨rfl,rfl,rfl,by decide +kernel,rfl,by decide +kernel,by decide +kernel⟩
theorem ok_binit {f B C fD fI fH:Addr}{fd fdD fdI fdH:FuncData}(F:Fun K "__init__" "Board.__init__" Zbk f fd) (T:TxtBm mg) (TB:TxtBd K B) (TC:TxtC K C) (DD:Def K mg "check_deeds" Zb9 ["kinds","places","deeds"] fD fdD) (DI:Def K mg "is_call" Zcu nIC fI fdI) (MH:MHas K C fH fdH) (hBC:B≠C):
  Za0 P w K mg base CX0 4 f fd nBI (spBInit K C B):=by
 have GD:Za0 P w K mg base CX0 3 fD fdD ["kinds","places","deeds"] (spCheckDeeds K C):=ok_check_deeds DD DI T.enum T.len T.all TC MH
 refine F.ok scBI (fun vs H Q E h=>?_) (fun cdv A outer s H vs Q E hr h=>?_)
 ·obtain ⟨p,dx,k,l,n,rows,ds,us,rfl,_⟩:=h
  rfl
 ·obtain ⟨p,dx,k,l,n,rows,ds,us,rfl,hp,kd,g,hl,hD,gd,n1,n4,q⟩:=h
  obtain ⟨b,hl,hb0⟩:∃ b,SqB K b H l us∧(b=false→H l=some (.tup us)):=by
   rcases hl with hl | hl
   ·exact ⟨true,hl,fun z=>by cases z⟩
   ·exact ⟨false,SqT.of hl,fun _=>hl⟩
  obtain ⟨t1,hP⟩:=T.places
  obtain ⟨t2,hM⟩:=T.deeds
  have hr3:Zdp 3 _:=hr.mono (by decide)
  refine ⟨_,pS (Za5 (Zd9 (pt_chain op_le op_le Zae (pv 2) (Zb4 (v:=.int 4) (by rfl) hP ⟨_,rfl⟩))) Zb3 Zai)
   (pS (Za5 (Zal op_gt (Zag Zdo (by rfl) T.len PySem.boot_len (pC (pv 3) Zaa)) (Zb4 (v:=.int 64) (by rfl) hM ⟨_,rfl⟩) (Zaq _)) Zb3 Zai)
   (pS (Zbg (Zaf DD GD hr3 (pC (pv 1) (pC (pv 2) (pC (pv 3) Zaa)))))
   (pS (ps_fld (pv 0) (pv 1) rfl) (pS (ps_fld (pv 0) (pv 2) rfl)
   (Zad (ps_fld (pv 0) (Za9 Zcf (by rfl) T.tuple PyProof.Rows.boot_tuple (pC (pv 3) Zaa)) rfl)))))),?_⟩
  refine ⟨_,rfl,_,_,rfl,rfl,_,rfl,?_⟩
  rw [show decide ((1:Int)≤(n:Int))=true from decide_eq_true (by omega)]
  refine iteT ⟨_,_,rfl,rfl,_,rfl,?_⟩
  rw [show (decide ((n:Int)≤4))=true from decide_eq_true (by omega)]
  refine iteF ?_
  have hul:=hD.length
  have few:=gd.few
  refine ⟨_,rfl,_,_,rfl,len_seq hl,_,_,rfl,rfl,_,rfl,?_⟩
  rw [show decide ((64:Int)<(us.length:Int))=false from decide_eq_false (by omega)]
  refine iteF ?_
  refine ⟨_,rfl,_,rfl,_,rfl,p |> fun _=>k,l,n,b,rows,ds,us,rfl,kd,g,hl,hD,gd,n4,fun H1 s1=>?_⟩
  have hp1:=s1 _ _ hp
  have kd1:=kd.mono s1
  have nkp:k≠p:=by
   intro z
   obtain ⟨dx',d,a,o,oa,kvs,avs,h1,_⟩:=kd.ex
   rw [z,hp] at h1
   injection h1 with h1
   injection h1 with h1
   exact hBC h1
  refine ⟨_,rfl,_,rfl,p,B,dx,[],rfl,hp1,TB.cl,TB.nB,(by show 0<1000;decide),?_⟩
  refine ⟨_,rfl,_,rfl,p,B,dx,_,rfl,uS,TB.cl,TB.nW,(by show 1<1000;decide),?_⟩
  rw [upd_upd]
  have kp:∀ {fs:List (Str×V)} (b:Addr) (o:HO),b≠p→H b=some o→(upd H1 p (.ins B dx fs)) b=some o:=fun b o hb e=>by rw [Zac hb];exact s1 _ _ e
  have hlp:∀ {fs:List (Str×V)},SqB K b (upd H1 p (.ins B dx fs)) l us:=fun {fs}=>by
   have hl1:=hl.mono s1
   cases b with
   | true =>
    rcases (show SqL K H1 l us from hl1) with (e | ⟨o,e⟩) | e
    ·exact .inl (.inl (by rw [Zac (fun z=>by rw [z,hp1] at e;cases e)];exact e))
    ·exact .inl (.inr ⟨o,by rw [Zac (fun z=>by rw [z,hp1] at e;cases e)];exact e⟩)
    ·exact .inr e
   | false =>
    rcases (show SqT K H1 l us from hl1) with (e | ⟨o,e⟩) | e
    ·exact .inl (.inl (by rw [Zac (fun z=>by rw [z,hp1] at e;cases e)];exact e))
    ·exact .inl (.inr ⟨o,by rw [Zac (fun z=>by rw [z,hp1] at e;cases e)];exact e⟩)
    ·exact .inr e
  have fin:∀ (t:Addr) (H2:Hp),Zan (upd H1 p (.ins B dx (putF "width" (.int n) (putF "book" (.ref k) [])))) H2→H2 t=some (.tup us)→Q .non (upd H2 p (.ins B dx (fldsB k t n))):=fun t H2 s2 ht=>by
   have hp2:H2 p=some (.ins B dx (putF "width" (.int n) (putF "book" (.ref k) []))):=s2 _ _ uS
   have k2:∀ b o,b≠p→H b=some o→(upd H2 p (.ins B dx (fldsB k t n))) b=some o:=fun b o hb e=>by rw [Zac hb];exact s2 _ _ (kp b o hb e)
   refine q _ ⟨dx,t,us,uS,kinds_keep kd hp k2 nkp (fun _ _ z=>by cases z) (fun _ z=>by cases z),by rw [Zac (fun z=>by rw [z,hp2] at ht;cases ht)];exact ht,Paired.mapP hD fun d v ⟨t',e,x⟩=>⟨t',e,k2 _ _ (fun z=>by rw [z,hp] at x;cases x) x⟩⟩ k2
  refine ⟨_,rfl,l,us,rfl,?_⟩
  have no:=hlp (fs:=putF "width" (.int n) (putF "book" (.ref k) []))
  have wd:(putF "width" (V.int n) (putF "book" (V.ref k) [])).length<1000:=by show 2<1000;decide
  cases b with
  | true =>
   refine .inl ⟨no,fun t ht=>⟨_,rfl,p,B,dx,_,rfl,(snew ht) _ _ uS,TB.cl,TB.nS,wd,fin t _ (snew ht) uS⟩⟩
  | false =>
   have e:(upd H1 p (.ins B dx (putF "width" (.int n) (putF "book" (.ref k) [])))) l=some (.tup us):=by
    have e0:=s1 _ _ (hb0 rfl)
    rw [Zac (fun z=>by rw [z,hp1] at e0;cases e0)]
    exact e0
   exact .inr ⟨no,_,rfl,p,B,dx,_,rfl,uS,TB.cl,TB.nS,wd,fin l _ (Zan.refl _) e⟩
def spBKinds (C B:Addr):Sp:=fun vs H Q _=>∃ (p k:Addr) (rows:List (Str×List Str)) (n:Nat) (ds:List (List Str)),vs=[.ref p]∧Zdt C B H p k rows n ds∧Q (.ref k) H
def spBPlaces (C B:Addr):Sp:=fun vs H Q _=>∃ (p k:Addr) (rows:List (Str×List Str)) (n:Nat) (ds:List (List Str)),vs=[.ref p]∧Zdt C B H p k rows n ds∧Q (.int n) H
theorem scBK:Zap ["self"] ["self"] (Zab Zcd):=⟨rfl,rfl,rfl,by decide +kernel,rfl,by decide +kernel,by decide +kernel⟩
theorem ok_bkinds {f C B:Addr}{fd:FuncData}(F:Fun K "kinds" "Board.kinds" Zcd f fd) (TB:TxtBd K B):Za0 P w K mg base CX0 1 f fd ["self"] (spBKinds C B):=by
 refine F.ok scBK (fun vs H Q E h=>?_) (fun cdv A outer s H vs Q E hr h=>?_)
 ·obtain ⟨p,k,rows,n,ds,rfl,_⟩:=h
  rfl
 ·obtain ⟨p,k,rows,n,ds,rfl,⟨dx,t,us,h1,h2,h3,h4⟩,q⟩:=h
  exact ⟨_,Zad (Zar (pe_fld (pv 0) rfl)),_,rfl,p,B,dx,_,_,rfl,h1,TB.cl,TB.nB,fldsB_b _ _ _,q⟩
theorem scBP:Zap ["self"] ["self"] (Zab Zby):=⟨rfl,rfl,rfl,by decide +kernel,rfl,by decide +kernel,by decide +kernel⟩
theorem ok_bplaces {f C B:Addr}{fd:FuncData}(F:Fun K "places" "Board.places" Zby f fd) (TB:TxtBd K B):Za0 P w K mg base CX0 1 f fd ["self"] (spBPlaces C B):=by
 refine F.ok scBP (fun vs H Q E h=>?_) (fun cdv A outer s H vs Q E hr h=>?_)
 ·obtain ⟨p,k,rows,n,ds,rfl,_⟩:=h
  rfl
 ·obtain ⟨p,k,rows,n,ds,rfl,⟨dx,t,us,h1,h2,h3,h4⟩,q⟩:=h
  exact ⟨_,Zad (Zar (pe_fld (pv 0) rfl)),_,rfl,p,B,dx,_,_,rfl,h1,TB.cl,TB.nW,fldsB_w _ _ _,q⟩
abbrev MBKinds (K:PySem.W.Frag) (B f:Addr) (fd:FuncData):Prop:=MDef K B "kinds" "Board.kinds" Zcd ["self"] f fd
abbrev MBPlaces (K:PySem.W.Frag) (B f:Addr) (fd:FuncData):Prop:=MDef K B "places" "Board.places" Zby ["self"] f fd
end
end K23
namespace K23
open PySem L2 Md
def spCheckCall (C:Addr):Sp:=fun vs H Q _=>∃ (p t:Addr) (n:Nat) (rows:List (Str×List Str)) (xs:List Str),vs=[.ref p,.int n,.ref t]∧Zck C H p rows∧Zd7 rows∧H t=some (.tup (xs.map V.str))∧Zdf rows n xs∧n≤4∧∀ H',Zan H H'→Q .non H'
section
variable {P:Program} {w:World} {K:PySem.W.Frag} {mg:Str→Option Value} {base:Heap}
theorem scCC:Zap nIC nIC (Zab Zbt):=⟨rfl,rfl,rfl,by decide +kernel,rfl,by decide +kernel,by decide +kernel⟩
theorem ok_check_call {f C fI fH:Addr}{fd fdI fdH:FuncData}(F:Def K mg "check_call" Zbt nIC f fd) (DI:Def K mg "is_call" Zcu nIC fI fdI) (len:mg "len"=none) (all:mg "all"=none) (TC:TxtC K C) (MH:MHas K C fH fdH):Za0 P w K mg base CX0 3 f fd nIC (spCheckCall C):=by
 have GI:Za0 P w K mg base CX0 2 fI fdI nIC (spIsCall C):=ok_is_call DI len all TC MH
 refine F.fn.ok scCC (fun vs H Q E h=>?_) (fun cdv A outer s H vs Q E hr h=>?_)
 ·obtain ⟨p,t,n,rows,xs,rfl,_⟩:=h
  rfl
 ·obtain ⟨p,t,n,rows,xs,rfl,kd,g,ht,gc,hn,q⟩:=h
  refine ⟨_,Zad (Za5 (Zd9 (pt_val (Zaf DI GI hr (pC (pv 0) (pC (pv 1) (pC (pv 2) Zaa)))))) Zb3 Zai),?_⟩
  refine ⟨_,rfl,_,rfl,_,rfl,p,t,n,rows,xs,rfl,kd,g,ht,by have:=gc.len;omega,fun H' s'=>⟨_,rfl,?_⟩⟩
  rw [gc.is]
  exact iteF (q H' s')
end
end K23
namespace K23
open PySem L2 Md
theorem Zdv {H:Hp}{p a:Addr}{o:HO}{ws:List Str}(h:H p=some o) (ho:PotO o) (ha:H a=some (.lst (ws.map V.str))):p≠a:=ne_of h ha (by
 obtain ⟨r,b,e,_⟩:=ho
 rw [e]
 intro z
 injection z with z
 have z2:=congrArg (fun l=>l[0]?) z
 cases ws with
 | nil=>simp at z2
 | cons x r=>simp at z2)
theorem Drawn.tup {p:Addr}{H H':Hp}(d:Drawn p H H') {o:HO}(h:H p=some o) (ho:PotO o) {t:Addr}{xs:List V}(e:H t=some (.tup xs)):H' t=some (.tup xs):=
 d.keep _ _ (fun z=>by rw [z,h] at e;obtain ⟨_,_,q,_⟩:=ho;rw [q] at e;cases e) e
theorem Zci {H H':Hp}{l:Addr}{rows:List (Str×List Str)}(h:Zd6 H l rows) (s:Zan H H'):Zd6 H' l rows:=by
 obtain ⟨vs,a,p⟩:=h
 exact ⟨vs,s _ _ a,Paired.mapP p fun r v ⟨t,u,e,h1,h2⟩=>⟨t,u,e,s _ _ h1,s _ _ h2⟩⟩
theorem words_comp {K:PySem.W.Frag}{l:Addr}{H2:Hp}{rows:List (Str×List Str)}{σ:St}{te:TE}{Q:VK}(hR:Zd6 H2 l rows) (few:rows.length≤100)
  (he:∀ (t u:Addr) (x:Str) H' (R:VK),H' t=some (.tup [.str x,.ref u])→R (.str x) H'→te [some (.ref t)] H' R)
  (hd:∀ D H3,H2 D=none→Zan H2 H3→H3 D=some (.lst ((rows.map (·.1)).map V.str))→Q (.ref D) H3):compBody 1 [] (gName 0) tTrue te σ Q (Itl K l) H2:=by
 obtain ⟨vs,hvs,hpr⟩:=hR
 refine comp_rel (Zce (xs:=vs)) (sL (by rw [← hpr.length];omega)) (fun _=>true) (fun _ x v _=>∀ r,RowV H2 r x→v=.str r.1) (fun _ _ _ _ _ _ h=>h) (fun H' s=>s.seq (SqL.of hvs)) ?_ ?_ ?_
 ·intro x H3 R _ _ hR'
  exact hR' H3 (Zan.refl _)
 ·intro D x H3 R s3 _ _ hx _ hR'
  obtain ⟨i,hi⟩:=List.mem_iff_getElem?.mp hx
  obtain ⟨r,hr',t,u,rfl,ht,hu'⟩:=Zba hpr hi
  refine he t u r.1 H3 R (s3 _ _ ht) (hR' _ _ (Zan.refl _) fun r' h'=>?_)
  obtain ⟨t',u',e1,e2,_⟩:=h'
  cases e1
  rw [ht] at e2
  have e2:=Option.some.inj e2
  injection e2 with e2
  injection e2 with e2 _
 ·intro D H3 ys hD s23 hlD hpD
  rw [all_true] at hpD
  have eys:ys=(rows.map (·.1)).map V.str:=by
   have:∀ {rows:List (Str×List Str)} {vs ys:List V},Paired (RowV H2) rows vs→Paired (fun x v=>∀ r,RowV H2 r x→v=.str r.1) vs ys→ys=(rows.map (·.1)).map V.str:=by
    intro rows vs ys a
    induction a generalizing ys with
    | nil=>intro b;cases b;rfl
    | cons h t ih =>
     intro b
     cases b with
     | cons h' t'=>rw [List.map_cons,List.map_cons,h' _ h,ih t']
   exact this hpr hpD
  subst eys
  exact hd D H3 hD s23 hlD
theorem Zc8 {ws:List Str}{v:Int} (h0:0≤v) (h1:v<(ws.map V.str).length):∃ x∈ws,atI (ws.map V.str) v=some (.str x):=by
 have hl:v.toNat<ws.length:=by rw [List.length_map] at h1;omega
 refine ⟨ws[v.toNat],List.getElem_mem hl,?_⟩
 have e:((v.toNat:Nat):Int)=v:=by omega
 have q:atI (ws.map V.str) ((v.toNat:Nat):Int)=some (.str ws[v.toNat]):=by
  refine Zdh ?_
  rw [List.getElem?_map,List.getElem?_eq_getElem (by omega)]
  rfl
 rw [e] at q
 exact q
end K23
namespace K23
open PySem L2 Md
abbrev Dt:=PySem.W.Dat
def datC (d:List Str):Dt:=.tuple (d.map PySem.W.Dat.str)
theorem datC_inj {d e:List Str}(h:datC d=datC e):d=e:=by
 unfold datC at h
 injection h with h
 exact List.map_inj_right (fun a b z=>by injection z) |>.mp h
theorem rep_call {K:PySem.W.Frag}{H:Hp}{t:Addr}{d:List Str}(h:H t=some (.tup (d.map V.str))):Rep K H (.ref t) (datC d):=.tuple (SqT.of h) (Zdc d)
theorem reps_deeds {K:PySem.W.Frag}{H:Hp}:∀ {ds:List (List Str)}{vs:List V},Zdq H ds vs→Reps K H vs (ds.map datC)
 | _,_,.nil=>.nil
 | _,_,.cons ⟨t,e,h⟩ r=>by rw [e];exact .cons (rep_call h) (reps_deeds r)
theorem good_words {rows:List (Str×List Str)}(g:Zd7 rows):∀ x∈rows.map (·.1),Za2 x=true:=fun x hx=>by
 obtain ⟨r,hr,e⟩:=List.mem_map.mp hx
 rw [← e]
 exact g.word r hr
theorem reach_in {rows:List (Str×List Str)}(g:Zd7 rows) {x y:Str}(hx:x∈rows.map (·.1)) (h:Graph.Reach (Zb8 rows) x y):y∈rows.map (·.1):=
 Graph.closed_reach (S:=fun y=>y∈rows.map (·.1)) (fun z hz u hu=>reach_known g hz hu) h hx
theorem ok_str (n:Nat) {x:Str}(h:Za2 x=true):PySem.W.kqdOk n (.str x)=true:=by
 have q:=ok_dat (ws:=[x]) (fun y hy=>by rw [List.mem_singleton.mp hy];exact h)
 rw [PySem.W.kqdOk] at q
 have q2:PySem.W.kqdOk 8 (.str x)=true:=by simpa using q
 rw [PySem.W.kqdOk] at q2
 rw [PySem.W.kqdOk]
 exact q2
theorem ok_call (n:Nat) {d:List Str}(h:∀ x∈d,Za2 x=true):PySem.W.kqdOk (n + 1) (datC d)=true:=by
 unfold datC
 rw [PySem.W.kqdOk,List.all_eq_true]
 intro z hz
 obtain ⟨x,hx,rfl⟩:=List.mem_map.mp hz
 exact ok_str n (h x hx)
theorem ok_deeds (n:Nat) {ds:List (List Str)}(h:∀ d∈ds,∀ x∈d,Za2 x=true):(ds.map datC).all (PySem.W.kqdOk (n + 1))=true:=by
 rw [List.all_eq_true]
 intro z hz
 obtain ⟨d,hd,rfl⟩:=List.mem_map.mp hz
 exact ok_call n (h d hd)
theorem any_deed (ds:List (List Str)) (d:List Str):((ds.map datC).any fun e=>dEq e (datC d))=decide (d∈ds):=by
 by_cases h:d∈ds
 ·rw [decide_eq_true h,List.any_eq_true]
  exact ⟨datC d,List.mem_map.mpr ⟨d,h,rfl⟩,Zd2 _⟩
 ·rw [decide_eq_false h,List.any_eq_false]
  intro z hz
  obtain ⟨e,he,rfl⟩:=List.mem_map.mp hz
  rw [dEq_neg fun q=>h (by rw [← datC_inj q];exact he)]
  exact Bool.false_ne_true
def spDeeds:Sp:=fun vs H Q _=>∃ (p l aa:Addr) (n m:Nat) (rows:List (Str×List Str)) (avs:List (Key×V)),vs=[.ref p,.ref l,.ref aa,.int n,.int m]∧(∃ o,H p=some o∧PotO o)∧Zd6 H l rows∧Zd7 rows∧H aa=some (.dK avs)∧Zcs H rows rows avs∧1≤n∧n≤4∧m≤63 ∧
 ∀ (ld:Addr) (ds:List (List Str)) (us:List V) (H':Hp),Drawn p H H'→H ld=none→H' ld=some (.lst us)→Zdq H' ds us→Zel rows n ds→ds.length≤m→Q (.ref ld) H'
abbrev rLenK (K:PySem.W.Frag):List V→Hp→VK→Prop:=fun xs H Q=>∃ p ys,xs=[.ref p]∧(SqL K H p ys∨SqT K H p ys)∧Q (.int ys.length) H
structure TxtD (mg:Str→Option Value):Prop where
 len:mg "len"=none
 range:mg "range"=none
 tuple:mg "tuple"=none
section
variable {P:Program} {w:World} {K:PySem.W.Frag} {mg:Str→Option Value} {base:Heap}
abbrev nDe:List Str:=["pot","rows","above","places","most","words","base","deeds","k","deed","near","place","some"]
theorem scDe:Zap nDe ["pot","rows","above","places","most"] (Zab Zbx):=⟨rfl,rfl,rfl,by decide +kernel,rfl,by decide +kernel,by decide +kernel⟩
theorem nd_row1:(["row"]:List Str).Nodup:=by decide +kernel
theorem nd_kwp:(["k","words","pot"]:List Str).Nodup:=by decide +kernel
theorem Zdq.drawn {p:Addr}{H H':Hp}{o:HO}{ds:List (List Str)}{us:List V}(h:Zdq H ds us) (k:∀ b xs,H b=some (.tup xs)→H' b=some (.tup xs)):Zdq H' ds us:=Paired.mapP h fun _ _ ⟨t,e,x⟩=>⟨t,e,k _ _ x⟩
set_option maxHeartbeats 8000000 in
theorem ok_deedsD {f fT:Addr}{fd fdT:FuncData}(F:Def K mg "_law_deeds" Zbx ["pot","rows","above","places","most"] f fd) (DT:Def K mg "_law_take" Zas ["pot","many"] fT fdT) (T:TxtD mg):
  Za0 P w K mg base CX0 2 f fd ["pot","rows","above","places","most"] spDeeds:=by
 have GT:Za0 P w K mg base CX0 1 fT fdT ["pot","many"] Zef:=ok_take DT
 refine F.fn.ok scDe (fun vs H Q E h=>?_) (fun cdv A outer s H vs Q E hr h=>?_)
 ·obtain ⟨p,l,aa,n,m,rows,avs,rfl,_⟩:=h
  rfl
 ·obtain ⟨p,l,aa,n,m,rows,avs,rfl,⟨o0,hp0,ho0⟩,hR,g,haa,hA,n1,n4,hm,q⟩:=h
  have nd:=scDe.nd
  have hu:=hu_of hr
  have hr1:Zdp 1 _:=hr.mono (by decide)
  have gle:=g.le
  refine' ⟨_,pS (Zah (i:=5) nd rfl (Or.inr rfl) ?e1)
   (pS ?e2
   (pS (Zah (i:=7) nd rfl (Or.inl rfl) (Zcx Zaa))
   (pS (Zdd PassesOwn.never rfl (Zcm (by rfl) T.range (pC (Zaf DT GT hr1 (pC (pv 0) (pC (Za8 Zei (pv 4) Zae) Zaa))) Zaa)) (Zaj (i:=8) nd rfl (Or.inl rfl))
    (pS (Zah (i:=9) nd rfl (Or.inl rfl) (Zcx Zaa))
    (pS (Zah (i:=10) nd rfl (Or.inl rfl) (Zaf DT GT hr1 (pC (pv 0) (pC Zae Zaa))))
    (pS (Zdd PassesOwn.never rfl (Zcm (by rfl) T.range (pC (pv 3) Zaa)) (Zaj (i:=11) nd rfl (Or.inl rfl))
     (pS (Zah (i:=12) nd rfl (Or.inl rfl) (pv 5))
     (Zbq (Za5 (Zal op_gt (pv 10) Zae (Zaq _)) (Zad (Zah (i:=12) nd rfl (Or.inl rfl) (Zed hu (pv 2) (Zbc Zaw (pv 6) (pv 11) (fun _ _=>rfl)) (fun _ _=>rfl)))) Zai)
     (Zad (Zbg (pe_bm PySem.F.plainAttrs_list PySem.F.slot_list_append PySem.F.type_list_append Zde (pv 9) (pC (Zbc Zaw (pv 12) (Zaf DT GT hr1 (pC (pv 0) (pC (Zag Zam (by rfl) T.len PySem.boot_len (pC (pv 12) Zaa)) Zaa))) (fun _ _=>rfl)) Zaa)))))))
    (Zad (Za5 (Zal (op_notInD (hu65 hr)) (Za9 Zcf (by rfl) T.tuple PyProof.Rows.boot_tuple (pC (pv 9) Zaa)) (pv 7) (by with_unfolding_all rfl))
     (Zad (Zbg (pe_bm PySem.F.plainAttrs_list PySem.F.slot_list_append PySem.F.type_list_append Zde (pv 7) (pC (Za9 Zcf (by rfl) T.tuple PyProof.Rows.boot_tuple (pC (pv 9) Zaa)) Zaa)))) Zai))))))
   (Zad (Zar (pv 7)))))),?_⟩
  case e1=>exact (Zb5 ["row"] [] [] (fun _=>Zay (osc:=Zab Zbx) (on:=nDe) (by decide +kernel) rfl rfl rfl) (Zcw (pv 1)) (fun C s H fp=>Zaj (i:=0) nd_row1 rfl (Or.inl rfl) (Or.inr rfl)) (fun C s H fp=>Zb2) (fun C s H fp=>Zbc (r:=rIxT K) Zdz (pv 0) Zae (fun _ _=>rfl)))
  case e2=>exact (Zeh (k:=6) ["k"] ["words","pot"] [5,0] nd rfl rfl (fun _=>Zay (osc:=Zab Zbx) (on:=nDe) (by decide +kernel) rfl rfl rfl) (Zcm (by rfl) T.range (pC (pv 3) Zaa)) (fun C s H fp=>Zaj (i:=0) nd_kwp rfl (Or.inl rfl) (Or.inr rfl)) (fun C s H fp=>Zb2)
    (fun C s H fp=>Zbc (r:=rIxL K) Zaw (pv 1) (Zaf DT GT hr1 (pC (pv 2) (pC (Zag (r:=rLenK K) Zam (by rfl) T.len PySem.boot_len (pC (pv 1) Zaa)) Zaa))) (fun _ _=>rfl)))
  obtain ⟨vs0,hvs0,hpr0⟩:=id hR
  refine ⟨_,rfl,l,rfl,⟨_,SqL.of hvs0⟩,words_comp hR (by omega) (fun t u x H' R ht hRx=>⟨_,rfl,t,_,_,_,rfl,rfl,SqT.of ht,rfl,hRx⟩) fun lw H1 hlw s1 hw=>?_⟩
  have hp1:=s1 _ _ hp0
  have lwp:lw≠p:=Ne.symm (Zdv hp1 ho0 hw)
  have lwH:H lw=none:=hlw
  have wne:rows.map (·.1)≠[]:=by
   have:=g.ne
   intro z
   have z2:=congrArg List.length z
   rw [List.length_map] at z2
   simp at z2
   rw [z2] at this
   simp at this
  have wpos:0<(rows.map (·.1)).length:=List.length_pos_iff.mpr wne
  have wl:(rows.map (·.1)).length≤24:=by rw [List.length_map];exact gle
  refine ⟨_,rfl,n,rfl,by omega,by omega,Zek Zbz (by rw [Zat];exact sL (by omega)) (fun D i ys σ' H'=>Drawn p H1 H'∧H' D=some (.lst ys)∧∃ (bs:List Str) (o:Option V),ys=bs.map V.str∧bs.length=i∧(∀ x∈bs,x∈rows.map (·.1))∧σ'=[o,some (.ref lw),some (.ref p)])
   (fun D hD=>⟨(Drawn.refl ⟨o0,hp1,ho0⟩).new hD,uS,[],none,rfl,rfl,(fun x h=>nomatch h),rfl⟩) (fun D i ys σ' H' _ ⟨_,_,bs,_,e,el,_⟩=>⟨trivial,by rw [e,List.length_map];omega⟩) ?_ ?_⟩
  ·rintro D i v ys σ' H' hD hi ⟨d,hl,bs,o,rfl,rfl,hb,rfl⟩
   obtain ⟨hi,rfl⟩:=Za4 hi
   obtain ⟨o1,hpp,hoo⟩:=d.pot
   have hw1:=d.keep _ _ lwp hw
   have pD:p≠D:=nNo hp1 hD
   refine ⟨_,rfl,_,rfl,_,rfl,lw,_,rfl,.inl (SqL.of hw1),p,_,o1,rfl,hpp,hoo,by rw [List.length_map];omega,by rw [List.length_map];omega,fun v o2 hv0 hv1 ho2=>?_⟩
   obtain ⟨x,hxm,hat⟩:=Zc8 hv0 hv1
   have d2:Drawn p H' (upd H' p o2):=Drawn.upd ho2
   refine ⟨lw,_,_,_,rfl,rfl,SqL.of (d2.keep _ _ lwp hw1),hat,d2.keep _ _ (Ne.symm pD) hl,(d.trans d2).sub (o':=.lst []) (q:=D) (fun b o hb e=>by rw [Zac hb];exact e) hD pD,uS,bs++[x],_,by rw [List.map_append];rfl,by simp,fun y hy=>?_,rfl⟩
   rcases List.mem_append.mp hy with z | z
   ·exact hb y z
   ·rw [List.mem_singleton.mp z];exact hxm
  rintro lb ys σ' H2 hlb ⟨d2,hlb2,bs,o,rfl,hbl,hb,rfl⟩
  rw [Zat] at hbl
  have hbl:bs.length=n:=by simpa using hbl
  have dH2:Drawn p H H2:=⟨fun b o hb e=>d2.keep b o hb (s1 _ _ e),d2.pot⟩
  have hw2:=d2.keep _ _ lwp hw
  have lbH:H lb=none:=s1.free hlb
  have pb:p≠lb:=nNo hp0 lbH
  have wb:lw≠lb:=nNo hw hlb
  refine ⟨Nat.zero_le _,fun ld hld=>?_⟩
  have d3:=dH2.new (o:=.lst []) hld
  have keep3:∀ b o,H2 b=some o→(upd H2 ld (.lst [])) b=some o:=snew hld
  have ldH:H ld=none:=by
   cases e:H ld with
   | none=>rfl
   | some u =>
    by_cases z:ld=p
    ·obtain ⟨o1,h1,_⟩:=d2.pot
     rw [z,h1] at hld
     cases hld
    ·rw [dH2.keep _ _ z e] at hld
     cases hld
  have pd:p≠ld:=nNo hp0 ldH
  have wd:lw≠ld:=nNo hw2 hld
  have bd:lb≠ld:=nNo hlb2 hld
  obtain ⟨o3,hp3,ho3⟩:=d3.pot
  refine ⟨_,rfl,_,rfl,_,_,rfl,rfl,p,_,o3,rfl,hp3,ho3,by omega,by omega,fun v o4 hv0 hv1 ho4=>⟨v,rfl,by omega,by omega,?_⟩⟩
  have d4:Drawn p H (upd (upd H2 ld (.lst [])) p o4):=d3.trans (Drawn.upd ho4)
  refine Zbs Zbz (fun i σ H'=>∃ (ds:List (List Str)) (us:List V) (a b c d e:Option V),σ=[some (.ref p),some (.ref l),some (.ref aa),some (.int n),some (.int m),some (.ref lw),some (.ref lb),some (.ref ld),a,b,c,d,e]∧Drawn p H H'∧H' lw=some (.lst ((rows.map (·.1)).map V.str))∧H' lb=some (.lst (bs.map V.str))∧H' ld=some (.lst us)∧Zdq H' ds us ∧
   (∀ d∈ds,Zdf rows n d)∧ds.Nodup∧ds.length≤i)
   ⟨[],[],none,none,none,none,none,rfl,d4,by rw [Zac lwp];exact keep3 _ _ hw2,by rw [Zac (Ne.symm pb)];exact keep3 _ _ hlb2,by rw [Zac (Ne.symm pd)];exact uS,.nil,(fun d h=>nomatch h),List.nodup_nil,Nat.le_refl _⟩ (fun _ _ _ _ _=>trivial) ?_ ?_
  ·rintro i v' σ H5 hi ⟨ds,us,a5,b5,c5,e5,f5,rfl,d5,hw5,hb5,hd5,hD5,gc5,nd5,len5⟩
   obtain ⟨hi,rfl⟩:=Za4 hi
   obtain ⟨o5,hp5,ho5⟩:=d5.pot
   refine ⟨Nat.zero_le _,fun lq hlq=>?_⟩
   have d6:=(Drawn.refl (p:=p) ⟨o5,hp5,ho5⟩).new (o:=.lst []) hlq
   obtain ⟨o6,hp6,ho6⟩:=d6.pot
   refine ⟨_,rfl,p,3,o6,rfl,hp6,ho6,by decide,by decide,fun nr o7 hn0 hn1 ho7=>?_⟩
   have pq:p≠lq:=nNo hp5 hlq
   have d7:Drawn p H5 (upd (upd H5 lq (.lst [])) p o7):=d6.trans (Drawn.upd ho7)
   refine ⟨_,rfl,n,rfl,by omega,by omega,Zbs Zbz (fun j σ H'=>∃ (xs:List Str) (d e:Option V),σ=[some (.ref p),some (.ref l),some (.ref aa),some (.int n),some (.int m),some (.ref lw),some (.ref lb),some (.ref ld),some (.int (0 + (i:Nat))),some (.ref lq),some (.int nr),d,e]∧Drawn p H5 H'∧H' lq=some (.lst (xs.map V.str))∧xs.length=j∧∀ x∈xs,x∈rows.map (·.1))
    ⟨[],_,_,rfl,d7,by rw [Zac (Ne.symm pq)];exact uS,rfl,(fun x h=>nomatch h)⟩ (fun _ _ _ _ _=>trivial) ?_ ?_⟩
   ·rintro j v2 σ H8 hj ⟨xs,d8,e8,rfl,dr8,hq8,rfl,hx8⟩
    obtain ⟨hj,rfl⟩:=Za4 hj
    have hj:xs.length<n:=by omega
    obtain ⟨o8,hp8,ho8⟩:=dr8.pot
    have dr08:=d5.trans dr8
    have hw8:=dr8.keep _ _ lwp hw5
    have hb8:=dr8.keep _ _ (Ne.symm pb) hb5
    refine ⟨_,rfl,?_⟩
    refine ⟨fun σ' H'=>∃ (as:Addr) (fs:List Str),σ'=[some (.ref p),some (.ref l),some (.ref aa),some (.int n),some (.int m),some (.ref lw),some (.ref lb),some (.ref ld),some (.int (0 + (i:Nat))),some (.ref lq),some (.int nr),some (.int (0 + (xs.length:Nat))),some (.ref as)]∧H'=H8∧H8 as=some (.lst (fs.map V.str))∧fs≠[]∧fs.length≤24∧∀ x∈fs,x∈rows.map (·.1),?_,?_⟩
    ·refine ⟨_,rfl,_,_,rfl,rfl,_,rfl,Zdy (fun h=>?_) (fun h=>?_)⟩
     ·have hbx:bs[xs.length]?=some (bs[xs.length]'(by omega)):=List.getElem?_eq_getElem (by omega)
      generalize bs[xs.length]'(by omega)=x at hbx
      have hxm:=hb x (List.mem_of_getElem? hbx)
      obtain ⟨r,hr',er⟩:=Zc5 hxm
      obtain ⟨t,fs,hv,ht,hfs,fl⟩:=hA.val' g.nd hr'
      have xfs:x∈fs:=(hfs x).mpr (by rw [er];exact .refl x)
      have tp:t≠p:=Ne.symm (Zdv hp0 ho0 ht)
      have aap:aa≠p:=fun z=>by rw [z,hp0] at haa;obtain ⟨_,_,q',_⟩:=ho0;rw [q'] at haa;cases haa
      have hat:atI (bs.map V.str) (0 + (xs.length:Nat):Int)=some (.str x):=by
       rw [Int.zero_add]
       refine Zdh ?_
       rw [List.getElem?_map,hbx]
       rfl
      have kn:∀ y∈fs,y∈rows.map (·.1):=fun y hy=>reach_in g hxm (by rw [← er];exact (hfs y).mp hy)
      exact ⟨_,rfl,_,rfl,_,rfl,lb,_,_,_,rfl,rfl,SqL.of hb8,hat,aa,_,rfl,(by rw [← hv,er];exact DGet.k (k:=Sum.inr x) (dr08.keep _ _ aap haa)),t,fs,rfl,rfl,dr08.keep _ _ tp ht,(fun z=>by rw [z] at xfs;cases xfs),by omega,kn⟩
     ·exact ⟨lw,_,rfl,rfl,hw8,wne,wl,fun x h=>h⟩
    ·rintro σ' H' ⟨as,fs,rfl,e8',has,fne,fl,fk⟩
     have e9:=e8'.symm
     subst e9
     have fpos:0<fs.length:=List.length_pos_iff.mpr fne
     have ap:as≠p:=Ne.symm (Zdv hp8 ho8 has)
     refine ⟨_,rfl,.inl ⟨rfl,_,SqL.of hq8⟩,_,rfl,_,rfl,_,rfl,as,_,rfl,.inl (SqL.of has),p,_,o8,rfl,hp8,ho8,by rw [List.length_map];omega,by rw [List.length_map];omega,fun v o9 hv0 hv1 ho9=>?_⟩
     obtain ⟨x,hxm,hat⟩:=Zc8 hv0 hv1
     have d9:Drawn p H8 (upd H8 p o9):=Drawn.upd ho9
     have hq9:=d9.keep _ _ (Ne.symm pq) hq8
     refine ⟨as,_,_,_,rfl,rfl,SqL.of (d9.keep _ _ ap has),hat,lq,_,_,rfl,rfl,hq9,Za7 (by rw [List.length_map];omega),xs++[x],_,_,rfl,(dr8.trans d9).sub (o':=.lst []) (q:=lq) (fun b o hb e=>by rw [Zac hb];exact e) hlq pq,by rw [uS,List.map_append];rfl,by simp,fun y hy=>?_⟩
     rcases List.mem_append.mp hy with z | z
     ·exact hx8 y z
     ·rw [List.mem_singleton.mp z];exact fk x hxm
   ·rintro σ H8 ⟨xs,d8,e8,rfl,dr8,hq8,hxl,hx8⟩
    rw [Zat] at hxl
    have hxl:xs.length=n:=by simpa using hxl
    have ldp:ld≠p:=Ne.symm pd
    have hd8:=dr8.keep _ _ ldp hd5
    have hD8:Zdq H8 ds us:=hD5.drawn (p:=p) (o:=.lst []) fun b zs e=>Drawn.tup dr8 hp5 ho5 e
    have okx:∀ y∈xs,Za2 y=true:=fun y hy=>good_words g y (hx8 y hy)
    have okd:∀ d∈ds,∀ y∈d,Za2 y=true:=fun d hd y hy=>good_words g y ((gc5 d hd).known y hy)
    have dr08:=d5.trans dr8
    have ldq:ld≠lq:=nNo hd5 hlq
    have lwq:lw≠lq:=nNo hw5 hlq
    have lbq:lb≠lq:=nNo hb5 hlq
    have hi':i<m + 1:=by omega
    refine ⟨_,rfl,lq,_,rfl,.inl ⟨SqL.of hq8,fun t ht=>?_⟩⟩
    have s9:Zan H8 (upd H8 t (.tup (xs.map V.str))):=snew ht
    refine ⟨_,rfl,datC xs,ds.map datC,rep_call uS,.list (SqL.of (s9 _ _ hd8)) (reps_deeds (hD8.mono s9)),ok_call 8 okx,ok_deeds 7 okd,_,rfl,?_⟩
    rw [any_deed]
    refine Zdy (fun h=>?_) (fun h=>?_)
    ·have hn:xs∉ds:=by simpa using h
     refine ⟨_,rfl,.inl ⟨rfl,_,SqL.of (s9 _ _ hd8)⟩,_,rfl,lq,_,rfl,.inl ⟨SqL.of (s9 _ _ hq8),fun t2 ht2=>?_⟩⟩
     have s10:=s9.trans (snew (o:=.tup (xs.map V.str)) ht2)
     have hd10:=s10 _ _ hd8
     have hul:=hD8.length
     refine ⟨ld,_,_,rfl,rfl,hd10,Za7 (by omega),ds++[xs],us++[.ref t2],_,_,_,_,_,rfl,?_,?_,?_,uS,?_,?_,?_,?_⟩
     ·exact (dr08.same s10).sub (o':=.lst []) (q:=ld) (fun b o hb e=>by rw [Zac hb];exact e) ldH pd
     ·rw [Zac wd];exact s10 _ _ (dr8.keep _ _ lwp hw5)
     ·rw [Zac bd];exact s10 _ _ (dr8.keep _ _ (Ne.symm pb) hb5)
     ·have tk:∀ b zs,(upd (upd H8 t (.tup (xs.map V.str))) t2 (.tup (xs.map V.str))) b=some (.tup zs)→(upd (upd (upd H8 t (.tup (xs.map V.str))) t2 (.tup (xs.map V.str))) ld (.lst (us++[V.ref t2]))) b=some (.tup zs):=fun b zs e=>by
       rw [Zac (fun z=>by rw [z,hd10] at e;cases e)];exact e
      exact Paired.snoc ((hD8.mono s10).drawn (p:=p) (o:=.lst []) tk) ⟨t2,rfl,tk _ _ uS⟩
     ·intro d hd
      rcases List.mem_append.mp hd with z | z
      ·exact gc5 d z
      ·rw [List.mem_singleton.mp z];exact ⟨hxl,hx8⟩
     ·rw [List.nodup_append]
      exact ⟨nd5,by simp,fun a ha b hb e=>hn (by rw [← List.mem_singleton.mp hb,← e];exact ha)⟩
     ·rw [List.length_append]
      show ds.length + 1≤i + 1
      omega
    ·exact ⟨ds,us,_,_,_,_,_,rfl,dr08.same s9,s9 _ _ (dr8.keep _ _ lwp hw5),s9 _ _ (dr8.keep _ _ (Ne.symm pb) hb5),s9 _ _ hd8,hD8.mono s9,gc5,nd5,by omega⟩
  ·rintro σ H6 ⟨ds,us,a5,b5,c5,e5,f5,rfl,d6,hw6,hb6,hd6,hD6,gc6,nd6,len6⟩
   rw [Zat] at len6
   exact ⟨_,rfl,q ld ds us H6 d6 ldH hd6 hD6 ⟨gc6,nd6,by omega⟩ (by omega)⟩
end
end K23
namespace K23
open PySem L2 Md
def spOther:Sp:=fun vs H Q _=>∃ (p l:Addr) (rows:List (Str×List Str)),vs=[.ref p,.ref l]∧(∃ o,H p=some o∧PotO o)∧Zd6 H l rows∧Zd7 rows ∧
 ∀ lf (others:List (Str×List Str)) H',Drawn p H H'→H lf=none→Zd6 H' lf others→Zd7 others→others.map (·.1)=rows.map (·.1)→Q (.ref lf) H'
theorem rowsOf_snoc {ws:List Str}{uf:List (List Nat)}{js:List Nat}{i:Nat}(h:uf.length=i):Zdu ws (uf++[js]) (List.range (i + 1))=Zdu ws uf (List.range i)++[(ws.getD i "",js.map fun k=>ws.getD k "")]:=by
 unfold Zdu
 rw [List.range_succ,List.map_append]
 congr 1
 ·refine List.map_congr_left fun j hj=>?_
  have hj:=List.mem_range.mp hj
  rw [List.getD_eq_getElem?_getD (l:=uf++[js]),List.getElem?_append_left (by omega),← List.getD_eq_getElem?_getD]
 ·rw [List.map_cons,List.map_nil,List.getD_eq_getElem?_getD (l:=uf++[js]),List.getElem?_append_right (by omega),h,Nat.sub_self]
  rfl
theorem rowsOf_words (ws:List Str) (uf:List (List Nat)):(Zdu ws uf (List.range ws.length)).map (·.1)=ws:=by
 unfold Zdu
 rw [List.map_map]
 refine List.ext_getElem? fun i=>?_
 rw [List.getElem?_map]
 by_cases h:i<ws.length
 ·rw [List.getElem?_range h,List.getElem?_eq_getElem h]
  show some (ws.getD i "")=_
  rw [List.getD_eq_getElem?_getD,List.getElem?_eq_getElem h]
  rfl
 ·rw [List.getElem?_eq_none (by rw [List.length_range];omega),List.getElem?_eq_none (by omega)]
  rfl
section
variable {P:Program} {w:World} {K:PySem.W.Frag} {mg:Str→Option Value} {base:Heap}
abbrev nOR:List Str:=["pot","rows","words","shape","found","k"]
theorem scOR:Zap nOR ["pot","rows"] (Zab Zax):=⟨rfl,rfl,rfl,by decide +kernel,rfl,by decide +kernel,by decide +kernel⟩
theorem ok_other {f fT fU:Addr}{fd fdT fdU:FuncData}(F:Def K mg "_law_other_rows" Zax ["pot","rows"] f fd) (DT:Def K mg "_law_take" Zas ["pot","many"] fT fdT) (DU:Def K mg "_law_ups" Zb7 ["pot","k","shape"] fU fdU) (T:TxtR mg):Za0 P w K mg base CX0 3 f fd ["pot","rows"] spOther:=by
 have GT:Za0 P w K mg base CX0 1 fT fdT ["pot","many"] Zef:=ok_take DT
 have GU:Za0 P w K mg base CX0 2 fU fdU ["pot","k","shape"] spUps:=ok_ups DU DT ⟨T.range,T.int⟩
 refine F.fn.ok scOR (fun vs H Q E h=>?_) (fun cdv A outer s H vs Q E hr h=>?_)
 ·obtain ⟨p,l,rows,rfl,_⟩:=h
  rfl
 ·obtain ⟨p,l,rows,rfl,⟨o0,hp0,ho0⟩,hR,g,q⟩:=h
  have nd:=scOR.nd
  have hr1:Zdp 1 _:=hr.mono (by decide)
  have gle:=g.le
  have gne:=g.ne
  refine' ⟨_,(pS (Zah (i:=2) nd rfl (Or.inr rfl) ?e1)
   (pS (Zah (i:=3) nd rfl (Or.inl rfl) (Zaf DT GT hr1 (pC (pv 0) (pC Zae Zaa))))
   (pS (Zah (i:=4) nd rfl (Or.inl rfl) (Zcx Zaa))
   (pS (Zdd PassesOwn.never rfl (Zcm (by rfl) T.range (pC (Zag Zam (by rfl) T.len PySem.boot_len (pC (pv 2) Zaa)) Zaa)) (Zaj (i:=5) nd rfl (Or.inl rfl))
    (Zad (Zbg (pe_bm PySem.F.plainAttrs_list PySem.F.slot_list_append PySem.F.type_list_append Zde (pv 4) (pC (Zdw (pC (Zbc Zaw (pv 2) (pv 5) (fun _ _=>rfl)) (pC (Za9 Zcf (by rfl) T.tuple PyProof.Rows.boot_tuple (pC ?e2 Zaa)) Zaa))) Zaa)))))
   (Zad (Zar (pv 4))))))),?_⟩
  case e1=>exact (Zb5 ["row"] [] [] (fun _=>Zay (osc:=Zab Zax) (on:=nOR) (by decide +kernel) rfl rfl rfl) (Zcw (pv 1)) (fun C s H fp=>Zaj (i:=0) nd_row1 rfl (Or.inl rfl) (Or.inr rfl)) (fun C s H fp=>Zb2) (fun C s H fp=>Zbc (r:=rIxT K) Zdz (pv 0) Zae (fun _ _=>rfl)))
  case e2=>exact (Zb5 ["j"] ["words"] [2] (fun _=>Zay (osc:=Zab Zax) (on:=nOR) (by decide +kernel) rfl rfl rfl) (Zcw (Zaf DU GU hr (pC (pv 0) (pC (pv 5) (pC (pv 3) Zaa))))) (fun C s H fp=>Zaj (i:=0) nd_jw rfl (Or.inl rfl) (Or.inr rfl)) (fun C s H fp=>Zb2)
      (fun C s H fp=>Zbc (r:=rIxL K) Zaw (pv 1) (pv 0) (fun _ _=>rfl)))
  obtain ⟨vs0,hvs0,_⟩:=id hR
  refine ⟨_,rfl,l,rfl,⟨_,SqL.of hvs0⟩,words_comp hR (by omega) (fun t u x H' R ht hRx=>⟨_,rfl,t,_,_,_,rfl,rfl,SqT.of ht,rfl,hRx⟩) fun lw H1 hlw s1 hw=>?_⟩
  have hgw:∀ x∈rows.map (·.1),Za2 x=true:=fun x hx=>by
   obtain ⟨r,hr',rfl⟩:=List.mem_map.mp hx
   exact g.word r hr'
  have hgn:=g.nd
  have hwl:(rows.map (·.1)).length=rows.length:=List.length_map _
  generalize hwse:rows.map (·.1)=ws at hw hgw hgn hwl q
  have hp1:=s1 _ _ hp0
  have pw:p≠lw:=Zdv hp1 ho0 hw
  refine ⟨_,rfl,p,5,o0,rfl,hp1,ho0,by decide,by decide,fun sh o3 hs0 hs1 ho3=>?_⟩
  have d3:Drawn p H (upd H1 p o3):=⟨fun b o hb e=>by rw [Zac hb];exact s1 _ _ e,⟨o3,uS,ho3⟩⟩
  have w3:(upd H1 p o3) lw=some (.lst (ws.map V.str)):=by rw [Zac (Ne.symm pw)];exact hw
  refine ⟨Nat.zero_le _,fun lf hlf=>?_⟩
  have plf:p≠lf:=nNo (show (upd H1 p o3) p=some o3 from uS) hlf
  have lwf:lw≠lf:=nNo w3 hlf
  have lfH:H lf=none:=by
   cases e:H lf with
   | none=>rfl
   | some o=>rw [d3.keep lf o (Ne.symm plf) e] at hlf;cases hlf
  refine ⟨_,rfl,lw,_,rfl,.inl (SqL.of ((snew hlf) _ _ w3)),_,rfl,by rw [List.length_map];omega,by rw [List.length_map];omega,?_⟩
  have hmn:(((ws.map V.str).length:Nat):Int).toNat=ws.length:=by rw [List.length_map];omega
  rw [hmn]
  refine Zbs Zbz (fun i σ H'=>∃ (uf:List (List Nat)) (fs:List V) (kv:Option V),σ=[some (.ref p),some (.ref l),some (.ref lw),some (.int sh),some (.ref lf),kv]∧Drawn p H H'∧H' lw=some (.lst (ws.map V.str))∧H' lf=some (.lst fs)∧Paired (RowV H') (Zdu ws uf (List.range i)) fs∧uf.length=i∧∀ (k:Nat) (js:List Nat),uf[k]?=some js→UpsOk k js)
   ⟨[],[],none,rfl,d3.new hlf,(snew hlf) _ _ w3,uS,.nil,rfl,fun k js h=>by simp at h⟩ (fun _ _ _ _ _=>trivial) ?_ ?_
  ·rintro i x σ H' hi ⟨uf,fs,kv,rfl,d,hw',hf',hpr,ul,uok0⟩
   obtain ⟨hil,rfl⟩:=Za4 hi
   have hfl:fs.length=i:=by
    rw [← hpr.length]
    unfold Zdu
    rw [List.length_map,List.length_range]
   refine ⟨_,rfl,.inl ⟨rfl,_,SqL.of hf'⟩,_,rfl,_,rfl,lw,_,_,_,rfl,rfl,SqL.of hw',(by rw [Int.zero_add];exact at_word (by omega)),_,rfl,_,rfl,_,rfl,p,i,sh.toNat,by rw [Int.zero_add,Int.toNat_of_nonneg hs0];rfl,d.pot,by omega,fun lj js H6 d6 hlj uok=>⟨lj,rfl,⟨_,SqL.of hlj⟩,?_⟩⟩
   have w6:H6 lw=some (.lst (ws.map V.str)):=d6.keep _ _ (Ne.symm pw) hw'
   refine Zdx (Zce (xs:=Zdm js)) (sL (by unfold Zdm;rw [List.length_map];have:=uok.few;omega)) (fun _=>true) (wAt ws) (fun D ys hD=>SqL.of (by rw [Zac (nNo hlj hD)];exact hlj)) ?_ ?_ ?_
   ·intro D ys y R _ _ hR
    exact hR
   ·intro D ys y R hD hy _ hR
    obtain ⟨j,hj,rfl⟩:=List.mem_map.mp hy
    have hjl:j<ws.length:=by have:=uok.below j hj;omega
    exact ⟨_,rfl,_,rfl,lw,_,_,_,rfl,rfl,SqL.of (by rw [Zac (nNo w6 hD)];exact w6),at_word hjl,hR⟩
   ·intro D hD
    rw [all_true,wAt_ints]
    refine ⟨D,_,rfl,.inl ⟨SqL.of uS,fun t ht=>⟨sL (by show 2≤100000;decide),fun tn htn=>?_⟩⟩⟩
    have s6:Zan H6 (upd H6 D (.lst ((js.map fun i=>ws.getD i "").map V.str))):=snew hD
    have s7:=s6.trans (snew (o:=.tup ((js.map fun i=>ws.getD i "").map V.str)) ht)
    have t7:(upd (upd H6 D (.lst ((js.map fun i=>ws.getD i "").map V.str))) t (.tup ((js.map fun i=>ws.getD i "").map V.str))) t=some (.tup ((js.map fun i=>ws.getD i "").map V.str)):=uS
    generalize upd (upd H6 D (.lst ((js.map fun i=>ws.getD i "").map V.str))) t (.tup ((js.map fun i=>ws.getD i "").map V.str))=H7 at s7 t7 htn
    have s8:Zan H7 (upd H7 tn (.tup [.str (ws.getD i ""),.ref t])):=snew htn
    have s68:=s7.trans s8
    have tn8:(upd H7 tn (.tup [.str (ws.getD i ""),.ref t])) tn=some (.tup [.str (ws.getD i ""),.ref t]):=uS
    have t8:=s8 _ _ t7
    generalize upd H7 tn (.tup [.str (ws.getD i ""),.ref t])=H8 at s8 s68 tn8 t8
    have hf6:=d6.keep _ _ (Ne.symm plf) hf'
    have hf8:=s68 _ _ hf6
    refine ⟨lf,fs,_,rfl,rfl,hf8,Za7 (by omega),uf++[js],fs++[.ref tn],_,rfl,⟨fun b o hb e=>?_,?_⟩,?_,uS,?_,by rw [List.length_append,ul];rfl,fun k js' hk=>?_⟩
    ·have e6:=s68 _ _ ((d.trans d6).keep b o hb e)
     rw [Zac (fun z=>by rw [z,lfH] at e;cases e)]
     exact e6
    ·obtain ⟨o7,hp7,ho7⟩:=d6.pot
     exact ⟨o7,by rw [Zac plf];exact s68 _ _ hp7,ho7⟩
    ·rw [Zac lwf]
     exact s68 _ _ w6
    ·rw [rowsOf_snoc ul]
     have tups:∀ b xs,H' b=some (.tup xs)→(upd H8 lf (.lst (fs++[.ref tn]))) b=some (.tup xs):=fun b xs e=>by
      obtain ⟨oP,hP,r,b',eP,_⟩:=d.pot
      have bp:b≠p:=fun z=>by rw [z,hP,eP] at e;cases e
      have bf:b≠lf:=fun z=>by rw [z,hf'] at e;cases e
      rw [Zac bf]
      exact s68 _ _ (d6.keep b _ bp e)
     refine Paired.snoc (Paired.mapP hpr fun r v ⟨a,u,e,h1,h2⟩=>⟨a,u,e,tups _ _ h1,tups _ _ h2⟩) ⟨tn,t,rfl,?_,?_⟩
     ·rw [Zac (fun z=>by rw [z,hf8] at tn8;cases tn8)]
      exact tn8
     ·rw [Zac (fun z=>by rw [z,hf8] at t8;cases t8)]
      exact t8
    ·by_cases hki:k<uf.length
     ·rw [List.getElem?_append_left hki] at hk
      exact uok0 k js' hk
     ·rw [List.getElem?_append_right (by omega)] at hk
      have hk0:k - uf.length=0:=by
       have:=(List.getElem?_eq_some_iff.mp hk).1
       simp at this
       omega
      rw [hk0] at hk
      have e:js=js':=by simpa using hk
      have e2:k=i:=by omega
      rw [← e,e2]
      exact uok
  ·rintro σ H' ⟨uf,fs,kv,rfl,d,hw',hf',hpr,ul,uok0⟩
   rw [Zat] at hpr ul
   refine ⟨_,rfl,q lf (Zdu ws uf (List.range ws.length)) H' d lfH ⟨fs,hf',hpr⟩ (good_of (m:=ws.length) (by omega) (by omega) hgw hgn rfl (fun k js h=>⟨(uok0 k js h).below,(uok0 k js h).nd,(uok0 k js h).few⟩) ul List.nodup_range (fun j=>List.mem_range) (by simp)) (rowsOf_words ws uf)⟩
end
end K23
namespace K23
open PySem L2 Md
structure ErrP (K:PySem.W.Frag) (mg:Str→Option Value) (x:Str) (C:Addr):Prop where
 m:mg x=some (.ref C)
 ex:ExC K C
 ini:PySem.W.findIn K (.ref C) "__init__"=some (some (.builtin "ValueError.__init__"))
structure ErrI (P:Program) (w:World) (K:PySem.W.Frag) (mg:Str→Option Value) (base:Heap) (x:Str) (C:Addr) (a:Str) (sp:Sp) (f:Addr) (fd:FuncData):Prop where
 m:mg x=some (.ref C)
 ex:ExC K C
 ini:PySem.W.findIn K (.ref C) "__init__"=some (some (.ref f))
 ty:PySem.W.typeIn K (.ref f)=some (.type "function")
 b:Binds K fd ["self",a] []
 go:Za0 P w K mg base CX0 1 f fd ["self",a] sp
theorem isword_shows {x:Str}(h:Za2 x=true):Shows x:=by
 unfold Za2 at h
 rw [Bool.and_eq_true,List.all_eq_true] at h
 have l:=of_decide_eq_true h.1
 refine ⟨by omega,fun c hc=>?_⟩
 have:=h.2 c hc
 unfold isLow at this
 simp only [Bool.and_eq_true,decide_eq_true_eq] at this
 have e:(16:Nat) ^ 8=4294967296:=by decide
 omega
inductive KErr
 | many
 | noK (w:Str)
 | twice (w:Str)
 | ring
def IsRing (rows:List (Str×List Str)) (ys:List Str):Prop:=ys≠[]∧ys.Nodup∧(∀ y∈ys,y∈rows.map (·.1))∧(∀ (i:Nat) (a b:Str),ys[i]?=some a→ys[i + 1]?=some b→b∈Zb8 rows a)∧∀ a b,ys.getLast?=some a→ys.head?=some b→b∈Zb8 rows a
def Cyc (rows:List (Str×List Str)):Prop:=∃ x∈rows.map (·.1),∃ u∈Zb8 rows x,Graph.Reach (Zb8 rows) u x
structure RFine (rows:List (Str×List Str)):Prop where
 ne:1≤rows.length
 le:rows.length≤24
 word:∀ r∈rows,Za2 r.1=true
 nd:(rows.map (·.1)).Nodup
 few:∀ r∈rows,r.2.length≤8
structure UFine (rows:List (Str×List Str)):Prop where
 known:∀ r∈rows,∀ u∈r.2,u∈rows.map (·.1)
 upnd:∀ r∈rows,r.2.Nodup
structure RBad (rows:List (Str×List Str)) (k:Nat) (e:KErr):Prop where
 ex:∃ r,rows[k]?=some r∧((Za2 r.1=false∧e=.noK r.1)∨(Za2 r.1=true∧r.1∈(rows.take k).map (·.1)∧e=.twice r.1)∨(Za2 r.1=true∧r.1∉(rows.take k).map (·.1)∧8<r.2.length∧e=.many))
 ahead:∀ r∈rows.take k,Za2 r.1=true∧r.2.length≤8
 nd:((rows.take k).map (·.1)).Nodup
inductive RDue (rows:List (Str×List Str)):Option KErr→Prop
 | size (h:¬ (1≤rows.length∧rows.length≤24)):RDue rows (some .many)
 | bad {e:KErr} (k:Nat) (h1:1≤rows.length) (h2:rows.length≤24) (h:RBad rows k e):RDue rows (some e)
 | fine (f:RFine rows):RDue rows none
structure UBad (rows:List (Str×List Str)) (k j:Nat) (e:KErr):Prop where
 ex:∃ r u,rows[k]?=some r∧r.2[j]?=some u∧(∀ v∈r.2.take j,v∈rows.map (·.1))∧(r.2.take j).Nodup∧((u∉rows.map (·.1)∧e=.noK u)∨(u∈rows.map (·.1)∧u∈r.2.take j∧e=.twice u))
 ahead:∀ r∈rows.take k,(∀ v∈r.2,v∈rows.map (·.1))∧r.2.Nodup
inductive UDue (rows:List (Str×List Str)):Option KErr→Prop
 | bad {e:KErr} (k j:Nat) (h:UBad rows k j e):UDue rows (some e)
 | fine (f:UFine rows):UDue rows none
inductive KDue (rows:List (Str×List Str)):Option KErr→Prop
 | rows {e:KErr} (h:RDue rows (some e)):KDue rows (some e)
 | ups {e:KErr} (f:RFine rows) (h:UDue rows (some e)):KDue rows (some e)
 | ring (f:RFine rows) (u:UFine rows) (c:Cyc rows):KDue rows (some .ring)
 | good (g:Zd7 rows):KDue rows none
structure RefK (Ds:Nat→Addr) (rows:List (Str×List Str)) (E:XK) (H:Hp) (e:KErr):Prop where
 many:e=.many→∀ H',Zan H H'→E (.ref (Ds 7)) none H'
 noK:∀ w,e=.noK w→∀ dx H',Zan H H'→H' dx=some (.xd [("word",.str w)])→E (.ref (Ds 0)) (some dx) H'
 twice:∀ w,e=.twice w→∀ dx H',Zan H H'→H' dx=some (.xd [("word",.str w)])→E (.ref (Ds 1)) (some dx) H'
 ring:e=.ring→∀ dx l ys H',Zan H H'→H' dx=some (.xd [("ring",.ref l)])→H l=none→H' l=some (.lst (ys.map V.str))→IsRing rows ys→E (.ref (Ds 3)) (some dx) H'
theorem rB_iff {rows:List (Str×List Str)}{x y:Str}:Zcl rows x y=true↔Graph.Reach (Zb8 rows) x y:=by
 unfold Zcl
 exact @decide_eq_true_iff _ (Classical.propDecidable _)
theorem Zcn {H:Hp}{l:Addr}{o:HO}(hl:H l=none):Zan H (upd H l o):=fun b o' e=>by rw [Zac (nNo e hl)];exact e
section
variable {P:Program} {w:World} {K:PySem.W.Frag} {mg:Str→Option Value} {base:Heap}
end
end K23
namespace K23
open PySem L2 Md
section
variable {P:Program} {w:World} {K:PySem.W.Frag} {mg:Str→Option Value} {base:Heap}
end
end K23
namespace K23
open PySem L2 Md
def LineP (rows:List (Str×List Str)) (x:Str) (ls:List Str):Prop:=ls.Perm (highs rows x)∧∀ (k:Nat) (a b:Str),ls[k]?=some a→b∈ls.take k→¬ Graph.Reach (Zb8 rows) a b
theorem highs_sub {rows:List (Str×List Str)}{x y:Str}(h:y∈highs rows x):y∈rows.map (·.1):=by
 unfold highs at h
 exact (List.mem_filter.mp h).1
theorem highs_nd {rows:List (Str×List Str)}(g:Zd7 rows) (x:Str):(highs rows x).Nodup:=by
 unfold highs
 exact g.nd.sublist List.filter_sublist
theorem highs_le {rows:List (Str×List Str)}(g:Zd7 rows) (x:Str):(highs rows x).length≤24:=by
 have:=List.length_filter_le (fun y=>Zcl rows x y) (rows.map (·.1))
 rw [List.length_map] at this
 have:=g.le
 unfold highs
 omega
theorem ok_strsL {l:List Str}(h:∀ z∈l,PyData.strOk z=true):PySem.W.kqdOk 9 (.list (l.map PySem.W.Dat.str))=true:=by
 show (l.map PySem.W.Dat.str).all (PySem.W.kqdOk 8)=true
 rw [List.all_eq_true]
 intro d hd
 obtain ⟨x,hx,rfl⟩:=List.mem_map.mp hd
 exact h x hx
theorem strs_inj {a b:List Str}(h:a.map PySem.W.Dat.str=b.map PySem.W.Dat.str):a=b:=by
 induction a generalizing b with
 | nil =>
  cases b with
  | nil=>rfl
  | cons y b=>cases h
 | cons x a ih =>
  cases b with
  | nil=>cases h
  | cons y b =>
   rw [List.map_cons,List.map_cons] at h
   injection h with h1 h2
   injection h1 with h1
   rw [h1,ih h2]
theorem cut_take (xs:List V) (k:Nat):cutV xs none (some (k:Int))=xs.take k:=by
 unfold cutV
 rw [HT.sIx_none,HT.sIx_nat,List.drop_zero,Nat.sub_zero]
 rcases Nat.le_total k xs.length with h | h
 ·rw [Nat.min_eq_left h]
 ·rw [Nat.min_eq_right h,List.take_of_length_le (Nat.le_refl _),List.take_of_length_le h]
theorem take_not {ys:List Str}{i:Nat}{y:Str}(nd:ys.Nodup) (hi:ys[i]?=some y):y∉ys.take i:=fun h=>by
 obtain ⟨j,hj,e⟩:=List.mem_iff_getElem.mp h
 rw [List.length_take] at hj
 rw [List.getElem_take] at e
 obtain ⟨hi',ei⟩:=List.getElem?_eq_some_iff.mp hi
 have:=(List.nodup_iff_pairwise_ne.mp nd)
 have:=List.pairwise_iff_getElem.mp this j i (by omega) hi' (by omega)
 exact this (e.trans ei.symm)
noncomputable def benB (rows:List (Str×List Str)) (a b:Str):Bool:=Zcl rows a b&&!decide (a=b)
noncomputable def aheadB (rows:List (Str×List Str)) (ls:List Str) (k:Nat):Bool:=((ls.take k).map fun b=>benB rows (ls.getD k "") b).any id
noncomputable def benV (rows:List (Str×List Str)) (a:Str):V→V
 | .str b=>.bl (benB rows a b)
 | _=>.non
noncomputable def aheadV (rows:List (Str×List Str)) (ls:List Str):V→V
 | .int k=>.bl (aheadB rows ls k.toNat)
 | _=>.non
theorem ben_map (rows:List (Str×List Str)) (a:Str):∀ l:List Str,((l.map V.str).filter fun _=>true).map (benV rows a)=(l.map fun b=>benB rows a b).map V.bl
 | []=>rfl
 | u :: r=>by
  have:=ben_map rows a r
  rw [List.filter_eq_self.mpr (fun _ _=>rfl)] at this ⊢
  rw [List.map_cons,List.map_cons,this]
  rfl
theorem ahead_map (rows:List (Str×List Str)) (ls:List Str) (n:Nat):((Zdi 0 n).filter fun _=>true).map (aheadV rows ls)=((List.range n).map (aheadB rows ls)).map V.bl:=by
 rw [List.filter_eq_self.mpr (fun _ _=>rfl),rangeV_nat,List.map_map,List.map_map]
 refine List.map_congr_left fun k _=>?_
 show V.bl (aheadB rows ls ((k:Nat):Int).toNat)=_
 rw [Int.toNat_natCast]
 rfl
theorem ahead_line {rows:List (Str×List Str)}(g:Zd7 rows) {x:Str}{ls:List Str}(p:ls.Perm (highs rows x)):(!((List.range ls.length).map (aheadB rows ls)).any id)=true↔LineP rows x ls:=by
 have nd:ls.Nodup:=p.nodup_iff.mpr (highs_nd g x)
 rw [Bool.not_eq_true',List.any_eq_false]
 constructor
 ·refine fun h=>⟨p,fun k a b hk hb re=>?_⟩
  have hlt:=(List.getElem?_eq_some_iff.mp hk).1
  refine h _ (List.mem_map.mpr ⟨k,List.mem_range.mpr hlt,rfl⟩) ?_
  show aheadB rows ls k=true
  unfold aheadB
  rw [List.any_eq_true]
  refine ⟨true,List.mem_map.mpr ⟨b,hb,?_⟩,rfl⟩
  rw [List.getD_eq_getElem?_getD,hk]
  show benB rows a b=true
  unfold benB
  rw [rB_iff.mpr re,decide_eq_false (fun e:a=b=>take_not nd hk (by rw [e];exact hb))]
  rfl
 ·rintro ⟨_,h⟩ b hb e
  obtain ⟨k,hk,rfl⟩:=List.mem_map.mp hb
  have hlt:=List.mem_range.mp hk
  have e:aheadB rows ls k=true:=e
  unfold aheadB at e
  rw [List.any_eq_true] at e
  obtain ⟨c,hc,e⟩:=e
  obtain ⟨y,hy,rfl⟩:=List.mem_map.mp hc
  have hk':ls[k]?=some ls[k]:=List.getElem?_eq_getElem hlt
  rw [List.getD_eq_getElem?_getD,hk'] at e
  have e:benB rows ls[k] y=true:=e
  unfold benB at e
  rw [Bool.and_eq_true] at e
  exact h k _ y hk' hy (rB_iff.mp e.1)
noncomputable def spBoa (C:Addr):Sp:=fun vs H Q _=>∃ (p l:Addr) (rows:List (Str×List Str)) (ls:List Str) (k:Nat),vs=[.ref p,.ref l,.int k]∧Zck C H p rows∧Zd7 rows∧H l=some (.lst (ls.map V.str))∧(∀ z∈ls,z∈rows.map (·.1))∧k<ls.length∧ls.length<64∧∀ H',Zan H H'→Q (.bl (aheadB rows ls k)) H'
def spIsLine (C:Addr):Sp:=fun vs H Q _=>∃ (p l:Addr) (rows:List (Str×List Str)) (x:Str) (ls:List Str),vs=[.ref p,.str x,.ref l]∧Zck C H p rows∧Zd7 rows∧x∈rows.map (·.1)∧H l=some (.lst (ls.map V.str))∧(∀ z∈ls,PyData.strOk z=true)∧ls.length<64∧∀ v H',Zan H H'→(v=true↔LineP rows x ls)→Q (.bl v) H'
abbrev nBo:List Str:=["kinds","line","spot"]
abbrev nIL:List Str:=["kinds","word","line"]
theorem scBo:Zap nBo nBo (Zab Zau):=⟨rfl,rfl,rfl,by decide +kernel,rfl,by decide +kernel,by decide +kernel⟩
theorem scIL:Zap nIL nIL (Zab Zdk):=⟨rfl,rfl,rfl,by decide +kernel,rfl,by decide +kernel,by decide +kernel⟩
theorem nd_akls:(["ahead","kinds","line","spot"]:List Str).Nodup:=by decide +kernel
theorem nd_skl:(["spot","kinds","line"]:List Str).Nodup:=by decide +kernel
section
variable {P:Program} {w:World} {K:PySem.W.Frag} {mg:Str→Option Value} {base:Heap}
theorem ok_boa {f C fB:Addr}{fd fdB:FuncData}(F:Def K mg "beneath_one_ahead" Zau nBo f fd) (any:mg "any"=none) (TC:TxtC K C) (MB:MDef K C "beneath" "Kinds.beneath" Zbf ["self","one","other"] fB fdB) (GB:Za0 P w K mg base CX0 4 fB fdB ["self","one","other"] (spBeneath C)):Za0 P w K mg base CX0 5 f fd nBo (spBoa C):=by
 refine F.fn.ok scBo (fun vs H Q E h=>?_) (fun cdv A outer s H vs Q E hr h=>?_)
 ·obtain ⟨p,l,rows,ls,k,rfl,_⟩:=h
  rfl
 ·obtain ⟨p,l,rows,ls,k,rfl,kd,g,hl,kn,hk,h64,q⟩:=h
  refine' ⟨_,Zad (Zar (Zag (r:=rAll K fun bs=>bs.any id) (call_any rfl) (by rfl) any PyProof.Rows.boot_any (pC ?e1 Zaa))),?_⟩
  case e1=>exact (Zb5 ["ahead"] ["kinds","line","spot"] [0,1,2] (fun _=>Zay (osc:=Zab Zau) (on:=nBo) (by decide +kernel) rfl rfl rfl) (Zcw (Zd1 (r:=rSlL K) sl_list (pv 1) Zeq (Zep (pv 2)))) (fun C s H fp=>Zaj (i:=0) nd_akls rfl (Or.inl rfl) (Or.inr rfl)) (fun C s H fp=>Zb2)
    (fun C s H fp=>pe_meth (pv 1) TC.cl MB.me GB hr MB.b .nil pass0 (pC (Zbc (r:=rIxL K) Zaw (pv 2) (pv 3) (fun _ _=>rfl)) (pC (pv 0) Zaa))))
  have hy:ls[k]?=some ls[k]:=List.getElem?_eq_getElem hk
  have eg:ls.getD k ""=ls[k]:=by rw [List.getD_eq_getElem?_getD,hy];rfl
  generalize ls[k]=y at hy eg
  refine ⟨_,rfl,_,rfl,_,rfl,l,_,rfl,SqL.of hl,fun l1 hl1=>?_⟩
  dsimp only [tNoPart] at *
  rw [show cutV (ls.map V.str) none (some (k:Int))=(ls.take k).map V.str from by rw [cut_take,List.map_take]]
  have s1:Zan H (upd H l1 (.lst ((ls.take k).map V.str))):=Zcn hl1
  have h11:(upd H l1 (.lst ((ls.take k).map V.str))) l1=some (.lst ((ls.take k).map V.str)):=uS
  generalize upd H l1 (.lst ((ls.take k).map V.str))=H1 at s1 h11
  refine ⟨l1,rfl,⟨_,SqL.of h11⟩,comp_val (Zce (xs:=(ls.take k).map V.str)) (sL (by rw [List.length_map,List.length_take];omega)) (fun _=>true) (benV rows y) (fun H' s'=>s'.seq (SqL.of h11)) ?_ ?_ ?_⟩
  ·intro v H' R s' _ hR'
   exact hR' H' (Zan.refl _)
  ·intro v H' R s' hv _ hR'
   obtain ⟨z,hz,rfl⟩:=List.mem_map.mp hv
   have s0':=s1.trans s'
   have kd':=kd.mono s0'
   obtain ⟨dx,d,a,o,oa,kvs,avs,h1,_⟩:=kd'.ex
   refine ⟨_,rfl,p,dx,_,rfl,h1,no_beneath _ _,_,rfl,_,rfl,l,_,_,_,rfl,rfl,SqL.of (s0' _ _ hl),Zdh (by rw [List.getElem?_map,hy];rfl),_,rfl,p,rows,y,z,rfl,kd',g,kn y (List.mem_of_getElem? hy),kn z (List.mem_of_mem_take hz),?_⟩
   exact hR' H' (Zan.refl _)
  ·intro D3 H2 hD3 s2 hl3
   rw [ben_map] at hl3
   refine ⟨D3,_,rfl,SqL.of hl3,?_⟩
   have:=q H2 (s1.trans s2)
   unfold aheadB at this
   rw [eg] at this
   exact this
theorem ok_is_line {f C fA fO:Addr}{fd fdA fdO:FuncData}(F:Def K mg "is_line" Zdk nIL f fd) (srt:mg "sorted"=none) (any:mg "any"=none) (range:mg "range"=none) (len:mg "len"=none) (TC:TxtC K C) (MA:MDef K C "above" "Kinds.above" Zbp ["self","word"] fA fdA) (GA:Za0 P w K mg base CX0 3 fA fdA ["self","word"] (spAboveOf C))
  (DO:Def K mg "beneath_one_ahead" Zau nBo fO fdO) (GO:Za0 P w K mg base CX0 5 fO fdO nBo (spBoa C)):Za0 P w K mg base CX0 6 f fd nIL (spIsLine C):=by
 refine F.fn.ok scIL (fun vs H Q E h=>?_) (fun cdv A outer s H vs Q E hr h=>?_)
 ·obtain ⟨p,l,rows,x,ls,rfl,_⟩:=h
  rfl
 ·obtain ⟨p,l,rows,x,ls,rfl,kd,g,hx,hl,lok,h64,q⟩:=h
  have hu:=hr.units
  have hr3:Zdp 3 _:=hr.mono (by decide)
  obtain ⟨dx,d,a,o,oa,kvs,avs,h1,_⟩:=kd.ex
  refine' ⟨_,(pS (Za5 (Zal (op_neD hu) (Zag call_sortS (by rfl) srt PyProof.Rows.boot_sorted (pC (pv 2) Zaa)) (Zag call_sortS (by rfl) srt PyProof.Rows.boot_sorted (pC (pe_meth (pv 0) TC.cl MA.me GA hr3 MA.b .nil pass0 (pC (pv 1) Zaa)) Zaa)) (Zaq _)) (Zad (Zar pe_bl)) Zai)
   (Zad (Zar (pe_not (Zag (r:=rAll K fun bs=>bs.any id) (call_any rfl) (by rfl) any PyProof.Rows.boot_any (pC ?e1 Zaa)))))),?_⟩
  case e1=>exact (Zb5 ["spot"] ["kinds","line"] [0,2] (fun _=>Zay (osc:=Zab Zdk) (on:=nIL) (by decide +kernel) rfl rfl rfl) (Zcm (by rfl) range (pC (Zag Zam (by rfl) len PySem.boot_len (pC (pv 2) Zaa)) Zaa)) (fun C s H fp=>Zaj (i:=0) nd_skl rfl (Or.inl rfl) (Or.inr rfl)) (fun C s H fp=>Zb2) (fun C s H fp=>Zaf DO GO hr (pC (pv 1) (pC (pv 2) (pC (pv 0) Zaa)))))
  refine ⟨_,rfl,l,ls,rfl,SqL.of hl,h64,fun s1 l1 p1 o1 hl1=>?_⟩
  have sm1:Zan H (upd H l1 (.lst (s1.map V.str))):=Zcn hl1
  have h11:(upd H l1 (.lst (s1.map V.str))) l1=some (.lst (s1.map V.str)):=uS
  generalize upd H l1 (.lst (s1.map V.str))=H1 at sm1 h11
  have hle:=highs_le g x
  refine ⟨_,rfl,p,dx,_,rfl,sm1 _ _ h1,no_above _ _,_,rfl,p,rows,x,rfl,kd.mono sm1,g,hx,fun l2 hl2=>⟨l2,_,rfl,SqL.of uS,by omega,fun s2 l3 p3 o3 hl3=>?_⟩⟩
  have sm2:Zan H1 (upd H1 l2 (.lst ((highs rows x).map V.str))):=Zcn hl2
  generalize upd H1 l2 (.lst ((highs rows x).map V.str))=H2 at sm2 hl3
  have sm3:Zan H2 (upd H2 l3 (.lst (s2.map V.str))):=Zcn hl3
  have h33:(upd H2 l3 (.lst (s2.map V.str))) l3=some (.lst (s2.map V.str)):=uS
  generalize upd H2 l3 (.lst (s2.map V.str))=H3 at sm3 h33
  have sm23:=sm2.trans sm3
  have s03:=sm1.trans sm23
  have ok1:∀ z∈s1,PyData.strOk z=true:=fun z hz=>lok z (p1.mem_iff.mp hz)
  have ok2:∀ z∈s2,PyData.strOk z=true:=fun z hz=>by
   obtain ⟨r,hr',e⟩:=List.mem_map.mp (highs_sub (p3.mem_iff.mp hz))
   rw [← e];exact Zem (g.word r hr')
  refine ⟨.list (s1.map PySem.W.Dat.str),.list (s2.map PySem.W.Dat.str),.list (SqL.of (sm23 _ _ h11)) (Zdc _),.list (SqL.of h33) (Zdc _),ok_strsL ok1,ok_strsL ok2,_,rfl,?_⟩
  by_cases hp:ls.Perm (highs rows x)
  ·have e12:s1=s2:=sort_unique o1 o3 (p1.trans (hp.trans p3.symm))
   rw [e12,Zd2]
   have kn:∀ z∈ls,z∈rows.map (·.1):=fun z hz=>highs_sub (hp.mem_iff.mp hz)
   refine iteF ⟨_,rfl,l,_,rfl,.inl (SqL.of (s03 _ _ hl)),_,rfl,by omega,by rw [List.length_map];omega,comp_val Zbz (by rw [Zat,List.length_map];exact sL (by omega)) (fun _=>true) (aheadV rows ls) (fun _ _=>trivial) ?_ ?_ ?_⟩
   ·intro v H' R s' _ hR'
    exact hR' H' (Zan.refl _)
   ·intro v H' R s' hv _ hR'
    obtain ⟨i,hi⟩:=List.getElem?_of_mem hv
    obtain ⟨hi2,rfl⟩:=Za4 hi
    rw [List.length_map] at hi2
    have s0':=s03.trans s'
    refine ⟨_,rfl,_,rfl,_,rfl,p,l,rows,ls,i,by rw [Int.zero_add];rfl,kd.mono s0',g,s0' _ _ hl,kn,by omega,h64,fun H'' s''=>?_⟩
    have:=hR' H'' s''
    have e:aheadV rows ls (V.int (0 + (i:Int)))=.bl (aheadB rows ls i):=by
     rw [Int.zero_add]
     show V.bl (aheadB rows ls ((i:Nat):Int).toNat)=_
     rw [Int.toNat_natCast]
    rw [e] at this
    exact this
   ·intro D3 H4 hD3 s4 hl4
    rw [List.length_map,Int.toNat_natCast,ahead_map] at hl4
    refine ⟨D3,_,rfl,SqL.of hl4,_,rfl,?_⟩
    exact q _ H4 (s03.trans s4) (ahead_line g hp)
  ·have e12:s1≠s2:=fun e=>hp ((p1.symm.trans (e ▸ List.Perm.refl _)).trans p3)
   rw [show (!dEq (.list (s1.map PySem.W.Dat.str)) (.list (s2.map PySem.W.Dat.str)))=true from by
    rw [dEq_neg (fun z=>by injection z with z;exact e12 (strs_inj z))];rfl]
   exact iteT (q false H3 s03 ⟨(fun z=>by cases z),fun z=>absurd z.1 hp⟩)
end
end K23
namespace K23
open PySem L2 Md
theorem above_drawn {p:Addr}{H H':Hp}{o:HO}{all rows:List (Str×List Str)}{avs:List (Key×V)}(h:Zcs H all rows avs) (hp:H p=some o) (ho:PotO o) (d:Drawn p H H'):Zcs H' all rows avs :=
 Paired.mapP h fun _ _ z=>⟨z.1,let ⟨t,fs,e,x,y⟩:=z.2;⟨t,fs,e,d.keep _ _ (Ne.symm (Zdv hp ho x)) x,y⟩⟩
theorem fs_perm {rows:List (Str×List Str)}(g:Zd7 rows) {x:Str}(hx:x∈rows.map (·.1)) {fs:List Str}(hf:∀ y,y∈fs↔Graph.Reach (Zb8 rows) x y) (nd:fs.Nodup):fs.Perm (highs rows x):=by
 refine (List.perm_ext_iff_of_nodup nd (highs_nd g x)).mpr fun y=>?_
 rw [hf]
 unfold highs
 rw [List.mem_filter]
 exact ⟨fun r=>⟨reach_in g hx r,rB_iff.mpr r⟩,fun h=>rB_iff.mp h.2⟩
noncomputable def hiV (rows:List (Str×List Str)) (a:Str):V→V
 | .str b=>.bl (Zcl rows a b)
 | _=>.non
theorem hi_map (rows:List (Str×List Str)) (a:Str):∀ l:List Str,((l.map V.str).filter fun _=>true).map (hiV rows a)=(l.map fun b=>Zcl rows a b).map V.bl
 | []=>rfl
 | u :: r=>by
  have:=hi_map rows a r
  rw [List.filter_eq_self.mpr (fun _ _=>rfl)] at this ⊢
  rw [List.map_cons,List.map_cons,this]
  rfl
def spLIL:Sp:=fun vs H Q _=>∃ (a l:Addr) (rows:List (Str×List Str)) (avs:List (Key×V)) (x:Str) (ls:List Str),vs=[.ref a,.str x,.ref l]∧Zd7 rows∧H a=some (.dK avs)∧Zcs H rows rows avs∧x∈rows.map (·.1)∧H l=some (.lst (ls.map V.str))∧(∀ z∈ls,PyData.strOk z=true)∧ls.length<64∧∀ v H',Zan H H'→(v=true↔LineP rows x ls)→Q (.bl v) H'
def spLine:Sp:=fun vs H Q _=>∃ (p a:Addr) (rows:List (Str×List Str)) (avs:List (Key×V)) (x:Str),vs=[.ref p,.ref a,.str x]∧(∃ o,H p=some o∧PotO o)∧Zd7 rows∧H a=some (.dK avs)∧Zcs H rows rows avs∧x∈rows.map (·.1)∧∀ l (ls:List Str) H',Drawn p H H'→H l=none→H' l=some (.lst (ls.map V.str))→(∀ z∈ls,z∈rows.map (·.1))→1≤ls.length→ls.length≤24→Q (.ref l) H'
noncomputable def lowB (rows:List (Str×List Str)) (left:List Str) (x:Str):Bool:=!((left.map fun y=>!decide (y=x)&&Zcl rows y x).any id)
noncomputable def lowV (rows:List (Str×List Str)) (left:List Str):V→Bool
 | .str x=>lowB rows left x
 | _=>false
noncomputable def unV (rows:List (Str×List Str)) (x:Str):V→V
 | .str y=>.bl (!decide (y=x)&&Zcl rows y x)
 | _=>.non
theorem un_map (rows:List (Str×List Str)) (x:Str):∀ l:List Str,((l.map V.str).filter fun _=>true).map (unV rows x)=(l.map fun y=>!decide (y=x)&&Zcl rows y x).map V.bl
 | []=>rfl
 | u :: r=>by
  have:=un_map rows x r
  rw [List.filter_eq_self.mpr (fun _ _=>rfl)] at this ⊢
  rw [List.map_cons,List.map_cons,this]
  rfl
theorem low_map (rows:List (Str×List Str)) (left:List Str):∀ l:List Str,(l.map V.str).filter (lowV rows left)=(l.filter (lowB rows left)).map V.str
 | []=>rfl
 | z :: r=>by
  rw [List.map_cons,List.filter_cons,List.filter_cons,low_map rows left r]
  show (if lowB rows left z=true then _ else _)=_
  split <;> rfl
theorem reach_rank {rows:List (Str×List Str)}{rk:Str→Nat}(hrk:∀ r∈rows,∀ u∈r.2,rk u<rk r.1) (nd:(rows.map (·.1)).Nodup) (kn:∀ r∈rows,∀ u∈r.2,u∈rows.map (·.1)) {x y:Str}(hx:x∈rows.map (·.1)) (r:Graph.Reach (Zb8 rows) x y):x=y∨rk y<rk x:=by
 induction r with
 | refl=>exact .inl rfl
 | step h t ih =>
  rename_i a b c
  obtain ⟨q,hq,e⟩:=Zc5 hx
  have hu:b∈q.2:=by rw [← e,upsOf_at nd hq] at h;exact h
  have lt:rk b<rk a:=by rw [← e];exact hrk q hq b hu
  rcases ih (kn q hq b hu) with z | z
  ·rw [← z];exact .inr lt
  ·exact .inr (by omega)
theorem max_of {α:Type}(f:α→Nat):∀ l:List α,l≠[]→∃ x∈l,∀ y∈l,f y≤f x
 | [],h=>absurd rfl h
 | [a],_=>⟨a,by simp,fun y hy=>by rw [List.mem_singleton.mp hy];exact Nat.le_refl _⟩
 | a :: b :: r,_=>by
  obtain ⟨x,hx,hm⟩:=max_of f (b :: r) (by simp)
  by_cases h:f a≤f x
  ·refine ⟨x,List.mem_cons_of_mem _ hx,fun y hy=>?_⟩
   rcases List.mem_cons.mp hy with e | e
   ·rw [e];exact h
   ·exact hm y e
  ·refine ⟨a,by simp,fun y hy=>?_⟩
   rcases List.mem_cons.mp hy with e | e
   ·rw [e];exact Nat.le_refl _
   ·have:=hm y e;omega
theorem low_ne {rows:List (Str×List Str)}(g:Zd7 rows) {left:List Str}(hl:∀ z∈left,z∈rows.map (·.1)) (ne:left≠[]):left.filter (lowB rows left)≠[]:=by
 obtain ⟨rk,hrk⟩:=g.rank
 obtain ⟨x,hx,hm⟩:=max_of rk left ne
 intro z
 have:x∈left.filter (lowB rows left):=by
  refine List.mem_filter.mpr ⟨hx,?_⟩
  unfold lowB
  rw [Bool.not_eq_true',List.any_eq_false]
  intro b hb e
  obtain ⟨y,hy,rfl⟩:=List.mem_map.mp hb
  have e:(!decide (y=x)&&Zcl rows y x)=true:=e
  rw [Bool.and_eq_true] at e
  have ne:y≠x:=by simpa using e.1
  rcases reach_rank hrk g.nd g.known (hl y hy) (rB_iff.mp e.2) with z | z
  ·exact ne z
  ·have:=hm y hy;omega
 rw [z] at this
 cases this
abbrev nLI:List Str:=["above","word","line","k"]
theorem scLI:Zap nLI ["above","word","line"] (Zab Zbe):=⟨rfl,rfl,rfl,by decide +kernel,rfl,by decide +kernel,by decide +kernel⟩
theorem nd_halk:(["high","above","line","k"]:List Str).Nodup:=by decide +kernel
abbrev nLn:List Str:=["pot","above","word","left","line","low"]
theorem scLn:Zap nLn ["pot","above","word"] (Zab Zbb):=⟨rfl,rfl,rfl,by decide +kernel,rfl,by decide +kernel,by decide +kernel⟩
def scLw:Scope:=match Zak Zbb with
 | [_,_,.While _ (.Assign _ (.ListComp _ _ sc _) _ :: _) _ _,_]=>sc
 | _=>Zab Zbb
theorem nd_oal:(["one","above","left"]:List Str).Nodup:=by decide +kernel
theorem nd_toa:(["two","one","above"]:List Str).Nodup:=by decide +kernel
section
variable {P:Program} {w:World} {K:PySem.W.Frag} {mg:Str→Option Value} {base:Heap}
theorem ok_lil {f:Addr}{fd:FuncData}(F:Def K mg "_law_is_line" Zbe ["above","word","line"] f fd) (srt:mg "sorted"=none) (any:mg "any"=none) (range:mg "range"=none) (len:mg "len"=none):Za0 P w K mg base CX0 1 f fd ["above","word","line"] spLIL:=by
 refine F.fn.ok scLI (fun vs H Q E h=>?_) (fun cdv A outer s H vs Q E hr h=>?_)
 ·obtain ⟨a,l,rows,avs,x,ls,rfl,_⟩:=h
  rfl
 ·obtain ⟨a,l,rows,avs,x,ls,rfl,g,ha,hA,hx,hl,lok,h64,q⟩:=h
  have nd:=scLI.nd
  have hu:=hr.units
  have hu':=hu_of hr
  refine' ⟨_,(pS (Za5 (Zal (op_neD hu) (Zag call_sortS (by rfl) srt PyProof.Rows.boot_sorted (pC (pv 2) Zaa)) (Zag call_sortS (by rfl) srt PyProof.Rows.boot_sorted (pC (Zed hu' (pv 0) (pv 1) (fun _ _=>rfl)) Zaa)) (Zaq _)) (Zad (Zar pe_bl)) Zai)
   (pS (Zdd PassesOwn.never rfl (Zcm (by rfl) range (pC (Zag Zam (by rfl) len PySem.boot_len (pC (pv 2) Zaa)) Zaa)) (Zaj (i:=3) nd rfl (Or.inr rfl))
    (Zad (Za5 (pt_val (Zag (r:=rAll K fun bs=>bs.any id) (call_any rfl) (by rfl) any PyProof.Rows.boot_any (pC ?e1 Zaa))) (Zad (Zar pe_bl)) Zai)))
   (Zad (Zar pe_bl)))),?_⟩
  case e1=>exact (Zb5 ["high"] ["above","line","k"] [0,2,3] (fun _=>Zay (osc:=Zab Zbe) (on:=nLI) (by decide +kernel) rfl rfl rfl) (Zcw (Zd1 (r:=rSlL K) sl_list (pv 2) Zeq (Zep (pv 3)))) (fun C s H fp=>Zaj (i:=0) nd_halk rfl (Or.inl rfl) (Or.inr rfl)) (fun C s H fp=>Zb2)
    (fun C s H fp=>Zes (r:=rIn K false) op_in_seq (pv 0) (Zed hu' (pv 1) (Zbc (r:=rIxL K) Zaw (pv 2) (pv 3) (fun _ _=>rfl)) (fun _ _=>rfl)) (by with_unfolding_all rfl)))
  obtain ⟨r0,hr0,er0⟩:=Zc5 hx
  obtain ⟨t0,fs,hv0,ht0,hf0,_,fnd⟩:=hA.val' g.nd hr0
  rw [er0] at hv0 hf0
  have fp:=fs_perm g hx hf0 fnd
  have fle:fs.length≤24:=by rw [fp.length_eq];exact highs_le g x
  refine ⟨_,rfl,l,ls,rfl,SqL.of hl,h64,fun s1 l1 p1 o1 hl1=>?_⟩
  have sm1:Zan H (upd H l1 (.lst (s1.map V.str))):=Zcn hl1
  have h11:(upd H l1 (.lst (s1.map V.str))) l1=some (.lst (s1.map V.str)):=uS
  generalize upd H l1 (.lst (s1.map V.str))=H1 at sm1 h11
  refine ⟨_,rfl,_,rfl,a,_,rfl,(by rw [← hv0];exact DGet.k (k:=Sum.inr x) (sm1 _ _ ha)),t0,fs,rfl,SqL.of (sm1 _ _ ht0),by omega,fun s2 l3 p3 o3 hl3=>?_⟩
  have sm3:Zan H1 (upd H1 l3 (.lst (s2.map V.str))):=Zcn hl3
  have h33:(upd H1 l3 (.lst (s2.map V.str))) l3=some (.lst (s2.map V.str)):=uS
  generalize upd H1 l3 (.lst (s2.map V.str))=H3 at sm3 h33
  have s03:=sm1.trans sm3
  have ok1:∀ z∈s1,PyData.strOk z=true:=fun z hz=>lok z (p1.mem_iff.mp hz)
  have ok2:∀ z∈s2,PyData.strOk z=true:=fun z hz=>by
   obtain ⟨r,hr',e⟩:=List.mem_map.mp (highs_sub (fp.mem_iff.mp (p3.mem_iff.mp hz)))
   rw [← e];exact Zem (g.word r hr')
  refine ⟨.list (s1.map PySem.W.Dat.str),.list (s2.map PySem.W.Dat.str),.list (SqL.of (sm3 _ _ h11)) (Zdc _),.list (SqL.of h33) (Zdc _),ok_strsL ok1,ok_strsL ok2,_,rfl,?_⟩
  by_cases hp:ls.Perm (highs rows x)
  ·have e12:s1=s2:=sort_unique o1 o3 (p1.trans (hp.trans (fp.symm.trans p3.symm)))
   rw [e12,Zd2]
   have kn:∀ z∈ls,z∈rows.map (·.1):=fun z hz=>highs_sub (hp.mem_iff.mp hz)
   refine iteF ⟨_,rfl,l,_,rfl,.inl (SqL.of (s03 _ _ hl)),_,rfl,by omega,by rw [List.length_map];omega,Zbs Zbz (fun i σ H'=>∃ x3:Option V,σ=[some (.ref a),some (.str x),some (.ref l),x3]∧Zan H H'∧∀ k c b,k<i→ls[k]?=some c→b∈ls.take k→¬ Graph.Reach (Zb8 rows) c b)
    ⟨none,rfl,s03,fun k _ _ h=>absurd h (Nat.not_lt_zero _)⟩ (fun _ _ _ _ _=>trivial) ?_ ?_⟩
   ·rintro i v σ H4 hi ⟨x3,rfl,s4,ah⟩
    obtain ⟨hi2,rfl⟩:=Za4 hi
    rw [List.length_map] at hi2
    have hi3:i<ls.length:=by omega
    have hy:ls[i]?=some ls[i]:=List.getElem?_eq_getElem hi3
    generalize ls[i]=y at hy
    have hyw:=kn y (List.mem_of_getElem? hy)
    have hl4:=s4 _ _ hl
    refine ⟨_,rfl,_,rfl,_,rfl,l,_,rfl,SqL.of hl4,fun l5 hl5=>?_⟩
    dsimp only [tNoPart] at *
    rw [show cutV (ls.map V.str) none (some (0 + (i:Int)))=(ls.take i).map V.str from by rw [Int.zero_add,cut_take,List.map_take]]
    have s5:Zan H4 (upd H4 l5 (.lst ((ls.take i).map V.str))):=Zcn hl5
    have h55:(upd H4 l5 (.lst ((ls.take i).map V.str))) l5=some (.lst ((ls.take i).map V.str)):=uS
    generalize upd H4 l5 (.lst ((ls.take i).map V.str))=H5 at s5 h55
    refine ⟨l5,rfl,⟨_,SqL.of h55⟩,comp_val (Zce (xs:=(ls.take i).map V.str)) (sL (by rw [List.length_map,List.length_take];omega)) (fun _=>true) (hiV rows y) (fun H' s'=>s'.seq (SqL.of h55)) ?_ ?_ ?_⟩
    ·intro v H' R s' _ hR'
     exact hR' H' (Zan.refl _)
    ·intro v H' R s' hv _ hR'
     obtain ⟨z,hz,rfl⟩:=List.mem_map.mp hv
     have s0':=s4.trans (s5.trans s')
     obtain ⟨r2,hr2',er2⟩:=Zc5 hyw
     obtain ⟨t2,f2,hv2,ht2,hin⟩:=(hA.mono fun b xs e=>s0' b _ e).val g.nd hr2'
     rw [er2] at hv2 hin
     refine ⟨_,rfl,_,rfl,_,rfl,_,rfl,l,_,_,_,rfl,rfl,SqL.of (s0' _ _ hl),(by rw [Int.zero_add];exact Zdh (by rw [List.getElem?_map,hy];rfl)),a,_,rfl,(by rw [← hv2];exact DGet.k (k:=Sum.inr y) (s0' _ _ ha)),t2,_,rfl,.inl (SqL.of ht2),rfl,flat_strs f2,?_⟩
     rw [show (if false=true then !inV (V.str z) (f2.map V.str) else inV (V.str z) (f2.map V.str))=Zcl rows y z from by rw [if_neg (by decide),in_strs,mem_reach hin]]
     exact hR' H' (Zan.refl _)
    ·intro D3 H6 hD3 s6 hl6
     rw [hi_map] at hl6
     refine ⟨D3,_,rfl,SqL.of hl6,_,rfl,Zdy (fun h=>?_) (fun h=>?_)⟩
     ·have h:(((ls.take i).map fun b=>Zcl rows y b).any id)=true:=h
      rw [List.any_eq_true] at h
      obtain ⟨c,hc,ec⟩:=h
      obtain ⟨z,hz,rfl⟩:=List.mem_map.mp hc
      exact q false H6 (s4.trans (s5.trans s6)) ⟨(fun z=>by cases z),fun lp=>absurd (rB_iff.mp ec) (lp.2 i y z hy hz)⟩
     ·have h:¬ (((ls.take i).map fun b=>Zcl rows y b).any id)=true:=h
      refine ⟨_,rfl,s4.trans (s5.trans s6),fun k c b hk hc hb re=>?_⟩
      rcases Nat.lt_succ_iff_lt_or_eq.mp hk with z | z
      ·exact ah k c b z hc hb re
      ·subst z
       rw [hy] at hc
       cases hc
       exact h (List.any_eq_true.mpr ⟨true,List.mem_map.mpr ⟨b,hb,rB_iff.mpr re⟩,rfl⟩)
   ·rintro σ H4 ⟨x3,rfl,s4,ah⟩
    refine q true H4 s4 ⟨fun _=>⟨hp,fun k c b hc hb=>ah k c b ?_ hc hb⟩,fun _=>rfl⟩
    rw [Zat,List.length_map,Int.toNat_natCast]
    exact (List.getElem?_eq_some_iff.mp hc).1
  ·have e12:s1≠s2:=fun e=>hp ((p1.symm.trans (e ▸ List.Perm.refl _)).trans (p3.trans fp))
   rw [show (!dEq (.list (s1.map PySem.W.Dat.str)) (.list (s2.map PySem.W.Dat.str)))=true from by
    rw [dEq_neg (fun z=>by injection z with z;exact e12 (strs_inj z))];rfl]
   exact iteT (q false H3 s03 ⟨(fun z=>by cases z),fun z=>absurd z.1 hp⟩)
theorem ok_lline {f fT:Addr}{fd fdT:FuncData}(F:Def K mg "_law_line" Zbb ["pot","above","word"] f fd) (list:mg "list"=none) (any:mg "any"=none) (len:mg "len"=none) (DT:Def K mg "_law_take" Zas ["pot","many"] fT fdT) (GT:Za0 P w K mg base CX0 1 fT fdT ["pot","many"] Zef):Za0 P w K mg base CX0 2 f fd ["pot","above","word"] spLine:=by
 refine F.fn.ok scLn (fun vs H Q E h=>?_) (fun cdv A outer s H vs Q E hr h=>?_)
 ·obtain ⟨p,a,rows,avs,x,rfl,_⟩:=h
  rfl
 ·obtain ⟨p,a,rows,avs,x,rfl,⟨o,hp,ho⟩,g,ha,hA,hx,q⟩:=h
  have nd:=scLn.nd
  have hu:=hr.units
  have hu':=hu_of hr
  refine' ⟨_,(pS (Zah (i:=3) nd rfl (Or.inr rfl) (Za9 Zcr (by rfl) list PyProof.Rows.boot_list (pC (Zed hu' (pv 1) (pv 2) (fun _ _=>rfl)) Zaa)))
   (pS (Zah (i:=4) nd rfl (Or.inl rfl) (Zcx Zaa))
   (pS (ps_while PassesOwn.never (Zal (op_neD hu) (pv 3) (Zcx Zaa) (Zaq _))
    (pS ?e1
   (pS (Zbg (pe_bm PySem.F.plainAttrs_list PySem.F.slot_list_append PySem.F.type_list_append Zde (pv 4) (pC (Zbc (r:=rIxL K) Zaw (pv 5) (Zaf DT GT hr (pC (pv 0) (pC (Zag Zam (by rfl) len PySem.boot_len (pC (pv 5) Zaa)) Zaa))) (fun _ _=>rfl)) Zaa)))
   (Zad (Zbg (pe_bm PySem.F.plainAttrs_list PySem.F.slot_list_remove PySem.F.type_list_remove mt_removeS (pv 3) (pC (Zbc (r:=rIxL K) Zaw (pv 4) (pe_un un_neg Zae) (fun _ _=>rfl)) Zaa)))))))
   (Zad (Zar (pv 4)))))),?_⟩
  case e1=>exact (ps_setCompC (k:=5) ["one"] ["above","left"] [1,3] nd rfl rfl (fun _=>compTC_ok (osc:=Zab Zbb) (on:=nLn) (by decide +kernel) rfl rfl rfl) (Zcw (pv 3)) (fun C s H fp=>Zaj (i:=0) nd_oal rfl (Or.inr rfl) (Or.inl rfl))
    (fun C s H fp=>by
     refine' pts_one (Zd9 (pt_val (Zag (r:=rAll K fun bs=>bs.any id) (call_any rfl) (by rfl) any PyProof.Rows.boot_any (pC ?ei Zaa))))
     case ei =>
      refine' Zb5 (wi:=iList K (tVar 2)) ["two"] ["one","above"] [0,1] (fun _=>Zay (osc:=relab scLw (Zab Zbb)) (on:=["one","above","left"]) (by decide +kernel) rfl rfl rfl) ?ej ?ek ?el ?em
      case ej=>exact Zcw (pv 2)
      case ek=>exact (fun C s H fp=>Zaj (i:=0) nd_toa rfl (Or.inl rfl) (Or.inr rfl))
      case el=>exact (fun C s H fp=>Zb2)
      case em=>exact (fun C s H fp=>pe_and (Zes op_ne (pv 0) (pv 1) (Zaq _)) (pe_one (Zes (r:=rIn K false) op_in_seq (pv 1) (Zed hu' (pv 2) (pv 0) (fun _ _=>rfl)) (by with_unfolding_all rfl))))) (fun C s H fp=>pv 0))
  obtain ⟨r0,hr0,er0⟩:=Zc5 hx
  obtain ⟨t0,fs,hv0,ht0,hf0,_,fnd⟩:=hA.val' g.nd hr0
  rw [er0] at hv0 hf0
  have fp:=fs_perm g hx hf0 fnd
  have fle:fs.length≤24:=by rw [fp.length_eq];exact highs_le g x
  have fpos:1≤fs.length:=List.length_pos_iff.mpr (fun z=>by
   have:=(hf0 x).mpr (.refl _)
   rw [z] at this
   cases this)
  have ap:a≠p:=fun z=>by
   obtain ⟨_,_,e,_⟩:=id ho
   rw [z,hp,e] at ha
   cases ha
  refine ⟨_,rfl,_,rfl,a,_,rfl,(by rw [← hv0];exact DGet.k (k:=Sum.inr x) ha),t0,_,rfl,.inl (SqL.of ht0),fun lf hlf=>?_⟩
  have s1:Zan H (upd H lf (.lst (fs.map V.str))):=Zcn hlf
  have h11:(upd H lf (.lst (fs.map V.str))) lf=some (.lst (fs.map V.str)):=uS
  generalize upd H lf (.lst (fs.map V.str))=H1 at s1 h11
  refine ⟨Nat.zero_le _,fun ln hln=>?_⟩
  have s2:Zan H1 (upd H1 ln (.lst [])):=Zcn hln
  have h22:(upd H1 ln (.lst [])) ln=some (.lst []):=uS
  generalize upd H1 ln (.lst [])=H2 at s2 h22
  have s02:=s1.trans s2
  have lfn:lf≠ln:=nNo h11 hln
  have lfp:lf≠p:=Ne.symm (nNo hp hlf)
  have lnH:H ln=none:=s1.free hln
  have lnp:ln≠p:=Ne.symm (nNo hp lnH)
  refine ⟨fun m σ H'=>∃ (left line:List Str) (x5:Option V),σ=[some (.ref p),some (.ref a),some (.str x),some (.ref lf),some (.ref ln),x5]∧Drawn p H H'∧H' lf=some (.lst (left.map V.str))∧H' ln=some (.lst (line.map V.str))∧(∀ z∈left,z∈rows.map (·.1))∧(∀ z∈line,z∈rows.map (·.1))∧line.length + left.length=fs.length∧m=left.length,
   ⟨_,fs,[],none,rfl,(Drawn.refl ⟨o,hp,ho⟩).same s02,s2 _ _ h11,h22,(fun z hz=>reach_in g hx ((hf0 z).mp hz)),(fun z hz=>nomatch hz),by show 0 + _=_;omega,rfl⟩,?_⟩
  rintro m σ H3 ⟨left,line,x5,rfl,d3,hf3,hn3,lk,nk,cnt,rfl⟩
  obtain ⟨o3,hp3,ho3⟩:=id d3.pot
  refine ⟨_,rfl,Nat.zero_le _,fun l0 hl0=>?_⟩
  have s4:Zan H3 (upd H3 l0 (.lst [])):=Zcn hl0
  have h04:(upd H3 l0 (.lst [])) l0=some (.lst []):=uS
  generalize upd H3 l0 (.lst [])=H4 at s4 h04
  have wok:∀ z∈left,PyData.strOk z=true:=fun z hz=>by
   obtain ⟨r,hr',e⟩:=List.mem_map.mp (lk z hz)
   rw [← e];exact Zem (g.word r hr')
  have hf4:=s4 _ _ hf3
  have hn4:=s4 _ _ hn3
  have d4:=d3.same s4
  have hp4:=s4 _ _ hp3
  refine ⟨.list (left.map PySem.W.Dat.str),.list [],.list (SqL.of hf4) (Zdc _),.list (SqL.of h04) .nil,ok_strsL wok,rfl,_,rfl,?_⟩
  by_cases hle:left=[]
  ·subst hle
   rw [show (!dEq (.list (([]:List Str).map PySem.W.Dat.str)) (.list []))=false from by rw [show dEq (.list (([]:List Str).map PySem.W.Dat.str)) (.list [])=true from Zd2 _];rfl]
   refine iteF ⟨_,rfl,q ln line H4 d4 lnH hn4 nk ?_ ?_⟩
   ·simp only [List.length_nil] at cnt;omega
   ·simp only [List.length_nil] at cnt;omega
  ·rw [show (!dEq (.list (left.map PySem.W.Dat.str)) (.list []))=true from by rw [dEq_neg (fun z=>by injection z with z;exact hle (List.map_eq_nil_iff.mp z))];rfl]
   refine iteT ⟨fun σ' H'=>∃ m',m'<left.length∧∃ (left line:List Str) (x5:Option V),σ'=[some (.ref p),some (.ref a),some (.str x),some (.ref lf),some (.ref ln),x5]∧Drawn p H H'∧H' lf=some (.lst (left.map V.str))∧H' ln=some (.lst (line.map V.str))∧(∀ z∈left,z∈rows.map (·.1))∧(∀ z∈line,z∈rows.map (·.1))∧line.length + left.length=fs.length∧m'=left.length,fun _ _ h=>h,?_⟩
   have ll:left.length≤24:=by omega
   refine ⟨_,rfl,lf,rfl,⟨_,SqL.of hf4⟩,comp_val (Zce (xs:=left.map V.str)) (sL (by rw [List.length_map];omega)) (lowV rows left) (fun v=>v) (fun H' s'=>s'.seq (SqL.of hf4)) ?_ ?_ ?_⟩
   ·intro v H' R s' hv hR'
    obtain ⟨z,hz,rfl⟩:=List.mem_map.mp hv
    have hf':=s' _ _ hf4
    refine ⟨_,rfl,lf,rfl,⟨_,SqL.of hf'⟩,comp_val (Zce (xs:=left.map V.str)) (sL (by rw [List.length_map];omega)) (fun _=>true) (unV rows z) (fun H'' s''=>s''.seq (SqL.of hf')) ?_ ?_ ?_⟩
    ·intro v H'' R' s'' _ hR''
     exact hR'' H'' (Zan.refl _)
    ·intro v H'' R' s'' hv'' _ hR''
     obtain ⟨y,hy,rfl⟩:=List.mem_map.mp hv''
     have s0'':=s'.trans s''
     obtain ⟨r2,hr2',er2⟩:=Zc5 (lk y hy)
     have hA4:=above_drawn hA hp ho d4
     obtain ⟨t2,f2,hv2,ht2,hin⟩:=(hA4.mono fun b xs e=>s0'' b _ e).val g.nd hr2'
     rw [er2] at hv2 hin
     have e:decide (V.str y=V.str z)=decide (y=z):=decide_eq_decide.mpr ⟨fun q=>by injection q,fun q=>by rw [q]⟩
     have eo:unV rows z (V.str y)=.bl (!decide (y=z)&&Zcl rows y z):=rfl
     rw [eo] at hR''
     refine ⟨_,rfl,_,rfl,rfl,_,rfl,?_⟩
     rw [e]
     refine Zdy (fun q1=>?_) (fun q1=>?_)
     ·rw [q1,Bool.true_and] at hR''
      refine ⟨_,rfl,_,rfl,_,rfl,a,_,rfl,(by rw [← hv2];exact DGet.k (k:=Sum.inr y) (s0'' _ _ (d4.keep _ _ ap ha))),t2,_,rfl,.inl (SqL.of ht2),rfl,flat_strs f2,?_⟩
      rw [show (if false=true then !inV (V.str z) (f2.map V.str) else inV (V.str z) (f2.map V.str))=Zcl rows y z from by rw [if_neg (by decide),in_strs,mem_reach hin]]
      exact hR'' H'' (Zan.refl _)
     ·rw [show (!decide (y=z))=false by simpa using q1,Bool.false_and] at hR''
      exact hR'' H'' (Zan.refl _)
    ·intro D3 H'' hD3 s'' hl3
     rw [un_map] at hl3
     refine ⟨D3,_,rfl,SqL.of hl3,_,rfl,?_⟩
     show R (!((left.map fun y=>!decide (y=z)&&Zcl rows y z).any id)) H''
     exact hR' H'' s''
   ·intro v H' R s' _ _ hR'
    exact ⟨_,rfl,hR' H' (Zan.refl _)⟩
   intro lo H5 hlo s5 hl5
   rw [List.map_id',low_map] at hl5
   have lne:=low_ne g lk hle
   have lsub:∀ z∈left.filter (lowB rows left),z∈left:=fun z hz=>(List.mem_filter.mp hz).1
   have llen:=List.length_filter_le (lowB rows left) left
   generalize left.filter (lowB rows left)=low at hl5 lne lsub llen
   have lpos:0<low.length:=List.length_pos_iff.mpr lne
   have hp5:=s5 _ _ hp4
   have lop:lo≠p:=Ne.symm (nNo hp4 hlo)
   have lon:ln≠lo:=nNo hn4 hlo
   have lof:lf≠lo:=nNo hf4 hlo
   refine ⟨_,rfl,.inl ⟨rfl,_,SqL.of (s5 _ _ hn4)⟩,_,rfl,_,rfl,_,rfl,lo,_,rfl,.inl (SqL.of hl5),p,_,o3,rfl,hp5,ho3,by rw [List.length_map];omega,by rw [List.length_map];omega,fun v6 o6 v60 v61 ho6=>?_⟩
   have d56:Drawn p H5 (upd H5 p o6):=Drawn.upd ho6
   generalize upd H5 p o6=H6 at d56
   obtain ⟨z,hz,hat⟩:=Zc8 v60 v61
   have hn6:=d56.keep _ _ lnp (s5 _ _ hn4)
   have hf6:=d56.keep _ _ lfp (s5 _ _ hf4)
   refine ⟨lo,_,_,_,rfl,rfl,SqL.of (d56.keep _ _ lop hl5),hat,ln,_,_,rfl,rfl,hn6,Za7 (by rw [List.length_map];omega),?_⟩
   have d6:Drawn p H H6:=(d4.same s5).trans d56
   have en:(line.map V.str++[V.str z])=(line++[z]).map V.str:=by rw [List.map_append];rfl
   rw [en]
   have k7:∀ b u,b≠ln→H6 b=some u→(upd H6 ln (.lst ((line++[z]).map V.str))) b=some u:=fun b u hb e=>by rw [Zac hb];exact e
   have hn7:(upd H6 ln (.lst ((line++[z]).map V.str))) ln=some (.lst ((line++[z]).map V.str)):=uS
   generalize upd H6 ln (.lst ((line++[z]).map V.str))=H7 at k7 hn7
   have hf7:=k7 _ _ lfn hf6
   obtain ⟨oz,hpz,hoz⟩:=d6.pot
   have d7:Drawn p H H7:=⟨fun b u hb e=>k7 b u (nNo e lnH) (d6.keep b u hb e),oz,k7 _ _ (Ne.symm lnp) hpz,hoz⟩
   have hzl:=lsub z hz
   have hatz:atI ((line++[z]).map V.str) (-1)=some (V.str z):=by rw [List.map_append];exact atI_last _ _
   refine ⟨_,rfl,.inl ⟨rfl,_,SqL.of hf7⟩,_,rfl,_,rfl,ln,_,_,_,rfl,rfl,SqL.of hn7,hatz,lf,left,z,rfl,rfl,hf7,hzl,?_⟩
   have el:(left.erase z).length=left.length - 1:=List.length_erase_of_mem hzl
   have lp1:0<left.length:=List.length_pos_iff.mpr hle
   refine ⟨(left.erase z).length,by omega,left.erase z,line++[z],_,rfl,⟨fun b u hb e=>by rw [Zac (nNo e hlf)];exact d7.keep b u hb e,oz,by rw [Zac (Ne.symm lfp)];exact k7 _ _ (Ne.symm lnp) hpz,hoz⟩,uS,by rw [Zac (Ne.symm lfn)];exact hn7,fun y hy=>lk y (List.mem_of_mem_erase hy),fun y hy=>?_,by rw [List.length_append];show _ + 1 + _=_;omega,rfl⟩
   rcases List.mem_append.mp hy with c | c
   ·exact nk y c
   ·rw [List.mem_singleton.mp c];exact lk z hzl
end
end K23
namespace K23
open PySem L2 Md
def Lsts (H:Hp) (cs:List (List Str)) (vs:List V):Prop:=Paired (fun c v=>∃ t,v=.ref t∧H t=some (.lst (c.map V.str))) cs vs
theorem Lsts.mono {H H':Hp}{cs:List (List Str)}{vs:List V}(h:Lsts H cs vs) (s:Zan H H'):Lsts H' cs vs:=Paired.mapP h fun _ _ ⟨t,e,h⟩=>⟨t,e,s _ _ h⟩
def LUAt (H:Hp) (t:Addr) (ord:List Int) (cs:List (List Str)):Prop:=∃ (lo ll:Addr) (vs:List V),H t=some (.tup [.ref lo,.ref ll])∧H lo=some (.lst (ord.map V.int))∧H ll=some (.lst vs)∧Lsts H cs vs
theorem LUAt.mono {H H':Hp}{t:Addr}{ord:List Int}{cs:List (List Str)}(h:LUAt H t ord cs) (s:Zan H H'):LUAt H' t ord cs:=by
 obtain ⟨lo,ll,vs,h1,h2,h3,h4⟩:=h
 exact ⟨lo,ll,vs,s _ _ h1,s _ _ h2,s _ _ h3,h4.mono s⟩
def Zeb (ls:List Str):Prop:=∀ z∈ls,PyData.strOk z=true
structure LUOk (ord:List Int) (cs:List (List Str)):Prop where
 few:ord.length≤10
 fewL:cs.length≤10
 txt:∀ c∈cs,Zeb c∧c.length<64
theorem strs_injV {a b:List Str}(h:a.map V.str=b.map V.str):a=b:=by
 induction a generalizing b with
 | nil =>
  cases b with
  | nil=>rfl
  | cons y b=>cases h
 | cons x a ih =>
  cases b with
  | nil=>cases h
  | cons y b =>
   rw [List.map_cons,List.map_cons] at h
   injection h with h1 h2
   injection h1 with h1
   rw [h1,ih h2]
def Zc4 (n:Nat):List Int:=(List.range n).map fun i=>((i:Nat):Int)
theorem rangeV_I (n:Nat):Zdi 0 n=(Zc4 n).map V.int:=by
 rw [rangeV_nat]
 unfold Zc4
 rw [List.map_map]
 rfl
theorem rangeI_pw (n:Nat):(Zc4 n).Pairwise (·≤·):=by
 unfold Zc4
 rw [List.pairwise_map]
 exact List.pairwise_lt_range.imp fun h=>by omega
structure LUP (rows:List (Str×List Str)) (xs:List Str) (ord:List Int) (cs:List (List Str)):Prop where
 ord:ord.Perm (Zc4 xs.length)
 len:cs.length=xs.length
 line:∀ (i:Nat) (x:Str) (c:List Str),xs[i]?=some x→cs[i]?=some c→LineP rows x c
theorem ints_inj {a b:List Int}(h:a.map PySem.W.Dat.int=b.map PySem.W.Dat.int):a=b:=by
 induction a generalizing b with
 | nil =>
  cases b with
  | nil=>rfl
  | cons y b=>cases h
 | cons x a ih =>
  cases b with
  | nil=>cases h
  | cons y b =>
   rw [List.map_cons,List.map_cons] at h
   injection h with h1 h2
   injection h1 with h1
   rw [h1,ih h2]
theorem Zeg {K:PySem.W.Frag}{H:Hp}:∀ ns:List Int,Reps K H (ns.map V.int) (ns.map PySem.W.Dat.int)
 | []=>.nil
 | n :: r=>.cons (.int _) (Zeg r)
theorem ok_ints (ns:List Int):PySem.W.kqdOk 9 (.list (ns.map PySem.W.Dat.int))=true:=by
 show (ns.map PySem.W.Dat.int).all (PySem.W.kqdOk 8)=true
 rw [List.all_eq_true]
 intro d hd
 obtain ⟨x,hx,rfl⟩:=List.mem_map.mp hd
 rw [PySem.W.kqdOk]
theorem bools_of {α:Type}{F:α→Bool→Prop}:∀ {ps:List α}{vs:List V},Paired (fun p v=>∃ b,v=.bl b∧F p b) ps vs→∃ bs:List Bool,vs=bs.map V.bl∧Paired F ps bs
 | _,_,.nil=>⟨[],rfl,.nil⟩
 | _,_,.cons ⟨b,e,h⟩ t=>by
  obtain ⟨bs,e2,h2⟩:=bools_of t
  exact ⟨b :: bs,by rw [e,e2];rfl,.cons h h2⟩
def spIsLU (C B:Addr):Sp:=fun vs H Q _=>∃ (p k t lu:Addr) (rows:List (Str×List Str)) (n:Nat) (ds:List (List Str)) (xs:List Str) (ord:List Int) (cs:List (List Str)),vs=[.ref p,.ref t,.ref lu]∧Zdt C B H p k rows n ds∧Zd7 rows∧n≤4∧H t=some (.tup (xs.map V.str))∧Zdf rows n xs∧LUAt H lu ord cs∧LUOk ord cs∧∀ v H',Zan H H'→(v=true↔LUP rows xs ord cs)→Q (.bl v) H'
abbrev nLU:List Str:=["board","call","lineup","kinds","places","order","lines"]
theorem scLU:Zap nLU ["board","call","lineup"] (Zab Zb0):=⟨rfl,rfl,rfl,by decide +kernel,rfl,by decide +kernel,by decide +kernel⟩
theorem nd_wlk:(["word","line","kinds"]:List Str).Nodup:=by decide +kernel
theorem line_pairs {rows:List (Str×List Str)}{H:Hp}:∀ {xs:List Str}{cs:List (List Str)}{vs:List V}{bs:List Bool},Lsts H cs vs→cs.length=xs.length→Paired (fun (pr:V×V) b=>(b=true↔∀ (x:Str) (c:List Str),pr.1=.str x→(∃ t,pr.2=.ref t∧H t=some (.lst (c.map V.str)))→LineP rows x c)) ((xs.map V.str).zip vs) bs →
  (bs.all id=true↔∀ (i:Nat) (x:Str) (c:List Str),xs[i]?=some x→cs[i]?=some c→LineP rows x c)
 | [],_,_,_,.nil,_,h=>by
  cases h
  exact ⟨fun _ i x c h=>by simp at h,fun _=>rfl⟩
 | x :: xs,c :: cs,v :: vs,bs,.cons ⟨t,e,ht⟩ r,hl,h=>by
  cases h with
  | cons hb hr =>
   rename_i b bs
   have ih:=line_pairs (rows:=rows) r (by simpa using hl) hr
   rw [List.all_cons,Bool.and_eq_true,ih]
   have hb':b=true↔LineP rows x c:=by
    rw [hb]
    constructor
    ·intro z
     exact z x c rfl ⟨t,e,ht⟩
    ·intro z x' c' ex ⟨t',et,ht'⟩
     cases ex
     rw [e] at et
     cases et
     rw [ht] at ht'
     have:c.map V.str=c'.map V.str:=by
      injection ht' with ht'
      injection ht'
     have ec:c=c':=strs_injV this
     rw [← ec];exact z
   show (b=true∧_)↔_
   rw [hb']
   constructor
   ·rintro ⟨h1,h2⟩ i x' c' hx hc
    cases i with
    | zero =>
     simp at hx hc
     rw [← hx,← hc];exact h1
    | succ i=>exact h2 i x' c' (by simpa using hx) (by simpa using hc)
   ·intro z
    exact ⟨z 0 x c rfl rfl,fun i x' c' hx hc=>z (i + 1) x' c' (by simpa using hx) (by simpa using hc)⟩
section
variable {P:Program} {w:World} {K:PySem.W.Frag} {mg:Str→Option Value} {base:Heap}
theorem ok_is_lineup {f C B fK fPl fCk fIL:Addr}{fd fdK fdPl fdCk fdIL:FuncData}(F:Def K mg "is_lineup" Zb0 ["board","call","lineup"] f fd) (srt:mg "sorted"=none) (list:mg "list"=none) (range:mg "range"=none) (len:mg "len"=none) (all:mg "all"=none) (zip:mg "zip"=none) (TC:TxtC K C) (TB:TxtBd K B) (MK:MBKinds K B fK fdK) (MP:MBPlaces K B fPl fdPl)
  (DCk:Def K mg "check_call" Zbt nIC fCk fdCk) (GC:Za0 P w K mg base CX0 3 fCk fdCk nIC (spCheckCall C)) (DIL:Def K mg "is_line" Zdk nIL fIL fdIL) (GIL:Za0 P w K mg base CX0 6 fIL fdIL nIL (spIsLine C)):Za0 P w K mg base CX0 7 f fd ["board","call","lineup"] (spIsLU C B):=by
 have GK:Za0 P w K mg base CX0 1 fK fdK ["self"] (spBKinds C B):=ok_bkinds MK.fn TB
 have GP:Za0 P w K mg base CX0 1 fPl fdPl ["self"] (spBPlaces C B):=ok_bplaces MP.fn TB
 refine F.fn.ok scLU (fun vs H Q E h=>?_) (fun cdv A outer s H vs Q E hr h=>?_)
 ·obtain ⟨p,k,t,lu,rows,n,ds,xs,ord,cs,rfl,_⟩:=h
  rfl
 ·obtain ⟨p,k,t,lu,rows,n,ds,xs,ord,cs,rfl,bd,g,n4,ht,gc,hlu,lok,q⟩:=h
  obtain ⟨dx,ts,us,h1,h2,h3,h4⟩:=bd.ex
  have nd:=scLU.nd
  have hu:=hr.units
  have hr1:Zdp 1 _:=hr.mono (by decide)
  have hr3:Zdp 3 _:=hr.mono (by decide)
  refine' ⟨_,(pS (Zah (i:=3) nd rfl (Or.inr rfl) (pe_meth0 (pv 0) TB.cl MK.me GK hr1 MK.b .nil pass0))
   (pS (Zah (i:=4) nd rfl (Or.inl rfl) (pe_meth0 (pv 0) TB.cl MP.me GP hr1 MP.b .nil pass0))
   (pS (Zbg (Zaf DCk GC hr3 (pC (pv 3) (pC (pv 4) (pC (pv 1) Zaa)))))
   (pS (Zah (i:=5) nd rfl (Or.inl rfl) (Zbc (r:=rIxT K) Zdz (pv 2) Zae (fun _ _=>rfl)))
   (pS (Zah (i:=6) nd rfl (Or.inl rfl) (Zbc (r:=rIxT K) Zdz (pv 2) Zae (fun _ _=>rfl)))
   (pS (Za5 (PW.pt (pw_or (Zal (op_neD hu) (Zag call_sortI (by rfl) srt PyProof.Rows.boot_sorted (pC (pv 5) Zaa)) (pe_listRange rfl (pv 4) (by rfl) list (by rfl) range) (Zaq _)) (pw_or1 (Zal op_ne (Zag Zam (by rfl) len PySem.boot_len (pC (pv 6) Zaa)) (pv 4) (Zaq _))))) (Zad (Zar pe_bl)) Zai)
   (Zad (Zar (Zag (r:=rAll K fun bs=>bs.all id) (call_all rfl) (by rfl) all PyProof.Rows.boot_all (pC ?e1 Zaa)))))))))),?_⟩
  case e1=>exact (Zb5 ["word","line"] ["kinds"] [3] (fun _=>Zay (osc:=Zab Zb0) (on:=nLU) (by decide +kernel) rfl rfl rfl) (pi_zipM (by rfl) zip (pC (pv 1) (pC (pv 6) Zaa))) (fun C s H fp=>pg_two (K:=K) (i:=0) (j:=1) rfl rfl nd_wlk rfl rfl (Or.inl rfl) (Or.inl rfl) (Or.inr rfl) (Or.inr rfl)) (fun C s H fp=>Zb2) (fun C s H fp=>Zaf DIL GIL hr (pC (pv 2) (pC (pv 0) (pC (pv 1) Zaa)))))
  obtain ⟨lo,ll,vs,hlt,hlo,hll,hL⟩:=hlu
  have xl:=gc.len
  refine ⟨_,rfl,p,dx,_,rfl,h1,no_bkinds _ _ _,p,k,rows,n,ds,rfl,bd,?_⟩
  refine ⟨_,rfl,p,dx,_,rfl,h1,no_bplaces _ _ _,p,k,rows,n,ds,rfl,bd,?_⟩
  refine ⟨_,rfl,_,rfl,_,rfl,k,t,n,rows,xs,rfl,h2,g,ht,gc,n4,fun H1 s1=>?_⟩
  refine ⟨_,rfl,lu,_,_,_,rfl,rfl,SqT.of (s1 _ _ hlt),rfl,_,rfl,lu,_,_,_,rfl,rfl,SqT.of (s1 _ _ hlt),rfl,?_⟩
  have few:=lok.few
  have fewL:=lok.fewL
  refine ⟨_,rfl,lo,ord,rfl,SqL.of (s1 _ _ hlo),by omega,fun ns l2 pn on hl2=>?_⟩
  have s2:Zan H1 (upd H1 l2 (.lst (ns.map V.int))):=Zcn hl2
  have h22:(upd H1 l2 (.lst (ns.map V.int))) l2=some (.lst (ns.map V.int)):=uS
  generalize upd H1 l2 (.lst (ns.map V.int))=H2 at s2 h22
  refine ⟨_,rfl,_,rfl,by omega,by omega,fun l3 hl3=>?_⟩
  rw [Int.toNat_natCast,rangeV_I]
  have s3:Zan H2 (upd H2 l3 (.lst ((Zc4 n).map V.int))):=Zcn hl3
  have h33:(upd H2 l3 (.lst ((Zc4 n).map V.int))) l3=some (.lst ((Zc4 n).map V.int)):=uS
  generalize upd H2 l3 (.lst ((Zc4 n).map V.int))=H3 at s3 h33
  have s03:=s1.trans (s2.trans s3)
  refine ⟨.list (ns.map PySem.W.Dat.int),.list ((Zc4 n).map PySem.W.Dat.int),.list (SqL.of (s3 _ _ h22)) (Zeg _),.list (SqL.of h33) (Zeg _),ok_ints _,ok_ints _,_,rfl,?_⟩
  by_cases hp:ord.Perm (Zc4 n)
  ·have e12:ns=Zc4 n:=ints_unique on (rangeI_pw n) (pn.trans hp)
   rw [e12,Zd2]
   have hll3:=s03 _ _ hll
   have vl:=Paired.length hL
   refine iteF ⟨_,rfl,ll,_,rfl,.inl (SqL.of hll3),_,rfl,rfl,_,rfl,?_⟩
   by_cases hc:cs.length=n
   ·rw [show (!decide (V.int ((vs.length:Nat):Int)=V.int ((n:Nat):Int)))=false from by rw [← vl,hc,decide_eq_true rfl];rfl]
    refine iteF ⟨_,rfl,_,rfl,t,ll,_,_,rfl,SqT.of (s03 _ _ ht),SqL.of hll3,comp_rel2 (by rw [List.length_zip,List.length_map];exact sL (by omega)) (fun _=>true) (fun _ pr v _=>∃ b,v=.bl b∧(b=true↔∀ (x:Str) (c:List Str),pr.1=.str x→(∃ t,pr.2=.ref t∧H t=some (.lst (c.map V.str)))→LineP rows x c)) (fun _ _ _ _ _ _ h=>h) (fun H' s'=>⟨SqT.of (s' _ _ (s03 _ _ ht)),SqL.of (s' _ _ hll3)⟩) ?_ ?_ ?_⟩
    ·intro pr H' R s' _ hR'
     exact hR' H' (Zan.refl _)
    ·intro D pr H' R s' _ _ hpr _ hR'
     obtain ⟨i,hi⟩:=List.getElem?_of_mem hpr
     obtain ⟨hx1,hv1⟩:=zipV_get hi
     obtain ⟨x,hx,ex⟩:=strs_at hx1
     obtain ⟨c,hcc,tc,ec,htc⟩:=Zba hL hv1
     obtain ⟨cok,clen⟩:=lok.txt c (List.mem_of_getElem? hcc)
     have s0':=s03.trans s'
     rw [ex,ec]
     refine ⟨_,rfl,_,rfl,_,rfl,k,tc,rows,x,c,rfl,h2.mono s0',g,gc.known x (List.mem_of_getElem? hx),s0' _ _ htc,cok,clen,fun v H'' s'' hv=>hR' _ H'' s'' ⟨v,rfl,?_⟩⟩
     rw [hv]
     constructor
     ·intro z x' c' e1 ⟨t',e2,e3⟩
      rw [ex] at e1
      cases e1
      rw [ec] at e2
      cases e2
      rw [htc] at e3
      have:c.map V.str=c'.map V.str:=by
       injection e3 with e3
       injection e3
      have ecc:c=c':=strs_injV this
      rw [← ecc];exact z
     ·intro z
      exact z x c ex ⟨tc,ec,htc⟩
    ·intro D H4 ys hD s4 hl4 pr
     rw [List.filter_eq_self.mpr (fun _ _=>rfl)] at pr
     obtain ⟨bs,eb,pb⟩:=bools_of pr
     rw [eb] at hl4
     refine ⟨D,bs,rfl,SqL.of hl4,?_⟩
     refine q _ H4 (s03.trans s4) ?_
     have lp:=line_pairs (rows:=rows) hL (by omega) pb
     show bs.all id=true↔_
     rw [lp]
     exact ⟨fun z=>⟨by rw [xl];exact hp,by omega,z⟩,fun z=>z.line⟩
   ·rw [show (!decide (V.int ((vs.length:Nat):Int)=V.int ((n:Nat):Int)))=true from by rw [decide_eq_false (fun z=>by injection z with z;omega)];rfl]
    exact iteT (q false H3 s03 ⟨(fun z=>by cases z),fun z=>absurd (z.len.trans xl) hc⟩)
  ·have e12:ns≠Zc4 n:=fun e=>hp (pn.symm.trans (e ▸ List.Perm.refl _))
   rw [show (!dEq (.list (ns.map PySem.W.Dat.int)) (.list ((Zc4 n).map PySem.W.Dat.int)))=true from by
    rw [dEq_neg (fun z=>by injection z with z;exact e12 (ints_inj z))];rfl]
   exact iteT (q false H3 s03 ⟨(fun z=>by cases z),fun z=>absurd (xl ▸ z.ord) hp⟩)
end
end K23
namespace K23
open PySem L2 Md
def spLILU:Sp:=fun vs H Q _=>∃ (a t lu:Addr) (rows:List (Str×List Str)) (avs:List (Key×V)) (xs:List Str) (ord:List Int) (cs:List (List Str)),vs=[.ref a,.ref t,.ref lu]∧Zd7 rows∧H a=some (.dK avs)∧Zcs H rows rows avs∧H t=some (.tup (xs.map V.str))∧(∀ x∈xs,x∈rows.map (·.1))∧xs.length≤4∧LUAt H lu ord cs∧LUOk ord cs∧∀ v H',Zan H H'→(v=true↔LUP rows xs ord cs)→Q (.bl v) H'
abbrev nLLU:List Str:=["above","call","lineup"]
theorem scLLU:Zap nLLU nLLU (Zab Za1):=⟨rfl,rfl,rfl,by decide +kernel,rfl,by decide +kernel,by decide +kernel⟩
theorem nd_wla:(["word","line","above"]:List Str).Nodup:=by decide +kernel
section
variable {P:Program} {w:World} {K:PySem.W.Frag} {mg:Str→Option Value} {base:Heap}
theorem ok_lilu {f fL:Addr}{fd fdL:FuncData}(F:Def K mg "_law_is_lineup" Za1 nLLU f fd) (srt:mg "sorted"=none) (list:mg "list"=none) (range:mg "range"=none) (len:mg "len"=none) (all:mg "all"=none) (zip:mg "zip"=none)
  (DL:Def K mg "_law_is_line" Zbe ["above","word","line"] fL fdL) (GL:Za0 P w K mg base CX0 1 fL fdL ["above","word","line"] spLIL):Za0 P w K mg base CX0 2 f fd nLLU spLILU:=by
 refine F.fn.ok scLLU (fun vs H Q E h=>?_) (fun cdv A outer s H vs Q E hr h=>?_)
 ·obtain ⟨a,t,lu,rows,avs,xs,ord,cs,rfl,_⟩:=h
  rfl
 ·obtain ⟨a,t,lu,rows,avs,xs,ord,cs,rfl,g,ha,hA,ht,kn,x4,hlu,lok,q⟩:=h
  have hu:=hr.units
  refine' ⟨_,(pS (Za5 (PW.pt (pw_or (Zal (op_neD hu) (Zag call_sortI (by rfl) srt PyProof.Rows.boot_sorted (pC (Zbc (r:=rIxT K) Zdz (pv 2) Zae (fun _ _=>rfl)) Zaa)) (pe_listRange rfl (Zag Zam (by rfl) len PySem.boot_len (pC (pv 1) Zaa)) (by rfl) list (by rfl) range) (Zaq _)) (pw_or1 (Zal op_ne (Zag Zam (by rfl) len PySem.boot_len (pC (Zbc (r:=rIxT K) Zdz (pv 2) Zae (fun _ _=>rfl)) Zaa)) (Zag Zam (by rfl) len PySem.boot_len (pC (pv 1) Zaa)) (Zaq _))))) (Zad (Zar pe_bl)) Zai)
   (Zad (Zar (Zag (r:=rAll K fun bs=>bs.all id) (call_all rfl) (by rfl) all PyProof.Rows.boot_all (pC ?e1 Zaa))))),?_⟩
  case e1=>exact (Zb5 ["word","line"] ["above"] [0] (fun _=>Zay (osc:=Zab Za1) (on:=nLLU) (by decide +kernel) rfl rfl rfl) (pi_zipM (by rfl) zip (pC (pv 1) (pC (Zbc (r:=rIxT K) Zdz (pv 2) Zae (fun _ _=>rfl)) Zaa))) (fun C s H fp=>pg_two (K:=K) (i:=0) (j:=1) rfl rfl nd_wla rfl rfl (Or.inl rfl) (Or.inl rfl) (Or.inr rfl) (Or.inr rfl)) (fun C s H fp=>Zb2) (fun C s H fp=>Zaf DL GL hr (pC (pv 2) (pC (pv 0) (pC (pv 1) Zaa)))))
  obtain ⟨lo,ll,vs,hlt,hlo,hll,hL⟩:=hlu
  have few:=lok.few
  have fewL:=lok.fewL
  refine ⟨_,rfl,lu,_,_,_,rfl,rfl,SqT.of hlt,rfl,lo,ord,rfl,SqL.of hlo,by omega,fun ns l2 pn on hl2=>?_⟩
  have s2:Zan H (upd H l2 (.lst (ns.map V.int))):=Zcn hl2
  have h22:(upd H l2 (.lst (ns.map V.int))) l2=some (.lst (ns.map V.int)):=uS
  generalize upd H l2 (.lst (ns.map V.int))=H2 at s2 h22
  refine ⟨_,rfl,t,_,rfl,.inr (SqT.of (s2 _ _ ht)),_,rfl,by omega,by rw [List.length_map];omega,fun l3 hl3=>?_⟩
  rw [List.length_map,Int.toNat_natCast,rangeV_I]
  have s3:Zan H2 (upd H2 l3 (.lst ((Zc4 xs.length).map V.int))):=Zcn hl3
  have h33:(upd H2 l3 (.lst ((Zc4 xs.length).map V.int))) l3=some (.lst ((Zc4 xs.length).map V.int)):=uS
  generalize upd H2 l3 (.lst ((Zc4 xs.length).map V.int))=H3 at s3 h33
  have s03:=s2.trans s3
  refine ⟨.list (ns.map PySem.W.Dat.int),.list ((Zc4 xs.length).map PySem.W.Dat.int),.list (SqL.of (s3 _ _ h22)) (Zeg _),.list (SqL.of h33) (Zeg _),ok_ints _,ok_ints _,_,rfl,?_⟩
  by_cases hp:ord.Perm (Zc4 xs.length)
  ·have e12:ns=Zc4 xs.length:=ints_unique on (rangeI_pw _) (pn.trans hp)
   rw [e12,Zd2]
   have hll3:=s03 _ _ hll
   have hlt3:=s03 _ _ hlt
   have ht3:=s03 _ _ ht
   have vl:=Paired.length hL
   refine iteF ⟨_,rfl,lu,_,_,_,rfl,rfl,SqT.of hlt3,rfl,ll,_,rfl,.inl (SqL.of hll3),_,rfl,t,_,rfl,.inr (SqT.of ht3),rfl,_,rfl,?_⟩
   rw [List.length_map]
   by_cases hc:cs.length=xs.length
   ·rw [show (!decide (V.int ((vs.length:Nat):Int)=V.int ((xs.length:Nat):Int)))=false from by rw [← vl,hc,decide_eq_true rfl];rfl]
    refine iteF ⟨_,rfl,_,rfl,lu,_,_,_,rfl,rfl,SqT.of hlt3,rfl,t,ll,_,_,rfl,SqT.of ht3,SqL.of hll3,comp_rel2 (by rw [List.length_zip,List.length_map];exact sL (by omega)) (fun _=>true) (fun _ pr v _=>∃ b,v=.bl b∧(b=true↔∀ (x:Str) (c:List Str),pr.1=.str x→(∃ t,pr.2=.ref t∧H t=some (.lst (c.map V.str)))→LineP rows x c)) (fun _ _ _ _ _ _ h=>h) (fun H' s'=>⟨SqT.of (s' _ _ ht3),SqL.of (s' _ _ hll3)⟩) ?_ ?_ ?_⟩
    ·intro pr H' R s' _ hR'
     exact hR' H' (Zan.refl _)
    ·intro D pr H' R s' _ _ hpr _ hR'
     obtain ⟨i,hi⟩:=List.getElem?_of_mem hpr
     obtain ⟨hx1,hv1⟩:=zipV_get hi
     obtain ⟨x,hx,ex⟩:=strs_at hx1
     obtain ⟨c,hcc,tc,ec,htc⟩:=Zba hL hv1
     obtain ⟨cok,clen⟩:=lok.txt c (List.mem_of_getElem? hcc)
     have s0':=s03.trans s'
     rw [ex,ec]
     refine ⟨_,rfl,_,rfl,_,rfl,a,tc,rows,avs,x,c,rfl,g,s0' _ _ ha,hA.mono fun b xs e=>s0' _ _ e,kn x (List.mem_of_getElem? hx),s0' _ _ htc,cok,clen,fun v H'' s'' hv=>hR' _ H'' s'' ⟨v,rfl,?_⟩⟩
     rw [hv]
     constructor
     ·intro z x' c' e1 ⟨t',e2,e3⟩
      rw [ex] at e1
      cases e1
      rw [ec] at e2
      cases e2
      rw [htc] at e3
      have:c.map V.str=c'.map V.str:=by
       injection e3 with e3
       injection e3
      rw [← strs_injV this];exact z
     ·intro z
      exact z x c ex ⟨tc,ec,htc⟩
    ·intro D H4 ys hD s4 hl4 pr
     rw [List.filter_eq_self.mpr (fun _ _=>rfl)] at pr
     obtain ⟨bs,eb,pb⟩:=bools_of pr
     rw [eb] at hl4
     refine ⟨D,bs,rfl,SqL.of hl4,?_⟩
     refine q _ H4 (s03.trans s4) ?_
     have lp:=line_pairs (rows:=rows) hL (by omega) pb
     show bs.all id=true↔_
     rw [lp]
     exact ⟨fun z=>⟨hp,hc,z⟩,fun z=>z.line⟩
   ·rw [show (!decide (V.int ((vs.length:Nat):Int)=V.int ((xs.length:Nat):Int)))=true from by rw [decide_eq_false (fun z=>by injection z with z;omega)];rfl]
    exact iteT (q false H3 s03 ⟨(fun z=>by cases z),fun z=>absurd z.len hc⟩)
  ·have e12:ns≠Zc4 xs.length:=fun e=>hp (pn.symm.trans (e ▸ List.Perm.refl _))
   rw [show (!dEq (.list (ns.map PySem.W.Dat.int)) (.list ((Zc4 xs.length).map PySem.W.Dat.int)))=true from by
    rw [dEq_neg (fun z=>by injection z with z;exact e12 (ints_inj z))];rfl]
   exact iteT (q false H3 s03 ⟨(fun z=>by cases z),fun z=>absurd z.ord hp⟩)
end
end K23
namespace K23
open PySem L2 Md
def spSpoilt:Sp:=fun vs H Q _=>∃ (p lw ln:Addr) (ws ls:List Str),vs=[.ref p,.ref lw,.ref ln]∧(∃ o,H p=some o∧PotO o)∧H lw=some (.lst (ws.map V.str))∧WordsOk ws∧1≤ws.length∧ws.length≤24∧H ln=some (.lst (ls.map V.str))∧Zeb ls∧1≤ls.length∧ls.length≤24 ∧
 ∀ lm (ls':List Str) H',Drawn p H H'→H lm=none→H' lm=some (.lst (ls'.map V.str))→Zeb ls'→ls'.length≤26→Q (.ref lm) H'
def spNoWord:Sp:=fun vs H Q _=>∃ (p lw:Addr) (ws:List Str),vs=[.ref p,.ref lw]∧(∃ o,H p=some o∧PotO o)∧H lw=some (.lst (ws.map V.str))∧WordsOk ws∧ws.length≤24∧∀ x H',Drawn p H H'→Shows x→x∉ws→Q (.str x) H'
def MidS (H:Hp) (p lw ln:Addr) (ls:List Str) (way at_ oth:Int) (x:Str) (i:Int) (σ:St) (H':Hp):Prop :=
 ∃ (lm:Addr) (ls':List Str),σ=[some (.ref p),some (.ref lw),some (.ref ln),some (.int way),some (.int at_),some (.int oth),some (.str x),some (.ref lm)]∧Drawn p H H'∧H lm=none∧H' lm=some (.lst (ls'.map V.str))∧Zeb ls'∧ls'.length≤26∧(i<way→ls'=ls)
theorem at_strs1 {ls:List Str}{v:Int} (h0:0≤v) (h1:v<ls.length):∃ z,ls[v.toNat]?=some z∧z∈ls∧atI (ls.map V.str) v=some (.str z):=by
 have hl:v.toNat<ls.length:=by omega
 refine ⟨ls[v.toNat],List.getElem?_eq_getElem hl,List.getElem_mem hl,?_⟩
 have e:((v.toNat:Nat):Int)=v:=by omega
 have:=Zdh (xs:=ls.map V.str) (j:=v.toNat) (v:=.str ls[v.toNat]) (by rw [List.getElem?_map,List.getElem?_eq_getElem hl];rfl)
 rw [e] at this
 exact this
theorem ix_strs {ls:List Str}{v:Int} (h0:0≤v) (h1:v<ls.length):ixN (ls.map V.str).length v=some v.toNat:=by
 unfold ixN
 rw [if_pos h0,List.length_map,if_pos h1]
theorem set_strs (ls:List Str) (j:Nat) (z:Str):(ls.map V.str).set j (.str z)=(ls.set j z).map V.str:=by rw [List.map_set]
theorem Zeb.set {ls:List Str}(h:Zeb ls) {z:Str}(hz:PyData.strOk z=true) (j:Nat):Zeb (ls.set j z):=fun y hy=>by
 rcases List.mem_or_eq_of_mem_set hy with c | c
 ·exact h y c
 ·rw [c];exact hz
theorem Zeb.ins {ls:List Str}(h:Zeb ls) {z:Str}(hz:PyData.strOk z=true) (j:Nat):Zeb (ls.take j++z :: ls.drop j):=fun y hy=>by
 rcases List.mem_append.mp hy with c | c
 ·exact h y (List.mem_of_mem_take c)
 ·rcases List.mem_cons.mp c with c | c
  ·rw [c];exact hz
  ·exact h y (List.mem_of_mem_drop c)
theorem no_low {x:Str}{c:Nat}(hc:c∈x.cps.toList) (h:isLow c=false):Za2 x=false:=by
 cases z:Za2 x with
 | false=>rfl
 | true =>
  have:=((Zdj x).mp z).2 c hc
  rw [h] at this
  cases this
theorem cps_app (a b:Str):(a++b).cps.toList=a.cps.toList++b.cps.toList:=Array.toList_append
theorem app_shows {a b:Str}(ha:Shows a) (la:a.length≤8) (hb:Shows b) (lb:b.length≤1):Shows (a++b):=by
 have e:(a++b).length=a.length + b.length:=by
  show (a.cps++b.cps).size=_
  rw [Array.size_append];rfl
 refine ⟨by omega,fun c hc=>?_⟩
 rw [cps_app] at hc
 rcases List.mem_append.mp hc with z | z
 ·exact ha.2 c z
 ·exact hb.2 c z
instance (x:Str):Decidable (Shows x):=by unfold Shows;infer_instance
theorem drawn_free {p b:Addr}{H H':Hp}(d:Drawn p H H') (h:H' b=none):H b=none:=by
 cases z:H b with
 | none=>rfl
 | some u =>
  by_cases e:b=p
  ·obtain ⟨op,hpp,_⟩:=d.pot
   rw [e,hpp] at h;cases h
  ·rw [d.keep _ _ e z] at h;cases h
abbrev nSp:List Str:=["pot","words","line","way","at","other","word","made"]
theorem scSp:Zap nSp ["pot","words","line"] (Zab Zca):=⟨rfl,rfl,rfl,by decide +kernel,rfl,by decide +kernel,by decide +kernel⟩
abbrev nNw:List Str:=["pot","words","word"]
theorem scNw:Zap nNw ["pot","words"] (Zab Zbv):=⟨rfl,rfl,rfl,by decide +kernel,rfl,by decide +kernel,by decide +kernel⟩
section
variable {P:Program} {w:World} {K:PySem.W.Frag} {mg:Str→Option Value} {base:Heap}
theorem ok_no_word {f fT fW:Addr}{fd fdT fdW:FuncData}(F:Def K mg "_law_no_word" Zbv ["pot","words"] f fd) (DT:Def K mg "_law_take" Zas ["pot","many"] fT fdT) (GT:Za0 P w K mg base CX0 1 fT fdT ["pot","many"] Zef) (DW:Def K mg "_law_word" Zav ["pot","words"] fW fdW) (GW:Za0 P w K mg base CX0 2 fW fdW ["pot","words"] spWord):Za0 P w K mg base CX0 3 f fd ["pot","words"] spNoWord:=by
 refine F.fn.ok scNw (fun vs H Q E h=>?_) (fun cdv A outer s H vs Q E hr h=>?_)
 ·obtain ⟨p,lw,ws,rfl,_⟩:=h
  rfl
 ·obtain ⟨p,lw,ws,rfl,⟨o,hp,ho⟩,hw,wok,wle,q⟩:=h
  have nd:=scNw.nd
  have hr1:Zdp 1 _:=hr.mono (by decide)
  refine ⟨_,(pS (Zah (i:=2) nd rfl (Or.inl rfl) (Zaf DW GW hr (pC (pv 0) (pC (pv 1) Zaa))))
   (Zad (Zar (Zbc (r:=rIxL K) Zaw (Zcx (pC (pv 2) (pC pe_str (pC (Za8 op_add_str (pv 2) pe_str) (pC pe_str (pC (Za8 op_add_str (Zd1 sl_str (pv 2) Zeq (Zep Zae)) pe_str) Zaa)))))) (Zaf DT GT hr1 (pC (pv 0) (pC Zae Zaa))) (fun _ _=>rfl))))),?_⟩
  have pw:p≠lw:=Zdv hp ho hw
  refine ⟨_,rfl,_,rfl,p,lw,ws,rfl,pw,⟨o,hp,ho⟩,hw,wok,wle,fun x H1 d1 wx nx=>?_⟩
  obtain ⟨o1,hp1,ho1⟩:=id d1.pot
  have sx:=isword_shows wx
  have xl:=(word_len wx).2
  have s7:Shows (Txt.slice x none (some 7)):=by
   have e:=slice_take x 7 (by decide)
   refine ⟨?_,fun c hc=>?_⟩
   ·have:(Txt.slice x none (some 7)).cps.toList.length≤7:=by rw [e,List.length_take];exact Nat.min_le_left _ _
    rw [Zec] at this
    omega
   ·rw [e] at hc
    exact sx.2 c (List.mem_of_mem_take hc)
  have l7:(Txt.slice x none (some 7)).length≤7:=by
   have e:=slice_take x 7 (by decide)
   have:(Txt.slice x none (some 7)).cps.toList.length≤7:=by rw [e,List.length_take];exact Nat.min_le_left _ _
   rwa [Zec] at this
  refine ⟨_,rfl,_,rfl,_,_,rfl,rfl,sL (by show _ + 1≤100000;omega),_,rfl,_,rfl,x,rfl,sL (by omega),_,_,rfl,rfl,sL (by show _ + 1≤100000;omega),sL (by show 5≤100000;decide),fun l2 hl2=>?_⟩
  obtain ⟨opts,eo⟩:∃ opts:List Str,opts=[x,"",x++" ","A",Txt.slice x none (some 7)++"-"]:=⟨_,rfl⟩
  have s2:=Zcn (o:=.lst [.str x,.str "",.str (x++" "),.str "A",.str (Txt.slice x none (some 7)++"-")]) hl2
  have h22:(upd H1 l2 (.lst [.str x,.str "",.str (x++" "),.str "A",.str (Txt.slice x none (some 7)++"-")])) l2=some (.lst (opts.map V.str)):=by rw [uS,eo];rfl
  generalize upd H1 l2 (.lst [.str x,.str "",.str (x++" "),.str "A",.str (Txt.slice x none (some 7)++"-")])=H2 at s2 h22
  have hp2:=s2 _ _ hp1
  refine ⟨_,rfl,p,5,o1,rfl,hp2,ho1,by decide,by decide,fun v o3 v0 v1 ho3=>?_⟩
  have d3:Drawn p H2 (upd H2 p o3):=Drawn.upd ho3
  obtain ⟨z,hz,hat⟩:=Zc8 (ws:=opts) v0 (by rw [eo];show v<5;exact v1)
  have l2p:l2≠p:=Ne.symm (Zdv hp2 ho1 h22)
  have nw:∀ {y:Str},Za2 y=false→y∉ws:=fun {y} h hm=>by
   rw [wok.word y hm] at h
   cases h
  have key:Shows z∧z∉ws:=by
   rw [eo] at hz
   rcases List.mem_cons.mp hz with c | hz
   ·rw [c];exact ⟨sx,nx⟩
   rcases List.mem_cons.mp hz with c | hz
   ·rw [c];exact ⟨by decide +kernel,nw (by decide +kernel)⟩
   rcases List.mem_cons.mp hz with c | hz
   ·rw [c]
    exact ⟨app_shows sx xl (by decide +kernel) (by decide +kernel),nw (no_low (c:=32) (by rw [cps_app];exact List.mem_append.mpr (.inr (by decide +kernel))) (by decide))⟩
   rcases List.mem_cons.mp hz with c | hz
   ·rw [c];exact ⟨by decide +kernel,nw (by decide +kernel)⟩
   ·rw [List.mem_singleton.mp hz]
    exact ⟨app_shows s7 (by omega) (by decide +kernel) (by decide +kernel),nw (no_low (c:=45) (by rw [cps_app];exact List.mem_append.mpr (.inr (by decide +kernel))) (by decide))⟩
  exact ⟨l2,_,_,_,rfl,rfl,SqL.of (d3.keep _ _ l2p h22),hat,q z _ ((d1.same s2).trans d3) key.1 key.2⟩
theorem ok_spoilt {f fT fW:Addr}{fd fdT fdW:FuncData}(F:Def K mg "_law_spoilt" Zca ["pot","words","line"] f fd) (list:mg "list"=none) (rev:mg "reversed"=none) (len:mg "len"=none) (DT:Def K mg "_law_take" Zas ["pot","many"] fT fdT) (GT:Za0 P w K mg base CX0 1 fT fdT ["pot","many"] Zef) (DW:Def K mg "_law_word" Zav ["pot","words"] fW fdW) (GW:Za0 P w K mg base CX0 2 fW fdW ["pot","words"] spWord):Za0 P w K mg base CX0 3 f fd ["pot","words","line"] spSpoilt:=by
 refine F.fn.ok scSp (fun vs H Q E h=>?_) (fun cdv A outer s H vs Q E hr h=>?_)
 ·obtain ⟨p,lw,ln,ws,ls,rfl,_⟩:=h
  rfl
 ·obtain ⟨p,lw,ln,ws,ls,rfl,⟨o,hp,ho⟩,hw,wok,w1,w24,hl,lok,l1,l24,q⟩:=h
  have nd:=scSp.nd
  have hr1:Zdp 1 _:=hr.mono (by decide)
  refine ⟨_,(pS (Zah (i:=3) nd rfl (Or.inl rfl) (Zaf DT GT hr1 (pC (pv 0) (pC Zae Zaa))))
   (pS (Zah (i:=4) nd rfl (Or.inl rfl) (Zaf DT GT hr1 (pC (pv 0) (pC (Zag Zam (by rfl) len PySem.boot_len (pC (pv 2) Zaa)) Zaa))))
   (pS (Zah (i:=5) nd rfl (Or.inl rfl) (Zaf DT GT hr1 (pC (pv 0) (pC (Zag Zam (by rfl) len PySem.boot_len (pC (pv 2) Zaa)) Zaa))))
   (pS (Zah (i:=6) nd rfl (Or.inl rfl) (Zbc (r:=rIxL K) Zaw (pv 1) (Zaf DT GT hr1 (pC (pv 0) (pC (Zag Zam (by rfl) len PySem.boot_len (pC (pv 1) Zaa)) Zaa))) (fun _ _=>rfl)))
   (Zbq (Za5 (Zal Zc7 (Zaf DT GT hr1 (pC (pv 0) (pC Zae Zaa))) Zae (Zaq _)) (Zad (Zah (i:=6) nd rfl (Or.inl rfl) (Zaf DW GW hr (pC (pv 0) (pC (pv 1) Zaa))))) Zai)
   (pS (Zah (i:=7) nd rfl (Or.inl rfl) (Za9 Zcr (by rfl) list PyProof.Rows.boot_list (pC (pv 2) Zaa)))
   (Zbq (Za5 (Zal Zc7 (pv 3) Zae (Zaq _)) (pS (ps_asg (Zbc (r:=rIxL K) Zaw (pv 2) (pv 5) (fun _ _=>rfl)) (pg_sub (pv 7) (pv 4) Zd0))
   (Zad (ps_asg (Zbc (r:=rIxL K) Zaw (pv 2) (pv 4) (fun _ _=>rfl)) (pg_sub (pv 7) (pv 5) Zd0)))) Zai)
   (Zbq (Za5 (Zal Zc7 (pv 3) Zae (Zaq _)) (Zad (Zbg (pe_bm PySem.F.plainAttrs_list PySem.F.slot_list_pop PySem.F.type_list_pop mt_popAt (pv 7) (pC (pv 4) Zaa)))) Zai)
   (Zbq (Za5 (Zal Zc7 (pv 3) Zae (Zaq _)) (Zad (Zbg (pe_bm PySem.F.plainAttrs_list PySem.F.slot_list_insert PySem.F.type_list_insert Zej (pv 7) (pC (pv 5) (pC (Zbc (r:=rIxL K) Zaw (pv 2) (pv 4) (fun _ _=>rfl)) Zaa))))) Zai)
   (Zbq (Za5 (Zal Zc7 (pv 3) Zae (Zaq _)) (Zad (Zbg (pe_bm PySem.F.plainAttrs_list PySem.F.slot_list_insert PySem.F.type_list_insert Zej (pv 7) (pC (pv 4) (pC (pv 6) Zaa))))) Zai)
   (Zbq (Za5 (Zal Zc7 (pv 3) Zae (Zaq _)) (Zad (ps_asg (pv 6) (pg_sub (pv 7) (pv 4) Zd0))) Zai)
   (Zbq (Za5 (Zal Zc7 (pv 3) Zae (Zaq _)) (Zad (Zah (i:=7) nd rfl (Or.inl rfl) (pe_listRev rfl (pv 2) (by rfl) list (by rfl) rev))) Zai)
   (Zbq (Za5 (Zal Zc7 (pv 3) Zae (Zaq _)) (Zad (Zah (i:=7) nd rfl (Or.inl rfl) (Zcx Zaa))) Zai)
   (Zad (Zar (pv 7)))))))))))))))),?_⟩
  have lp:ln≠p:=Ne.symm (Zdv hp ho hl)
  have wp:lw≠p:=Ne.symm (Zdv hp ho hw)
  refine ⟨_,rfl,p,9,o,rfl,hp,ho,by decide,by decide,fun way o1 w0 w9 ho1=>?_⟩
  have d1:Drawn p H (upd H p o1):=Drawn.upd ho1
  have hp1:(upd H p o1) p=some o1:=uS
  generalize upd H p o1=H1 at d1 hp1
  refine ⟨_,rfl,_,rfl,ln,_,rfl,.inl (SqL.of (d1.keep _ _ lp hl)),p,_,o1,rfl,hp1,ho1,by rw [List.length_map];omega,by rw [List.length_map];omega,fun at_ o2 a0 a1 ho2=>?_⟩
  have d12:Drawn p H1 (upd H1 p o2):=Drawn.upd ho2
  have hp2:(upd H1 p o2) p=some o2:=uS
  generalize upd H1 p o2=H2 at d12 hp2
  have d2:=d1.trans d12
  refine ⟨_,rfl,_,rfl,ln,_,rfl,.inl (SqL.of (d2.keep _ _ lp hl)),p,_,o2,rfl,hp2,ho2,by rw [List.length_map];omega,by rw [List.length_map];omega,fun oth o3 b0 b1 ho3=>?_⟩
  have d23:Drawn p H2 (upd H2 p o3):=Drawn.upd ho3
  have hp3:(upd H2 p o3) p=some o3:=uS
  generalize upd H2 p o3=H3 at d23 hp3
  have d3:=d2.trans d23
  refine ⟨_,rfl,_,rfl,_,rfl,lw,_,rfl,.inl (SqL.of (d3.keep _ _ wp hw)),p,_,o3,rfl,hp3,ho3,by rw [List.length_map];omega,by rw [List.length_map];omega,fun v4 o4 c0 c1 ho4=>?_⟩
  have d34:Drawn p H3 (upd H3 p o4):=Drawn.upd ho4
  have hp4:(upd H3 p o4) p=some o4:=uS
  generalize upd H3 p o4=H4 at d34 hp4
  have d4:=d3.trans d34
  obtain ⟨x0,hx0,hat0⟩:=Zc8 c0 c1
  refine ⟨lw,_,_,_,rfl,rfl,SqL.of (d4.keep _ _ wp hw),hat0,?_⟩
  rw [List.length_map] at a1 b1
  refine ⟨fun σ' H'=>∃ x:Str,σ'=[some (.ref p),some (.ref lw),some (.ref ln),some (.int way),some (.int at_),some (.int oth),some (.str x),none]∧Drawn p H H'∧PyData.strOk x=true,?_,?_⟩
  ·refine ⟨_,rfl,p,3,o4,rfl,hp4,ho4,by decide,by decide,fun v5 o5 e0 e1 ho5=>?_⟩
   have d45:Drawn p H4 (upd H4 p o5):=Drawn.upd ho5
   have hp5:(upd H4 p o5) p=some o5:=uS
   generalize upd H4 p o5=H5 at d45 hp5
   have d5:=d4.trans d45
   refine ⟨rfl,_,rfl,Zdy (fun _=>?_) (fun _=>⟨x0,rfl,d5,Zem (wok.word x0 hx0)⟩)⟩
   refine ⟨_,rfl,_,rfl,p,lw,ws,rfl,Ne.symm wp,⟨o5,hp5,ho5⟩,d5.keep _ _ wp hw,wok,w24,fun x H6 d6 wx _=>?_⟩
   exact ⟨x,rfl,d5.trans d6,Zem wx⟩
  rintro σ' H5 ⟨x,rfl,d5,xok⟩
  have hl5:=d5.keep _ _ lp hl
  refine ⟨_,rfl,ln,_,rfl,.inl (SqL.of hl5),fun lm hlm=>?_⟩
  have s6:Zan H5 (upd H5 lm (.lst (ls.map V.str))):=Zcn hlm
  have h66:(upd H5 lm (.lst (ls.map V.str))) lm=some (.lst (ls.map V.str)):=uS
  generalize upd H5 lm (.lst (ls.map V.str))=H6 at s6 h66
  have fm:H lm=none:=by
   cases z:H lm with
   | none=>rfl
   | some u =>
    by_cases e:lm=p
    ·obtain ⟨op,hpp,_⟩:=d5.pot
     rw [e,hpp] at hlm;cases hlm
    ·rw [d5.keep _ _ e z] at hlm;cases hlm
  have M0:MidS H p lw ln ls way at_ oth x 0 [some (.ref p),some (.ref lw),some (.ref ln),some (.int way),some (.int at_),some (.int oth),some (.str x),some (.ref lm)] H6:=⟨lm,ls,rfl,d5.same s6,fm,h66,lok,by omega,fun _=>rfl⟩
  clear h66 s6 hlm hl5 d5 fm
  have put:∀ {lm':Addr} {H':Hp} {zs:List Str} {i:Int},Drawn p H H'→H lm'=none→Zeb zs→zs.length≤26→¬ (i<way)→MidS H p lw ln ls way at_ oth x i [some (.ref p),some (.ref lw),some (.ref ln),some (.int way),some (.int at_),some (.int oth),some (.str x),some (.ref lm')] (upd H' lm' (.lst (zs.map V.str))):=fun {lm' H' zs i} d f ok le im=>by
   obtain ⟨oz,hpz,hoz⟩:=d.pot
   have ne:p≠lm':=nNo hp f
   exact ⟨lm',zs,rfl,⟨fun b u hb e=>by rw [Zac (nNo e f)];exact d.keep b u hb e,oz,by rw [Zac ne];exact hpz,hoz⟩,f,uS,ok,le,fun z=>absurd z im⟩
  have eqi:∀ {n:Int},decide (V.int way=V.int n)=true→way=n:=fun h=>by
   have:=of_decide_eq_true h
   injection this
  have nei:∀ {n:Int},¬ decide (V.int way=V.int n)=true→way≠n:=fun h z=>h (decide_eq_true (by rw [z]))
  obtain ⟨za,ea,ma,hata⟩:=at_strs1 (ls:=ls) a0 a1
  obtain ⟨zb,eb,mb,hatb⟩:=at_strs1 (ls:=ls) b0 b1
  obtain ⟨lm,ls',e0,d,f,hm,ok,le,im⟩:=M0
  cases e0
  refine ⟨MidS H p lw ln ls way at_ oth x 1,?_,?_⟩
  ·refine ⟨_,rfl,rfl,_,rfl,Zdy (fun e=>?_) (fun ne=>⟨lm,ls',rfl,d,f,hm,ok,le,fun z=>im (by have:=nei ne;omega)⟩)⟩
   have e:=eqi e
   have el:=im (by omega)
   subst el
   have hl7:=d.keep _ _ lp hl
   have lnm:ln≠lm:=nNo hl f
   refine ⟨_,rfl,_,rfl,ln,_,_,_,rfl,rfl,SqL.of hl7,hatb,_,rfl,_,rfl,lm,_,_,_,rfl,rfl,hm,ix_strs a0 a1,?_⟩
   rw [set_strs]
   obtain ⟨oz,hpz,hoz⟩:=d.pot
   have nel:p≠lm:=nNo hp f
   have d8:Drawn p H (upd H6 lm (.lst ((ls'.set at_.toNat zb).map V.str))):=⟨fun b u hb e=>by rw [Zac (nNo e f)];exact d.keep b u hb e,oz,by rw [Zac nel];exact hpz,hoz⟩
   have h88:(upd H6 lm (.lst ((ls'.set at_.toNat zb).map V.str))) lm=some (.lst ((ls'.set at_.toNat zb).map V.str)):=uS
   generalize upd H6 lm (.lst ((ls'.set at_.toNat zb).map V.str))=H8 at d8 h88
   refine ⟨_,rfl,_,rfl,ln,_,_,_,rfl,rfl,SqL.of (d8.keep _ _ lp hl),hata,_,rfl,_,rfl,lm,_,_,_,rfl,rfl,h88,ix_strs b0 (by rw [List.length_set];exact b1),?_⟩
   rw [set_strs]
   exact put d8 f ((ok.set (lok zb mb) _).set (lok za ma) _) (by rw [List.length_set,List.length_set];omega) (by omega)
  clear hm d f ok le im
  rintro σ' H7 ⟨lm,ls',rfl,d,f,hm,ok,le,im⟩
  refine ⟨MidS H p lw ln ls way at_ oth x 2,?_,?_⟩
  ·refine ⟨_,rfl,rfl,_,rfl,Zdy (fun e=>?_) (fun ne=>⟨lm,ls',rfl,d,f,hm,ok,le,fun z=>im (by have:=nei ne;omega)⟩)⟩
   have e:=eqi e
   have el:=im (by omega)
   subst el
   have hl7:=d.keep _ _ lp hl
   have lnm:ln≠lm:=nNo hl f
   refine ⟨_,rfl,.inl ⟨rfl,_,SqL.of hm⟩,_,rfl,lm,_,_,at_.toNat,.str za,rfl,rfl,hm,by omega,by omega,(ixN_seq (ix_strs a0 a1)).1,by rw [List.getElem?_map,ea];rfl,?_⟩
   rw [erase_map]
   exact put d f (fun y hy=>ok y (List.mem_of_mem_eraseIdx hy)) (by have:=List.length_eraseIdx_le ls' at_.toNat;omega) (by omega)
  rintro σ' H7 ⟨lm,ls',rfl,d,f,hm,ok,le,im⟩
  refine ⟨MidS H p lw ln ls way at_ oth x 3,?_,?_⟩
  ·refine ⟨_,rfl,rfl,_,rfl,Zdy (fun e=>?_) (fun ne=>⟨lm,ls',rfl,d,f,hm,ok,le,fun z=>im (by have:=nei ne;omega)⟩)⟩
   have e:=eqi e
   have el:=im (by omega)
   subst el
   have hl7:=d.keep _ _ lp hl
   have lnm:ln≠lm:=nNo hl f
   refine ⟨_,rfl,.inl ⟨rfl,_,SqL.of hm⟩,_,rfl,_,rfl,_,rfl,ln,_,_,_,rfl,rfl,SqL.of hl7,hata,lm,_,_,_,rfl,rfl,hm,b0,by rw [List.length_map];omega,Za7 (by rw [List.length_map];omega),?_⟩
   rw [show (ls'.map V.str).take oth.toNat++V.str za :: (ls'.map V.str).drop oth.toNat=(ls'.take oth.toNat++za :: ls'.drop oth.toNat).map V.str from by rw [List.map_append,List.map_cons,List.map_take,List.map_drop]]
   exact put d f (ok.ins (lok za ma) _) (by rw [List.length_append,List.length_cons,List.length_take,List.length_drop];omega) (by omega)
  rintro σ' H7 ⟨lm,ls',rfl,d,f,hm,ok,le,im⟩
  refine ⟨MidS H p lw ln ls way at_ oth x 4,?_,?_⟩
  ·refine ⟨_,rfl,rfl,_,rfl,Zdy (fun e=>?_) (fun ne=>⟨lm,ls',rfl,d,f,hm,ok,le,fun z=>im (by have:=nei ne;omega)⟩)⟩
   have e:=eqi e
   have el:=im (by omega)
   subst el
   have hl7:=d.keep _ _ lp hl
   have lnm:ln≠lm:=nNo hl f
   refine ⟨_,rfl,.inl ⟨rfl,_,SqL.of hm⟩,_,rfl,_,rfl,lm,_,_,_,rfl,rfl,hm,a0,by rw [List.length_map];omega,Za7 (by rw [List.length_map];omega),?_⟩
   rw [show (ls'.map V.str).take at_.toNat++V.str x :: (ls'.map V.str).drop at_.toNat=(ls'.take at_.toNat++x :: ls'.drop at_.toNat).map V.str from by rw [List.map_append,List.map_cons,List.map_take,List.map_drop]]
   exact put d f (ok.ins xok _) (by rw [List.length_append,List.length_cons,List.length_take,List.length_drop];omega) (by omega)
  rintro σ' H7 ⟨lm,ls',rfl,d,f,hm,ok,le,im⟩
  refine ⟨MidS H p lw ln ls way at_ oth x 5,?_,?_⟩
  ·refine ⟨_,rfl,rfl,_,rfl,Zdy (fun e=>?_) (fun ne=>⟨lm,ls',rfl,d,f,hm,ok,le,fun z=>im (by have:=nei ne;omega)⟩)⟩
   have e:=eqi e
   have el:=im (by omega)
   subst el
   have hl7:=d.keep _ _ lp hl
   have lnm:ln≠lm:=nNo hl f
   refine ⟨_,rfl,_,rfl,_,rfl,lm,_,_,_,rfl,rfl,hm,ix_strs a0 a1,?_⟩
   rw [set_strs]
   exact put d f (ok.set xok _) (by rw [List.length_set];omega) (by omega)
  rintro σ' H7 ⟨lm,ls',rfl,d,f,hm,ok,le,im⟩
  refine ⟨MidS H p lw ln ls way at_ oth x 6,?_,?_⟩
  ·refine ⟨_,rfl,rfl,_,rfl,Zdy (fun e=>?_) (fun ne=>⟨lm,ls',rfl,d,f,hm,ok,le,fun z=>im (by have:=nei ne;omega)⟩)⟩
   have e:=eqi e
   have el:=im (by omega)
   subst el
   have hl7:=d.keep _ _ lp hl
   have lnm:ln≠lm:=nNo hl f
   refine ⟨_,rfl,ln,_,rfl,SqL.of hl7,fun l8 hl8=>?_⟩
   rw [← List.map_reverse]
   exact put d (drawn_free d hl8) (fun y hy=>ok y (List.mem_reverse.mp hy)) (by rw [List.length_reverse];omega) (by omega)
  rintro σ' H7 ⟨lm,ls',rfl,d,f,hm,ok,le,im⟩
  refine ⟨MidS H p lw ln ls way at_ oth x 7,?_,?_⟩
  ·refine ⟨_,rfl,rfl,_,rfl,Zdy (fun e=>?_) (fun ne=>⟨lm,ls',rfl,d,f,hm,ok,le,fun z=>im (by have:=nei ne;omega)⟩)⟩
   have e:=eqi e
   have el:=im (by omega)
   subst el
   have hl7:=d.keep _ _ lp hl
   have lnm:ln≠lm:=nNo hl f
   refine ⟨Nat.zero_le _,fun l8 hl8=>?_⟩
   exact put (zs:=[]) d (drawn_free d hl8) (fun y hy=>nomatch hy) (by show 0≤26;omega) (by omega)
  rintro σ' H7 ⟨lm,ls',rfl,d,f,hm,ok,le,im⟩
  exact ⟨_,rfl,q lm ls' H7 d f hm ok le⟩
end
end K23
namespace K23
open PySem L2 Md
def spCheckCallX (C N:Addr):Sp:=fun vs H _ E=>∃ (p t:Addr) (n:Nat) (rows:List (Str×List Str)) (xs:List Str),vs=[.ref p,.int n,.ref t]∧Zck C H p rows∧Zd7 rows∧H t=some (.tup (xs.map V.str))∧callB rows n xs=false∧n≤4∧xs.length≤100∧(∀ x∈xs,Shows x)∧∀ H',Zan H H'→E (.ref N) none H'
def spLUX (C B N:Addr):Sp:=fun vs H _ E=>∃ (p k t:Addr) (rows:List (Str×List Str)) (n:Nat) (ds:List (List Str)) (xs:List Str) (v:V),vs=[.ref p,.ref t,v]∧Zdt C B H p k rows n ds∧Zd7 rows∧n≤4∧H t=some (.tup (xs.map V.str))∧callB rows n xs=false∧xs.length≤100∧(∀ x∈xs,Shows x)∧∀ H',Zan H H'→E (.ref N) none H'
def spLURef (C B:Addr):Sp:=fun vs H Q _=>∃ (p k t:Addr) (rows:List (Str×List Str)) (n:Nat) (ds:List (List Str)) (xs:List Str) (v:V),vs=[.ref p,.ref t,v]∧Zdt C B H p k rows n ds∧Zd7 rows∧n≤4∧H t=some (.tup (xs.map V.str))∧callB rows n xs=false∧xs.length≤100∧(∀ x∈xs,Shows x)∧∀ H',Zan H H'→Q (.bl true) H'
abbrev nBCL:List Str:=["board","call","lineup"]
abbrev nRf:List Str:=["board","call","lineup","found","e"]
theorem scRf:Zap nRf nBCL (Zab Zbu):=⟨rfl,rfl,rfl,by decide +kernel,rfl,by decide +kernel,by decide +kernel⟩
section
variable {P:Program} {w:World} {K:PySem.W.Frag} {mg:Str→Option Value} {base:Heap}
theorem ok_check_callX {f C N fI fH:Addr}{fd fdI fdH:FuncData}(F:Def K mg "check_call" Zbt nIC f fd) (TN:ErrP K mg "NoCall" N) (DI:Def K mg "is_call" Zcu nIC fI fdI) (len:mg "len"=none) (all:mg "all"=none) (TC:TxtC K C) (MH:MHas K C fH fdH):Za0 P w K mg base (CX1 P w) 3 f fd nIC (spCheckCallX C N):=by
 have GI:Za0 P w K mg base (CX1 P w) 2 fI fdI nIC (spIsCall C):=(ok_is_call DI len all TC MH).any
 refine F.fn.ok1 scCC (fun vs H Q E h=>?_) (fun cdv A outer s H vs Q E hr h=>?_)
 ·obtain ⟨p,t,n,rows,xs,rfl,_⟩:=h
  rfl
 ·obtain ⟨p,t,n,rows,xs,rfl,kd,g,ht,hb,n4,hl,hx,q⟩:=h
  refine ⟨_,(Zad (Za5 (Zd9 (pt_val (pe_call GI hr (by rfl) DI.m DI.fn.kp DI.b .nil (pass1 Fns.of) (pC (pv 0) (pC (pv 1) (pC (pv 2) Zaa)))))) (Zad (ps_raise (C:=N) Fns.of hr.hd TN.ex TN.ini (by rfl) TN.m (pC (pe_fstr (pfs_cons (pf_repT hr (pv 2)) (pfs_cons pf_con (pfs_cons (pf_int (pv 1)) (pfs_cons pf_con pfs_nil))))) Zaa))) Zai)),?_⟩
  refine ⟨_,rfl,_,rfl,_,rfl,p,t,n,rows,xs,rfl,kd,g,ht,by omega,fun H' s'=>⟨_,rfl,?_⟩⟩
  rw [hb]
  refine iteT ⟨_,rfl,t,xs,rfl,.inl (SqT.of (s' _ _ ht)),hl,hx,by decide +kernel,_,rfl,n,rfl,by omega,by decide +kernel,fun x=>⟨sL (by show 1≤100000;decide),q H' s'⟩⟩
theorem ok_is_lineupX {f C B N fK fPl fCk:Addr}{fd fdK fdPl fdCk:FuncData}(F:Def K mg "is_lineup" Zb0 nBCL f fd) (TC:TxtC K C) (TB:TxtBd K B) (MK:MBKinds K B fK fdK) (MP:MBPlaces K B fPl fdPl)
  (DCk:Def K mg "check_call" Zbt nIC fCk fdCk) (GC:Za0 P w K mg base (CX1 P w) 3 fCk fdCk nIC (spCheckCallX C N)):Za0 P w K mg base (CX1 P w) 4 f fd nBCL (spLUX C B N):=by
 have GK:Za0 P w K mg base (CX1 P w) 1 fK fdK ["self"] (spBKinds C B):=(ok_bkinds MK.fn TB).any
 have GP:Za0 P w K mg base (CX1 P w) 1 fPl fdPl ["self"] (spBPlaces C B):=(ok_bplaces MP.fn TB).any
 refine F.fn.ok1 scLU (fun vs H Q E h=>?_) (fun cdv A outer s H vs Q E hr h=>?_)
 ·obtain ⟨p,k,t,rows,n,ds,xs,v,rfl,_⟩:=h
  rfl
 ·obtain ⟨p,k,t,rows,n,ds,xs,v,rfl,bd,g,n4,ht,hb,hl,hx,q⟩:=h
  obtain ⟨dx,ts,us,h1,h2,h3,h4⟩:=bd.ex
  have nd:=scLU.nd
  have hr1:Zdp 1 _:=hr.mono (by decide)
  refine ⟨_,pS (Zah (i:=3) nd rfl (Or.inr rfl) (pe_meth0 (pv 0) TB.cl MK.me GK hr1 MK.b .nil (pass1 Fns.of)))
   (pS (Zah (i:=4) nd rfl (Or.inl rfl) (pe_meth0 (pv 0) TB.cl MP.me GP hr1 MP.b .nil (pass1 Fns.of)))
   (pS (Zbg (pe_call GC hr (by rfl) DCk.m DCk.fn.kp DCk.b .nil (pass1 Fns.of) (pC (pv 3) (pC (pv 4) (pC (pv 1) Zaa))))) Zb3)),?_⟩
  refine ⟨_,rfl,p,dx,_,rfl,h1,no_bkinds _ _ _,p,k,rows,n,ds,rfl,bd,?_⟩
  refine ⟨_,rfl,p,dx,_,rfl,h1,no_bplaces _ _ _,p,k,rows,n,ds,rfl,bd,?_⟩
  exact ⟨_,rfl,_,rfl,_,rfl,k,t,n,rows,xs,rfl,h2,g,ht,hb,n4,hl,hx,q⟩
theorem ok_refusedU {f C B D fL fA:Addr}{Ds:Nat→Addr}{fd fdL fdA:FuncData}(F:Def K mg "_law_refused" Zbu nBCL f fd) (TD:ErrD K mg D) (O9:OneOf K D Ds 9) (DL:Def K mg "is_lineup" Zb0 nBCL fL fdL) (XL:Za0 P w K mg base (CX1 P w) 4 fL fdL nBCL (spLUX C B (Ds 9)))
  (DA:Def K mg "_law_alone" Zcq ["e","place"] fA fdA) (GA:Za0 P w K mg base CX0 1 fA fdA ["e","place"] (spAlone K D Ds)):Za0 P w K mg base CX0 5 f fd nBCL (spLURef C B):=by
 refine F.fn.ok scRf (fun vs H Q E h=>?_) (fun cdv A outer s H vs Q E hr h=>?_)
 ·obtain ⟨p,k,t,rows,n,ds,xs,v,rfl,_⟩:=h
  rfl
 ·obtain ⟨p,k,t,rows,n,ds,xs,v,rfl,bd,g,n4,ht,hb,hl,hx,q⟩:=h
  have nd:=scRf.nd
  have hr1:Zdp 1 _:=hr.mono (by decide)
  refine ⟨_,(pS (Zah (i:=3) nd rfl (Or.inl rfl) pe_non)
   (pS (ps_try (i:=3) (j:=4) rfl rfl TD.ex nd (by rfl) TD.m rfl (Or.inl rfl) rfl rfl (pssx_one (psx_set (i:=3) nd rfl (Or.inl rfl) (pex_call DL XL hr (by rfl) (pC (pv 0) (pC (pv 1) (pC (pv 2) Zaa)))))))
   (Zad (Zar (Zaf DA GA hr1 (pC (pv 3) (pC Zae Zaa))))))),?_⟩
  refine ⟨_,rfl,_,rfl,_,rfl,p,k,t,rows,n,ds,xs,v,rfl,bd,g,n4,ht,hb,hl,hx,fun H1 s1=>?_⟩
  refine ⟨_,rfl,O9.ex.toExC,O9.sub,fun ea hea=>?_⟩
  have s2:Zan H1 (upd H1 ea (XO ea (Ds 9) none)):=Zcn hea
  refine ⟨_,rfl,ea,9,9,none,rfl,uS,.inl rfl,O9,by decide,by decide,fun H3 s3=>?_⟩
  rw [decide_eq_true rfl]
  exact q H3 (s1.trans (s2.trans s3))
end
end K23
namespace K23
open PySem L2 Md
structure LUW (ws:List Str) (n:Nat) (ord:List Int) (cs:List (List Str)):Prop where
 olen:ord.length=n
 clen:cs.length=n
 line:∀ c∈cs,1≤c.length∧c.length≤24∧∀ z∈c,z∈ws
def LUAtN (p:Addr) (H:Hp) (t:Addr) (ord:List Int) (cs:List (List Str)):Prop:=∃ (lo ll:Addr) (vs:List V),lo≠p∧H t=some (.tup [.ref lo,.ref ll])∧H lo=some (.lst (ord.map V.int))∧H ll=some (.lst vs)∧Lsts H cs vs
theorem LUAtN.at_ {p:Addr}{H:Hp}{t:Addr}{ord:List Int}{cs:List (List Str)}(h:LUAtN p H t ord cs):LUAt H t ord cs:=by
 obtain ⟨lo,ll,vs,_,h⟩:=h
 exact ⟨lo,ll,vs,h⟩
theorem LUAtN.mono {p:Addr}{H H':Hp}{t:Addr}{ord:List Int}{cs:List (List Str)}(h:LUAtN p H t ord cs) (s:Zan H H'):LUAtN p H' t ord cs:=by
 obtain ⟨lo,ll,vs,n,h1,h2,h3,h4⟩:=h
 exact ⟨lo,ll,vs,n,s _ _ h1,s _ _ h2,s _ _ h3,h4.mono s⟩
theorem lsts_ne {p ll:Addr}{H:Hp}{o:HO}{cs:List (List Str)}{vs:List V}(hp:H p=some o) (ho:PotO o) (hl:H ll=some (.lst vs)) (h:Lsts H cs vs):ll≠p:=fun z=>by
 obtain ⟨r,b,e,_⟩:=ho
 rw [z,hp,e] at hl
 have hl:=Option.some.inj hl
 injection hl with hl
 rw [← hl] at h
 cases h with
 | cons h _ =>
  obtain ⟨t,e,_⟩:=h
  cases e
theorem Lsts.drawn {p:Addr}{H H':Hp}{o:HO}{cs:List (List Str)}{vs:List V}(h:Lsts H cs vs) (hp:H p=some o) (ho:PotO o) (d:Drawn p H H'):Lsts H' cs vs:=Paired.mapP h fun _ _ ⟨t,e,h⟩=>⟨t,e,d.keep _ _ (Ne.symm (Zdv hp ho h)) h⟩
theorem LUAtN.drawn {p:Addr}{H H':Hp}{o:HO}{t:Addr}{ord:List Int}{cs:List (List Str)}(h:LUAtN p H t ord cs) (hp:H p=some o) (ho:PotO o) (d:Drawn p H H'):LUAtN p H' t ord cs:=by
 obtain ⟨lo,ll,vs,n,h1,h2,h3,h4⟩:=h
 exact ⟨lo,ll,vs,n,Drawn.tup d hp ho h1,d.keep _ _ n h2,d.keep _ _ (lsts_ne hp ho h3 h4) h3,h4.drawn hp ho d⟩
def spLU:Sp:=fun vs H Q _=>∃ (p a t:Addr) (rows:List (Str×List Str)) (avs:List (Key×V)) (xs:List Str),vs=[.ref p,.ref a,.ref t]∧(∃ o,H p=some o∧PotO o)∧Zd7 rows∧H a=some (.dK avs)∧Zcs H rows rows avs∧H t=some (.tup (xs.map V.str))∧(∀ x∈xs,x∈rows.map (·.1))∧xs.length≤4 ∧
 ∀ lu ord cs H',Drawn p H H'→LUAtN p H' lu ord cs→LUW (rows.map (·.1)) xs.length ord cs→Q (.ref lu) H'
abbrev nLl:List Str:=["pot","above","call","order","place"]
theorem scLl:Zap nLl ["pot","above","call"] (Zab Zbm):=⟨rfl,rfl,rfl,by decide +kernel,rfl,by decide +kernel,by decide +kernel⟩
theorem nd_wpa:(["word","pot","above"]:List Str).Nodup:=by decide +kernel
section
variable {P:Program} {w:World} {K:PySem.W.Frag} {mg:Str→Option Value} {base:Heap}
theorem ok_llineup {f fT fL:Addr}{fd fdT fdL:FuncData}(F:Def K mg "_law_lineup" Zbm ["pot","above","call"] f fd) (range:mg "range"=none) (len:mg "len"=none) (DT:Def K mg "_law_take" Zas ["pot","many"] fT fdT) (GT:Za0 P w K mg base CX0 1 fT fdT ["pot","many"] Zef)
  (DL:Def K mg "_law_line" Zbb ["pot","above","word"] fL fdL) (GL:Za0 P w K mg base CX0 2 fL fdL ["pot","above","word"] spLine):Za0 P w K mg base CX0 3 f fd ["pot","above","call"] spLU:=by
 refine F.fn.ok scLl (fun vs H Q E h=>?_) (fun cdv A outer s H vs Q E hr h=>?_)
 ·obtain ⟨p,a,t,rows,avs,xs,rfl,_⟩:=h
  rfl
 ·obtain ⟨p,a,t,rows,avs,xs,rfl,⟨o,hp,ho⟩,g,ha,hA,ht,kn,x4,q⟩:=h
  have nd:=scLl.nd
  have hr1:Zdp 1 _:=hr.mono (by decide)
  refine' ⟨_,(pS (Zah (i:=3) nd rfl (Or.inl rfl) (Zcx Zaa))
   (pS (Zdd PassesOwn.never rfl (Zcm (by rfl) range (pC (Zag Zam (by rfl) len PySem.boot_len (pC (pv 2) Zaa)) Zaa)) (Zaj (i:=4) nd rfl (Or.inl rfl))
    (Zad (Zbg (pe_bm PySem.F.plainAttrs_list PySem.F.slot_list_insert PySem.F.type_list_insert Zej (pv 3) (pC (Zaf DT GT hr1 (pC (pv 0) (pC (Za8 Zei (pv 4) Zae) Zaa))) (pC (pv 4) Zaa))))))
   (Zad (Zar (Zdw (pC (pv 3) (pC ?e1 Zaa))))))),?_⟩
  case e1=>exact (Zb5 ["word"] ["pot","above"] [0,1] (fun _=>Zay (osc:=Zab Zbm) (on:=nLl) (by decide +kernel) rfl rfl rfl) (pi_tup (pv 2)) (fun C s H fp=>Zaj (i:=0) nd_wpa rfl (Or.inl rfl) (Or.inr rfl)) (fun C s H fp=>Zb2) (fun C s H fp=>Zaf DL GL hr (pC (pv 1) (pC (pv 2) (pC (pv 0) Zaa)))))
  have ap:a≠p:=fun z=>by
   obtain ⟨_,_,e,_⟩:=id ho
   rw [z,hp,e] at ha
   cases ha
  refine ⟨Nat.zero_le _,fun lo hlo=>?_⟩
  have s1:Zan H (upd H lo (.lst [])):=Zcn hlo
  have h11:(upd H lo (.lst [])) lo=some (.lst []):=uS
  generalize upd H lo (.lst [])=H1 at s1 h11
  have lop:lo≠p:=Ne.symm (nNo hp hlo)
  refine ⟨_,rfl,t,_,rfl,.inr (SqT.of (s1 _ _ ht)),_,rfl,by omega,by rw [List.length_map];omega,Zbs Zbz (fun i σ H'=>∃ (ord:List Int) (x4:Option V),σ=[some (.ref p),some (.ref a),some (.ref t),some (.ref lo),x4]∧Drawn p H H'∧H' lo=some (.lst (ord.map V.int))∧ord.length=i)
   ⟨[],none,rfl,(Drawn.refl ⟨o,hp,ho⟩).same s1,h11,rfl⟩ (fun _ _ _ _ _=>trivial) ?_ ?_⟩
  ·rintro i v σ H2 hi ⟨ord,x4,rfl,d2,hl2,ol⟩
   obtain ⟨hi2,rfl⟩:=Za4 hi
   rw [List.length_map] at hi2
   obtain ⟨o2,hp2,ho2⟩:=id d2.pot
   refine ⟨_,rfl,.inl ⟨rfl,_,SqL.of hl2⟩,_,rfl,_,rfl,_,_,rfl,rfl,p,_,o2,rfl,hp2,ho2,by omega,by omega,fun v3 o3 v30 v31 ho3=>?_⟩
   have d3:Drawn p H2 (upd H2 p o3):=Drawn.upd ho3
   generalize upd H2 p o3=H3 at d3
   have hl3:=d3.keep _ _ lop hl2
   have d03:=d2.trans d3
   obtain ⟨oz,hpz,hoz⟩:=d03.pot
   refine ⟨_,rfl,lo,_,_,_,rfl,rfl,hl3,v30,by rw [List.length_map];omega,Za7 (by rw [List.length_map];omega),?_⟩
   refine ⟨ord.take v3.toNat++(0 + (i:Int)):: ord.drop v3.toNat,_,rfl,⟨fun b u hb e=>by rw [Zac (nNo e hlo)];exact d03.keep b u hb e,oz,by rw [Zac (Ne.symm lop)];exact hpz,hoz⟩,?_,?_⟩
   ·rw [uS,List.map_append,List.map_cons,List.map_take,List.map_drop]
   ·rw [List.length_append,List.length_cons,List.length_take,List.length_drop];omega
  rintro σ H2 ⟨ord,x4,rfl,d2,hl2,ol⟩
  have ol:ord.length=xs.length:=by
   rw [Zat,List.length_map,Int.toNat_natCast] at ol
   exact ol
  obtain ⟨o2,hp2,ho2⟩:=id d2.pot
  have ht2:=Drawn.tup d2 hp ho ht
  refine ⟨_,rfl,_,rfl,t,rfl,⟨_,SqT.of ht2⟩,Zek Zd8 (xs:=xs.map V.str) (by rw [List.length_map];exact sL (by omega)) (fun D i ys σ' H'=>Drawn p H2 H'∧H' D=some (.lst ys)∧∃ (cs:List (List Str)) (o:Option V),Paired (fun c v=>∃ b,v=.ref b∧b≠D∧H' b=some (.lst (c.map V.str))) cs ys∧cs.length=i∧(∀ c∈cs,1≤c.length∧c.length≤24∧∀ z∈c,z∈rows.map (·.1))∧σ'=[o,some (.ref p),some (.ref a)])
   (fun D hD=>⟨(Drawn.refl ⟨o2,hp2,ho2⟩).new hD,uS,[],none,.nil,rfl,(fun x h=>nomatch h),rfl⟩) (fun D i ys σ' H' hi ⟨d,_,cs,_,pr,el,_⟩=>⟨SqT.of (Drawn.tup d hp2 ho2 ht2),by rw [← Paired.length pr,el];exact Nat.le_refl _⟩) ?_ ?_⟩
  ·rintro D i v ys σ' H3 hD hi ⟨d,hl,cs,o',pr,el,hc,rfl⟩
   obtain ⟨x,hx,rfl⟩:=strs_at hi
   have d03:=d2.trans d
   have pD:p≠D:=nNo hp2 hD
   obtain ⟨o3,hp3,ho3⟩:=id d.pot
   refine ⟨_,rfl,_,rfl,_,rfl,p,a,rows,avs,x,rfl,d.pot,g,d03.keep _ _ ap ha,above_drawn hA hp ho d03,kn x (List.mem_of_getElem? hx),fun l ls H4 d4 fl hl4 k l1 l24=>?_⟩
   have dd:=d.trans d4
   obtain ⟨oz,hpz,hoz⟩:=dd.pot
   have lD:l≠D:=fun z=>by rw [z,hl] at fl;cases fl
   refine ⟨d4.keep _ _ (Ne.symm pD) hl,⟨fun b u hb e=>by rw [Zac (nNo e hD)];exact dd.keep b u hb e,oz,by rw [Zac pD];exact hpz,hoz⟩,uS,cs++[ls],_,Paired.snoc (Paired.mapP pr fun c v ⟨b,e,nb,hb⟩=>⟨b,e,nb,by rw [Zac nb];exact d4.keep _ _ (Ne.symm (Zdv hp3 ho3 hb)) hb⟩) ⟨l,rfl,lD,by rw [Zac lD];exact hl4⟩,by rw [List.length_append,el];rfl,fun c hc'=>?_,rfl⟩
   rcases List.mem_append.mp hc' with z | z
   ·exact hc c z
   ·rw [List.mem_singleton.mp z];exact ⟨l1,l24,k⟩
  ·rintro lb ys σ' H3 hlb ⟨d,hl,cs,o',pr,el,hc,rfl⟩
   rw [List.length_map] at el
   refine ⟨sL (by show 2≤100000;decide),fun lu hlu=>?_⟩
   have s4:Zan H3 (upd H3 lu (.tup [.ref lo,.ref lb])):=Zcn hlu
   exact q lu ord cs _ ((d2.trans d).same s4) ⟨lo,lb,ys,lop,uS,s4 _ _ (d.keep _ _ lop hl2),s4 _ _ hl,Paired.mapP pr fun c v ⟨b,e,_,hb⟩=>⟨b,e,s4 _ _ hb⟩⟩ ⟨ol,el,hc⟩
end
end K23
namespace K23
open PySem L2 Md
theorem paired_comp2 {α β γ:Type}{F:α→β→Prop}{G:β→γ→Prop}:∀ {cs:List α}{lv:List β}{hs:List γ},Paired F cs lv→Paired G lv hs→Paired (fun a c=>∃ b,F a b∧G b c) cs hs
 | _,_,_,.nil,.nil=>.nil
 | _,_,_,.cons h t,.cons h' t'=>.cons ⟨_,h,h'⟩ (paired_comp2 t t')
abbrev rListK (K:PySem.W.Frag):List V→Hp→VK→Prop:=fun xs H Q=>∃ p ys,xs=[.ref p]∧(SqL K H p ys∨SqT K H p ys)∧∀ l,H l=none→Q (.ref l) (upd H l (.lst ys))
theorem lines_comp {K:PySem.W.Frag}{ll:Addr}{H1:Hp}{cs:List (List Str)}{vs:List V}{σ:St}{te:TE}{Q:VK}(hll:H1 ll=some (.lst vs)) (hL:Lsts H1 cs vs) (few:cs.length≤100)
  (he:∀ (t:Addr) (ys:List V) H' (R:VK),H' t=some (.lst ys)→(∀ b,H' b=none→R (.ref b) (upd H' b (.lst ys)))→te [some (.ref t)] H' R)
  (hd:∀ D H2 hs,H1 D=none→Zan H1 H2→H2 D=some (.lst hs)→Paired (fun c v=>∃ b,v=.ref b∧b≠D∧H1 b=none∧H2 b=some (.lst (c.map V.str))) cs hs→Q (.ref D) H2):compBody 1 [] (gName 0) tTrue te σ Q (Itl K ll) H1:=by
 have vl:=Paired.length hL
 refine comp_rel (Zce (xs:=vs)) (sL (by omega)) (fun _=>true) (fun D v w' H'=>∀ c:List Str,(∃ t,v=.ref t∧H1 t=some (.lst (c.map V.str)))→∃ b,w'=.ref b∧b≠D∧H1 b=none∧H' b=some (.lst (c.map V.str))) (fun D v w' Ha Hb k h c hc=>let ⟨b,e,n,f,h1⟩:=h c hc;⟨b,e,n,f,k _ _ n h1⟩) (fun H' s'=>s'.seq (SqL.of hll)) ?_ ?_ ?_
 ·intro v H' R s' _ hR'
  exact hR' H' (Zan.refl _)
 ·intro D v H' R s' ⟨ys,hys⟩ hD hv _ hR'
  obtain ⟨i,hi⟩:=List.getElem?_of_mem hv
  obtain ⟨c,hc,t,rfl,ht⟩:=Zba hL hi
  refine he t _ H' R (s' _ _ ht) fun b hb=>?_
  refine hR' (.ref b) _ (Zcn hb) fun c' ⟨t',e,ht'⟩=>⟨b,rfl,fun z=>?_,s'.free hb,?_⟩
  ·rw [z] at hb
   rw [hys] at hb
   cases hb
  ·cases e
   rw [ht] at ht'
   rw [uS]
   exact ht'
 intro lh H2 hs hlh s2 hh2 pp
 rw [List.filter_eq_self.mpr (fun _ _=>rfl)] at pp
 exact hd lh H2 hs hlh s2 hh2 (Paired.mapP (paired_comp2 hL pp) fun c w' ⟨v,hv,h⟩=>h c hv)
def LUNew (H0 H:Hp) (t:Addr) (ord:List Int) (cs:List (List Str)):Prop:=∃ (lo ll:Addr) (vs:List V),H0 t=none∧H0 lo=none∧H0 ll=none∧H t=some (.tup [.ref lo,.ref ll])∧H lo=some (.lst (ord.map V.int))∧H ll=some (.lst vs)∧Paired (fun c v=>∃ b,v=.ref b∧H0 b=none∧H b=some (.lst (c.map V.str))) cs vs
theorem LUNew.atN {H0 H:Hp}{t p:Addr}{o:HO}{ord:List Int}{cs:List (List Str)}(h:LUNew H0 H t ord cs) (hp:H0 p=some o):LUAtN p H t ord cs:=by
 obtain ⟨lo,ll,vs,f1,f2,f3,h1,h2,h3,h4⟩:=h
 exact ⟨lo,ll,vs,Ne.symm (nNo hp f2),h1,h2,h3,Paired.mapP h4 fun c v ⟨b,e,_,hb⟩=>⟨b,e,hb⟩⟩
theorem LUNew.keep {H0 H H':Hp}{t D:Addr}{o:HO}{ord:List Int}{cs:List (List Str)}(h:LUNew H0 H t ord cs) (hD:H0 D=some o) (k:∀ b u,b≠D→H b=some u→H' b=some u):LUNew H0 H' t ord cs:=by
 obtain ⟨lo,ll,vs,f1,f2,f3,h1,h2,h3,h4⟩:=h
 exact ⟨lo,ll,vs,f1,f2,f3,k _ _ (Ne.symm (nNo hD f1)) h1,k _ _ (Ne.symm (nNo hD f2)) h2,k _ _ (Ne.symm (nNo hD f3)) h3,Paired.mapP h4 fun c v ⟨b,e,f,hb⟩=>⟨b,e,f,k _ _ (Ne.symm (nNo hD f)) hb⟩⟩
theorem LUNew.sub {H0 H1 H:Hp}{t:Addr}{ord:List Int}{cs:List (List Str)}(h:LUNew H1 H t ord cs) (s:∀ b,H1 b=none→H0 b=none):LUNew H0 H t ord cs:=by
 obtain ⟨lo,ll,vs,f1,f2,f3,h1,h2,h3,h4⟩:=h
 exact ⟨lo,ll,vs,s _ f1,s _ f2,s _ f3,h1,h2,h3,Paired.mapP h4 fun c v ⟨b,e,f,hb⟩=>⟨b,e,s _ f,hb⟩⟩
def spCopied:Sp:=fun vs H Q _=>∃ (lu:Addr) (ord:List Int) (cs:List (List Str)),vs=[.ref lu]∧LUAt H lu ord cs∧LUOk ord cs∧∀ l2 H',Zan H H'→LUNew H H' l2 ord cs→Q (.ref l2) H'
theorem scCp:Zap ["lineup"] ["lineup"] (Zab Zbn):=⟨rfl,rfl,rfl,by decide +kernel,rfl,by decide +kernel,by decide +kernel⟩
theorem nd_line1:(["line"]:List Str).Nodup:=by decide +kernel
section
variable {P:Program} {w:World} {K:PySem.W.Frag} {mg:Str→Option Value} {base:Heap}
theorem ok_copied {f:Addr}{fd:FuncData}(F:Def K mg "_law_copied" Zbn ["lineup"] f fd) (list:mg "list"=none):Za0 P w K mg base CX0 1 f fd ["lineup"] spCopied:=by
 refine F.fn.ok scCp (fun vs H Q E h=>?_) (fun cdv A outer s H vs Q E hr h=>?_)
 ·obtain ⟨lu,ord,cs,rfl,_⟩:=h
  rfl
 ·obtain ⟨lu,ord,cs,rfl,⟨lo,ll,vs,hlt,hlo,hll,hL⟩,lok,q⟩:=h
  refine' ⟨_,Zad (Zar (Zdw (pC (Za9 Zcr (by rfl) list PyProof.Rows.boot_list (pC (Zbc (r:=rIxT K) Zdz (pv 0) Zae (fun _ _=>rfl)) Zaa)) (pC ?e1 Zaa)))),?_⟩
  case e1=>exact (Zb5 ["line"] [] [] (fun _=>Zay (osc:=Zab Zbn) (on:=["lineup"]) (by decide +kernel) rfl rfl rfl) (Zcw (Zbc (r:=rIxT K) Zdz (pv 0) Zae (fun _ _=>rfl))) (fun C s H fp=>Zaj (i:=0) nd_line1 rfl (Or.inl rfl) (Or.inr rfl)) (fun C s H fp=>Zb2) (fun C s H fp=>Za9 (r:=rListK K) Zcr (by rfl) list PyProof.Rows.boot_list (pC (pv 0) Zaa)))
  have fewL:=lok.fewL
  have vl:=Paired.length hL
  refine ⟨_,rfl,lu,_,_,_,rfl,rfl,SqT.of hlt,rfl,lo,_,rfl,.inl (SqL.of hlo),fun l1 hl1=>?_⟩
  have s1:Zan H (upd H l1 (.lst (ord.map V.int))):=Zcn hl1
  have h11:(upd H l1 (.lst (ord.map V.int))) l1=some (.lst (ord.map V.int)):=uS
  generalize upd H l1 (.lst (ord.map V.int))=H1 at s1 h11
  have hll1:=s1 _ _ hll
  have hL1:=hL.mono s1
  refine ⟨_,rfl,lu,_,_,_,rfl,rfl,SqT.of (s1 _ _ hlt),rfl,ll,rfl,⟨_,SqL.of hll1⟩,lines_comp hll1 hL1 (by omega) (fun t ys H' R ht hR=>⟨_,rfl,t,_,rfl,.inl (SqL.of ht),hR⟩) fun lh H2 hs hlh s2 hh2 pr=>?_⟩
  refine ⟨sL (by show 2≤100000;decide),fun l3 hl3=>?_⟩
  have s12:=s1.trans s2
  have s3:Zan H2 (upd H2 l3 (.tup [.ref l1,.ref lh])):=Zcn hl3
  exact q l3 _ (s12.trans s3) ⟨l1,lh,hs,s12.free hl3,hl1,s1.free hlh,uS,s3 _ _ (s2 _ _ h11),s3 _ _ hh2,Paired.mapP pr fun c v ⟨b,e,_,f,hb⟩=>⟨b,e,s1.free f,s3 _ _ hb⟩⟩
end
end K23
namespace K23
open PySem L2 Md
theorem cut_lastG (xs:List V) (h:xs≠[]):cutV xs none (some (-1))=xs.dropLast:=by
 have hl:0<xs.length:=List.length_pos_iff.mpr h
 unfold cutV
 rw [HT.sIx_none,List.drop_zero,Nat.sub_zero]
 have e:HT.sIx xs.length xs.length (some (-1))=xs.length - 1:=by
  show (if (-1:Int)<0 then ((-1:Int) + (xs.length:Int)).toNat else min (-1:Int).toNat xs.length)=_
  rw [if_pos (by decide)]
  omega
 rw [e,List.dropLast_eq_take]
theorem callB_len {rows:List (Str×List Str)}{n:Nat}{xs:List Str}(h:xs.length≠n):callB rows n xs=false:=by
 unfold callB
 rw [decide_eq_false h]
 rfl
theorem callB_not {rows:List (Str×List Str)}{n:Nat}{xs:List Str}{y:Str}(hy:y∈xs) (ny:y∉rows.map (·.1)):callB rows n xs=false:=by
 unfold callB
 rw [Bool.and_eq_false_iff]
 refine .inr (List.all_eq_false.mpr ⟨y,hy,?_⟩)
 rw [decide_eq_false ny]
 decide
def spNoCall:Sp:=fun vs H Q _=>∃ (p lw t:Addr) (rows:List (Str×List Str)) (n:Nat) (xs:List Str),vs=[.ref p,.ref lw,.ref t]∧(∃ o,H p=some o∧PotO o)∧Zd7 rows∧H lw=some (.lst ((rows.map (·.1)).map V.str))∧H t=some (.tup (xs.map V.str))∧Zdf rows n xs∧1≤n∧n≤4 ∧
 ∀ t' (ys:List Str) H',Drawn p H H'→H' t'=some (.tup (ys.map V.str))→callB rows n ys=false→ys.length≤100→(∀ y∈ys,Shows y)→Q (.ref t') H'
abbrev nNc:List Str:=["pot","words","call","way","at","word"]
theorem scNc:Zap nNc ["pot","words","call"] (Zab Zbw):=⟨rfl,rfl,rfl,by decide +kernel,rfl,by decide +kernel,by decide +kernel⟩
section
variable {P:Program} {w:World} {K:PySem.W.Frag} {mg:Str→Option Value} {base:Heap}
theorem ok_no_call {f fT fN:Addr}{fd fdT fdN:FuncData}(F:Def K mg "_law_no_call" Zbw ["pot","words","call"] f fd) (len:mg "len"=none) (DT:Def K mg "_law_take" Zas ["pot","many"] fT fdT) (GT:Za0 P w K mg base CX0 1 fT fdT ["pot","many"] Zef)
  (DN:Def K mg "_law_no_word" Zbv ["pot","words"] fN fdN) (GN:Za0 P w K mg base CX0 3 fN fdN ["pot","words"] spNoWord):Za0 P w K mg base CX0 4 f fd ["pot","words","call"] spNoCall:=by
 refine F.fn.ok scNc (fun vs H Q E h=>?_) (fun cdv A outer s H vs Q E hr h=>?_)
 ·obtain ⟨p,lw,t,rows,n,xs,rfl,_⟩:=h
  rfl
 ·obtain ⟨p,lw,t,rows,n,xs,rfl,⟨o,hp,ho⟩,g,hw,ht,gc,n1,n4,q⟩:=h
  have nd:=scNc.nd
  have hr1:Zdp 1 _:=hr.mono (by decide)
  refine' ⟨_,(pS (Zah (i:=3) nd rfl (Or.inl rfl) (Zaf DT GT hr1 (pC (pv 0) (pC Zae Zaa))))
   (pS (Zah (i:=4) nd rfl (Or.inl rfl) (Zaf DT GT hr1 (pC (pv 0) (pC (Zag Zam (by rfl) len PySem.boot_len (pC (pv 2) Zaa)) Zaa))))
   (pS (Zah (i:=5) nd rfl (Or.inl rfl) (Zbc (r:=rIxL K) Zaw (pv 1) (Zaf DT GT hr1 (pC (pv 0) (pC (Zag Zam (by rfl) len PySem.boot_len (pC (pv 1) Zaa)) Zaa))) (fun _ _=>rfl)))
   (pS (Za5 (Zal Zc7 (pv 3) Zae (Zaq _)) (Zad (Zar (Zd1 (r:=rSlA K) sl_tupA (pv 2) Zeq (Zep (pe_un un_neg Zae))))) Zai)
   (pS (Za5 (Zal Zc7 (pv 3) Zae (Zaq _)) (Zad (Zar (Za8 op_catA (pv 2) (Zdw (pC (pv 5) Zaa))))) Zai)
   (pS (Za5 (Zal Zc7 (pv 3) Zae (Zaq _)) (Zad (Zar (Zdw Zaa))) Zai)
   (Zad (Zar (Za8 op_catA (Za8 op_catA (Zd1 (r:=rSlA K) sl_tupA (pv 2) Zeq (Zep (pv 4))) (Zdw (pC (Zaf DN GN hr (pC (pv 0) (pC (pv 1) Zaa))) Zaa))) (Zd1 (r:=rSlA K) sl_tupA (pv 2) (Zep (Za8 Zei (pv 4) Zae)) Zeq)))))))))),?_⟩
  have xl:=gc.len
  have gle:=g.le
  have gne:=g.ne
  have wl:(rows.map (·.1)).length=rows.length:=List.length_map ..
  have wp:lw≠p:=Ne.symm (Zdv hp ho hw)
  have tp:t≠p:=fun z=>by
   obtain ⟨_,_,e,_⟩:=id ho
   rw [z,hp,e] at ht
   cases ht
  have wok:WordsOk (rows.map (·.1)):=⟨fun x hx=>by
   obtain ⟨r,hr',rfl⟩:=List.mem_map.mp hx
   exact g.word r hr',g.nd⟩
  have xsh:∀ x∈xs,Shows x:=fun x hx=>isword_shows (wok.word x (gc.known x hx))
  refine ⟨_,rfl,p,4,o,rfl,hp,ho,by decide,by decide,fun way o1 w0 w4 ho1=>?_⟩
  have d1:Drawn p H (upd H p o1):=Drawn.upd ho1
  have hp1:(upd H p o1) p=some o1:=uS
  generalize upd H p o1=H1 at d1 hp1
  refine ⟨_,rfl,_,rfl,t,_,rfl,.inr (SqT.of (d1.keep _ _ tp ht)),p,_,o1,rfl,hp1,ho1,by rw [List.length_map];omega,by rw [List.length_map];omega,fun at_ o2 a0 a1 ho2=>?_⟩
  have d12:Drawn p H1 (upd H1 p o2):=Drawn.upd ho2
  have hp2:(upd H1 p o2) p=some o2:=uS
  generalize upd H1 p o2=H2 at d12 hp2
  have d2:=d1.trans d12
  rw [List.length_map] at a1
  refine ⟨_,rfl,_,rfl,_,rfl,lw,_,rfl,.inl (SqL.of (d2.keep _ _ wp hw)),p,_,o2,rfl,hp2,ho2,by rw [List.length_map];omega,by rw [List.length_map];omega,fun v3 o3 b0 b1 ho3=>?_⟩
  have d23:Drawn p H2 (upd H2 p o3):=Drawn.upd ho3
  have hp3:(upd H2 p o3) p=some o3:=uS
  generalize upd H2 p o3=H3 at d23 hp3
  have d3:=d2.trans d23
  obtain ⟨x,hx,hat⟩:=Zc8 b0 b1
  have ht3:=d3.keep _ _ tp ht
  have hw3:=d3.keep _ _ wp hw
  refine ⟨lw,_,_,_,rfl,rfl,SqL.of hw3,hat,?_⟩
  refine ⟨_,rfl,rfl,_,rfl,Zdy (fun _=>?_) (fun _=>?_)⟩
  ·refine ⟨_,rfl,_,rfl,_,rfl,rSlA_of ht3 fun t4 H4 s4 h4=>?_⟩
   have xne:xs.map V.str≠[]:=fun z=>by rw [List.map_eq_nil_iff] at z;rw [z] at xl;simp at xl;omega
   rw [cut_lastG _ xne,← List.map_dropLast] at h4
   exact q t4 xs.dropLast H4 (d3.same s4) h4 (callB_len (by rw [List.length_dropLast];omega)) (by rw [List.length_dropLast];omega) fun y hy=>xsh y (List.dropLast_subset _ hy)
  refine ⟨_,rfl,rfl,_,rfl,Zdy (fun _=>?_) (fun _=>?_)⟩
  ·refine ⟨_,rfl,_,rfl,sL (by show 1≤100000;decide),fun t4 ht4=>?_⟩
   have s4:Zan H3 (upd H3 t4 (.tup [.str x])):=Zcn ht4
   have h44:(upd H3 t4 (.tup [.str x])) t4=some (.tup [.str x]):=uS
   generalize upd H3 t4 (.tup [.str x])=H4 at s4 h44
   refine rCatA_of (s4 _ _ ht3) h44 (sL (by rw [List.length_map];show _ + 1≤100000;omega)) fun t5 H5 s5 h5=>?_
   refine q t5 (xs++[x]) H5 (d3.same (s4.trans s5)) (by rw [h5,List.map_append];rfl) (callB_len (by rw [List.length_append];show _ + 1≠_;omega)) (by rw [List.length_append];show _ + 1≤_;omega) fun y hy=>?_
   rcases List.mem_append.mp hy with z | z
   ·exact xsh y z
   ·rw [List.mem_singleton.mp z];exact isword_shows (wok.word x hx)
  refine ⟨_,rfl,rfl,_,rfl,Zdy (fun _=>?_) (fun _=>?_)⟩
  ·refine ⟨Nat.zero_le _,fun t4 ht4=>?_⟩
   exact q t4 [] _ (d3.same (Zcn ht4)) uS (callB_len (by show 0≠n;omega)) (by show 0≤100;omega) fun y hy=>nomatch hy
  ·refine ⟨_,rfl,_,rfl,_,rfl,rSlA_of ht3 fun t4 H4 s4 h4=>?_⟩
   obtain ⟨zs1,e1,sub1,len1⟩:=cut_strs xs none (some at_)
   rw [e1] at h4
   have d4:=d3.same s4
   refine ⟨_,rfl,_,rfl,p,lw,_,rfl,d4.pot,s4 _ _ hw3,wok,by omega,fun y H5 d5 sy ny=>?_⟩
   have d05:=d4.trans d5
   obtain ⟨o4,hp4,ho4⟩:=id d4.pot
   have h45:=Drawn.tup d5 hp4 ho4 h4
   have ht5:=d05.keep _ _ tp ht
   refine ⟨sL (by show 1≤100000;decide),fun t6 ht6=>?_⟩
   have s6:Zan H5 (upd H5 t6 (.tup [.str y])):=Zcn ht6
   have h66:(upd H5 t6 (.tup [.str y])) t6=some (.tup [.str y]):=uS
   generalize upd H5 t6 (.tup [.str y])=H6 at s6 h66
   refine rCatA_of (s6 _ _ h45) h66 (sL (by rw [List.length_map];show _ + 1≤100000;omega)) fun t7 H7 s7 h7=>?_
   have s57:=s6.trans s7
   refine ⟨_,rfl,_,rfl,_,_,rfl,rfl,_,rfl,?_⟩
   dsimp only [tNoPart]
   refine rSlA_of (s57 _ _ ht5) fun t8 H8 s8 h8=>?_
   obtain ⟨zs2,e2,sub2,len2⟩:=cut_strs xs (some (at_ + 1)) none
   rw [e2] at h8
   refine rCatA_of (s8 _ _ h7) h8 (sL (by rw [List.length_append,List.length_map,List.length_map];show _ + 1 + _≤100000;omega)) fun t9 H9 s9 h9=>?_
   refine q t9 (zs1++[y]++zs2) H9 (d05.same (s57.trans (s8.trans s9))) (by rw [h9,List.map_append,List.map_append];rfl) (callB_not (y:=y) (by simp) ny) (by rw [List.length_append,List.length_append];show _ + 1 + _≤100;omega) fun z hz=>?_
   rcases List.mem_append.mp hz with c | c
   ·rcases List.mem_append.mp c with c | c
    ·exact xsh z (sub1 z c)
    ·rw [List.mem_singleton.mp c];exact sy
   ·exact xsh z (sub2 z c)
end
end K23
namespace K23
open PySem L2 Md
theorem paired_setU {α β:Type}{R:α→β→Prop}{a:α}{b:β}(h:R a b):∀ {l:List α}{m:List β}(k:Nat),Paired R l m→Paired R (l.set k a) (m.set k b)
 | _,_,_,.nil=>.nil
 | _,_,0,.cons _ r=>.cons h r
 | _,_,k + 1,.cons x r=>.cons x (paired_setU h k r)
theorem paired_eraseU {α β:Type}{R:α→β→Prop}:∀ {l:List α}{m:List β}(k:Nat),Paired R l m→Paired R (l.eraseIdx k) (m.eraseIdx k)
 | _,_,_,.nil=>.nil
 | _,_,0,.cons _ r=>r
 | _,_,k + 1,.cons h r=>.cons h (paired_eraseU k r)
theorem paired_insU {α β:Type}{R:α→β→Prop}{a:α}{b:β}(h:R a b):∀ {l:List α}{m:List β}(k:Nat),Paired R l m→Paired R (l.take k++a :: l.drop k) (m.take k++b :: m.drop k)
 | _,_,0,r=>.cons h r
 | _,_,k + 1,.nil=>.cons h .nil
 | _,_,k + 1,.cons x r=>.cons x (paired_insU h k r)
def LstsF (lo ll:Addr) (H:Hp) (cs:List (List Str)) (vs:List V):Prop:=Paired (fun c v=>∃ t,v=.ref t∧t≠lo∧t≠ll∧H t=some (.lst (c.map V.str))) cs vs
theorem LstsF.drawn {lo ll p:Addr}{H H':Hp}{o:HO}{cs:List (List Str)}{vs:List V}(h:LstsF lo ll H cs vs) (hp:H p=some o) (ho:PotO o) (d:Drawn p H H'):LstsF lo ll H' cs vs:=Paired.mapP h fun _ _ ⟨t,e,n1,n2,h⟩=>⟨t,e,n1,n2,d.keep _ _ (Ne.symm (Zdv hp ho h)) h⟩
theorem LstsF.mono {lo ll:Addr}{H H':Hp}{cs:List (List Str)}{vs:List V}(h:LstsF lo ll H cs vs) (s:Zan H H'):LstsF lo ll H' cs vs:=Paired.mapP h fun _ _ ⟨t,e,n1,n2,h⟩=>⟨t,e,n1,n2,s _ _ h⟩
theorem LstsF.of {lo ll:Addr}{H:Hp}{cs:List (List Str)}{vs:List V}(h:LstsF lo ll H cs vs):Lsts H cs vs:=Paired.mapP h fun _ _ ⟨t,e,_,_,h⟩=>⟨t,e,h⟩
def spTurned:Sp:=fun vs H Q _=>∃ (p lw aa lu:Addr) (rows:List (Str×List Str)) (avs:List (Key×V)) (n:Nat) (ord:List Int) (cs:List (List Str)),vs=[.ref p,.ref lw,.ref aa,.ref lu]∧(∃ o,H p=some o∧PotO o)∧Zd7 rows∧H lw=some (.lst ((rows.map (·.1)).map V.str))∧H aa=some (.dK avs)∧Zcs H rows rows avs∧LUAtN p H lu ord cs∧LUW (rows.map (·.1)) n ord cs∧1≤n∧n≤4 ∧
 ∀ l2 ord' cs' H',Drawn p H H'→LUAtN p H' l2 ord' cs'→LUOk ord' cs'→Q (.ref l2) H'
def MidT (H:Hp) (p lw aa lu:Addr) (ord:List Int) (cs:List (List Str)) (way at_ oth:Int) (i:Int) (σ:St) (H':Hp):Prop :=
 ∃ (lo ll:Addr) (ord':List Int) (cs':List (List Str)) (vs:List V),σ=[some (.ref p),some (.ref lw),some (.ref aa),some (.ref lu),some (.ref lo),some (.ref ll),some (.int way),some (.int at_),some (.int oth)]∧Drawn p H H'∧H lo=none∧H ll=none∧lo≠ll∧H' lo=some (.lst (ord'.map V.int))∧H' ll=some (.lst vs)∧LstsF lo ll H' cs' vs∧LUOk ord' cs'∧(i<way→ord'=ord∧cs'=cs)
theorem at_ints1 {ls:List Int}{v:Int} (h0:0≤v) (h1:v<ls.length):∃ z,atI (ls.map V.int) v=some (.int z):=by
 have hl:v.toNat<ls.length:=by omega
 refine ⟨ls[v.toNat],?_⟩
 have e:((v.toNat:Nat):Int)=v:=by omega
 have:=Zdh (xs:=ls.map V.int) (j:=v.toNat) (v:=.int ls[v.toNat]) (by rw [List.getElem?_map,List.getElem?_eq_getElem hl];rfl)
 rw [e] at this
 exact this
theorem ix_any {xs:List V}{v:Int}{n:Nat}(hn:xs.length=n) (h0:0≤v) (h1:v<n):ixN xs.length v=some v.toNat:=by
 unfold ixN
 rw [if_pos h0,hn,if_pos h1]
theorem at_any {xs:List V}{v:Int}{x:V} (h0:0≤v) (h:xs[v.toNat]?=some x):atI xs v=some x:=by
 have e:((v.toNat:Nat):Int)=v:=by omega
 have:=Zdh h
 rw [e] at this
 exact this
abbrev nTu:List Str:=["pot","words","above","lineup","order","lines","way","at","other"]
abbrev nTu4:List Str:=["pot","words","above","lineup"]
theorem scTu:Zap nTu nTu4 (Zab Zbl):=⟨rfl,rfl,rfl,by decide +kernel,rfl,by decide +kernel,by decide +kernel⟩
section
variable {P:Program} {w:World} {K:PySem.W.Frag} {mg:Str→Option Value} {base:Heap}
theorem ok_turned {f fT fS fL:Addr}{fd fdT fdS fdL:FuncData}(F:Def K mg "_law_turned" Zbl nTu4 f fd) (list:mg "list"=none) (len:mg "len"=none) (DT:Def K mg "_law_take" Zas ["pot","many"] fT fdT) (GT:Za0 P w K mg base CX0 1 fT fdT ["pot","many"] Zef)
  (DS:Def K mg "_law_spoilt" Zca ["pot","words","line"] fS fdS) (GS:Za0 P w K mg base CX0 3 fS fdS ["pot","words","line"] spSpoilt) (DL:Def K mg "_law_line" Zbb ["pot","above","word"] fL fdL) (GL:Za0 P w K mg base CX0 2 fL fdL ["pot","above","word"] spLine):Za0 P w K mg base CX0 4 f fd nTu4 spTurned:=by
 refine F.fn.ok scTu (fun vs H Q E h=>?_) (fun cdv A outer s H vs Q E hr h=>?_)
 ·obtain ⟨p,lw,aa,lu,rows,avs,n,ord,cs,rfl,_⟩:=h
  rfl
 ·obtain ⟨p,lw,aa,lu,rows,avs,n,ord,cs,rfl,⟨o,hp,ho⟩,g,hw,ha,hA,⟨lo0,ll0,vs0,n0,hlt,hlo0,hll0,hL0⟩,luw,n1,n4,q⟩:=h
  have nd:=scTu.nd
  have hr1:Zdp 1 _:=hr.mono (by decide)
  have hr2:Zdp 2 _:=hr.mono (by decide)
  refine' ⟨_,(pS (Zah (i:=4) nd rfl (Or.inl rfl) (Za9 Zcr (by rfl) list PyProof.Rows.boot_list (pC (Zbc (r:=rIxT K) Zdz (pv 3) Zae (fun _ _=>rfl)) Zaa)))
   (pS ?e1
   (pS (Zah (i:=6) nd rfl (Or.inl rfl) (Zaf DT GT hr1 (pC (pv 0) (pC Zae Zaa))))
   (pS (Zah (i:=7) nd rfl (Or.inl rfl) (Zaf DT GT hr1 (pC (pv 0) (pC (Zag Zam (by rfl) len PySem.boot_len (pC (pv 4) Zaa)) Zaa))))
   (pS (Zah (i:=8) nd rfl (Or.inl rfl) (Zaf DT GT hr1 (pC (pv 0) (pC (Zag Zam (by rfl) len PySem.boot_len (pC (pv 4) Zaa)) Zaa))))
   (Zbq (Za5 (Zal Zc7 (pv 6) Zae (Zaq _)) (Zad (ps_asg (Zbc (r:=rIxL K) Zaw (pv 4) (pv 8) (fun _ _=>rfl)) (pg_sub (pv 4) (pv 7) Zd0))) Zai)
   (Zbq (Za5 (Zal Zc7 (pv 6) Zae (Zaq _)) (Zad (Zbg (pe_bm PySem.F.plainAttrs_list PySem.F.slot_list_pop PySem.F.type_list_pop mt_popAt (pv 4) (pC (pv 7) Zaa)))) Zai)
   (Zbq (Za5 (Zal Zc7 (pv 6) Zae (Zaq _)) (Zad (Zbg (pe_bm PySem.F.plainAttrs_list PySem.F.slot_list_insert PySem.F.type_list_insert Zej (pv 4) (pC (pv 7) (pC (Zbc (r:=rIxL K) Zaw (Zcx (pC (Za8 op_sub Zae Zae) (pC (Zag Zam (by rfl) len PySem.boot_len (pC (pv 4) Zaa)) (pC (pv 8) Zaa)))) (Zaf DT GT hr1 (pC (pv 0) (pC Zae Zaa))) (fun _ _=>rfl)) Zaa))))) Zai)
   (Zbq (Za5 (Zal Zc7 (pv 6) Zae (Zaq _)) (Zad (Zbg (pe_bm PySem.F.plainAttrs_list PySem.F.slot_list_pop PySem.F.type_list_pop mt_popAt (pv 5) (pC (pv 7) Zaa)))) Zai)
   (Zbq (Za5 (Zal Zc7 (pv 6) Zae (Zaq _)) (Zad (Zbg (pe_bm PySem.F.plainAttrs_list PySem.F.slot_list_insert PySem.F.type_list_insert Zej (pv 5) (pC (pv 7) (pC (Za9 Zcr (by rfl) list PyProof.Rows.boot_list (pC (Zbc (r:=rIxL K) Zaw (pv 5) (pv 8) (fun _ _=>rfl)) Zaa)) Zaa))))) Zai)
   (Zbq (Za5 (Zal Zc7 (pv 6) Zae (Zaq _)) (Zad (ps_asg (Zaf DS GS hr (pC (pv 0) (pC (pv 1) (pC (Zbc (r:=rIxL K) Zaw (pv 5) (pv 7) (fun _ _=>rfl)) Zaa)))) (pg_sub (pv 5) (pv 7) Zd0))) Zai)
   (Zbq (Za5 (Zal Zc7 (pv 6) Zae (Zaq _)) (Zad (ps_asg (Zaf DL GL hr2 (pC (pv 0) (pC (pv 2) (pC (Zbc (r:=rIxL K) Zaw (pv 1) (Zaf DT GT hr1 (pC (pv 0) (pC (Zag Zam (by rfl) len PySem.boot_len (pC (pv 1) Zaa)) Zaa))) (fun _ _=>rfl)) Zaa)))) (pg_sub (pv 5) (pv 7) Zd0))) Zai)
   (Zbq (Za5 (Zal Zc7 (pv 6) Zae (Zaq _)) (Zad (ps_asg (Zbc (r:=rIxL K) Zaw (Zcx (pC (Za8 op_sub Zae Zae) (pC (Zag Zam (by rfl) len PySem.boot_len (pC (pv 4) Zaa)) Zaa))) (Zaf DT GT hr1 (pC (pv 0) (pC Zae Zaa))) (fun _ _=>rfl)) (pg_sub (pv 4) (pv 7) Zd0))) Zai)
   (Zad (Zar (Zdw (pC (pv 4) (pC (pv 5) Zaa)))))))))))))))))),?_⟩
  case e1=>exact (Zeh (k:=5) ["line"] [] [] nd rfl rfl (fun _=>Zay (osc:=Zab Zbl) (on:=nTu) (by decide +kernel) rfl rfl rfl) (Zcw (Zbc (r:=rIxT K) Zdz (pv 3) Zae (fun _ _=>rfl))) (fun C s H fp=>Zaj (i:=0) nd_line1 rfl (Or.inl rfl) (Or.inr rfl)) (fun C s H fp=>Zb2) (fun C s H fp=>Za9 (r:=rListK K) Zcr (by rfl) list PyProof.Rows.boot_list (pC (pv 0) Zaa)))
  have gle:=g.le
  have gne:=g.ne
  have wl:(rows.map (·.1)).length=rows.length:=List.length_map ..
  have wp:lw≠p:=Ne.symm (Zdv hp ho hw)
  have ap:aa≠p:=fun z=>by
   obtain ⟨_,_,e,_⟩:=id ho
   rw [z,hp,e] at ha
   cases ha
  have wok:WordsOk (rows.map (·.1)):=⟨fun x hx=>by
   obtain ⟨r,hr',rfl⟩:=List.mem_map.mp hx
   exact g.word r hr',g.nd⟩
  have ol:=luw.olen
  have cl:=luw.clen
  have txt0:∀ c∈cs,Zeb c∧c.length<64:=fun c hc=>by
   obtain ⟨_,h24,hk⟩:=luw.line c hc
   exact ⟨fun z hz=>Zem (wok.word z (hk z hz)),by omega⟩
  refine ⟨_,rfl,lu,_,_,_,rfl,rfl,SqT.of hlt,rfl,lo0,_,rfl,.inl (SqL.of hlo0),fun lo hlo=>?_⟩
  have s1:Zan H (upd H lo (.lst (ord.map V.int))):=Zcn hlo
  have h11:(upd H lo (.lst (ord.map V.int))) lo=some (.lst (ord.map V.int)):=uS
  generalize upd H lo (.lst (ord.map V.int))=H1 at s1 h11
  have lop:lo≠p:=Ne.symm (nNo hp hlo)
  refine ⟨_,rfl,lu,_,_,_,rfl,rfl,SqT.of (s1 _ _ hlt),rfl,ll0,rfl,⟨_,SqL.of (s1 _ _ hll0)⟩,lines_comp (s1 _ _ hll0) (hL0.mono s1) (by omega) (fun t ys H' R ht hR=>⟨_,rfl,t,_,rfl,.inl (SqL.of ht),hR⟩) fun ll H2 hs hll s2 hh2 pr=>?_⟩
  have fll:H ll=none:=s1.free hll
  have nll:lo≠ll:=nNo h11 hll
  have L2:LstsF lo ll H2 cs hs:=Paired.mapP pr fun c v ⟨b,e,nb,fb,hb⟩=>⟨b,e,Ne.symm (nNo h11 fb),nb,hb⟩
  have s12:=s1.trans s2
  have hp2:=s12 _ _ hp
  have lo2:=s2 _ _ h11
  refine ⟨_,rfl,p,9,o,rfl,hp2,ho,by decide,by decide,fun way o3 w0 w9 ho3=>?_⟩
  have d23:Drawn p H2 (upd H2 p o3):=Drawn.upd ho3
  have hp3:(upd H2 p o3) p=some o3:=uS
  generalize upd H2 p o3=H3 at d23 hp3
  have lo3:=d23.keep _ _ lop lo2
  refine ⟨_,rfl,_,rfl,lo,_,rfl,.inl (SqL.of lo3),p,_,o3,rfl,hp3,ho3,by rw [List.length_map];omega,by rw [List.length_map];omega,fun at_ o4 a0 a1 ho4=>?_⟩
  have d34:Drawn p H3 (upd H3 p o4):=Drawn.upd ho4
  have hp4:(upd H3 p o4) p=some o4:=uS
  generalize upd H3 p o4=H4 at d34 hp4
  have lo4:=d34.keep _ _ lop lo3
  refine ⟨_,rfl,_,rfl,lo,_,rfl,.inl (SqL.of lo4),p,_,o4,rfl,hp4,ho4,by rw [List.length_map];omega,by rw [List.length_map];omega,fun oth o5 b0 b1 ho5=>?_⟩
  have d45:Drawn p H4 (upd H4 p o5):=Drawn.upd ho5
  have hp5:(upd H4 p o5) p=some o5:=uS
  generalize upd H4 p o5=H5 at d45 hp5
  rw [List.length_map,ol] at a1 b1
  have d25:=(d23.trans d34).trans d45
  have M0:MidT H p lw aa lu ord cs way at_ oth 0 [some (.ref p),some (.ref lw),some (.ref aa),some (.ref lu),some (.ref lo),some (.ref ll),some (.int way),some (.int at_),some (.int oth)] H5 :=
   ⟨lo,ll,ord,cs,hs,rfl,⟨fun b u hb e=>d25.keep b u hb (s12 _ _ e),d25.pot⟩,hlo,fll,nll,d25.keep _ _ lop lo2,d25.keep _ _ (Ne.symm (nNo hp fll)) hh2,L2.drawn hp2 ho d25,⟨by omega,by omega,txt0⟩,fun _=>⟨rfl,rfl⟩⟩
  clear d25 d45 d34 d23 hp5 hp4 hp3 lo4 lo3 lo2 hp2 L2 nll fll hh2 s2 hll pr s12 h11 s1 lop hlo
  have putO:∀ {lo ll:Addr} {H':Hp} {vs:List V} {ord' ord'':List Int} {cs':List (List Str)} {j:Int},Drawn p H H'→H lo=none→H ll=none→lo≠ll→H' ll=some (.lst vs)→LstsF lo ll H' cs' vs→LUOk ord' cs'→ord''.length≤10→¬ (j<way)→MidT H p lw aa lu ord cs way at_ oth j [some (.ref p),some (.ref lw),some (.ref aa),some (.ref lu),some (.ref lo),some (.ref ll),some (.int way),some (.int at_),some (.int oth)] (upd H' lo (.lst (ord''.map V.int))):=fun {lo ll H' vs ord' ord'' cs' j} d fo fl ne hl L ok le im=>by
   obtain ⟨oz,hpz,hoz⟩:=d.pot
   exact ⟨lo,ll,ord'',cs',vs,rfl,⟨fun b u hb e=>by rw [Zac (nNo e fo)];exact d.keep b u hb e,oz,by rw [Zac (nNo hp fo)];exact hpz,hoz⟩,fo,fl,ne,uS,by rw [Zac (Ne.symm ne)];exact hl,Paired.mapP L fun c v ⟨t,e,t1,t2,h⟩=>⟨t,e,t1,t2,by rw [Zac t1];exact h⟩,⟨le,ok.fewL,ok.txt⟩,fun z=>absurd z im⟩
  have putL:∀ {lo ll:Addr} {H':Hp} {vs'':List V} {ord':List Int} {cs' cs'':List (List Str)} {j:Int},Drawn p H H'→H lo=none→H ll=none→lo≠ll→H' lo=some (.lst (ord'.map V.int))→LstsF lo ll H' cs'' vs''→LUOk ord' cs''→¬ (j<way)→MidT H p lw aa lu ord cs way at_ oth j [some (.ref p),some (.ref lw),some (.ref aa),some (.ref lu),some (.ref lo),some (.ref ll),some (.int way),some (.int at_),some (.int oth)] (upd H' ll (.lst vs'')):=fun {lo ll H' vs'' ord' cs' cs'' j} d fo fl ne hl L ok im=>by
   obtain ⟨oz,hpz,hoz⟩:=d.pot
   exact ⟨lo,ll,ord',cs'',vs'',rfl,⟨fun b u hb e=>by rw [Zac (nNo e fl)];exact d.keep b u hb e,oz,by rw [Zac (nNo hp fl)];exact hpz,hoz⟩,fo,fl,ne,by rw [Zac ne];exact hl,uS,Paired.mapP L fun c v ⟨t,e,t1,t2,h⟩=>⟨t,e,t1,t2,by rw [Zac t2];exact h⟩,ok,fun z=>absurd z im⟩
  have eqi:∀ {m:Int},decide (V.int way=V.int m)=true→way=m:=fun h=>by
   have:=of_decide_eq_true h
   injection this
  have nei:∀ {m:Int},¬ decide (V.int way=V.int m)=true→way≠m:=fun h z=>h (decide_eq_true (by rw [z]))
  obtain ⟨lo,ll,ord',cs',vs,e0,d,fo,fl,ne,hlo,hll,L,ok,im⟩:=M0
  cases e0
  refine ⟨MidT H p lw aa lu ord cs way at_ oth 1,?_,?_⟩
  ·refine ⟨_,rfl,rfl,_,rfl,Zdy (fun e=>?_) (fun nn=>⟨lo,ll,ord',cs',vs,rfl,d,fo,fl,ne,hlo,hll,L,ok,fun z=>im (by have:=nei nn;omega)⟩)⟩
   have e:=eqi e
   obtain ⟨e1,e2⟩:=im (by omega)
   subst e1 e2
   obtain ⟨zb,hatb⟩:=at_ints1 (ls:=ord') b0 (by omega)
   refine ⟨_,rfl,_,rfl,lo,_,_,_,rfl,rfl,SqL.of hlo,hatb,_,rfl,_,rfl,lo,_,_,_,rfl,rfl,hlo,ix_any (n:=n) (by rw [List.length_map];exact ol) a0 a1,?_⟩
   rw [show (ord'.map V.int).set at_.toNat (.int zb)=(ord'.set at_.toNat zb).map V.int from by rw [List.map_set]]
   exact putO (j:=1) d fo fl ne hll L ok (by rw [List.length_set];omega) (by omega)
  clear hlo hll L ok im d fo fl ne
  rintro σ' H7 ⟨lo,ll,ord',cs',vs,rfl,d,fo,fl,ne,hlo,hll,L,ok,im⟩
  refine ⟨MidT H p lw aa lu ord cs way at_ oth 2,?_,?_⟩
  ·refine ⟨_,rfl,rfl,_,rfl,Zdy (fun e=>?_) (fun nn=>⟨lo,ll,ord',cs',vs,rfl,d,fo,fl,ne,hlo,hll,L,ok,fun z=>im (by have:=nei nn;omega)⟩)⟩
   have e:=eqi e
   obtain ⟨e1,e2⟩:=im (by omega)
   subst e1 e2
   have hi:at_.toNat<ord'.length:=by omega
   refine ⟨_,rfl,.inl ⟨rfl,_,SqL.of hlo⟩,_,rfl,lo,_,_,at_.toNat,.int ord'[at_.toNat],rfl,rfl,hlo,by omega,by omega,(ixN_seq (ix_any (n:=n) (by rw [List.length_map];exact ol) a0 a1)).1,by rw [List.getElem?_map,List.getElem?_eq_getElem hi];rfl,?_⟩
   rw [erase_map]
   exact putO (j:=2) d fo fl ne hll L ok (by have:=List.length_eraseIdx_le ord' at_.toNat;omega) (by omega)
  rintro σ' H7 ⟨lo,ll,ord',cs',vs,rfl,d,fo,fl,ne,hlo,hll,L,ok,im⟩
  refine ⟨MidT H p lw aa lu ord cs way at_ oth 3,?_,?_⟩
  ·refine ⟨_,rfl,rfl,_,rfl,Zdy (fun e=>?_) (fun nn=>⟨lo,ll,ord',cs',vs,rfl,d,fo,fl,ne,hlo,hll,L,ok,fun z=>im (by have:=nei nn;omega)⟩)⟩
   have e:=eqi e
   obtain ⟨e1,e2⟩:=im (by omega)
   subst e1 e2
   have lop:lo≠p:=Ne.symm (nNo hp fo)
   refine ⟨_,rfl,.inl ⟨rfl,_,SqL.of hlo⟩,_,rfl,_,_,rfl,rfl,_,rfl,lo,_,rfl,.inl (SqL.of hlo),_,rfl,sL (by show 3≤100000;decide),fun l8 hl8=>?_⟩
   have s8:=Zcn (o:=.lst [.int (0 - 1),.int ((ord'.map V.int).length:Nat),.int oth]) hl8
   have h88:(upd H7 l8 (.lst [.int (0 - 1),.int ((ord'.map V.int).length:Nat),.int oth])) l8=some (.lst ([(0 - 1:Int),((ord'.map V.int).length:Nat),oth].map V.int)):=uS
   generalize upd H7 l8 (.lst [.int (0 - 1),.int ((ord'.map V.int).length:Nat),.int oth])=H8 at s8 h88
   obtain ⟨o7,hp7,ho7⟩:=id d.pot
   have hp8:=s8 _ _ hp7
   refine ⟨_,rfl,p,3,o7,rfl,hp8,ho7,by decide,by decide,fun v9 o9 v90 v91 ho9=>?_⟩
   have d9:Drawn p H8 (upd H8 p o9):=Drawn.upd ho9
   generalize upd H8 p o9=H9 at d9
   have l8p:l8≠p:=Ne.symm (nNo hp7 hl8)
   obtain ⟨zv,hatv⟩:=at_ints1 (ls:=[(0 - 1:Int),((ord'.map V.int).length:Nat),oth]) v90 (by show v9<3;exact v91)
   have hlo9:=d9.keep _ _ lop (s8 _ _ hlo)
   refine ⟨l8,_,_,_,rfl,rfl,SqL.of (d9.keep _ _ l8p h88),hatv,lo,_,_,_,rfl,rfl,hlo9,a0,by rw [List.length_map];omega,Za7 (by rw [List.length_map];omega),?_⟩
   rw [show (ord'.map V.int).take at_.toNat++V.int zv :: (ord'.map V.int).drop at_.toNat=(ord'.take at_.toNat++zv :: ord'.drop at_.toNat).map V.int from by rw [List.map_append,List.map_cons,List.map_take,List.map_drop]]
   have d09:=(d.same s8).trans d9
   exact putO (j:=3) d09 fo fl ne (d9.keep _ _ (Ne.symm (nNo hp fl)) (s8 _ _ hll)) ((L.mono s8).drawn hp8 ho7 d9) ok (by rw [List.length_append,List.length_cons,List.length_take,List.length_drop];omega) (by omega)
  rintro σ' H7 ⟨lo,ll,ord',cs',vs,rfl,d,fo,fl,ne,hlo,hll,L,ok,im⟩
  refine ⟨MidT H p lw aa lu ord cs way at_ oth 4,?_,?_⟩
  ·refine ⟨_,rfl,rfl,_,rfl,Zdy (fun e=>?_) (fun nn=>⟨lo,ll,ord',cs',vs,rfl,d,fo,fl,ne,hlo,hll,L,ok,fun z=>im (by have:=nei nn;omega)⟩)⟩
   have e:=eqi e
   obtain ⟨e1,e2⟩:=im (by omega)
   subst e1 e2
   have vl:=Paired.length L
   have hi:at_.toNat<vs.length:=by omega
   refine ⟨_,rfl,.inl ⟨rfl,_,SqL.of hll⟩,_,rfl,ll,_,_,at_.toNat,vs[at_.toNat],rfl,rfl,hll,by omega,by omega,(ixN_seq (ix_any (n:=n) (by omega) a0 a1)).1,List.getElem?_eq_getElem hi,?_⟩
   exact putL (j:=4) (cs':=cs') d fo fl ne hlo (paired_eraseU _ L) ⟨ok.few,by have:=List.length_eraseIdx_le cs' at_.toNat;have:=ok.fewL;omega,fun c hc=>ok.txt c (List.mem_of_mem_eraseIdx hc)⟩ (by omega)
  rintro σ' H7 ⟨lo,ll,ord',cs',vs,rfl,d,fo,fl,ne,hlo,hll,L,ok,im⟩
  refine ⟨MidT H p lw aa lu ord cs way at_ oth 5,?_,?_⟩
  ·refine ⟨_,rfl,rfl,_,rfl,Zdy (fun e=>?_) (fun nn=>⟨lo,ll,ord',cs',vs,rfl,d,fo,fl,ne,hlo,hll,L,ok,fun z=>im (by have:=nei nn;omega)⟩)⟩
   have e:=eqi e
   obtain ⟨e1,e2⟩:=im (by omega)
   subst e1 e2
   have vl:=Paired.length L
   have hi:oth.toNat<vs.length:=by omega
   obtain ⟨c,hc,tc,ec,tc1,tc2,htc⟩:=Zba L (List.getElem?_eq_getElem hi)
   have hat:=at_any b0 (List.getElem?_eq_getElem hi)
   rw [ec] at hat
   refine ⟨_,rfl,.inl ⟨rfl,_,SqL.of hll⟩,_,rfl,_,rfl,_,rfl,ll,_,_,_,rfl,rfl,SqL.of hll,hat,tc,_,rfl,.inl (SqL.of htc),fun l8 hl8=>?_⟩
   have s8:Zan H7 (upd H7 l8 (.lst (c.map V.str))):=Zcn hl8
   have h88:(upd H7 l8 (.lst (c.map V.str))) l8=some (.lst (c.map V.str)):=uS
   generalize upd H7 l8 (.lst (c.map V.str))=H8 at s8 h88
   refine ⟨ll,_,_,_,rfl,rfl,s8 _ _ hll,a0,by omega,Za7 (by omega),?_⟩
   exact putL (j:=5) (cs':=cs') (d.same s8) fo fl ne (s8 _ _ hlo) (paired_insU ⟨l8,rfl,Ne.symm (nNo hlo hl8),Ne.symm (nNo hll hl8),h88⟩ _ (L.mono s8)) ⟨ok.few,by rw [List.length_append,List.length_cons,List.length_take,List.length_drop];omega,fun c' hc'=>by
    rcases List.mem_append.mp hc' with z | z
    ·exact ok.txt c' (List.mem_of_mem_take z)
    ·rcases List.mem_cons.mp z with z | z
     ·rw [z];exact ok.txt c (List.mem_of_getElem? hc)
     ·exact ok.txt c' (List.mem_of_mem_drop z)⟩ (by omega)
  rintro σ' H7 ⟨lo,ll,ord',cs',vs,rfl,d,fo,fl,ne,hlo,hll,L,ok,im⟩
  have setok:∀ {cs':List (List Str)} {c:List Str} (j:Nat),LUOk ord' cs'→Zeb c→c.length<64→LUOk ord' (cs'.set j c):=fun {cs' c} j ok h1 h2=>⟨ok.few,by rw [List.length_set];exact ok.fewL,fun c' hc'=>by
   rcases List.mem_or_eq_of_mem_set hc' with z | z
   ·exact ok.txt c' z
   ·rw [z];exact ⟨h1,h2⟩⟩
  refine ⟨MidT H p lw aa lu ord cs way at_ oth 6,?_,?_⟩
  ·refine ⟨_,rfl,rfl,_,rfl,Zdy (fun e=>?_) (fun nn=>⟨lo,ll,ord',cs',vs,rfl,d,fo,fl,ne,hlo,hll,L,ok,fun z=>im (by have:=nei nn;omega)⟩)⟩
   have e:=eqi e
   obtain ⟨e1,e2⟩:=im (by omega)
   subst e1 e2
   have vl:=Paired.length L
   have lop:lo≠p:=Ne.symm (nNo hp fo)
   have llp:ll≠p:=Ne.symm (nNo hp fl)
   have hi:at_.toNat<vs.length:=by omega
   obtain ⟨c,hc,tc,ec,tc1,tc2,htc⟩:=Zba L (List.getElem?_eq_getElem hi)
   have hat:=at_any a0 (List.getElem?_eq_getElem hi)
   rw [ec] at hat
   obtain ⟨lc1,lc24,lck⟩:=luw.line c (List.mem_of_getElem? hc)
   obtain ⟨o7,hp7,ho7⟩:=id d.pot
   refine ⟨_,rfl,_,rfl,_,rfl,_,rfl,ll,_,_,_,rfl,rfl,SqL.of hll,hat,p,lw,tc,_,c,rfl,d.pot,d.keep _ _ wp hw,wok,by omega,by omega,htc,(ok.txt c (List.mem_of_getElem? hc)).1,lc1,lc24,fun lm ls' H8 d8 flm hlm okm lem=>?_⟩
   refine ⟨_,rfl,_,rfl,ll,_,_,_,rfl,rfl,d8.keep _ _ llp hll,ix_any (n:=n) (by omega) a0 a1,?_⟩
   exact putL (j:=6) (cs':=cs') (d.trans d8) fo fl ne (d8.keep _ _ lop hlo) (paired_setU ⟨lm,rfl,Ne.symm (nNo hlo flm),Ne.symm (nNo hll flm),hlm⟩ _ (L.drawn hp7 ho7 d8)) (setok _ ok okm (by omega)) (by omega)
  rintro σ' H7 ⟨lo,ll,ord',cs',vs,rfl,d,fo,fl,ne,hlo,hll,L,ok,im⟩
  refine ⟨MidT H p lw aa lu ord cs way at_ oth 7,?_,?_⟩
  ·refine ⟨_,rfl,rfl,_,rfl,Zdy (fun e=>?_) (fun nn=>⟨lo,ll,ord',cs',vs,rfl,d,fo,fl,ne,hlo,hll,L,ok,fun z=>im (by have:=nei nn;omega)⟩)⟩
   have e:=eqi e
   obtain ⟨e1,e2⟩:=im (by omega)
   subst e1 e2
   have vl:=Paired.length L
   have lop:lo≠p:=Ne.symm (nNo hp fo)
   have llp:ll≠p:=Ne.symm (nNo hp fl)
   obtain ⟨o7,hp7,ho7⟩:=id d.pot
   have hw7:=d.keep _ _ wp hw
   refine ⟨_,rfl,_,rfl,_,rfl,_,rfl,_,rfl,lw,_,rfl,.inl (SqL.of hw7),p,_,o7,rfl,hp7,ho7,by rw [List.length_map];omega,by rw [List.length_map];omega,fun v8 o8 v80 v81 ho8=>?_⟩
   have d8:Drawn p H7 (upd H7 p o8):=Drawn.upd ho8
   generalize upd H7 p o8=H8 at d8
   obtain ⟨x,hx,hat⟩:=Zc8 v80 v81
   have d08:=d.trans d8
   refine ⟨lw,_,_,_,rfl,rfl,SqL.of (d8.keep _ _ wp hw7),hat,p,aa,rows,avs,x,rfl,d8.pot,g,d08.keep _ _ ap ha,above_drawn hA hp ho d08,hx,fun l9 ls9 H9 d9 fl9 hl9 k9 l91 l924=>?_⟩
   have d79:=d8.trans d9
   refine ⟨_,rfl,_,rfl,ll,_,_,_,rfl,rfl,d79.keep _ _ llp hll,ix_any (n:=n) (by omega) a0 a1,?_⟩
   have f9:H7 l9=none:=drawn_free d8 fl9
   exact putL (j:=7) (cs':=cs') (d.trans d79) fo fl ne (d79.keep _ _ lop hlo) (paired_setU ⟨l9,rfl,Ne.symm (nNo hlo f9),Ne.symm (nNo hll f9),hl9⟩ _ (L.drawn hp7 ho7 d79)) ⟨ok.few,by rw [List.length_set];exact ok.fewL,fun c' hc'=>by
    rcases List.mem_or_eq_of_mem_set hc' with z | z
    ·exact ok.txt c' z
    ·rw [z];exact ⟨fun z hz=>Zem (wok.word z (k9 z hz)),by omega⟩⟩ (by omega)
  clear setok
  rintro σ' H7 ⟨lo,ll,ord',cs',vs,rfl,d,fo,fl,ne,hlo,hll,L,ok,im⟩
  refine ⟨MidT H p lw aa lu ord cs way at_ oth 8,?_,?_⟩
  ·refine ⟨_,rfl,rfl,_,rfl,Zdy (fun e=>?_) (fun nn=>⟨lo,ll,ord',cs',vs,rfl,d,fo,fl,ne,hlo,hll,L,ok,fun z=>im (by have:=nei nn;omega)⟩)⟩
   have e:=eqi e
   obtain ⟨e1,e2⟩:=im (by omega)
   subst e1 e2
   have lop:lo≠p:=Ne.symm (nNo hp fo)
   refine ⟨_,_,rfl,rfl,_,rfl,lo,_,rfl,.inl (SqL.of hlo),sL (by show 2≤100000;decide),fun l8 hl8=>?_⟩
   have s8:=Zcn (o:=.lst [.int (0 - 1),.int ((ord'.map V.int).length:Nat)]) hl8
   have h88:(upd H7 l8 (.lst [.int (0 - 1),.int ((ord'.map V.int).length:Nat)])) l8=some (.lst ([(0 - 1:Int),((ord'.map V.int).length:Nat)].map V.int)):=uS
   generalize upd H7 l8 (.lst [.int (0 - 1),.int ((ord'.map V.int).length:Nat)])=H8 at s8 h88
   obtain ⟨o7,hp7,ho7⟩:=id d.pot
   have hp8:=s8 _ _ hp7
   refine ⟨_,rfl,p,2,o7,rfl,hp8,ho7,by decide,by decide,fun v9 o9 v90 v91 ho9=>?_⟩
   have d9:Drawn p H8 (upd H8 p o9):=Drawn.upd ho9
   generalize upd H8 p o9=H9 at d9
   have l8p:l8≠p:=Ne.symm (nNo hp7 hl8)
   obtain ⟨zv,hatv⟩:=at_ints1 (ls:=[(0 - 1:Int),((ord'.map V.int).length:Nat)]) v90 (by show v9<2;exact v91)
   have hlo9:=d9.keep _ _ lop (s8 _ _ hlo)
   refine ⟨l8,_,_,_,rfl,rfl,SqL.of (d9.keep _ _ l8p h88),hatv,_,rfl,_,rfl,lo,_,_,_,rfl,rfl,hlo9,ix_any (n:=n) (by rw [List.length_map];exact ol) a0 a1,?_⟩
   rw [show (ord'.map V.int).set at_.toNat (.int zv)=(ord'.set at_.toNat zv).map V.int from by rw [List.map_set]]
   have d09:=(d.same s8).trans d9
   exact putO (j:=8) d09 fo fl ne (d9.keep _ _ (Ne.symm (nNo hp fl)) (s8 _ _ hll)) ((L.mono s8).drawn hp8 ho7 d9) ok (by rw [List.length_set];omega) (by omega)
  rintro σ' H7 ⟨lo,ll,ord',cs',vs,rfl,d,fo,fl,ne,hlo,hll,L,ok,im⟩
  refine ⟨_,rfl,_,rfl,sL (by show 2≤100000;decide),fun l2 hl2=>?_⟩
  have s9:Zan H7 (upd H7 l2 (.tup [.ref lo,.ref ll])):=Zcn hl2
  exact q l2 ord' cs' _ (d.same s9) ⟨lo,ll,vs,Ne.symm (nNo hp fo),uS,s9 _ _ hlo,s9 _ _ hll,(LstsF.of L).mono s9⟩ ok
end
end K23
namespace K23
open PySem L2 Md
def spCase (K:PySem.W.Frag):Sp:=fun vs H Q _=>∃ (a:Addr) (ns:List Int) (m:Nat),vs=[.ref a,.int m]∧SqL K H a (ns.map V.int)∧ns.length≤100∧1≤m∧m≤24 ∧
 ∀ (t l aa ld tc:Addr) (n:Nat) (rows:List (Str×List Str)) (avs:List (Key×V)) (ds:List (List Str)) (us:List V) (xs:List Str) (H':Hp),Zan H H'→H' t=some (.tup [.ref l,.ref aa,.int n,.ref ld,.ref tc])→Zd6 H' l rows→Zd7 rows→H' aa=some (.dK avs)→Zcs H' rows rows avs →
  1≤n→n≤4→H' ld=some (.lst us)→Zdq H' ds us→Zel rows n ds→ds.length≤24→H' tc=some (.tup (xs.map V.str))→Zdf rows n xs→Q (.ref t) H'
section
variable {P:Program} {w:World} {K:PySem.W.Frag} {mg:Str→Option Value} {base:Heap}
abbrev nCa:List Str:=["script","most","rows","above","pot","places","many","words","beside","deeds","call"]
theorem scCa:Zap nCa ["script","most"] (Zab Zb1):=⟨rfl,rfl,rfl,by decide +kernel,rfl,by decide +kernel,by decide +kernel⟩
theorem nd_kwb:(["k","words","beside"]:List Str).Nodup:=by decide +kernel
theorem ok_case {f fR fP fT fA fDe:Addr}{fd fdR fdP fdT fdA fdDe:FuncData}(F:Def K mg "_law_case" Zb1 ["script","most"] f fd) (len:mg "len"=none) (range:mg "range"=none) (list:mg "list"=none) (tuple:mg "tuple"=none)
  (DR:Def K mg "_law_rows" Zch ["pot","most"] fR fdR) (GR:Za0 P w K mg base CX0 4 fR fdR ["pot","most"] spRowsL) (DP:Def K mg "_law_pot" Zc6 ["script","k"] fP fdP) (GP:Za0 P w K mg base CX0 1 fP fdP ["script","k"] (spPot K))
  (DT:Def K mg "_law_take" Zas ["pot","many"] fT fdT) (GT:Za0 P w K mg base CX0 1 fT fdT ["pot","many"] Zef) (DA:Def K mg "_law_above" Zcb ["rows"] fA fdA) (GA:Za0 P w K mg base CX0 1 fA fdA ["rows"] spLAbove)
  (DDe:Def K mg "_law_deeds" Zbx ["pot","rows","above","places","most"] fDe fdDe) (GDe:Za0 P w K mg base CX0 2 fDe fdDe ["pot","rows","above","places","most"] spDeeds):
  Za0 P w K mg base CX0 5 f fd ["script","most"] (spCase K):=by
 refine F.fn.ok scCa (fun vs H Q E h=>?_) (fun cdv A outer s H vs Q E hr h=>?_)
 ·obtain ⟨a,ns,m,rfl,_⟩:=h
  rfl
 ·obtain ⟨a,ns,m,rfl,hS,hlen,m1,m24,q⟩:=h
  have nd:=scCa.nd
  have hr1:Zdp 1 _:=hr.mono (by decide)
  have hr2:Zdp 2 _:=hr.mono (by decide)
  refine' ⟨_,(pS (Zah (i:=2) nd rfl (Or.inl rfl) (Zaf DR GR hr (pC (Zaf DP GP hr1 (pC (pv 0) (pC Zae Zaa))) (pC (pv 1) Zaa))))
   (pS (Zah (i:=3) nd rfl (Or.inl rfl) (Zaf DA GA hr1 (pC (pv 2) Zaa)))
   (pS (Zah (i:=4) nd rfl (Or.inr rfl) (Zaf DP GP hr1 (pC (pv 0) (pC Zae Zaa))))
   (pS (Zah (i:=5) nd rfl (Or.inl rfl) (Za8 Zei Zae (Zaf DT GT hr1 (pC (pv 4) (pC Zae Zaa)))))
   (pS (Zah (i:=6) nd rfl (Or.inl rfl) (Zbc (r:=rIxT K) Zdz (Zdw (pC Zae (pC Zae (pC Zae (pC Zae Zaa))))) (Zaf DT GT hr1 (pC (pv 4) (pC Zae Zaa))) (fun _ _=>rfl)))
   (pS (Zah (i:=7) nd rfl (Or.inr rfl) ?e1)
   (pS (Zah (i:=8) nd rfl (Or.inr rfl) (Za9 Zcr (by rfl) list PyProof.Rows.boot_list (pC (pv 4) Zaa)))
   (pS (Zah (i:=9) nd rfl (Or.inl rfl) (Zaf DDe GDe hr2 (pC (pv 4) (pC (pv 2) (pC (pv 3) (pC (pv 5) (pC (pv 6) Zaa)))))))
   (pS (Zah (i:=10) nd rfl (Or.inl rfl) (Za9 Zcf (by rfl) tuple PyProof.Rows.boot_tuple (pC ?e2 Zaa)))
   (Zbq (Za5 (Zal Zc7 (Zaf DT GT hr1 (pC (pv 4) (pC Zae Zaa))) Zae (Zaq _)) (Zad (Zah (i:=10) nd rfl (Or.inl rfl) (Za9 Zcf (by rfl) tuple PyProof.Rows.boot_tuple (pC ?e3 Zaa)))) Zai)
   (Zad (Zar (Zdw (pC (pv 2) (pC (pv 3) (pC (pv 5) (pC (pv 9) (pC (pv 10) Zaa)))))))))))))))))),?_⟩
  case e1=>exact (Zb5 ["row"] [] [] (fun _=>Zay (osc:=Zab Zb1) (on:=nCa) (by decide +kernel) rfl rfl rfl) (Zcw (pv 2)) (fun C s H fp=>Zaj (i:=0) nd_row1 rfl (Or.inl rfl) (Or.inr rfl)) (fun C s H fp=>Zb2) (fun C s H fp=>Zbc (r:=rIxT K) Zdz (pv 0) Zae (fun _ _=>rfl)))
  case e2=>exact (Zb5 ["k"] ["words","beside"] [7,8] (fun _=>Zay (osc:=Zab Zb1) (on:=nCa) (by decide +kernel) rfl rfl rfl) (Zcm (by rfl) range (pC (pv 5) Zaa)) (fun C s H fp=>Zaj (i:=0) nd_kwb rfl (Or.inl rfl) (Or.inr rfl)) (fun C s H fp=>Zb2)
    (fun C s H fp=>Zbc (r:=rIxL K) Zaw (pv 1) (Zaf DT GT hr1 (pC (pv 2) (pC (Zag (r:=rLenK K) Zam (by rfl) len PySem.boot_len (pC (pv 1) Zaa)) Zaa))) (fun _ _=>rfl)))
  case e3=>exact (Zb5 ["k"] ["words","pot"] [7,4] (fun _=>Zay (osc:=Zab Zb1) (on:=nCa) (by decide +kernel) rfl rfl rfl) (Zcm (by rfl) range (pC (pv 5) Zaa)) (fun C s H fp=>Zaj (i:=0) nd_kwp rfl (Or.inl rfl) (Or.inr rfl)) (fun C s H fp=>Zb2)
    (fun C s H fp=>Zbc (r:=rIxL K) Zaw (pv 1) (Zaf DT GT hr1 (pC (pv 2) (pC (Zag (r:=rLenK K) Zam (by rfl) len PySem.boot_len (pC (pv 1) Zaa)) Zaa))) (fun _ _=>rfl)))
  refine ⟨_,rfl,a,0,ns,rfl,hS,hlen,by decide,by decide,fun p2 o3 hp2 ho3=>⟨_,rfl,p2,m,rfl,⟨o3,uS,ho3⟩,m1,m24,fun l rows H1 d1 hl hR1 g rl=>?_⟩⟩
  have s1:Zan H H1:=fun b o e=>d1.keep b o (nNo e hp2) ((snew hp2) _ _ e)
  have gle:=g.le
  have gne:1≤rows.length:=by have:=g.ne;omega
  refine ⟨_,rfl,l,rows,rfl,hR1,g,fun aa avs H2 s12 haa hA=>?_⟩
  have s2:=s1.trans s12
  have hR2:=Zci hR1 s12
  refine ⟨_,rfl,a,1,ns,rfl,s2.seq hS,hlen,by decide,by decide,fun p o5 hp ho5=>?_⟩
  refine ⟨_,rfl,p,4,o5,rfl,uS,ho5,by decide,by decide,fun v o6 hv0 hv1 ho6=>⟨_,_,rfl,rfl,?_⟩⟩
  have s23:Zan H2 (upd (upd H2 p o5) p o6):=fun b o e=>by rw [Zac (nNo e hp),Zac (nNo e hp)];exact e
  have hp6:(upd (upd H2 p o5) p o6) p=some o6:=uS
  generalize upd (upd H2 p o5) p o6=H3 at s23 hp6
  obtain ⟨n,en⟩:∃ n:Nat,(1 + v)=(n:Int):=⟨(1 + v).toNat,by omega⟩
  have n1:1≤n:=by omega
  have n4:n≤4:=by omega
  refine ⟨sL (by show 4≤100000;decide),fun t4 ht4=>?_⟩
  have s34:Zan H3 (upd H3 t4 (.tup [.int 8,.int 8,.int 8,.int 24])):=Zcn ht4
  have h44:(upd H3 t4 (.tup [.int 8,.int 8,.int 8,.int 24])) t4=some (.tup ([(8:Int),8,8,24].map V.int)):=uS
  generalize upd H3 t4 (.tup [.int 8,.int 8,.int 8,.int 24])=H4 at s34 h44
  have hp7:=s34 _ _ hp6
  refine ⟨_,rfl,p,4,o6,rfl,hp7,ho6,by decide,by decide,fun v5 o7 v50 v51 ho7=>?_⟩
  have d45:Drawn p H4 (upd H4 p o7):=Drawn.upd ho7
  have hp8:(upd H4 p o7) p=some o7:=uS
  generalize upd H4 p o7=H5 at d45 hp8
  obtain ⟨mo,hmo,hat⟩:∃ mo:Nat,mo≤24∧atI ([(8:Int),8,8,24].map V.int) v5=some (.int mo):=by
   have:v5=0∨v5=1∨v5=2∨v5=3:=by omega
   rcases this with e | e | e | e
   ·exact ⟨8,by decide,by rw [e];rfl⟩
   ·exact ⟨8,by decide,by rw [e];rfl⟩
   ·exact ⟨8,by decide,by rw [e];rfl⟩
   ·exact ⟨24,by decide,by rw [e];rfl⟩
  refine ⟨t4,_,_,_,rfl,rfl,SqT.of (Drawn.tup d45 hp7 ho6 h44),hat,?_⟩
  have s25:Zan H2 H5:=fun b u e=>d45.keep b u (nNo e hp) (s34 _ _ (s23 _ _ e))
  have hR5:=Zci hR2 s25
  obtain ⟨vs5,hvs5,hpr5⟩:=id hR5
  refine ⟨_,rfl,l,rfl,⟨_,SqL.of hvs5⟩,words_comp hR5 (by omega) (fun t u x H' R ht hRx=>⟨_,rfl,t,_,_,_,rfl,rfl,SqT.of ht,rfl,hRx⟩) fun lw H6 hlw s56 hw=>?_⟩
  have s26:=s25.trans s56
  have hp9:=s56 _ _ hp8
  have wl:(rows.map (·.1)).length=rows.length:=List.length_map ..
  obtain ⟨r7,b7,e7,ho7'⟩:=id ho7
  refine ⟨_,rfl,p,_,rfl,.inl (SqL.of (by rw [hp9,e7])),fun bs hbs=>?_⟩
  have s67:Zan H6 (upd H6 bs (.lst [.int r7,.int b7])):=Zcn hbs
  have hb7:(upd H6 bs (.lst [.int r7,.int b7])) bs=some o7:=by rw [uS,e7]
  generalize upd H6 bs (.lst [.int r7,.int b7])=H7 at s67 hb7
  have hp10:=s67 _ _ hp9
  have s27:=s26.trans s67
  have bp:bs≠p:=Ne.symm (nNo hp9 hbs)
  have hw7:=s67 _ _ hw
  show tSeq _ _ _ [some (.ref a),some (.int m),some (.ref l),some (.ref aa),some (.ref p),some (.int (1 + v)),some (.int mo),some (.ref lw),some (.ref bs),none,none] H7
  rw [en]
  refine ⟨_,rfl,_,rfl,_,rfl,_,rfl,_,rfl,p,l,aa,n,mo,rows,avs,rfl,⟨o7,hp10,ho7⟩,Zci hR2 s27,g,s27 _ _ haa,hA.mono fun b xs e=>s27 _ _ e,n1,n4,by omega,fun ld ds us H8 d8 hld hus hD gd dl=>?_⟩
  have hb8:=d8.keep _ _ bp hb7
  have wp:lw≠p:=Ne.symm (Zdv hp10 ho7 hw7)
  have hw8:=d8.keep _ _ wp hw7
  have s28:Zan H2 H8:=fun b u e=>d8.keep b u (nNo e hp) (s27 _ _ e)
  have wb:lw≠bs:=Ne.symm (Zdv hb8 ho7 hw8)
  have wpos:1≤(rows.map (·.1)).length:=by omega
  refine ⟨_,rfl,n,rfl,by omega,by omega,Zek Zbz (by rw [Zat];exact sL (by omega)) (fun D i ys σ' H'=>Drawn bs H8 H'∧H' D=some (.lst ys)∧∃ (xs:List Str) (o:Option V),ys=xs.map V.str∧xs.length=i∧(∀ x∈xs,x∈rows.map (·.1))∧σ'=[o,some (.ref lw),some (.ref bs)])
   (fun D hD=>⟨(Drawn.refl ⟨o7,hb8,ho7⟩).new hD,uS,[],none,rfl,rfl,(fun x h=>nomatch h),rfl⟩) (fun D i ys σ' H' _ ⟨_,_,bs,_,e,el,_⟩=>⟨trivial,by rw [e,List.length_map];omega⟩) ?_ ?_⟩
  ·rintro D i v ys σ' H' hD hi ⟨d,hl,xs,o,rfl,rfl,hb,rfl⟩
   obtain ⟨hi,rfl⟩:=Za4 hi
   obtain ⟨o1,hpp,hoo⟩:=d.pot
   have hw1:=d.keep _ _ wb hw8
   have pD:bs≠D:=nNo hb8 hD
   refine ⟨_,rfl,_,rfl,_,rfl,lw,_,rfl,.inl (SqL.of hw1),bs,_,o1,rfl,hpp,hoo,by rw [List.length_map];omega,by rw [List.length_map];omega,fun v o2 hv0 hv1 ho2=>?_⟩
   obtain ⟨x,hxm,hat⟩:=Zc8 hv0 hv1
   have d2:Drawn bs H' (upd H' bs o2):=Drawn.upd ho2
   refine ⟨lw,_,_,_,rfl,rfl,SqL.of (d2.keep _ _ wb hw1),hat,d2.keep _ _ (Ne.symm pD) hl,(d.trans d2).sub (o':=.lst []) (q:=D) (fun b o hb e=>by rw [Zac hb];exact e) hD pD,uS,xs++[x],_,by rw [List.map_append];rfl,by simp,fun y hy=>?_,rfl⟩
   rcases List.mem_append.mp hy with z | z
   ·exact hb y z
   ·rw [List.mem_singleton.mp z];exact hxm
  rintro lc ys σ' H9 hlc ⟨d9,hlc9,xs,o,rfl,hxl,hx9,rfl⟩
  rw [Zat] at hxl
  have hxl:xs.length=n:=by simpa using hxl
  refine ⟨lc,_,rfl,.inl ⟨SqL.of hlc9,fun tc htc=>?_⟩⟩
  have s9:Zan H9 (upd H9 tc (.tup (xs.map V.str))):=snew htc
  have htc9:(upd H9 tc (.tup (xs.map V.str))) tc=some (.tup (xs.map V.str)):=uS
  generalize upd H9 tc (.tup (xs.map V.str))=H10 at s9 htc9
  have bs2:H2 bs=none:=s26.free hbs
  have s2x:Zan H2 H10:=fun b u e=>s9 _ _ (d9.keep b u (nNo e bs2) (s28 _ _ e))
  obtain ⟨o8,hp8',ho8⟩:=id d8.pot
  have hp11:H10 p=some o8:=s9 _ _ (d9.keep _ _ (Ne.symm bp) hp8')
  have hw10:=s9 _ _ (d9.keep _ _ wb hw8)
  have ldb:ld≠bs:=fun z=>by rw [z,hb7] at hld;cases hld
  have hus10:=s9 _ _ (d9.keep _ _ ldb hus)
  have hD10:Zdq H10 ds us:=(hD.drawn (p:=bs) (o:=o7) fun b zs e=>Drawn.tup d9 hb8 ho7 e).mono s9
  have gc:Zdf rows n xs:=⟨hxl,hx9⟩
  refine ⟨fun σ' H'=>∃ (tc:Addr) (xs:List Str),σ'=[some (.ref a),some (.int m),some (.ref l),some (.ref aa),some (.ref p),some (.int n),some (.int mo),some (.ref lw),some (.ref bs),some (.ref ld),some (.ref tc)]∧Drawn p H10 H'∧H' tc=some (.tup (xs.map V.str))∧Zdf rows n xs,?_,?_⟩
  ·refine ⟨_,rfl,p,4,o8,rfl,hp11,ho8,by decide,by decide,fun v11 o11 v110 v111 ho11=>?_⟩
   have d11:Drawn p H10 (upd H10 p o11):=Drawn.upd ho11
   have hp12:(upd H10 p o11) p=some o11:=uS
   generalize upd H10 p o11=H11 at d11 hp12
   have hw11:=d11.keep _ _ wp hw10
   refine ⟨rfl,_,rfl,Zdy (fun _=>?_) (fun _=>⟨tc,xs,rfl,d11,Drawn.tup d11 hp11 ho8 htc9,gc⟩)⟩
   refine ⟨_,rfl,n,rfl,by omega,by omega,Zek Zbz (by rw [Zat];exact sL (by omega)) (fun D i ys σ' H'=>Drawn p H11 H'∧H' D=some (.lst ys)∧∃ (xs:List Str) (o:Option V),ys=xs.map V.str∧xs.length=i∧(∀ x∈xs,x∈rows.map (·.1))∧σ'=[o,some (.ref lw),some (.ref p)])
    (fun D hD=>⟨(Drawn.refl ⟨o11,hp12,ho11⟩).new hD,uS,[],none,rfl,rfl,(fun x h=>nomatch h),rfl⟩) (fun D i ys σ' H' _ ⟨_,_,bs,_,e,el,_⟩=>⟨trivial,by rw [e,List.length_map];omega⟩) ?_ ?_⟩
   ·rintro D i v ys σ' H' hD hi ⟨d,hl,xs,o,rfl,rfl,hb,rfl⟩
    obtain ⟨hi,rfl⟩:=Za4 hi
    obtain ⟨o1,hpp,hoo⟩:=d.pot
    have hw1:=d.keep _ _ wp hw11
    have pD:p≠D:=nNo hp12 hD
    refine ⟨_,rfl,_,rfl,_,rfl,lw,_,rfl,.inl (SqL.of hw1),p,_,o1,rfl,hpp,hoo,by rw [List.length_map];omega,by rw [List.length_map];omega,fun v o2 hv0 hv1 ho2=>?_⟩
    obtain ⟨x,hxm,hat⟩:=Zc8 hv0 hv1
    have d2:Drawn p H' (upd H' p o2):=Drawn.upd ho2
    refine ⟨lw,_,_,_,rfl,rfl,SqL.of (d2.keep _ _ wp hw1),hat,d2.keep _ _ (Ne.symm pD) hl,(d.trans d2).sub (o':=.lst []) (q:=D) (fun b o hb e=>by rw [Zac hb];exact e) hD pD,uS,xs++[x],_,by rw [List.map_append];rfl,by simp,fun y hy=>?_,rfl⟩
    rcases List.mem_append.mp hy with z | z
    ·exact hb y z
    ·rw [List.mem_singleton.mp z];exact hxm
   rintro lc2 ys σ' H12 hlc2 ⟨d12,hlc12,xs2,o,rfl,hxl2,hx12,rfl⟩
   rw [Zat] at hxl2
   have hxl2:xs2.length=n:=by simpa using hxl2
   refine ⟨lc2,_,rfl,.inl ⟨SqL.of hlc12,fun tc2 htc2=>?_⟩⟩
   exact ⟨tc2,xs2,rfl,(d11.trans d12).same (snew htc2),uS,⟨hxl2,hx12⟩⟩
  rintro σ' H11 ⟨tc,xs,rfl,d11,htc11,gc⟩
  have s211:Zan H2 H11:=fun b u e=>d11.keep b u (nNo e hp) (s2x _ _ e)
  have ldp:ld≠p:=fun z=>by rw [z,hp10] at hld;cases hld
  refine ⟨_,rfl,_,rfl,_,rfl,_,rfl,_,rfl,sL (by show 5≤100000;decide),fun t ht=>?_⟩
  have st:Zan H11 (upd H11 t (.tup [.ref l,.ref aa,.int n,.ref ld,.ref tc])):=Zcn ht
  have s2t:=s211.trans st
  exact q t l aa ld tc n rows avs ds us xs _ (s2.trans s2t) uS (Zci hR2 s2t) g (s2t _ _ haa) (hA.mono fun b xs e=>s2t _ _ e) n1 n4 (st _ _ (d11.keep _ _ ldp hus10)) ((hD10.drawn (p:=p) (o:=o7) fun b zs e=>Drawn.tup d11 hp11 ho8 e).mono st) gd (by omega) (st _ _ htc11) gc
end
end K23
namespace K23
open PySem L2 Md
theorem rowsAt_drawn {p:Addr}{H H':Hp}{o:HO}{l:Addr}{rows:List (Str×List Str)}(h:Zd6 H l rows) (hp:H p=some o) (ho:PotO o) (lp:l≠p) (d:Drawn p H H'):Zd6 H' l rows:=by
 obtain ⟨vs,a,q⟩:=h
 exact ⟨vs,d.keep _ _ lp a,Paired.mapP q fun r v ⟨t,u,e,h1,h2⟩=>⟨t,u,e,Drawn.tup d hp ho h1,Drawn.tup d hp ho h2⟩⟩
theorem deeds_drawn {p:Addr}{H H':Hp}{o:HO}{ds:List (List Str)}{us:List V}(h:Zdq H ds us) (hp:H p=some o) (ho:PotO o) (d:Drawn p H H'):Zdq H' ds us:=Paired.mapP h fun _ _ ⟨t,e,x⟩=>⟨t,e,Drawn.tup d hp ho x⟩
theorem board_drawn {C B:Addr}{H H':Hp}{p k q:Addr}{o:HO}{rows:List (Str×List Str)}{n:Nat}{ds:List (List Str)}(h:Zdt C B H p k rows n ds) (hq:H q=some o) (ho:PotO o) (d:Drawn q H H'):Zdt C B H' p k rows n ds:=by
 obtain ⟨dx,t,us,h1,h2,h3,h4⟩:=h.ex
 obtain ⟨r,b,eo,_⟩:=id ho
 have hq':=hq
 rw [eo] at hq'
 have nk:k≠q:=by
  intro z
  obtain ⟨_,_,_,_,_,_,_,e,_⟩:=h2.ex
  rw [z,hq'] at e
  cases e
 exact ⟨dx,t,us,d.keep _ _ (fun z=>by rw [z,hq'] at h1;cases h1) h1,kinds_keep h2 hq' d.keep nk (fun _ _ z=>by cases z) (fun _ z=>by cases z),d.keep _ _ (fun z=>by rw [z,hq'] at h3;cases h3) h3,deeds_drawn h4 hq ho d⟩
theorem mk_kinds {K:PySem.W.Frag}{C:Addr}{Hx:Hp}{xb dx l:Addr}{rows:List (Str×List Str)}{R:Hp→Prop}{E:XK}(nx:Hx xb=none) (ndx:Hx dx=none) (hR:Zd6 Hx l rows) (g:Zd7 rows) (h:∀ H',Zan Hx H'→Zck C H' xb rows→R H'):
  spInit K C [.ref xb,.ref l] (upd (upd Hx dx (.own xb)) xb (.ins C dx [])) (fun v H3=>v=.non∧R H3) E:=by
 have s34:Zan Hx (upd (upd Hx dx (.own xb)) xb (.ins C dx [])):=fun b o e=>by
  have e1:(upd Hx dx (.own xb)) b=some o:=by rw [Zac (nNo e ndx)];exact e
  rw [Zac (nNo e nx)];exact e1
 exact ⟨xb,dx,l,rows,rfl,uS,(Zd6.g (Zci hR s34)),g,fun H4 kd keep=>⟨rfl,h H4 (fun b o e=>keep b o (nNo e nx) (s34 _ _ e)) kd⟩⟩
theorem mk_board {K:PySem.W.Frag}{C B:Addr}{Hx:Hp}{xb yb dy lz:Addr}{n:Nat}{rows:List (Str×List Str)}{ds:List (List Str)}{us:List V}{R:Hp→Prop}{E:XK}(ny:Hx yb=none) (ndy:Hx dy=none) (kd:Zck C Hx xb rows) (g:Zd7 rows) (hz:Hx lz=some (.lst us)∨Hx lz=some (.tup us)) (hD:Zdq Hx ds us) (gd:Zel rows n ds) (n1:1≤n) (n4:n≤4) (h:∀ H',Zan Hx H'→Zdt C B H' yb xb rows n ds→R H'):
  spBInit K C B [.ref yb,.ref xb,.int n,.ref lz] (upd (upd Hx dy (.own yb)) yb (.ins B dy [])) (fun v H3=>v=.non∧R H3) E:=by
 have s34:Zan Hx (upd (upd Hx dy (.own yb)) yb (.ins B dy [])):=fun b o e=>by
  have e1:(upd Hx dy (.own yb)) b=some o:=by rw [Zac (nNo e ndy)];exact e
  rw [Zac (nNo e ny)];exact e1
 exact ⟨yb,dy,xb,lz,n,rows,ds,us,rfl,uS,kd.mono s34,g,hz.elim (fun e=>.inl (SqL.of (s34 _ _ e))) (fun e=>.inr (s34 _ _ e)),hD.mono s34,gd,n1,n4,fun H5 bd keep5=>⟨rfl,h H5 (fun b o e=>keep5 b o (nNo e ny) (s34 _ _ e)) bd⟩⟩
def LUs (p:Addr) (H:Hp) (cs:List (List Int×List (List Str))) (vs:List V):Prop:=Paired (fun c v=>∃ t,v=.ref t∧LUAtN p H t c.1 c.2) cs vs
theorem LUs.mono {p:Addr}{H H':Hp}{cs:List (List Int×List (List Str))}{vs:List V}(h:LUs p H cs vs) (s:Zan H H'):LUs p H' cs vs:=Paired.mapP h fun _ _ ⟨t,e,h⟩=>⟨t,e,h.mono s⟩
theorem LUs.drawn {p:Addr}{H H':Hp}{o:HO}{cs:List (List Int×List (List Str))}{vs:List V}(h:LUs p H cs vs) (hp:H p=some o) (ho:PotO o) (d:Drawn p H H'):LUs p H' cs vs:=Paired.mapP h fun _ _ ⟨t,e,h⟩=>⟨t,e,h.drawn hp ho d⟩
def datL (c:List Str):PySem.W.Dat:=.list (c.map PySem.W.Dat.str)
def datU (c:List Int×List (List Str)):PySem.W.Dat:=.tuple [.list (c.1.map PySem.W.Dat.int),.list (c.2.map datL)]
theorem reps_lsts {K:PySem.W.Frag}{H:Hp}:∀ {cs:List (List Str)}{vs:List V},Lsts H cs vs→Reps K H vs (cs.map datL)
 | _,_,.nil=>.nil
 | _,_,.cons ⟨t,e,h⟩ r=>by
  subst e
  exact .cons (.list (SqL.of h) (Zdc _)) (reps_lsts r)
theorem rep_lu {K:PySem.W.Frag}{H:Hp}{t:Addr}{c:List Int×List (List Str)}(h:LUAt H t c.1 c.2):Rep K H (.ref t) (datU c):=by
 obtain ⟨lo,ll,vs,h1,h2,h3,h4⟩:=h
 exact .tuple (SqT.of h1) (.cons (.list (SqL.of h2) (Zeg _)) (.cons (.list (SqL.of h3) (reps_lsts h4)) .nil))
theorem reps_lus {K:PySem.W.Frag}{p:Addr}{H:Hp}:∀ {cs:List (List Int×List (List Str))}{vs:List V},LUs p H cs vs→Reps K H vs (cs.map datU)
 | _,_,.nil=>.nil
 | _,_,.cons ⟨t,e,h⟩ r=>by
  subst e
  exact .cons (rep_lu h.at_) (reps_lus r)
theorem ok_datL {m:Nat}{c:List Str}(h:Zeb c):PySem.W.kqdOk (m + 2) (datL c)=true:=by
 show (c.map PySem.W.Dat.str).all (PySem.W.kqdOk (m + 1))=true
 rw [List.all_eq_true]
 intro d hd
 obtain ⟨x,hx,rfl⟩:=List.mem_map.mp hd
 exact h x hx
theorem ok_datU {m:Nat}{c:List Int×List (List Str)}(h:LUOk c.1 c.2):PySem.W.kqdOk (m + 4) (datU c)=true:=by
 show ([PySem.W.Dat.list (c.1.map PySem.W.Dat.int),.list (c.2.map datL)]).all (PySem.W.kqdOk (m + 3))=true
 rw [List.all_eq_true]
 intro d hd
 rcases List.mem_cons.mp hd with e | hd
 ·rw [e]
  show (c.1.map PySem.W.Dat.int).all (PySem.W.kqdOk (m + 2))=true
  rw [List.all_eq_true]
  intro d hd
  obtain ⟨x,hx,rfl⟩:=List.mem_map.mp hd
  rw [PySem.W.kqdOk]
 ·rw [List.mem_singleton.mp hd]
  show (c.2.map datL).all (PySem.W.kqdOk (m + 2))=true
  rw [List.all_eq_true]
  intro d hd
  obtain ⟨x,hx,rfl⟩:=List.mem_map.mp hd
  exact ok_datL (h.txt x hx).1
theorem ok_lus {cs:List (List Int×List (List Str))}(h:∀ c∈cs,LUOk c.1 c.2):PySem.W.kqdOk 9 (.list (cs.map datU))=true:=by
 show (cs.map datU).all (PySem.W.kqdOk 8)=true
 rw [List.all_eq_true]
 intro d hd
 obtain ⟨c,hc,rfl⟩:=List.mem_map.mp hd
 exact ok_datU (h c hc)
def CopyR (H1:Hp) (cs:List (List Int×List (List Str))) (vs:List V) (D:Addr) (v w':V) (H':Hp):Prop:=∃ (c:List Int×List (List Str)) (b:Addr),(∃ j:Nat,cs[j]?=some c∧vs[j]?=some v)∧w'=.ref b∧LUNew (upd H1 D (.lst [])) H' b c.1 c.2
theorem CopyR.keep {H1 Ha Hb:Hp}{cs:List (List Int×List (List Str))}{vs:List V}{D:Addr}{v w':V}(h:CopyR H1 cs vs D v w' Ha) (k:∀ b u,b≠D→Ha b=some u→Hb b=some u):CopyR H1 cs vs D v w' Hb:=by
 obtain ⟨c,b,hc,e,h1⟩:=h
 exact ⟨c,b,hc,e,h1.keep (o:=.lst []) uS k⟩
theorem copies_comp {K:PySem.W.Frag}{ll p:Addr}{H1:Hp}{o:HO}{cs:List (List Int×List (List Str))}{vs:List V}{σ:St}{te:TE}{Q:VK}(hp:H1 p=some o) (hll:H1 ll=some (.lst vs)) (hL:LUs p H1 cs vs) (few:cs.length≤100) (ok:∀ c∈cs,LUOk c.1 c.2)
  (he:∀ (t:Addr) (c:List Int×List (List Str)) H' (R:VK),LUAt H' t c.1 c.2→LUOk c.1 c.2→(∀ l2 H'',Zan H' H''→LUNew H' H'' l2 c.1 c.2→R (.ref l2) H'')→te [some (.ref t)] H' R)
  (hd:∀ D H2 hs,H1 D=none→Zan H1 H2→H2 D=some (.lst hs)→LUs p H2 cs hs→Q (.ref D) H2):compBody 1 [] (gName 0) tTrue te σ Q (Itl K ll) H1:=by
 have vl:=Paired.length hL
 refine comp_rel (Zce (xs:=vs)) (sL (by omega)) (fun _=>true) (CopyR H1 cs vs) (fun D v w' Ha Hb k h=>h.keep k) (fun H' s'=>s'.seq (SqL.of hll)) ?_ ?_ ?_
 ·intro v H' R s' _ hR'
  exact hR' H' (Zan.refl _)
 ·intro D v H' R s' ⟨ys,hys⟩ hD hv _ hR'
  obtain ⟨i,hi⟩:=List.getElem?_of_mem hv
  obtain ⟨c,hc,t,rfl,ht⟩:=Zba hL hi
  refine he t c H' R (ht.at_.mono s') (ok c (List.mem_of_getElem? hc)) fun l2 H2 s2 n2=>?_
  refine hR' (.ref l2) H2 s2 ⟨c,l2,⟨i,hc,hi⟩,rfl,n2.sub fun b hb=>?_⟩
  by_cases z:b=D
  ·rw [z,hys] at hb;cases hb
  ·rw [Zac z];exact s'.free hb
 intro lh H2 hs hlh s2 hh2 pp
 rw [List.filter_eq_self.mpr (fun _ _=>rfl)] at pp
 have hlv:vs.length=hs.length:=Paired.length pp
 have same:∀ {i j:Nat} {c c':List Int×List (List Str)} {v:V},cs[i]?=some c→vs[i]?=some v→cs[j]?=some c'→vs[j]?=some v→c=c':=fun {i j c c' v} h1 h2 h3 h4=>by
  obtain ⟨y,hy,t,e,ht⟩:=paired_get hL h1
  obtain ⟨y',hy',t',e',ht'⟩:=paired_get hL h3
  rw [h2] at hy
  rw [h4] at hy'
  cases hy
  cases hy'
  rw [e] at e'
  cases e'
  obtain ⟨lo,lx,ws,_,a1,a2,a3,a4⟩:=ht
  obtain ⟨lo',lx',ws',_,b1,b2,b3,b4⟩:=ht'
  rw [a1] at b1
  cases b1
  rw [a2] at b2
  rw [a3] at b3
  cases b3
  have e1:c.1=c'.1:=by
   have:=Option.some.inj b2
   injection this with this
   exact List.map_inj_right (fun a b z=>by injection z) |>.mp this
  have e2:c.2=c'.2:=by
   have:∀ {x y:List (List Str)} {ws:List V},Lsts H1 x ws→Lsts H1 y ws→x=y:=by
    intro x y ws a
    induction a generalizing y with
    | nil=>intro b;cases b;rfl
    | cons h t ih =>
     intro b
     cases b with
     | cons h' t' =>
      obtain ⟨u,e,hu⟩:=h
      obtain ⟨u',e',hu'⟩:=h'
      rw [e] at e'
      cases e'
      rw [hu] at hu'
      have:=Option.some.inj hu'
      injection this with this
      rw [strs_injV this,ih t']
   exact this a4 b4
  exact Prod.ext e1 e2
 refine hd lh H2 hs hlh s2 hh2 (paired_idx (by omega) fun i c w' hc hw'=>?_)
 obtain ⟨v,hv,h⟩:=Zba pp hw'
 obtain ⟨c',b,⟨j,hc',hv'⟩,e,n2⟩:=h
 rw [same hc hv hc' hv']
 exact ⟨b,e,n2.atN (by rw [Zac (nNo hp hlh)];exact hp)⟩
end K23
namespace K23
open PySem L2 Md
def BA (C B:Addr) (n:Nat) (xs:List Str) (H:Hp) (v:V):Prop:=∃ t b k a R avs ds,v=.ref t∧H t=some (.tup [.ref b,.ref a])∧Zdt C B H b k R n ds∧Zd7 R∧H a=some (.dK avs)∧Zcs H R R avs∧Zdf R n xs
theorem BA.mono {C B:Addr}{n:Nat}{xs:List Str}{H H':Hp}{v:V}(h:BA C B n xs H v) (s:Zan H H'):BA C B n xs H' v:=by
 obtain ⟨t,b,k,a,R,avs,ds,e,h1,h2,h3,h4,h5,h6⟩:=h
 exact ⟨t,b,k,a,R,avs,ds,e,s _ _ h1,h2.mono s,h3,s _ _ h4,h5.mono fun b xs e=>s _ _ e,h6⟩
structure TxtL (mg:Str→Option Value):Prop where
 list:mg "list"=none
 zip:mg "zip"=none
 isi:mg "isinstance"=none
 bool:mg "bool"=none
 range:mg "range"=none
def spLaw (K:PySem.W.Frag):Sp:=fun vs H Q _=>∃ (a:Addr) (ns:List Int),vs=[.ref a]∧SqL K H a (ns.map V.int)∧ns.length≤63∧∀ H',Q (.bl true) H'
abbrev nL:List Str:=["script","rows","above","places","deeds","call","words","pot","others","drawn","lineups","handed","first","second","board","high","lineup","same","found","k"]
theorem scL:Zap nL ["script"] (Zab s_law):=⟨rfl,rfl,rfl,by decide +kernel,rfl,by decide +kernel,by decide +kernel⟩
theorem nd_lup:(["lineup"]:List Str).Nodup:=by decide +kernel
section
variable {P:Program} {w:World} {K:PySem.W.Frag} {mg:Str→Option Value} {base:Heap}
theorem ok_law {f C B fI fBI fP fCa fA fO fLl fTu fCp fIL fLI fRf fNc:Addr}{fd fdI fdBI fdP fdCa fdA fdO fdLl fdTu fdCp fdIL fdLI fdRf fdNc:FuncData}(F:Def K mg "law" s_law ["script"] f fd) (T:TxtL mg) (M:Mk K C fI) (mgC:mg "Kinds"=some (.ref C)) (bI:Binds K fdI ["self","rows"] []) (GI:Za0 P w K mg base CX0 4 fI fdI ["self","rows"] (spInit K C))
  (MB:Mk K B fBI) (mgB:mg "Board"=some (.ref B)) (bB:Binds K fdBI nBI []) (GB:Za0 P w K mg base CX0 4 fBI fdBI nBI (spBInit K C B))
  (DP:Def K mg "_law_pot" Zc6 ["script","k"] fP fdP) (GP:Za0 P w K mg base CX0 1 fP fdP ["script","k"] (spPot K)) (DCa:Def K mg "_law_case" Zb1 ["script","most"] fCa fdCa) (GCa:Za0 P w K mg base CX0 5 fCa fdCa ["script","most"] (spCase K))
  (DA:Def K mg "_law_above" Zcb ["rows"] fA fdA) (GA:Za0 P w K mg base CX0 1 fA fdA ["rows"] spLAbove)
  (DO:Def K mg "_law_other_rows" Zax ["pot","rows"] fO fdO) (GO:Za0 P w K mg base CX0 3 fO fdO ["pot","rows"] spOther)
  (DLl:Def K mg "_law_lineup" Zbm ["pot","above","call"] fLl fdLl) (GLl:Za0 P w K mg base CX0 3 fLl fdLl ["pot","above","call"] spLU)
  (DTu:Def K mg "_law_turned" Zbl nTu4 fTu fdTu) (GTu:Za0 P w K mg base CX0 4 fTu fdTu nTu4 spTurned) (DCp:Def K mg "_law_copied" Zbn ["lineup"] fCp fdCp) (GCp:Za0 P w K mg base CX0 1 fCp fdCp ["lineup"] spCopied)
  (DIL:Def K mg "is_lineup" Zb0 nBCL fIL fdIL) (GIL:Za0 P w K mg base CX0 7 fIL fdIL nBCL (spIsLU C B)) (DLI:Def K mg "_law_is_lineup" Za1 nLLU fLI fdLI) (GLI:Za0 P w K mg base CX0 2 fLI fdLI nLLU spLILU)
  (DRf:Def K mg "_law_refused" Zbu nBCL fRf fdRf) (GRf:Za0 P w K mg base CX0 5 fRf fdRf nBCL (spLURef C B)) (DNc:Def K mg "_law_no_call" Zbw ["pot","words","call"] fNc fdNc) (GNc:Za0 P w K mg base CX0 4 fNc fdNc ["pot","words","call"] spNoCall):Za0 P w K mg base CX0 8 f fd ["script"] (spLaw K):=by
 refine F.fn.ok scL (fun vs H Q E h=>?_) (fun cdv A outer s H vs Q E hr h=>?_)
 ·obtain ⟨a,ns,rfl,_⟩:=h
  rfl
 ·obtain ⟨a,ns,rfl,hS,hlen,q⟩:=h
  have nd:=scL.nd
  have hu:=hr.units
  have hr1:Zdp 1 _:=hr.mono (by decide)
  have hr2:Zdp 2 _:=hr.mono (by decide)
  have hr3:Zdp 3 _:=hr.mono (by decide)
  have hr4:Zdp 4 _:=hr.mono (by decide)
  have hr5:Zdp 5 _:=hr.mono (by decide)
  refine' ⟨_,(pS (ps_asg (Zaf DCa GCa hr5 (pC (pv 0) (pC Zae Zaa))) (pg_tup rfl (gC (Zaj (i:=1) nd rfl (Or.inl rfl)) (gC (Zaj (i:=2) nd rfl (Or.inl rfl)) (gC (Zaj (i:=3) nd rfl (Or.inl rfl)) (gC (Zaj (i:=4) nd rfl (Or.inl rfl)) (gC (Zaj (i:=5) nd rfl (Or.inl rfl)) Zer)))))))
   (pS ?e1
   (pS (Zah (i:=7) nd rfl (Or.inl rfl) (Zaf DP GP hr1 (pC (pv 0) (pC Zae Zaa))))
   (pS (Zah (i:=8) nd rfl (Or.inl rfl) (Zaf DO GO hr3 (pC (pv 7) (pC (pv 1) Zaa))))
   (pS (Zah (i:=9) nd rfl (Or.inl rfl) (Zaf DLl GLl hr3 (pC (pv 7) (pC (pv 2) (pC (pv 5) Zaa)))))
   (pS (Zah (i:=10) nd rfl (Or.inl rfl) (Zcx (pC (pv 9) (pC (Zaf DTu GTu hr4 (pC (pv 7) (pC (pv 6) (pC (pv 2) (pC (pv 9) Zaa))))) (pC (pv 9) Zaa)))))
   (pS ?e2
   (pS (Zah (i:=12) nd rfl (Or.inl rfl) (pe_make MB GB hr5 (by rfl) mgB bB .nil pass0 (pC (pe_make M GI hr5 (by rfl) mgC bI .nil pass0 (pC (pv 1) Zaa)) (pC (pv 3) (pC (pv 4) Zaa)))))
   (pS (Zah (i:=13) nd rfl (Or.inl rfl) (pe_make MB GB hr5 (by rfl) mgB bB .nil pass0 (pC (pe_make M GI hr5 (by rfl) mgC bI .nil pass0 (pC (pv 8) Zaa)) (pC (pv 3) (pC (pv 4) Zaa)))))
   (pS (Zdd PassesOwn.never rfl (Zcw (Zcx (pC (Zdw (pC (pv 12) (pC (pv 2) Zaa))) (pC (Zdw (pC (pv 13) (pC (Zaf DA GA hr1 (pC (pv 8) Zaa)) Zaa))) (pC (Zdw (pC (pv 12) (pC (pv 2) Zaa))) Zaa))))) (pg_tup rfl (gC (Zaj (i:=14) nd rfl (Or.inl rfl)) (gC (Zaj (i:=15) nd rfl (Or.inl rfl)) Zer)))
    (Zad (Zdd PassesOwn.never rfl (pi_zipL (by rfl) T.zip (pC (pv 11) (pC (pv 10) Zaa))) (pg_tup rfl (gC (Zaj (i:=16) nd rfl (Or.inl rfl)) (gC (Zaj (i:=17) nd rfl (Or.inl rfl)) Zer)))
     (pS (Zah (i:=18) nd rfl (Or.inl rfl) (Zaf DIL GIL hr (pC (pv 14) (pC (pv 5) (pC (pv 16) Zaa)))))
   (Zad (Za5 (PW.pt (pw_or (Zd9 (pt_val (Zag call_isi (by rfl) T.isi PyProof.Rows.boot_isinstance (pC (pv 18) (pC (pe_bltn (v:=.ty "bool") (by rfl) T.bool PyProof.Rows.boot_bool rfl) Zaa))))) (pw_or1 (Zal op_ne (pv 18) (Zaf DLI GLI hr2 (pC (pv 15) (pC (pv 5) (pC (pv 17) Zaa)))) (Zaq _))))) (Zad (Zar pe_bl)) Zai))))))
   (pS (Zdd PassesOwn.never rfl (Zcm (by rfl) T.range (pC Zae Zaa)) (Zaj (i:=19) nd rfl (Or.inl rfl))
    (Zad (Za5 (Zd9 (pt_val (Zaf DRf GRf hr5 (pC (pv 12) (pC (Zaf DNc GNc hr4 (pC (pv 7) (pC (pv 6) (pC (pv 5) Zaa)))) (pC (Zbc (r:=rIxL K) Zaw (pv 11) Zae (fun _ _=>rfl)) Zaa)))))) (Zad (Zar pe_bl)) Zai)))
   (Zad (Zar (Zes (op_eqD hu) (pv 11) (pv 10) (Zaq _))))))))))))))),?_⟩
  case e1=>exact (Zeh (k:=6) ["row"] [] [] nd rfl rfl (fun _=>Zay (osc:=Zab s_law) (on:=nL) (by decide +kernel) rfl rfl rfl) (Zcw (pv 1)) (fun C s H fp=>Zaj (i:=0) nd_row1 rfl (Or.inl rfl) (Or.inr rfl)) (fun C s H fp=>Zb2) (fun C s H fp=>Zbc (r:=rIxT K) Zdz (pv 0) Zae (fun _ _=>rfl)))
  case e2=>exact (Zeh (k:=11) ["lineup"] [] [] nd rfl rfl (fun _=>Zay (osc:=Zab s_law) (on:=nL) (by decide +kernel) rfl rfl rfl) (Zcw (pv 10)) (fun C s H fp=>Zaj (i:=0) nd_lup rfl (Or.inl rfl) (Or.inr rfl)) (fun C s H fp=>Zb2) (fun C s H fp=>Zaf DCp GCp hr1 (pC (pv 0) Zaa)))
  refine ⟨_,rfl,a,ns,24,rfl,hS,by omega,by decide,by decide,fun t1 lr aa ld tc n rows avs ds us xs H1 s1 ht1 hR1 g haa1 hA1 n1 n4 hld1 hD1 gd dl htc1 gc=>⟨t1,_,rfl,SqT.of ht1,rfl,_,_,rfl,_,_,rfl,_,_,rfl,_,_,rfl,_,_,rfl,rfl,?_⟩⟩
  have gle:=g.le
  have gne:=g.ne
  have xl:=gc.len
  obtain ⟨vs0,hv0,pr0⟩:=id hR1
  refine ⟨_,rfl,lr,rfl,⟨_,SqL.of hv0⟩,words_comp hR1 (by omega) (fun t u x H' R ht hR'=>⟨_,rfl,t,_,_,_,rfl,rfl,SqT.of ht,rfl,hR'⟩) fun lw H2 hlw s12 hw2=>?_⟩
  clear hv0 pr0
  have s2:=s1.trans s12
  have hR2:=Zci hR1 s12
  have haa2:=s12 _ _ haa1
  have hA2:Zcs H2 rows rows avs:=hA1.mono fun b xs e=>s12 _ _ e
  have hld2:=s12 _ _ hld1
  have hD2:=hD1.mono s12
  have htc2:=s12 _ _ htc1
  clear hR1 haa1 hA1 hld1 hD1 htc1 s12 s1 ht1
  refine ⟨_,rfl,a,2,ns,rfl,s2.seq hS,by omega,by decide,by decide,fun p o hp ho=>?_⟩
  have s23:Zan H2 (upd H2 p o):=Zcn hp
  have hp3:(upd H2 p o) p=some o:=uS
  generalize upd H2 p o=H3 at s23 hp3
  have kp:∀ {H':Hp},Drawn p H3 H'→Zan H2 H':=fun d b u e=>d.keep b u (nNo e hp) (s23 _ _ e)
  refine ⟨_,rfl,_,rfl,p,lr,rows,rfl,⟨o,hp3,ho⟩,Zci hR2 s23,g,fun lo others H4 d4 hlo hRo go eo=>?_⟩
  have s4:=kp d4
  have gco:Zdf others n xs:=⟨gc.len,fun x hx=>by rw [eo];exact gc.known x hx⟩
  have gdo:Zel others n ds:=⟨fun d hd=>⟨(gd.call d hd).len,fun x hx=>by rw [eo];exact (gd.call d hd).known x hx⟩,gd.nd,gd.few⟩
  refine ⟨_,rfl,_,rfl,_,rfl,p,aa,tc,rows,avs,xs,rfl,d4.pot,g,s4 _ _ haa2,hA2.mono (fun b xs e=>s4 _ _ e),s4 _ _ htc2,gc.known,by omega,fun lu ord cs H5 d45 hlu luw=>?_⟩
  rw [xl] at luw
  have d5:=d4.trans d45
  have s5:=kp d5
  refine ⟨_,rfl,_,rfl,_,rfl,_,rfl,_,rfl,p,lw,aa,lu,rows,avs,n,ord,cs,rfl,d5.pot,g,s5 _ _ hw2,s5 _ _ haa2,hA2.mono (fun b xs e=>s5 _ _ e),hlu,luw,n1,n4,fun l2 ord2 cs2 H6 d56 hl2 lok2=>⟨_,rfl,sL (by show 3≤100000;decide),fun ll hll=>?_⟩⟩
  have d6:=d5.trans d56
  obtain ⟨o5,hp5,ho5⟩:=id d5.pot
  have hlu6:=hlu.drawn hp5 ho5 d56
  have s67:Zan H6 (upd H6 ll (.lst [.ref lu,.ref l2,.ref lu])):=Zcn hll
  have hl7:(upd H6 ll (.lst [.ref lu,.ref l2,.ref lu])) ll=some (.lst [.ref lu,.ref l2,.ref lu]):=uS
  generalize upd H6 ll (.lst [.ref lu,.ref l2,.ref lu])=H7 at s67 hl7
  have d7:=d6.same s67
  have s7:=kp d7
  obtain ⟨o7,hp7,ho7⟩:=id d7.pot
  obtain ⟨o6,hp6,ho6⟩:=id d6.pot
  have llp:ll≠p:=Ne.symm (nNo hp6 hll)
  have wok:WordsOk (rows.map (·.1)):=⟨fun x hx=>by
   obtain ⟨r,hr',rfl⟩:=List.mem_map.mp hx
   exact g.word r hr',g.nd⟩
  have lok:LUOk ord cs:=⟨by rw [luw.olen];omega,by rw [luw.clen];omega,fun c hc=>by
   obtain ⟨_,h24,hk⟩:=luw.line c hc
   exact ⟨fun z hz=>Zem (wok.word z (hk z hz)),by omega⟩⟩
  obtain ⟨us2,eus⟩:∃ us2:List (List Int×List (List Str)),us2=[(ord,cs),(ord2,cs2),(ord,cs)]:=⟨_,rfl⟩
  obtain ⟨lv,elv⟩:∃ lv:List V,lv=[.ref lu,.ref l2,.ref lu]:=⟨_,rfl⟩
  have L7:LUs p H7 us2 lv:=by
   rw [eus,elv]
   exact .cons ⟨_,rfl,hlu6.mono s67⟩ (.cons ⟨_,rfl,hl2.mono s67⟩ (.cons ⟨_,rfl,hlu6.mono s67⟩ .nil))
  have uok:∀ c∈us2,LUOk c.1 c.2:=fun c hc=>by
   rw [eus] at hc
   rcases List.mem_cons.mp hc with e | hc
   ·rw [e];exact lok
   rcases List.mem_cons.mp hc with e | hc
   ·rw [e];exact lok2
   ·rw [List.mem_singleton.mp hc];exact lok
  have ulen:us2.length=3:=by rw [eus];rfl
  rw [← elv] at hl7
  have hRo7:=rowsAt_drawn hRo (id d4.pot).choose_spec.1 (id d4.pot).choose_spec.2 (fun z=>by rw [z,hp3] at hlo;cases hlo) ((d45.trans d56).same s67)
  clear elv eus lok lok2 luw hlu hlu6 hl2 hp6 ho6 hp5 ho5 d56 d6 d5 d45 s5 s4 hlo hRo d4
  refine ⟨_,rfl,ll,rfl,⟨_,SqL.of hl7⟩,copies_comp hp7 hl7 L7 (by omega) uok (fun t c H' R ht hok hR=>⟨_,rfl,t,c.1,c.2,rfl,ht,hok,hR⟩) fun lh H8 hs hlh s78 hh8 L8h=>?_⟩
  have lhp:lh≠p:=Ne.symm (nNo hp7 hlh)
  have s8:=s7.trans s78
  have L8:=L7.mono s78
  refine ⟨_,rfl,?_⟩
  intro xb dxb nx ndx nex
  refine mk_kinds nx ndx (Zci hR2 s8) g fun H9 s89 kd9=>?_
  have s9:=s8.trans s89
  refine ⟨_,rfl,_,rfl,?_⟩
  intro yb dyb ny ndy ney
  refine mk_board ny ndy kd9 g (.inl (s9 _ _ hld2)) (hD2.mono s9) gd n1 n4 fun H10 s910 bd10=>?_
  have s10:=s9.trans s910
  have s710:=s78.trans (s89.trans s910)
  refine ⟨_,rfl,?_⟩
  intro xo dxo nxo ndxo nexo
  refine mk_kinds nxo ndxo (Zci hRo7 s710) go fun H11 s1011 kdo=>?_
  have s11:=s10.trans s1011
  refine ⟨_,rfl,_,rfl,?_⟩
  intro yo dyo nyo ndyo neyo
  refine mk_board nyo ndyo kdo go (.inl (s11 _ _ hld2)) (hD2.mono s11) gdo n1 n4 fun H12 s1112 bdo12=>?_
  have s12:=s11.trans s1112
  have s1012:=s1011.trans s1112
  have s712:=s710.trans s1012
  have s812:=(s89.trans s910).trans s1012
  have bd12:=bd10.mono s1012
  clear kd9 kdo s910 s1011 s1112 s89 s9 s10 s11 s8 bd10
  refine ⟨_,rfl,_,rfl,sL (by show 2≤100000;decide),fun t1 ht1=>?_⟩
  have s17:Zan H12 (upd H12 t1 (.tup [.ref yb,.ref aa])):=Zcn ht1
  have h17:(upd H12 t1 (.tup [.ref yb,.ref aa])) t1=some (.tup [.ref yb,.ref aa]):=uS
  generalize upd H12 t1 (.tup [.ref yb,.ref aa])=H17 at s17 h17
  refine ⟨_,rfl,_,rfl,lo,others,rfl,Zci hRo7 (s712.trans s17),go,fun a2 avs2 H18 s18 ha2 hA18=>?_⟩
  refine ⟨sL (by show 2≤100000;decide),fun t2 ht2=>?_⟩
  have s19:Zan H18 (upd H18 t2 (.tup [.ref yo,.ref a2])):=Zcn ht2
  have h19:(upd H18 t2 (.tup [.ref yo,.ref a2])) t2=some (.tup [.ref yo,.ref a2]):=uS
  generalize upd H18 t2 (.tup [.ref yo,.ref a2])=H19 at s19 h19
  refine ⟨_,rfl,_,rfl,sL (by show 2≤100000;decide),fun t3 ht3=>?_⟩
  have s20:Zan H19 (upd H19 t3 (.tup [.ref yb,.ref aa])):=Zcn ht3
  have h20:(upd H19 t3 (.tup [.ref yb,.ref aa])) t3=some (.tup [.ref yb,.ref aa]):=uS
  generalize upd H19 t3 (.tup [.ref yb,.ref aa])=H20 at s20 h20
  refine ⟨sL (by show 3≤100000;decide),fun l4 hl4=>?_⟩
  have s21:Zan H20 (upd H20 l4 (.lst [.ref t1,.ref t2,.ref t3])):=Zcn hl4
  have h21:(upd H20 l4 (.lst [.ref t1,.ref t2,.ref t3])) l4=some (.lst [.ref t1,.ref t2,.ref t3]):=uS
  generalize upd H20 l4 (.lst [.ref t1,.ref t2,.ref t3])=H21 at s21 h21
  have s1821:=s19.trans (s20.trans s21)
  have s1721:=s18.trans s1821
  have s1221:=s17.trans s1721
  have s0:=s12.trans s1221
  have s721:=s712.trans s1221
  have s821:=s812.trans s1221
  have hA21:Zcs H21 rows rows avs:=hA2.mono fun b xs e=>s0 _ _ e
  have ba1:BA C B n xs H21 (.ref t1):=⟨t1,yb,xb,aa,rows,avs,ds,rfl,s1721 _ _ h17,bd12.mono s1221,g,s0 _ _ haa2,hA21,gc⟩
  have ba2:BA C B n xs H21 (.ref t2):=⟨t2,yo,xo,a2,others,avs2,ds,rfl,(s20.trans s21) _ _ h19,bdo12.mono s1221,go,s1821 _ _ ha2,hA18.mono fun b xs e=>s1821 _ _ e,gco⟩
  have ba3:BA C B n xs H21 (.ref t3):=⟨t3,yb,xb,aa,rows,avs,ds,rfl,s21 _ _ h20,bd12.mono s1221,g,s0 _ _ haa2,hA21,gc⟩
  have ba:∀ v∈[V.ref t1,.ref t2,.ref t3],BA C B n xs H21 v:=fun v hv=>by
   rcases List.mem_cons.mp hv with e | hv
   ·rw [e];exact ba1
   rcases List.mem_cons.mp hv with e | hv
   ·rw [e];exact ba2
   ·rw [List.mem_singleton.mp hv];exact ba3
  have L21:=L7.mono s721
  have Lh21:=L8h.mono s821
  have hl21:=s721 _ _ hl7
  have hh21:=s821 _ _ hh8
  have bd21:=bd12.mono s1221
  have htc21:=s0 _ _ htc2
  have hw21:=s0 _ _ hw2
  have hp21:=s721 _ _ hp7
  refine ⟨l4,rfl,⟨_,SqL.of h21⟩,Zbs (Zce (xs:=[.ref t1,.ref t2,.ref t3])) (fun i σ H'=>∃ x14 x15 x16 x17 x18:Option V,σ=[some (.ref a),some (.ref lr),some (.ref aa),some (.int n),some (.ref ld),some (.ref tc),some (.ref lw),some (.ref p),some (.ref lo),some (.ref lu),some (.ref ll),some (.ref lh),some (.ref yb),some (.ref yo),x14,x15,x16,x17,x18,none]∧Zan H21 H')
   ⟨none,none,none,none,none,rfl,Zan.refl _⟩ (fun i σ H' _ ⟨_,_,_,_,_,_,s'⟩=>SqL.of (s' _ _ h21)) ?_ ?_⟩
  ·rintro i v σ H22 hi ⟨x14,x15,x16,x17,x18,rfl,s22⟩
   obtain ⟨t,b,k,aR,R,avR,dR,rfl,ht,bdR,gR,haR,hAR,gcR⟩:=(ba v (List.mem_of_getElem? hi)).mono s22
   refine ⟨t,_,rfl,SqT.of ht,rfl,_,_,rfl,_,_,rfl,rfl,?_⟩
   refine ⟨_,rfl,_,rfl,lh,ll,hs,lv,rfl,SqL.of (s22 _ _ hh21),SqL.of (s22 _ _ hl21),for_pairs (fun i σ H'=>∃ x16 x17 x18:Option V,σ=[some (.ref a),some (.ref lr),some (.ref aa),some (.int n),some (.ref ld),some (.ref tc),some (.ref lw),some (.ref p),some (.ref lo),some (.ref lu),some (.ref ll),some (.ref lh),some (.ref yb),some (.ref yo),some (.ref b),some (.ref aR),x16,x17,x18,none]∧Zan H22 H')
    ⟨_,_,_,rfl,Zan.refl _⟩ (fun i σ H' _ ⟨_,_,_,_,s'⟩=>⟨SqL.of (s' _ _ (s22 _ _ hh21)),SqL.of (s' _ _ (s22 _ _ hl21))⟩) ?_ (fun σ H' ⟨_,_,_,e,s'⟩=>⟨_,_,_,_,_,e,s22.trans s'⟩)⟩
   rintro j pr tz σ H23 hj ⟨x16,x17,x18,rfl,s23'⟩ htz
   obtain ⟨h1,h2⟩:=zipV_get hj
   have s2123:=s22.trans s23'
   obtain ⟨c,hc,b1,e1,hb1⟩:=Zba Lh21 h1
   obtain ⟨c',hc',b2,e2,hb2⟩:=Zba L21 h2
   rw [hc] at hc'
   cases hc'
   have cok:=uok c (List.mem_of_getElem? hc)
   have s24:Zan H23 (upd H23 tz (.tup [pr.1,pr.2])):=Zcn htz
   have h24:(upd H23 tz (.tup [pr.1,pr.2])) tz=some (.tup [.ref b1,.ref b2]):=by rw [uS,e1,e2]
   generalize upd H23 tz (.tup [pr.1,pr.2])=H24 at s24 h24
   have s2224:=s23'.trans s24
   have s2124:=s2123.trans s24
   refine ⟨tz,_,rfl,SqT.of h24,rfl,_,_,rfl,_,_,rfl,rfl,?_⟩
   refine ⟨_,rfl,_,rfl,_,rfl,b,k,tc,b1,R,n,dR,xs,c.1,c.2,rfl,bdR.mono s2224,gR,n4,s2124 _ _ htc21,gcR,hb1.at_.mono s2124,cok,fun v1 H25 s25 if1=>?_⟩
   have s2225:=s2224.trans s25
   have s2125:=s2124.trans s25
   refine ⟨_,rfl,_,_,_,_,rfl,.bl _,rfl,_,rfl,iteF ?_⟩
   refine ⟨_,rfl,_,rfl,_,rfl,_,rfl,aR,tc,b2,R,avR,xs,c.1,c.2,rfl,gR,s2225 _ _ haR,hAR.mono (fun b xs e=>s2225 _ _ e),s2125 _ _ htc21,gcR.known,by omega,hb2.at_.mono s2125,cok,fun v2 H26 s26 if2=>⟨rfl,_,rfl,?_⟩⟩
   have ev:v1=v2:=by
    cases v1 with
    | true=>exact (if2.mpr (if1.mp rfl)).symm
    | false =>
     cases v2 with
     | false=>rfl
     | true=>exact if1.mpr (if2.mp rfl)
   rw [ev,show (!decide (V.bl v2=V.bl v2))=false from by rw [decide_eq_true rfl];rfl]
   exact iteF ⟨_,_,_,rfl,s2225.trans s26⟩
  rintro σ H22 ⟨x14,x15,x16,x17,x18,rfl,s22⟩
  have hp22:=s22 _ _ hp21
  have L22:=L21.mono s22
  have Lh22:=Lh21.mono s22
  have bd22:=bd21.mono s22
  have hl22:=s22 _ _ hl21
  have hh22:=s22 _ _ hh21
  have htc22:=s22 _ _ htc21
  have hw22:=s22 _ _ hw21
  have tcp:∀ {z:Addr} {ys:List V},H22 z=some (.tup ys)→z≠p:=fun {z ys} h e=>by
   obtain ⟨_,_,e',_⟩:=id ho7
   rw [e,hp22,e'] at h
   cases h
  have wp:lw≠p:=Ne.symm (Zdv hp22 ho7 hw22)
  have hs3:hs.length=3:=by rw [← ulen];exact (Paired.length Lh22).symm
  refine ⟨3,rfl,by decide,by decide,Zbs Zbz (fun i σ H'=>∃ x19:Option V,σ=[some (.ref a),some (.ref lr),some (.ref aa),some (.int n),some (.ref ld),some (.ref tc),some (.ref lw),some (.ref p),some (.ref lo),some (.ref lu),some (.ref ll),some (.ref lh),some (.ref yb),some (.ref yo),x14,x15,x16,x17,x18,x19]∧Drawn p H22 H')
   ⟨none,rfl,Drawn.refl ⟨o7,hp22,ho7⟩⟩ (fun _ _ _ _ _=>trivial) ?_ ?_⟩
  ·rintro i v σ H23 hi ⟨x19,rfl,d23⟩
   refine ⟨_,rfl,_,rfl,_,rfl,_,rfl,p,lw,tc,rows,n,xs,rfl,d23.pot,g,d23.keep _ _ wp hw22,d23.keep _ _ (tcp htc22) htc22,gc,n1,n4,fun t' ys H24 d24 ht' hb hl hsw=>?_⟩
   have d2:=d23.trans d24
   have h1:hs[1]?=some hs[1]:=List.getElem?_eq_getElem (by omega)
   refine ⟨_,rfl,lh,_,_,_,rfl,rfl,SqL.of (d2.keep _ _ lhp hh22),Zdh (j:=1) h1,yb,xb,t',rows,n,ds,ys,_,rfl,board_drawn bd22 hp22 ho7 d2,g,n4,ht',hb,hl,hsw,fun H25 s25=>⟨_,rfl,?_⟩⟩
   exact iteF ⟨_,rfl,d2.same s25⟩
  rintro σ H23 ⟨x19,rfl,d23⟩
  have Lh23:=Lh22.drawn hp22 ho7 d23
  have L23:=L22.drawn hp22 ho7 d23
  refine ⟨_,rfl,_,rfl,_,_,.list (SqL.of (d23.keep _ _ lhp hh22)) (reps_lus Lh23),.list (SqL.of (d23.keep _ _ llp hl22)) (reps_lus L23),ok_lus uok,ok_lus uok,?_⟩
  rw [Zd2]
  exact q _
end
end K23
namespace K23
open PySem L2
theorem us1 {us:List Value}(h:us.length=1):∃ a,us=[a]:=List.length_eq_one_iff.mp h
theorem us2 {us:List Value}(h:us.length=2):∃ a b,us=[a,b]:=by
 cases us with
 | nil=>cases h
 | cons a r =>
  obtain ⟨b,e⟩:=us1 (us:=r) (Nat.succ.inj h)
  exact ⟨a,b,by rw [e]⟩
theorem us3 {us:List Value}(h:us.length=3):∃ a b c,us=[a,b,c]:=by
 cases us with
 | nil=>cases h
 | cons a r =>
  obtain ⟨b,c,e⟩:=us2 (us:=r) (Nat.succ.inj h)
  exact ⟨a,b,c,by rw [e]⟩
theorem us4 {us:List Value}(h:us.length=4):∃ a b c d,us=[a,b,c,d]:=by
 cases us with
 | nil=>cases h
 | cons a r =>
  obtain ⟨b,c,d,e⟩:=us3 (us:=r) (Nat.succ.inj h)
  exact ⟨a,b,c,d,by rw [e]⟩
theorem us5 {us:List Value}(h:us.length=5):∃ a b c d x,us=[a,b,c,d,x]:=by
 cases us with
 | nil=>cases h
 | cons a r =>
  obtain ⟨b,c,d,x,e⟩:=us4 (us:=r) (Nat.succ.inj h)
  exact ⟨a,b,c,d,x,by rw [e]⟩
set_option maxHeartbeats 4000000 in
theorem all_mk {l:PySem.W.OpenLaw}{w:World}{K:PySem.W.Frag}{h:Heap}{mg:Str→Option Value}{fa C B QD Q0 Q1 Q2 Q3 Q4 Q5 Q6 Q7 Q8 Q9 Q10 Q11 Q12 Q13 Q14 f_mI f_mH f_mC f_mUn f_mB f_mA f_bI f_bK f_bP f_w f_cr f_cu f_fa f_en f_fr f_aa f_P f_T f_Le f_W f_Ws f_U f_R f_A f_ic f_cd f_cc f_de f_al f_or f_il f_bo f_ln f_li f_sp f_nw f_iu f_lu f_cp f_lk f_ca f_nc f_tu f_rf f_L:Addr}(X:K.In h) (G:h.Ns mainGlobals mg) (hfa:mg "law"=some (.ref fa))
  {od_mI an_mI od_mH an_mH od_mC an_mC od_mUn an_mUn od_mB an_mB od_mA an_mA od_bI an_bI od_bK an_bK od_bP an_bP od_w an_w od_cr an_cr od_cu an_cu od_fa an_fa od_en an_en od_fr an_fr od_aa an_aa od_P an_P od_T an_T od_Le an_Le od_W an_W od_Ws an_Ws od_U an_U od_R an_R od_A an_A od_ic an_ic od_cd an_cd od_cc an_cc od_de an_de od_al an_al od_or an_or od_il an_il od_bo an_bo od_ln an_ln od_li an_li od_sp an_sp od_nw an_nw od_iu an_iu od_lu an_lu od_cp an_cp od_lk an_lk od_ca an_ca od_nc an_nc od_tu an_tu od_rf an_rf od_L an_L:Option Addr} {sl_mI sl_mH sl_mC sl_mUn sl_mB sl_mA sl_bI sl_bK sl_bP sl_w sl_cr sl_cu sl_fa sl_en sl_fr sl_aa sl_P sl_T sl_Le sl_W sl_Ws sl_U sl_R sl_A sl_ic sl_cd sl_cc sl_de sl_al sl_or sl_il sl_bo sl_ln sl_li sl_sp sl_nw sl_iu sl_lu sl_cp sl_lk sl_ca sl_nc sl_tu sl_rf sl_L:Array (Option Value)} {oc_mI kV_mI dc_mI pm_mI cd_mI ct_mI oc_mH kV_mH dc_mH pm_mH cd_mH ct_mH oc_mC kV_mC dc_mC pm_mC cd_mC ct_mC oc_mUn kV_mUn dc_mUn pm_mUn cd_mUn ct_mUn oc_mB kV_mB dc_mB pm_mB cd_mB ct_mB oc_mA kV_mA dc_mA pm_mA cd_mA ct_mA oc_bI kV_bI dc_bI pm_bI cd_bI ct_bI oc_bK kV_bK dc_bK pm_bK cd_bK ct_bK oc_bP kV_bP dc_bP pm_bP cd_bP ct_bP oc_w kV_w dc_w pm_w cd_w ct_w oc_cr kV_cr dc_cr pm_cr cd_cr ct_cr oc_cu kV_cu dc_cu pm_cu cd_cu ct_cu oc_fa kV_fa dc_fa pm_fa cd_fa ct_fa oc_en kV_en dc_en pm_en cd_en ct_en oc_fr kV_fr dc_fr pm_fr cd_fr ct_fr oc_aa kV_aa dc_aa pm_aa cd_aa ct_aa oc_P kV_P dc_P pm_P cd_P ct_P oc_T kV_T dc_T pm_T cd_T ct_T oc_Le kV_Le dc_Le pm_Le cd_Le ct_Le oc_W kV_W dc_W pm_W cd_W ct_W oc_Ws kV_Ws dc_Ws pm_Ws cd_Ws ct_Ws oc_U kV_U dc_U pm_U cd_U ct_U oc_R kV_R dc_R pm_R cd_R ct_R oc_A kV_A dc_A pm_A cd_A ct_A oc_ic kV_ic dc_ic pm_ic cd_ic ct_ic oc_cd kV_cd dc_cd pm_cd cd_cd ct_cd oc_cc kV_cc dc_cc pm_cc cd_cc ct_cc oc_de kV_de dc_de pm_de cd_de ct_de oc_al kV_al dc_al pm_al cd_al ct_al oc_or kV_or dc_or pm_or cd_or ct_or oc_il kV_il dc_il pm_il cd_il ct_il oc_bo kV_bo dc_bo pm_bo cd_bo ct_bo oc_ln kV_ln dc_ln pm_ln cd_ln ct_ln oc_li kV_li dc_li pm_li cd_li ct_li oc_sp kV_sp dc_sp pm_sp cd_sp ct_sp oc_nw kV_nw dc_nw pm_nw cd_nw ct_nw oc_iu kV_iu dc_iu pm_iu cd_iu ct_iu oc_lu kV_lu dc_lu pm_lu cd_lu ct_lu oc_cp kV_cp dc_cp pm_cp cd_cp ct_cp oc_lk kV_lk dc_lk pm_lk cd_lk ct_lk oc_ca kV_ca dc_ca pm_ca cd_ca ct_ca oc_nc kV_nc dc_nc pm_nc cd_nc ct_nc oc_tu kV_tu dc_tu pm_tu cd_tu ct_tu oc_rf kV_rf dc_rf pm_rf cd_rf ct_rf oc_L kV_L dc_L pm_L cd_L ct_L:Value}
  {T_LETTERS T_MOST_LETTERS T_MOST_KINDS T_MOST_UPS T_MOST_PLACES T_MOST_DEEDS:Tok}
  (a_QD:PySem.W.nsIn K mainGlobals "DeedError"=some (some (.ref QD)))
  (cl_QD:PySem.W.isClsIn K QD=true) (ty_QD:PySem.W.typeIn K (.ref QD)=some (.type "type"))
  {nm_QD q_QD:Str} {N_QD:Addr} {bs_QD sub_QD:List Value} {ab_QD:Bool} {sn_QD:List Str} {col_QD:Option Bool} {dd_QD:Option Addr} {k0_QD k1_QD k2_QD k3_QD k5_QD:Option Value}
  {bm_QD:List Value} {hd_QD:Bool}
  (l_QD:K.lookup QD=some (excClassObj nm_QD q_QD QD N_QD bs_QD bm_QD hd_QD sn_QD sub_QD ab_QD col_QD dd_QD k0_QD k1_QD k2_QD k3_QD k5_QD "ValueError.__new__"))
  (val_QD:PySem.W.subIn K (.ref QD) (.type "ValueError")=some true)
  (bas_QD:PySem.W.subIn K (.ref QD) (.type "BaseException")=some true)
  (att_QD:PySem.W.subIn K (.ref QD) (.type "AttributeError")=some false)
  (nam_QD:PySem.W.subIn K (.ref QD) (.type "NameError")=some false)
  (kp_QD:PySem.W.keepIn K (.ref QD)=true)
  (a_Q0:PySem.W.nsIn K mainGlobals "NoKind"=some (some (.ref Q0)))
  (cl_Q0:PySem.W.isClsIn K Q0=true) (ty_Q0:PySem.W.typeIn K (.ref Q0)=some (.type "type"))
  (a_Q1:PySem.W.nsIn K mainGlobals "Twice"=some (some (.ref Q1)))
  (cl_Q1:PySem.W.isClsIn K Q1=true) (ty_Q1:PySem.W.typeIn K (.ref Q1)=some (.type "type"))
  (a_Q2:PySem.W.nsIn K mainGlobals "NoName"=some (some (.ref Q2)))
  (cl_Q2:PySem.W.isClsIn K Q2=true) (ty_Q2:PySem.W.typeIn K (.ref Q2)=some (.type "type"))
  (a_Q3:PySem.W.nsIn K mainGlobals "Ring"=some (some (.ref Q3)))
  (cl_Q3:PySem.W.isClsIn K Q3=true) (ty_Q3:PySem.W.typeIn K (.ref Q3)=some (.type "type"))
  (a_Q4:PySem.W.nsIn K mainGlobals "NoDeed"=some (some (.ref Q4)))
  (cl_Q4:PySem.W.isClsIn K Q4=true) (ty_Q4:PySem.W.typeIn K (.ref Q4)=some (.type "type"))
  (a_Q5:PySem.W.nsIn K mainGlobals "Same"=some (some (.ref Q5)))
  (cl_Q5:PySem.W.isClsIn K Q5=true) (ty_Q5:PySem.W.typeIn K (.ref Q5)=some (.type "type"))
  (a_Q6:PySem.W.nsIn K mainGlobals "NoText"=some (some (.ref Q6)))
  (cl_Q6:PySem.W.isClsIn K Q6=true) (ty_Q6:PySem.W.typeIn K (.ref Q6)=some (.type "type"))
  (a_Q7:PySem.W.nsIn K mainGlobals "TooMany"=some (some (.ref Q7)))
  (cl_Q7:PySem.W.isClsIn K Q7=true) (ty_Q7:PySem.W.typeIn K (.ref Q7)=some (.type "type"))
  (a_Q8:PySem.W.nsIn K mainGlobals "NoBoard"=some (some (.ref Q8)))
  (cl_Q8:PySem.W.isClsIn K Q8=true) (ty_Q8:PySem.W.typeIn K (.ref Q8)=some (.type "type"))
  (a_Q9:PySem.W.nsIn K mainGlobals "NoCall"=some (some (.ref Q9)))
  (cl_Q9:PySem.W.isClsIn K Q9=true) (ty_Q9:PySem.W.typeIn K (.ref Q9)=some (.type "type"))
  {nm_Q9 q_Q9:Str} {N_Q9:Addr} {bs_Q9 sub_Q9:List Value} {ab_Q9:Bool} {sn_Q9:List Str} {col_Q9:Option Bool} {dd_Q9:Option Addr} {k0_Q9 k1_Q9 k2_Q9 k3_Q9 k5_Q9:Option Value}
  {bm_Q9:List Value} {hd_Q9:Bool}
  (l_Q9:K.lookup Q9=some (excClassObj nm_Q9 q_Q9 Q9 N_Q9 bs_Q9 bm_Q9 hd_Q9 sn_Q9 sub_Q9 ab_Q9 col_Q9 dd_Q9 k0_Q9 k1_Q9 k2_Q9 k3_Q9 k5_Q9 "ValueError.__new__"))
  (val_Q9:PySem.W.subIn K (.ref Q9) (.type "ValueError")=some true)
  (bas_Q9:PySem.W.subIn K (.ref Q9) (.type "BaseException")=some true)
  (att_Q9:PySem.W.subIn K (.ref Q9) (.type "AttributeError")=some false)
  (nam_Q9:PySem.W.subIn K (.ref Q9) (.type "NameError")=some false)
  (kp_Q9:PySem.W.keepIn K (.ref Q9)=true)
  (a_Q10:PySem.W.nsIn K mainGlobals "NoLine"=some (some (.ref Q10)))
  (cl_Q10:PySem.W.isClsIn K Q10=true) (ty_Q10:PySem.W.typeIn K (.ref Q10)=some (.type "type"))
  (a_Q11:PySem.W.nsIn K mainGlobals "NoPlace"=some (some (.ref Q11)))
  (cl_Q11:PySem.W.isClsIn K Q11=true) (ty_Q11:PySem.W.typeIn K (.ref Q11)=some (.type "type"))
  (a_Q12:PySem.W.nsIn K mainGlobals "NoWeights"=some (some (.ref Q12)))
  (cl_Q12:PySem.W.isClsIn K Q12=true) (ty_Q12:PySem.W.typeIn K (.ref Q12)=some (.type "type"))
  (a_Q13:PySem.W.nsIn K mainGlobals "NoTerm"=some (some (.ref Q13)))
  (cl_Q13:PySem.W.isClsIn K Q13=true) (ty_Q13:PySem.W.typeIn K (.ref Q13)=some (.type "type"))
  (a_Q14:PySem.W.nsIn K mainGlobals "NoRow"=some (some (.ref Q14)))
  (cl_Q14:PySem.W.isClsIn K Q14=true) (ty_Q14:PySem.W.typeIn K (.ref Q14)=some (.type "type"))
  (cg_Q:PySem.W.specialIn K (.builtin "object.__class__") "__get__"=some (some (.builtin "getset_descriptor.__get__"))) (ct_Q:PySem.W.takesIn K (.builtin "object.__class__")=some true)
  (ga_Q9:PySem.W.findIn K (.ref Q9) "__getattribute__"=some (some (.builtin "BaseException.__getattribute__"))) (gt_Q9:PySem.W.findIn K (.ref Q9) "__getattr__"=some none) (ca_Q9:PySem.W.findIn K (.ref Q9) "__class__"=some (some (.builtin "object.__class__"))) (ob_Q9:PySem.W.mroIn K Q9 (.type "object")=some true) (sd_Q9:PySem.W.subIn K (.ref Q9) (.ref QD)=some true)
  (s_Q9_0:PySem.W.subIn K (.ref Q9) (.ref Q0)=some false)
  (s_Q9_1:PySem.W.subIn K (.ref Q9) (.ref Q1)=some false)
  (s_Q9_2:PySem.W.subIn K (.ref Q9) (.ref Q2)=some false)
  (s_Q9_3:PySem.W.subIn K (.ref Q9) (.ref Q3)=some false)
  (s_Q9_4:PySem.W.subIn K (.ref Q9) (.ref Q4)=some false)
  (s_Q9_5:PySem.W.subIn K (.ref Q9) (.ref Q5)=some false)
  (s_Q9_6:PySem.W.subIn K (.ref Q9) (.ref Q6)=some false)
  (s_Q9_7:PySem.W.subIn K (.ref Q9) (.ref Q7)=some false)
  (s_Q9_8:PySem.W.subIn K (.ref Q9) (.ref Q8)=some false)
  (s_Q9_9:PySem.W.subIn K (.ref Q9) (.ref Q9)=some true)
  (s_Q9_10:PySem.W.subIn K (.ref Q9) (.ref Q10)=some false)
  (s_Q9_11:PySem.W.subIn K (.ref Q9) (.ref Q11)=some false)
  (s_Q9_12:PySem.W.subIn K (.ref Q9) (.ref Q12)=some false)
  (s_Q9_13:PySem.W.subIn K (.ref Q9) (.ref Q13)=some false)
  (s_Q9_14:PySem.W.subIn K (.ref Q9) (.ref Q14)=some false)
  (in_Q9:PySem.W.findIn K (.ref Q9) "__init__"=some (some (.builtin "ValueError.__init__")))
  (aC:PySem.W.nsIn K mainGlobals "Kinds"=some (some (.ref C)))
  (aB:PySem.W.nsIn K mainGlobals "Board"=some (some (.ref B)))
  (a_mI:PySem.W.findIn K (.ref C) "__init__"=some (some (.ref f_mI))) (i_mI:PySem.W.isFn K (.ref f_mI)=true)
  (l_mI:K.lookup f_mI=some ⟨oc_mI,od_mI,.func (PySem.W.fnOf "__init__" "Kinds.__init__" (Zao Zbj) (Zak Zbj) (Zab Zbj) .none kV_mI dc_mI pm_mI an_mI cd_mI ct_mI),sl_mI⟩) (c_mI:PySem.W.codeIn K cd_mI "Kinds.__init__"=true) (k_mI:PySem.W.keepIn K (.ref f_mI)=true)
  (a_mH:PySem.W.findIn K (.ref C) "has"=some (some (.ref f_mH))) (i_mH:PySem.W.isFn K (.ref f_mH)=true)
  (l_mH:K.lookup f_mH=some ⟨oc_mH,od_mH,.func (PySem.W.fnOf "has" "Kinds.has" (Zao Zc3) (Zak Zc3) (Zab Zc3) .none kV_mH dc_mH pm_mH an_mH cd_mH ct_mH),sl_mH⟩) (c_mH:PySem.W.codeIn K cd_mH "Kinds.has"=true) (k_mH:PySem.W.keepIn K (.ref f_mH)=true)
  (a_mC:PySem.W.findIn K (.ref C) "check"=some (some (.ref f_mC))) (i_mC:PySem.W.isFn K (.ref f_mC)=true)
  (l_mC:K.lookup f_mC=some ⟨oc_mC,od_mC,.func (PySem.W.fnOf "check" "Kinds.check" (Zao Zbo) (Zak Zbo) (Zab Zbo) .none kV_mC dc_mC pm_mC an_mC cd_mC ct_mC),sl_mC⟩) (c_mC:PySem.W.codeIn K cd_mC "Kinds.check"=true) (k_mC:PySem.W.keepIn K (.ref f_mC)=true)
  (a_mUn:PySem.W.findIn K (.ref C) "under"=some (some (.ref f_mUn))) (i_mUn:PySem.W.isFn K (.ref f_mUn)=true)
  (l_mUn:K.lookup f_mUn=some ⟨oc_mUn,od_mUn,.func (PySem.W.fnOf "under" "Kinds.under" (Zao Zcc) (Zak Zcc) (Zab Zcc) .none kV_mUn dc_mUn pm_mUn an_mUn cd_mUn ct_mUn),sl_mUn⟩) (c_mUn:PySem.W.codeIn K cd_mUn "Kinds.under"=true) (k_mUn:PySem.W.keepIn K (.ref f_mUn)=true)
  (a_mB:PySem.W.findIn K (.ref C) "beneath"=some (some (.ref f_mB))) (i_mB:PySem.W.isFn K (.ref f_mB)=true)
  (l_mB:K.lookup f_mB=some ⟨oc_mB,od_mB,.func (PySem.W.fnOf "beneath" "Kinds.beneath" (Zao Zbf) (Zak Zbf) (Zab Zbf) .none kV_mB dc_mB pm_mB an_mB cd_mB ct_mB),sl_mB⟩) (c_mB:PySem.W.codeIn K cd_mB "Kinds.beneath"=true) (k_mB:PySem.W.keepIn K (.ref f_mB)=true)
  (a_mA:PySem.W.findIn K (.ref C) "above"=some (some (.ref f_mA))) (i_mA:PySem.W.isFn K (.ref f_mA)=true)
  (l_mA:K.lookup f_mA=some ⟨oc_mA,od_mA,.func (PySem.W.fnOf "above" "Kinds.above" (Zao Zbp) (Zak Zbp) (Zab Zbp) .none kV_mA dc_mA pm_mA an_mA cd_mA ct_mA),sl_mA⟩) (c_mA:PySem.W.codeIn K cd_mA "Kinds.above"=true) (k_mA:PySem.W.keepIn K (.ref f_mA)=true)
  (a_bI:PySem.W.findIn K (.ref B) "__init__"=some (some (.ref f_bI))) (i_bI:PySem.W.isFn K (.ref f_bI)=true)
  (l_bI:K.lookup f_bI=some ⟨oc_bI,od_bI,.func (PySem.W.fnOf "__init__" "Board.__init__" (Zao Zbk) (Zak Zbk) (Zab Zbk) .none kV_bI dc_bI pm_bI an_bI cd_bI ct_bI),sl_bI⟩) (c_bI:PySem.W.codeIn K cd_bI "Board.__init__"=true) (k_bI:PySem.W.keepIn K (.ref f_bI)=true)
  (a_bK:PySem.W.findIn K (.ref B) "kinds"=some (some (.ref f_bK))) (i_bK:PySem.W.isFn K (.ref f_bK)=true)
  (l_bK:K.lookup f_bK=some ⟨oc_bK,od_bK,.func (PySem.W.fnOf "kinds" "Board.kinds" (Zao Zcd) (Zak Zcd) (Zab Zcd) .none kV_bK dc_bK pm_bK an_bK cd_bK ct_bK),sl_bK⟩) (c_bK:PySem.W.codeIn K cd_bK "Board.kinds"=true) (k_bK:PySem.W.keepIn K (.ref f_bK)=true)
  (a_bP:PySem.W.findIn K (.ref B) "places"=some (some (.ref f_bP))) (i_bP:PySem.W.isFn K (.ref f_bP)=true)
  (l_bP:K.lookup f_bP=some ⟨oc_bP,od_bP,.func (PySem.W.fnOf "places" "Board.places" (Zao Zby) (Zak Zby) (Zab Zby) .none kV_bP dc_bP pm_bP an_bP cd_bP ct_bP),sl_bP⟩) (c_bP:PySem.W.codeIn K cd_bP "Board.places"=true) (k_bP:PySem.W.keepIn K (.ref f_bP)=true)
  (a_w:PySem.W.nsIn K mainGlobals "is_word"=some (some (.ref f_w)))
  (l_w:K.lookup f_w=some ⟨oc_w,od_w,.func (PySem.W.fnOf "is_word" "is_word" (Zao Zda) (Zak Zda) (Zab Zda) .none kV_w dc_w pm_w an_w cd_w ct_w),sl_w⟩) (c_w:PySem.W.codeIn K cd_w "is_word"=true) (k_w:PySem.W.keepIn K (.ref f_w)=true)
  (a_cr:PySem.W.nsIn K mainGlobals "check_rows"=some (some (.ref f_cr)))
  (l_cr:K.lookup f_cr=some ⟨oc_cr,od_cr,.func (PySem.W.fnOf "check_rows" "check_rows" (Zao Zco) (Zak Zco) (Zab Zco) .none kV_cr dc_cr pm_cr an_cr cd_cr ct_cr),sl_cr⟩) (c_cr:PySem.W.codeIn K cd_cr "check_rows"=true) (k_cr:PySem.W.keepIn K (.ref f_cr)=true)
  (a_cu:PySem.W.nsIn K mainGlobals "check_ups"=some (some (.ref f_cu)))
  (l_cu:K.lookup f_cu=some ⟨oc_cu,od_cu,.func (PySem.W.fnOf "check_ups" "check_ups" (Zao Zc1) (Zak Zc1) (Zab Zc1) .none kV_cu dc_cu pm_cu an_cu cd_cu ct_cu),sl_cu⟩) (c_cu:PySem.W.codeIn K cd_cu "check_ups"=true) (k_cu:PySem.W.keepIn K (.ref f_cu)=true)
  (a_fa:PySem.W.nsIn K mainGlobals "first_among"=some (some (.ref f_fa)))
  (l_fa:K.lookup f_fa=some ⟨oc_fa,od_fa,.func (PySem.W.fnOf "first_among" "first_among" (Zao Zbd) (Zak Zbd) (Zab Zbd) .none kV_fa dc_fa pm_fa an_fa cd_fa ct_fa),sl_fa⟩) (c_fa:PySem.W.codeIn K cd_fa "first_among"=true) (k_fa:PySem.W.keepIn K (.ref f_fa)=true)
  (a_en:PySem.W.nsIn K mainGlobals "endless"=some (some (.ref f_en)))
  (l_en:K.lookup f_en=some ⟨oc_en,od_en,.func (PySem.W.fnOf "endless" "endless" (Zao Zdb) (Zak Zdb) (Zab Zdb) .none kV_en dc_en pm_en an_en cd_en ct_en),sl_en⟩) (c_en:PySem.W.codeIn K cd_en "endless"=true) (k_en:PySem.W.keepIn K (.ref f_en)=true)
  (a_fr:PySem.W.nsIn K mainGlobals "find_ring"=some (some (.ref f_fr)))
  (l_fr:K.lookup f_fr=some ⟨oc_fr,od_fr,.func (PySem.W.fnOf "find_ring" "find_ring" (Zao Zc0) (Zak Zc0) (Zab Zc0) .none kV_fr dc_fr pm_fr an_fr cd_fr ct_fr),sl_fr⟩) (c_fr:PySem.W.codeIn K cd_fr "find_ring"=true) (k_fr:PySem.W.keepIn K (.ref f_fr)=true)
  (a_aa:PySem.W.nsIn K mainGlobals "all_above"=some (some (.ref f_aa)))
  (l_aa:K.lookup f_aa=some ⟨oc_aa,od_aa,.func (PySem.W.fnOf "all_above" "all_above" (Zao Zc2) (Zak Zc2) (Zab Zc2) .none kV_aa dc_aa pm_aa an_aa cd_aa ct_aa),sl_aa⟩) (c_aa:PySem.W.codeIn K cd_aa "all_above"=true) (k_aa:PySem.W.keepIn K (.ref f_aa)=true)
  (a_P:PySem.W.nsIn K mainGlobals "_law_pot"=some (some (.ref f_P)))
  (l_P:K.lookup f_P=some ⟨oc_P,od_P,.func (PySem.W.fnOf "_law_pot" "_law_pot" (Zao Zc6) (Zak Zc6) (Zab Zc6) .none kV_P dc_P pm_P an_P cd_P ct_P),sl_P⟩) (c_P:PySem.W.codeIn K cd_P "_law_pot"=true) (k_P:PySem.W.keepIn K (.ref f_P)=true)
  (a_T:PySem.W.nsIn K mainGlobals "_law_take"=some (some (.ref f_T)))
  (l_T:K.lookup f_T=some ⟨oc_T,od_T,.func (PySem.W.fnOf "_law_take" "_law_take" (Zao Zas) (Zak Zas) (Zab Zas) .none kV_T dc_T pm_T an_T cd_T ct_T),sl_T⟩) (c_T:PySem.W.codeIn K cd_T "_law_take"=true) (k_T:PySem.W.keepIn K (.ref f_T)=true)
  (a_Le:PySem.W.nsIn K mainGlobals "_law_letters"=some (some (.ref f_Le)))
  (l_Le:K.lookup f_Le=some ⟨oc_Le,od_Le,.func (PySem.W.fnOf "_law_letters" "_law_letters" (Zao Za6) (Zak Za6) (Zab Za6) .none kV_Le dc_Le pm_Le an_Le cd_Le ct_Le),sl_Le⟩) (c_Le:PySem.W.codeIn K cd_Le "_law_letters"=true) (k_Le:PySem.W.keepIn K (.ref f_Le)=true)
  (a_W:PySem.W.nsIn K mainGlobals "_law_word"=some (some (.ref f_W)))
  (l_W:K.lookup f_W=some ⟨oc_W,od_W,.func (PySem.W.fnOf "_law_word" "_law_word" (Zao Zav) (Zak Zav) (Zab Zav) .none kV_W dc_W pm_W an_W cd_W ct_W),sl_W⟩) (c_W:PySem.W.codeIn K cd_W "_law_word"=true) (k_W:PySem.W.keepIn K (.ref f_W)=true)
  (a_Ws:PySem.W.nsIn K mainGlobals "_law_words"=some (some (.ref f_Ws)))
  (l_Ws:K.lookup f_Ws=some ⟨oc_Ws,od_Ws,.func (PySem.W.fnOf "_law_words" "_law_words" (Zao Zcp) (Zak Zcp) (Zab Zcp) .none kV_Ws dc_Ws pm_Ws an_Ws cd_Ws ct_Ws),sl_Ws⟩) (c_Ws:PySem.W.codeIn K cd_Ws "_law_words"=true) (k_Ws:PySem.W.keepIn K (.ref f_Ws)=true)
  (a_U:PySem.W.nsIn K mainGlobals "_law_ups"=some (some (.ref f_U)))
  (l_U:K.lookup f_U=some ⟨oc_U,od_U,.func (PySem.W.fnOf "_law_ups" "_law_ups" (Zao Zb7) (Zak Zb7) (Zab Zb7) .none kV_U dc_U pm_U an_U cd_U ct_U),sl_U⟩) (c_U:PySem.W.codeIn K cd_U "_law_ups"=true) (k_U:PySem.W.keepIn K (.ref f_U)=true)
  (a_R:PySem.W.nsIn K mainGlobals "_law_rows"=some (some (.ref f_R)))
  (l_R:K.lookup f_R=some ⟨oc_R,od_R,.func (PySem.W.fnOf "_law_rows" "_law_rows" (Zao Zch) (Zak Zch) (Zab Zch) .none kV_R dc_R pm_R an_R cd_R ct_R),sl_R⟩) (c_R:PySem.W.codeIn K cd_R "_law_rows"=true) (k_R:PySem.W.keepIn K (.ref f_R)=true)
  (a_A:PySem.W.nsIn K mainGlobals "_law_above"=some (some (.ref f_A)))
  (l_A:K.lookup f_A=some ⟨oc_A,od_A,.func (PySem.W.fnOf "_law_above" "_law_above" (Zao Zcb) (Zak Zcb) (Zab Zcb) .none kV_A dc_A pm_A an_A cd_A ct_A),sl_A⟩) (c_A:PySem.W.codeIn K cd_A "_law_above"=true) (k_A:PySem.W.keepIn K (.ref f_A)=true)
  (a_ic:PySem.W.nsIn K mainGlobals "is_call"=some (some (.ref f_ic)))
  (l_ic:K.lookup f_ic=some ⟨oc_ic,od_ic,.func (PySem.W.fnOf "is_call" "is_call" (Zao Zcu) (Zak Zcu) (Zab Zcu) .none kV_ic dc_ic pm_ic an_ic cd_ic ct_ic),sl_ic⟩) (c_ic:PySem.W.codeIn K cd_ic "is_call"=true) (k_ic:PySem.W.keepIn K (.ref f_ic)=true)
  (a_cd:PySem.W.nsIn K mainGlobals "check_deeds"=some (some (.ref f_cd)))
  (l_cd:K.lookup f_cd=some ⟨oc_cd,od_cd,.func (PySem.W.fnOf "check_deeds" "check_deeds" (Zao Zb9) (Zak Zb9) (Zab Zb9) .none kV_cd dc_cd pm_cd an_cd cd_cd ct_cd),sl_cd⟩) (c_cd:PySem.W.codeIn K cd_cd "check_deeds"=true) (k_cd:PySem.W.keepIn K (.ref f_cd)=true)
  (a_cc:PySem.W.nsIn K mainGlobals "check_call"=some (some (.ref f_cc)))
  (l_cc:K.lookup f_cc=some ⟨oc_cc,od_cc,.func (PySem.W.fnOf "check_call" "check_call" (Zao Zbt) (Zak Zbt) (Zab Zbt) .none kV_cc dc_cc pm_cc an_cc cd_cc ct_cc),sl_cc⟩) (c_cc:PySem.W.codeIn K cd_cc "check_call"=true) (k_cc:PySem.W.keepIn K (.ref f_cc)=true)
  (a_de:PySem.W.nsIn K mainGlobals "_law_deeds"=some (some (.ref f_de)))
  (l_de:K.lookup f_de=some ⟨oc_de,od_de,.func (PySem.W.fnOf "_law_deeds" "_law_deeds" (Zao Zbx) (Zak Zbx) (Zab Zbx) .none kV_de dc_de pm_de an_de cd_de ct_de),sl_de⟩) (c_de:PySem.W.codeIn K cd_de "_law_deeds"=true) (k_de:PySem.W.keepIn K (.ref f_de)=true)
  (a_al:PySem.W.nsIn K mainGlobals "_law_alone"=some (some (.ref f_al)))
  (l_al:K.lookup f_al=some ⟨oc_al,od_al,.func (PySem.W.fnOf "_law_alone" "_law_alone" (Zao Zcq) (Zak Zcq) (Zab Zcq) .none kV_al dc_al pm_al an_al cd_al ct_al),sl_al⟩) (c_al:PySem.W.codeIn K cd_al "_law_alone"=true) (k_al:PySem.W.keepIn K (.ref f_al)=true)
  (a_or:PySem.W.nsIn K mainGlobals "_law_other_rows"=some (some (.ref f_or)))
  (l_or:K.lookup f_or=some ⟨oc_or,od_or,.func (PySem.W.fnOf "_law_other_rows" "_law_other_rows" (Zao Zax) (Zak Zax) (Zab Zax) .none kV_or dc_or pm_or an_or cd_or ct_or),sl_or⟩) (c_or:PySem.W.codeIn K cd_or "_law_other_rows"=true) (k_or:PySem.W.keepIn K (.ref f_or)=true)
  (a_il:PySem.W.nsIn K mainGlobals "is_line"=some (some (.ref f_il)))
  (l_il:K.lookup f_il=some ⟨oc_il,od_il,.func (PySem.W.fnOf "is_line" "is_line" (Zao Zdk) (Zak Zdk) (Zab Zdk) .none kV_il dc_il pm_il an_il cd_il ct_il),sl_il⟩) (c_il:PySem.W.codeIn K cd_il "is_line"=true) (k_il:PySem.W.keepIn K (.ref f_il)=true)
  (a_bo:PySem.W.nsIn K mainGlobals "beneath_one_ahead"=some (some (.ref f_bo)))
  (l_bo:K.lookup f_bo=some ⟨oc_bo,od_bo,.func (PySem.W.fnOf "beneath_one_ahead" "beneath_one_ahead" (Zao Zau) (Zak Zau) (Zab Zau) .none kV_bo dc_bo pm_bo an_bo cd_bo ct_bo),sl_bo⟩) (c_bo:PySem.W.codeIn K cd_bo "beneath_one_ahead"=true) (k_bo:PySem.W.keepIn K (.ref f_bo)=true)
  (a_ln:PySem.W.nsIn K mainGlobals "_law_line"=some (some (.ref f_ln)))
  (l_ln:K.lookup f_ln=some ⟨oc_ln,od_ln,.func (PySem.W.fnOf "_law_line" "_law_line" (Zao Zbb) (Zak Zbb) (Zab Zbb) .none kV_ln dc_ln pm_ln an_ln cd_ln ct_ln),sl_ln⟩) (c_ln:PySem.W.codeIn K cd_ln "_law_line"=true) (k_ln:PySem.W.keepIn K (.ref f_ln)=true)
  (a_li:PySem.W.nsIn K mainGlobals "_law_is_line"=some (some (.ref f_li)))
  (l_li:K.lookup f_li=some ⟨oc_li,od_li,.func (PySem.W.fnOf "_law_is_line" "_law_is_line" (Zao Zbe) (Zak Zbe) (Zab Zbe) .none kV_li dc_li pm_li an_li cd_li ct_li),sl_li⟩) (c_li:PySem.W.codeIn K cd_li "_law_is_line"=true) (k_li:PySem.W.keepIn K (.ref f_li)=true)
  (a_sp:PySem.W.nsIn K mainGlobals "_law_spoilt"=some (some (.ref f_sp)))
  (l_sp:K.lookup f_sp=some ⟨oc_sp,od_sp,.func (PySem.W.fnOf "_law_spoilt" "_law_spoilt" (Zao Zca) (Zak Zca) (Zab Zca) .none kV_sp dc_sp pm_sp an_sp cd_sp ct_sp),sl_sp⟩) (c_sp:PySem.W.codeIn K cd_sp "_law_spoilt"=true) (k_sp:PySem.W.keepIn K (.ref f_sp)=true)
  (a_nw:PySem.W.nsIn K mainGlobals "_law_no_word"=some (some (.ref f_nw)))
  (l_nw:K.lookup f_nw=some ⟨oc_nw,od_nw,.func (PySem.W.fnOf "_law_no_word" "_law_no_word" (Zao Zbv) (Zak Zbv) (Zab Zbv) .none kV_nw dc_nw pm_nw an_nw cd_nw ct_nw),sl_nw⟩) (c_nw:PySem.W.codeIn K cd_nw "_law_no_word"=true) (k_nw:PySem.W.keepIn K (.ref f_nw)=true)
  (a_iu:PySem.W.nsIn K mainGlobals "is_lineup"=some (some (.ref f_iu)))
  (l_iu:K.lookup f_iu=some ⟨oc_iu,od_iu,.func (PySem.W.fnOf "is_lineup" "is_lineup" (Zao Zb0) (Zak Zb0) (Zab Zb0) .none kV_iu dc_iu pm_iu an_iu cd_iu ct_iu),sl_iu⟩) (c_iu:PySem.W.codeIn K cd_iu "is_lineup"=true) (k_iu:PySem.W.keepIn K (.ref f_iu)=true)
  (a_lu:PySem.W.nsIn K mainGlobals "_law_lineup"=some (some (.ref f_lu)))
  (l_lu:K.lookup f_lu=some ⟨oc_lu,od_lu,.func (PySem.W.fnOf "_law_lineup" "_law_lineup" (Zao Zbm) (Zak Zbm) (Zab Zbm) .none kV_lu dc_lu pm_lu an_lu cd_lu ct_lu),sl_lu⟩) (c_lu:PySem.W.codeIn K cd_lu "_law_lineup"=true) (k_lu:PySem.W.keepIn K (.ref f_lu)=true)
  (a_cp:PySem.W.nsIn K mainGlobals "_law_copied"=some (some (.ref f_cp)))
  (l_cp:K.lookup f_cp=some ⟨oc_cp,od_cp,.func (PySem.W.fnOf "_law_copied" "_law_copied" (Zao Zbn) (Zak Zbn) (Zab Zbn) .none kV_cp dc_cp pm_cp an_cp cd_cp ct_cp),sl_cp⟩) (c_cp:PySem.W.codeIn K cd_cp "_law_copied"=true) (k_cp:PySem.W.keepIn K (.ref f_cp)=true)
  (a_lk:PySem.W.nsIn K mainGlobals "_law_is_lineup"=some (some (.ref f_lk)))
  (l_lk:K.lookup f_lk=some ⟨oc_lk,od_lk,.func (PySem.W.fnOf "_law_is_lineup" "_law_is_lineup" (Zao Za1) (Zak Za1) (Zab Za1) .none kV_lk dc_lk pm_lk an_lk cd_lk ct_lk),sl_lk⟩) (c_lk:PySem.W.codeIn K cd_lk "_law_is_lineup"=true) (k_lk:PySem.W.keepIn K (.ref f_lk)=true)
  (a_ca:PySem.W.nsIn K mainGlobals "_law_case"=some (some (.ref f_ca)))
  (l_ca:K.lookup f_ca=some ⟨oc_ca,od_ca,.func (PySem.W.fnOf "_law_case" "_law_case" (Zao Zb1) (Zak Zb1) (Zab Zb1) .none kV_ca dc_ca pm_ca an_ca cd_ca ct_ca),sl_ca⟩) (c_ca:PySem.W.codeIn K cd_ca "_law_case"=true) (k_ca:PySem.W.keepIn K (.ref f_ca)=true)
  (a_nc:PySem.W.nsIn K mainGlobals "_law_no_call"=some (some (.ref f_nc)))
  (l_nc:K.lookup f_nc=some ⟨oc_nc,od_nc,.func (PySem.W.fnOf "_law_no_call" "_law_no_call" (Zao Zbw) (Zak Zbw) (Zab Zbw) .none kV_nc dc_nc pm_nc an_nc cd_nc ct_nc),sl_nc⟩) (c_nc:PySem.W.codeIn K cd_nc "_law_no_call"=true) (k_nc:PySem.W.keepIn K (.ref f_nc)=true)
  (a_tu:PySem.W.nsIn K mainGlobals "_law_turned"=some (some (.ref f_tu)))
  (l_tu:K.lookup f_tu=some ⟨oc_tu,od_tu,.func (PySem.W.fnOf "_law_turned" "_law_turned" (Zao Zbl) (Zak Zbl) (Zab Zbl) .none kV_tu dc_tu pm_tu an_tu cd_tu ct_tu),sl_tu⟩) (c_tu:PySem.W.codeIn K cd_tu "_law_turned"=true) (k_tu:PySem.W.keepIn K (.ref f_tu)=true)
  (a_rf:PySem.W.nsIn K mainGlobals "_law_refused"=some (some (.ref f_rf)))
  (l_rf:K.lookup f_rf=some ⟨oc_rf,od_rf,.func (PySem.W.fnOf "_law_refused" "_law_refused" (Zao Zbu) (Zak Zbu) (Zab Zbu) .none kV_rf dc_rf pm_rf an_rf cd_rf ct_rf),sl_rf⟩) (c_rf:PySem.W.codeIn K cd_rf "_law_refused"=true) (k_rf:PySem.W.keepIn K (.ref f_rf)=true)
  (a_L:PySem.W.nsIn K mainGlobals "law"=some (some (.ref f_L)))
  (l_L:K.lookup f_L=some ⟨oc_L,od_L,.func (PySem.W.fnOf "law" "law" (Zao s_law) (Zak s_law) (Zab s_law) .none kV_L dc_L pm_L an_L cd_L ct_L),sl_L⟩) (c_L:PySem.W.codeIn K cd_L "law"=true) (k_L:PySem.W.keepIn K (.ref f_L)=true)
  (pg:PySem.W.plainGet K C Str.empty=true) (hd:PySem.W.hasDictIn K C=true) (po:PySem.W.plainOver K C=true) (sa:PySem.W.findIn K (.ref C) "__setattr__"=some (some (.builtin "object.__setattr__"))) (mk:PySem.W.makesIn K C=true) (kc:PySem.W.keepIn K (.ref C)=true)
  (n_ups_of:PySem.W.findIn K (.ref C) "ups_of"=some none)
  (n_above_of:PySem.W.findIn K (.ref C) "above_of"=some none)
  (pg_B:PySem.W.plainGet K B Str.empty=true) (hd_B:PySem.W.hasDictIn K B=true) (po_B:PySem.W.plainOver K B=true) (sa_B:PySem.W.findIn K (.ref B) "__setattr__"=some (some (.builtin "object.__setattr__"))) (mk_B:PySem.W.makesIn K B=true) (kc_B:PySem.W.keepIn K (.ref B)=true)
  (n_book_B:PySem.W.findIn K (.ref B) "book"=some none)
  (n_width_B:PySem.W.findIn K (.ref B) "width"=some none)
  (n_stands_B:PySem.W.findIn K (.ref B) "stands"=some none)
  (n_has_B:PySem.W.findIn K (.ref B) "has"=some none)
  (g_LETTERS:PySem.W.nsIn K mainGlobals "LETTERS"=some (some (.str Md.letters T_LETTERS)))
  (g_MOST_LETTERS:PySem.W.nsIn K mainGlobals "MOST_LETTERS"=some (some (.int 8 T_MOST_LETTERS)))
  (g_MOST_KINDS:PySem.W.nsIn K mainGlobals "MOST_KINDS"=some (some (.int 24 T_MOST_KINDS)))
  (g_MOST_UPS:PySem.W.nsIn K mainGlobals "MOST_UPS"=some (some (.int 8 T_MOST_UPS)))
  (g_MOST_PLACES:PySem.W.nsIn K mainGlobals "MOST_PLACES"=some (some (.int 4 T_MOST_PLACES)))
  (g_MOST_DEEDS:PySem.W.nsIn K mainGlobals "MOST_DEEDS"=some (some (.int 64 T_MOST_DEEDS)))
  (z_len:PySem.W.nsIn K mainGlobals "len"=some none)
  (z_all:PySem.W.nsIn K mainGlobals "all"=some none)
  (z_any:PySem.W.nsIn K mainGlobals "any"=some none)
  (z_list:PySem.W.nsIn K mainGlobals "list"=some none)
  (z_tuple:PySem.W.nsIn K mainGlobals "tuple"=some none)
  (z_range:PySem.W.nsIn K mainGlobals "range"=some none)
  (z_int:PySem.W.nsIn K mainGlobals "int"=some none)
  (z_isinstance:PySem.W.nsIn K mainGlobals "isinstance"=some none)
  (z_sorted:PySem.W.nsIn K mainGlobals "sorted"=some none)
  (z_reversed:PySem.W.nsIn K mainGlobals "reversed"=some none)
  (z_zip:PySem.W.nsIn K mainGlobals "zip"=some none)
  (z_bool:PySem.W.nsIn K mainGlobals "bool"=some none)
  (z_enumerate:PySem.W.nsIn K mainGlobals "enumerate"=some none)
  (z_ValueError:PySem.W.nsIn K mainGlobals "ValueError"=some none)
  : ∃ fd:FuncData,(∀ (s:Shared) (v:Value),BindsTo s fd ⟨[v],[]⟩ [("script",v)])∧∀ base:Heap,K.In base→base.Ns mainGlobals mg→Za0 l.prog w K mg base CX0 8 fa fd ["script"] (spLaw K):=by
 have e:=hfa.symm.trans (PySem.W.mg_of X G a_L)
 cases e
 have mgC_LETTERS:=PySem.W.mg_of X G g_LETTERS
 have mgC_MOST_LETTERS:=PySem.W.mg_of X G g_MOST_LETTERS
 have mgC_MOST_KINDS:=PySem.W.mg_of X G g_MOST_KINDS
 have mgC_MOST_UPS:=PySem.W.mg_of X G g_MOST_UPS
 have mgC_MOST_PLACES:=PySem.W.mg_of X G g_MOST_PLACES
 have mgC_MOST_DEEDS:=PySem.W.mg_of X G g_MOST_DEEDS
 have mgN_len:=PySem.W.mg_none_of X G z_len
 have mgN_all:=PySem.W.mg_none_of X G z_all
 have mgN_any:=PySem.W.mg_none_of X G z_any
 have mgN_list:=PySem.W.mg_none_of X G z_list
 have mgN_tuple:=PySem.W.mg_none_of X G z_tuple
 have mgN_range:=PySem.W.mg_none_of X G z_range
 have mgN_int:=PySem.W.mg_none_of X G z_int
 have mgN_isinstance:=PySem.W.mg_none_of X G z_isinstance
 have mgN_sorted:=PySem.W.mg_none_of X G z_sorted
 have mgN_reversed:=PySem.W.mg_none_of X G z_reversed
 have mgN_zip:=PySem.W.mg_none_of X G z_zip
 have mgN_bool:=PySem.W.mg_none_of X G z_bool
 have mgN_enumerate:=PySem.W.mg_none_of X G z_enumerate
 have mgN_ValueError:=PySem.W.mg_none_of X G z_ValueError
 have F_mI:=Zaz (st:=Zbj) l_mI c_mI k_mI
 have b_mI:=F_mI.binds (ps:=["self","rows"]) fun _ _ _ _ _ _ us hl=>by obtain ⟨_,_,rfl⟩:=us2 hl;rfl
 have M_mI:MDef K C "__init__" "Kinds.__init__" Zbj ["self","rows"] f_mI _:=⟨F_mI,b_mI,a_mI,i_mI,k_mI⟩
 have F_mH:=Zaz (st:=Zc3) l_mH c_mH k_mH
 have b_mH:=F_mH.binds (ps:=["self","word"]) fun _ _ _ _ _ _ us hl=>by obtain ⟨_,_,rfl⟩:=us2 hl;rfl
 have M_mH:MDef K C "has" "Kinds.has" Zc3 ["self","word"] f_mH _:=⟨F_mH,b_mH,a_mH,i_mH,k_mH⟩
 have F_mC:=Zaz (st:=Zbo) l_mC c_mC k_mC
 have b_mC:=F_mC.binds (ps:=["self","word"]) fun _ _ _ _ _ _ us hl=>by obtain ⟨_,_,rfl⟩:=us2 hl;rfl
 have M_mC:MDef K C "check" "Kinds.check" Zbo ["self","word"] f_mC _:=⟨F_mC,b_mC,a_mC,i_mC,k_mC⟩
 have F_mUn:=Zaz (st:=Zcc) l_mUn c_mUn k_mUn
 have b_mUn:=F_mUn.binds (ps:=["self","one","other"]) fun _ _ _ _ _ _ us hl=>by obtain ⟨_,_,_,rfl⟩:=us3 hl;rfl
 have M_mUn:MDef K C "under" "Kinds.under" Zcc ["self","one","other"] f_mUn _:=⟨F_mUn,b_mUn,a_mUn,i_mUn,k_mUn⟩
 have F_mB:=Zaz (st:=Zbf) l_mB c_mB k_mB
 have b_mB:=F_mB.binds (ps:=["self","one","other"]) fun _ _ _ _ _ _ us hl=>by obtain ⟨_,_,_,rfl⟩:=us3 hl;rfl
 have M_mB:MDef K C "beneath" "Kinds.beneath" Zbf ["self","one","other"] f_mB _:=⟨F_mB,b_mB,a_mB,i_mB,k_mB⟩
 have F_mA:=Zaz (st:=Zbp) l_mA c_mA k_mA
 have b_mA:=F_mA.binds (ps:=["self","word"]) fun _ _ _ _ _ _ us hl=>by obtain ⟨_,_,rfl⟩:=us2 hl;rfl
 have M_mA:MDef K C "above" "Kinds.above" Zbp ["self","word"] f_mA _:=⟨F_mA,b_mA,a_mA,i_mA,k_mA⟩
 have F_bI:=Zaz (st:=Zbk) l_bI c_bI k_bI
 have b_bI:=F_bI.binds (ps:=["self","kinds","places","deeds"]) fun _ _ _ _ _ _ us hl=>by obtain ⟨_,_,_,_,rfl⟩:=us4 hl;rfl
 have M_bI:MDef K B "__init__" "Board.__init__" Zbk ["self","kinds","places","deeds"] f_bI _:=⟨F_bI,b_bI,a_bI,i_bI,k_bI⟩
 have F_bK:=Zaz (st:=Zcd) l_bK c_bK k_bK
 have b_bK:=F_bK.binds (ps:=["self"]) fun _ _ _ _ _ _ us hl=>by obtain ⟨_,rfl⟩:=us1 hl;rfl
 have M_bK:MDef K B "kinds" "Board.kinds" Zcd ["self"] f_bK _:=⟨F_bK,b_bK,a_bK,i_bK,k_bK⟩
 have F_bP:=Zaz (st:=Zby) l_bP c_bP k_bP
 have b_bP:=F_bP.binds (ps:=["self"]) fun _ _ _ _ _ _ us hl=>by obtain ⟨_,rfl⟩:=us1 hl;rfl
 have M_bP:MDef K B "places" "Board.places" Zby ["self"] f_bP _:=⟨F_bP,b_bP,a_bP,i_bP,k_bP⟩
 have mgC:=PySem.W.mg_of X G aC
 have M:Mk K C f_mI:=⟨mk,a_mI,i_mI,kc⟩
 have mgB:=PySem.W.mg_of X G aB
 have M_B:Mk K B f_bI:=⟨mk_B,a_bI,i_bI,kc_B⟩
 have F_w:=Zaz (st:=Zda) l_w c_w k_w
 have b_w:=F_w.binds (ps:=["text"]) fun _ _ _ _ _ _ us hl=>by obtain ⟨_,rfl⟩:=us1 hl;rfl
 have D_w:Def K mg "is_word" Zda ["text"] f_w _:=⟨F_w,b_w,PySem.W.mg_of X G a_w⟩
 have F_cr:=Zaz (st:=Zco) l_cr c_cr k_cr
 have b_cr:=F_cr.binds (ps:=["rows"]) fun _ _ _ _ _ _ us hl=>by obtain ⟨_,rfl⟩:=us1 hl;rfl
 have D_cr:Def K mg "check_rows" Zco ["rows"] f_cr _:=⟨F_cr,b_cr,PySem.W.mg_of X G a_cr⟩
 have F_cu:=Zaz (st:=Zc1) l_cu c_cu k_cu
 have b_cu:=F_cu.binds (ps:=["ups_of"]) fun _ _ _ _ _ _ us hl=>by obtain ⟨_,rfl⟩:=us1 hl;rfl
 have D_cu:Def K mg "check_ups" Zc1 ["ups_of"] f_cu _:=⟨F_cu,b_cu,PySem.W.mg_of X G a_cu⟩
 have F_fa:=Zaz (st:=Zbd) l_fa c_fa k_fa
 have b_fa:=F_fa.binds (ps:=["words","others"]) fun _ _ _ _ _ _ us hl=>by obtain ⟨_,_,rfl⟩:=us2 hl;rfl
 have D_fa:Def K mg "first_among" Zbd ["words","others"] f_fa _:=⟨F_fa,b_fa,PySem.W.mg_of X G a_fa⟩
 have F_en:=Zaz (st:=Zdb) l_en c_en k_en
 have b_en:=F_en.binds (ps:=["ups_of"]) fun _ _ _ _ _ _ us hl=>by obtain ⟨_,rfl⟩:=us1 hl;rfl
 have D_en:Def K mg "endless" Zdb ["ups_of"] f_en _:=⟨F_en,b_en,PySem.W.mg_of X G a_en⟩
 have F_fr:=Zaz (st:=Zc0) l_fr c_fr k_fr
 have b_fr:=F_fr.binds (ps:=["ups_of"]) fun _ _ _ _ _ _ us hl=>by obtain ⟨_,rfl⟩:=us1 hl;rfl
 have D_fr:Def K mg "find_ring" Zc0 ["ups_of"] f_fr _:=⟨F_fr,b_fr,PySem.W.mg_of X G a_fr⟩
 have F_aa:=Zaz (st:=Zc2) l_aa c_aa k_aa
 have b_aa:=F_aa.binds (ps:=["ups_of","word"]) fun _ _ _ _ _ _ us hl=>by obtain ⟨_,_,rfl⟩:=us2 hl;rfl
 have D_aa:Def K mg "all_above" Zc2 ["ups_of","word"] f_aa _:=⟨F_aa,b_aa,PySem.W.mg_of X G a_aa⟩
 have F_P:=Zaz (st:=Zc6) l_P c_P k_P
 have b_P:=F_P.binds (ps:=["script","k"]) fun _ _ _ _ _ _ us hl=>by obtain ⟨_,_,rfl⟩:=us2 hl;rfl
 have D_P:Def K mg "_law_pot" Zc6 ["script","k"] f_P _:=⟨F_P,b_P,PySem.W.mg_of X G a_P⟩
 have F_T:=Zaz (st:=Zas) l_T c_T k_T
 have b_T:=F_T.binds (ps:=["pot","many"]) fun _ _ _ _ _ _ us hl=>by obtain ⟨_,_,rfl⟩:=us2 hl;rfl
 have D_T:Def K mg "_law_take" Zas ["pot","many"] f_T _:=⟨F_T,b_T,PySem.W.mg_of X G a_T⟩
 have F_Le:=Zaz (st:=Za6) l_Le c_Le k_Le
 have b_Le:=F_Le.binds (ps:=["number"]) fun _ _ _ _ _ _ us hl=>by obtain ⟨_,rfl⟩:=us1 hl;rfl
 have D_Le:Def K mg "_law_letters" Za6 ["number"] f_Le _:=⟨F_Le,b_Le,PySem.W.mg_of X G a_Le⟩
 have F_W:=Zaz (st:=Zav) l_W c_W k_W
 have b_W:=F_W.binds (ps:=["pot","words"]) fun _ _ _ _ _ _ us hl=>by obtain ⟨_,_,rfl⟩:=us2 hl;rfl
 have D_W:Def K mg "_law_word" Zav ["pot","words"] f_W _:=⟨F_W,b_W,PySem.W.mg_of X G a_W⟩
 have F_Ws:=Zaz (st:=Zcp) l_Ws c_Ws k_Ws
 have b_Ws:=F_Ws.binds (ps:=["pot","many"]) fun _ _ _ _ _ _ us hl=>by obtain ⟨_,_,rfl⟩:=us2 hl;rfl
 have D_Ws:Def K mg "_law_words" Zcp ["pot","many"] f_Ws _:=⟨F_Ws,b_Ws,PySem.W.mg_of X G a_Ws⟩
 have F_U:=Zaz (st:=Zb7) l_U c_U k_U
 have b_U:=F_U.binds (ps:=["pot","k","shape"]) fun _ _ _ _ _ _ us hl=>by obtain ⟨_,_,_,rfl⟩:=us3 hl;rfl
 have D_U:Def K mg "_law_ups" Zb7 ["pot","k","shape"] f_U _:=⟨F_U,b_U,PySem.W.mg_of X G a_U⟩
 have F_R:=Zaz (st:=Zch) l_R c_R k_R
 have b_R:=F_R.binds (ps:=["pot","most"]) fun _ _ _ _ _ _ us hl=>by obtain ⟨_,_,rfl⟩:=us2 hl;rfl
 have D_R:Def K mg "_law_rows" Zch ["pot","most"] f_R _:=⟨F_R,b_R,PySem.W.mg_of X G a_R⟩
 have F_A:=Zaz (st:=Zcb) l_A c_A k_A
 have b_A:=F_A.binds (ps:=["rows"]) fun _ _ _ _ _ _ us hl=>by obtain ⟨_,rfl⟩:=us1 hl;rfl
 have D_A:Def K mg "_law_above" Zcb ["rows"] f_A _:=⟨F_A,b_A,PySem.W.mg_of X G a_A⟩
 have F_ic:=Zaz (st:=Zcu) l_ic c_ic k_ic
 have b_ic:=F_ic.binds (ps:=["kinds","places","call"]) fun _ _ _ _ _ _ us hl=>by obtain ⟨_,_,_,rfl⟩:=us3 hl;rfl
 have D_ic:Def K mg "is_call" Zcu ["kinds","places","call"] f_ic _:=⟨F_ic,b_ic,PySem.W.mg_of X G a_ic⟩
 have F_cd:=Zaz (st:=Zb9) l_cd c_cd k_cd
 have b_cd:=F_cd.binds (ps:=["kinds","places","deeds"]) fun _ _ _ _ _ _ us hl=>by obtain ⟨_,_,_,rfl⟩:=us3 hl;rfl
 have D_cd:Def K mg "check_deeds" Zb9 ["kinds","places","deeds"] f_cd _:=⟨F_cd,b_cd,PySem.W.mg_of X G a_cd⟩
 have F_cc:=Zaz (st:=Zbt) l_cc c_cc k_cc
 have b_cc:=F_cc.binds (ps:=["kinds","places","call"]) fun _ _ _ _ _ _ us hl=>by obtain ⟨_,_,_,rfl⟩:=us3 hl;rfl
 have D_cc:Def K mg "check_call" Zbt ["kinds","places","call"] f_cc _:=⟨F_cc,b_cc,PySem.W.mg_of X G a_cc⟩
 have F_de:=Zaz (st:=Zbx) l_de c_de k_de
 have b_de:=F_de.binds (ps:=["pot","rows","above","places","most"]) fun _ _ _ _ _ _ us hl=>by obtain ⟨_,_,_,_,_,rfl⟩:=us5 hl;rfl
 have D_de:Def K mg "_law_deeds" Zbx ["pot","rows","above","places","most"] f_de _:=⟨F_de,b_de,PySem.W.mg_of X G a_de⟩
 have F_al:=Zaz (st:=Zcq) l_al c_al k_al
 have b_al:=F_al.binds (ps:=["e","place"]) fun _ _ _ _ _ _ us hl=>by obtain ⟨_,_,rfl⟩:=us2 hl;rfl
 have D_al:Def K mg "_law_alone" Zcq ["e","place"] f_al _:=⟨F_al,b_al,PySem.W.mg_of X G a_al⟩
 have F_or:=Zaz (st:=Zax) l_or c_or k_or
 have b_or:=F_or.binds (ps:=["pot","rows"]) fun _ _ _ _ _ _ us hl=>by obtain ⟨_,_,rfl⟩:=us2 hl;rfl
 have D_or:Def K mg "_law_other_rows" Zax ["pot","rows"] f_or _:=⟨F_or,b_or,PySem.W.mg_of X G a_or⟩
 have F_il:=Zaz (st:=Zdk) l_il c_il k_il
 have b_il:=F_il.binds (ps:=["kinds","word","line"]) fun _ _ _ _ _ _ us hl=>by obtain ⟨_,_,_,rfl⟩:=us3 hl;rfl
 have D_il:Def K mg "is_line" Zdk ["kinds","word","line"] f_il _:=⟨F_il,b_il,PySem.W.mg_of X G a_il⟩
 have F_bo:=Zaz (st:=Zau) l_bo c_bo k_bo
 have b_bo:=F_bo.binds (ps:=["kinds","line","spot"]) fun _ _ _ _ _ _ us hl=>by obtain ⟨_,_,_,rfl⟩:=us3 hl;rfl
 have D_bo:Def K mg "beneath_one_ahead" Zau ["kinds","line","spot"] f_bo _:=⟨F_bo,b_bo,PySem.W.mg_of X G a_bo⟩
 have F_ln:=Zaz (st:=Zbb) l_ln c_ln k_ln
 have b_ln:=F_ln.binds (ps:=["pot","above","word"]) fun _ _ _ _ _ _ us hl=>by obtain ⟨_,_,_,rfl⟩:=us3 hl;rfl
 have D_ln:Def K mg "_law_line" Zbb ["pot","above","word"] f_ln _:=⟨F_ln,b_ln,PySem.W.mg_of X G a_ln⟩
 have F_li:=Zaz (st:=Zbe) l_li c_li k_li
 have b_li:=F_li.binds (ps:=["above","word","line"]) fun _ _ _ _ _ _ us hl=>by obtain ⟨_,_,_,rfl⟩:=us3 hl;rfl
 have D_li:Def K mg "_law_is_line" Zbe ["above","word","line"] f_li _:=⟨F_li,b_li,PySem.W.mg_of X G a_li⟩
 have F_sp:=Zaz (st:=Zca) l_sp c_sp k_sp
 have b_sp:=F_sp.binds (ps:=["pot","words","line"]) fun _ _ _ _ _ _ us hl=>by obtain ⟨_,_,_,rfl⟩:=us3 hl;rfl
 have D_sp:Def K mg "_law_spoilt" Zca ["pot","words","line"] f_sp _:=⟨F_sp,b_sp,PySem.W.mg_of X G a_sp⟩
 have F_nw:=Zaz (st:=Zbv) l_nw c_nw k_nw
 have b_nw:=F_nw.binds (ps:=["pot","words"]) fun _ _ _ _ _ _ us hl=>by obtain ⟨_,_,rfl⟩:=us2 hl;rfl
 have D_nw:Def K mg "_law_no_word" Zbv ["pot","words"] f_nw _:=⟨F_nw,b_nw,PySem.W.mg_of X G a_nw⟩
 have F_iu:=Zaz (st:=Zb0) l_iu c_iu k_iu
 have b_iu:=F_iu.binds (ps:=["board","call","lineup"]) fun _ _ _ _ _ _ us hl=>by obtain ⟨_,_,_,rfl⟩:=us3 hl;rfl
 have D_iu:Def K mg "is_lineup" Zb0 ["board","call","lineup"] f_iu _:=⟨F_iu,b_iu,PySem.W.mg_of X G a_iu⟩
 have F_lu:=Zaz (st:=Zbm) l_lu c_lu k_lu
 have b_lu:=F_lu.binds (ps:=["pot","above","call"]) fun _ _ _ _ _ _ us hl=>by obtain ⟨_,_,_,rfl⟩:=us3 hl;rfl
 have D_lu:Def K mg "_law_lineup" Zbm ["pot","above","call"] f_lu _:=⟨F_lu,b_lu,PySem.W.mg_of X G a_lu⟩
 have F_cp:=Zaz (st:=Zbn) l_cp c_cp k_cp
 have b_cp:=F_cp.binds (ps:=["lineup"]) fun _ _ _ _ _ _ us hl=>by obtain ⟨_,rfl⟩:=us1 hl;rfl
 have D_cp:Def K mg "_law_copied" Zbn ["lineup"] f_cp _:=⟨F_cp,b_cp,PySem.W.mg_of X G a_cp⟩
 have F_lk:=Zaz (st:=Za1) l_lk c_lk k_lk
 have b_lk:=F_lk.binds (ps:=["above","call","lineup"]) fun _ _ _ _ _ _ us hl=>by obtain ⟨_,_,_,rfl⟩:=us3 hl;rfl
 have D_lk:Def K mg "_law_is_lineup" Za1 ["above","call","lineup"] f_lk _:=⟨F_lk,b_lk,PySem.W.mg_of X G a_lk⟩
 have F_ca:=Zaz (st:=Zb1) l_ca c_ca k_ca
 have b_ca:=F_ca.binds (ps:=["script","most"]) fun _ _ _ _ _ _ us hl=>by obtain ⟨_,_,rfl⟩:=us2 hl;rfl
 have D_ca:Def K mg "_law_case" Zb1 ["script","most"] f_ca _:=⟨F_ca,b_ca,PySem.W.mg_of X G a_ca⟩
 have F_nc:=Zaz (st:=Zbw) l_nc c_nc k_nc
 have b_nc:=F_nc.binds (ps:=["pot","words","call"]) fun _ _ _ _ _ _ us hl=>by obtain ⟨_,_,_,rfl⟩:=us3 hl;rfl
 have D_nc:Def K mg "_law_no_call" Zbw ["pot","words","call"] f_nc _:=⟨F_nc,b_nc,PySem.W.mg_of X G a_nc⟩
 have F_tu:=Zaz (st:=Zbl) l_tu c_tu k_tu
 have b_tu:=F_tu.binds (ps:=["pot","words","above","lineup"]) fun _ _ _ _ _ _ us hl=>by obtain ⟨_,_,_,_,rfl⟩:=us4 hl;rfl
 have D_tu:Def K mg "_law_turned" Zbl ["pot","words","above","lineup"] f_tu _:=⟨F_tu,b_tu,PySem.W.mg_of X G a_tu⟩
 have F_rf:=Zaz (st:=Zbu) l_rf c_rf k_rf
 have b_rf:=F_rf.binds (ps:=["board","call","lineup"]) fun _ _ _ _ _ _ us hl=>by obtain ⟨_,_,_,rfl⟩:=us3 hl;rfl
 have D_rf:Def K mg "_law_refused" Zbu ["board","call","lineup"] f_rf _:=⟨F_rf,b_rf,PySem.W.mg_of X G a_rf⟩
 have F_L:=Zaz (st:=s_law) l_L c_L k_L
 have b_L:=F_L.binds (ps:=["script"]) fun _ _ _ _ _ _ us hl=>by obtain ⟨_,rfl⟩:=us1 hl;rfl
 have D_L:Def K mg "law" s_law ["script"] fa _:=⟨F_L,b_L,PySem.W.mg_of X G a_L⟩
 have TD:ErrD K mg QD:=⟨PySem.W.mg_of X G a_QD,⟨⟨_,_,_,_,_,_,_,_,_,_,_,_,_,_,_,_,l_QD⟩,val_QD,bas_QD,att_QD,nam_QD,kp_QD⟩,cl_QD,ty_QD⟩
 have TF:Fifteen K mg (fif Q0 Q1 Q2 Q3 Q4 Q5 Q6 Q7 Q8 Q9 Q10 Q11 Q12 Q13 Q14):=⟨PySem.W.mg_of X G a_Q0,PySem.W.mg_of X G a_Q1,PySem.W.mg_of X G a_Q2,PySem.W.mg_of X G a_Q3,PySem.W.mg_of X G a_Q4,PySem.W.mg_of X G a_Q5,PySem.W.mg_of X G a_Q6,PySem.W.mg_of X G a_Q7,PySem.W.mg_of X G a_Q8,PySem.W.mg_of X G a_Q9,PySem.W.mg_of X G a_Q10,PySem.W.mg_of X G a_Q11,PySem.W.mg_of X G a_Q12,PySem.W.mg_of X G a_Q13,PySem.W.mg_of X G a_Q14,all15 cl_Q0 cl_Q1 cl_Q2 cl_Q3 cl_Q4 cl_Q5 cl_Q6 cl_Q7 cl_Q8 cl_Q9 cl_Q10 cl_Q11 cl_Q12 cl_Q13 cl_Q14,all15 ty_Q0 ty_Q1 ty_Q2 ty_Q3 ty_Q4 ty_Q5 ty_Q6 ty_Q7 ty_Q8 ty_Q9 ty_Q10 ty_Q11 ty_Q12 ty_Q13 ty_Q14⟩
 have O9:OneOf K QD (fif Q0 Q1 Q2 Q3 Q4 Q5 Q6 Q7 Q8 Q9 Q10 Q11 Q12 Q13 Q14) 9:=⟨⟨⟨⟨_,_,_,_,_,_,_,_,_,_,_,_,_,_,_,_,l_Q9⟩,val_Q9,bas_Q9,att_Q9,nam_Q9,kp_Q9⟩,ga_Q9,gt_Q9,ca_Q9,cg_Q,ct_Q,ob_Q9⟩,sd_Q9,all15 s_Q9_0 s_Q9_1 s_Q9_2 s_Q9_3 s_Q9_4 s_Q9_5 s_Q9_6 s_Q9_7 s_Q9_8 s_Q9_9 s_Q9_10 s_Q9_11 s_Q9_12 s_Q9_13 s_Q9_14⟩
 have TP9:ErrP K mg "NoCall" Q9:=⟨PySem.W.mg_of X G a_Q9,⟨⟨_,_,_,_,_,_,_,_,_,_,_,_,_,_,_,_,l_Q9⟩,val_Q9,bas_Q9,att_Q9,nam_Q9,kp_Q9⟩,in_Q9⟩
 have TK:TxtK mg:=⟨⟨_,mgC_LETTERS⟩,⟨_,mgC_MOST_LETTERS⟩,⟨_,mgC_MOST_KINDS⟩,⟨_,mgC_MOST_UPS⟩,mgN_len,mgN_all,mgN_list,mgN_tuple⟩
 have TR:TxtR mg:=⟨mgN_range,mgN_int,mgN_len,mgN_tuple,mgN_list⟩
 have TC:TxtC K C:=⟨⟨pg,hd,po,sa⟩,n_ups_of,n_above_of⟩
 have TBd:TxtBd K B:=⟨⟨pg_B,hd_B,po_B,sa_B⟩,n_book_B,n_width_B,n_stands_B⟩
 have TBm:TxtBm mg:=⟨⟨_,mgC_MOST_PLACES⟩,⟨_,mgC_MOST_DEEDS⟩,mgN_len,mgN_all,mgN_tuple,mgN_list,mgN_enumerate⟩
 have hBC:B≠C:=fun z=>by rw [z,a_mH] at n_has_B;cases n_has_B
 exact ⟨PySem.W.fnOf "law" "law" (Zao s_law) (Zak s_law) (Zab s_law) .none kV_L dc_L pm_L an_L cd_L ct_L,fun s v=>.of_eq rfl,fun base _ _=>have GI:=ok_init (P:=l.prog) (w:=w) (base:=base) F_mI TK TC D_cr D_w D_cu D_fr D_en D_fa D_aa;have GB:=ok_binit (P:=l.prog) (w:=w) (base:=base) F_bI TBm TBd TC D_cd D_ic M_mH hBC;have GP:=ok_pot (P:=l.prog) (w:=w) (base:=base) D_P mgN_len;have GT:=ok_take (P:=l.prog) (w:=w) (base:=base) D_T;have GR:=ok_rowsL (P:=l.prog) (w:=w) (base:=base) D_R D_T D_U D_Ws D_W D_Le TR;have GW:=ok_word (P:=l.prog) (w:=w) (base:=base) D_W D_T D_Le mgN_len;have GLA:=ok_labove (P:=l.prog) (w:=w) (base:=base) D_A mgN_len;have GDe:=ok_deedsD (P:=l.prog) (w:=w) (base:=base) D_de D_T ⟨mgN_len,mgN_range,mgN_tuple⟩;have GIL:=ok_is_line D_il mgN_sorted mgN_any mgN_range mgN_len TC M_mA (ok_aboveOf M_mA.fn TC M_mC M_mH) D_bo (ok_boa D_bo mgN_any TC M_mB (ok_beneath M_mB.fn TC M_mUn M_mC M_mH));have GIU:=ok_is_lineup (P:=l.prog) (w:=w) (base:=base) D_iu mgN_sorted mgN_list mgN_range mgN_len mgN_all mgN_zip TC TBd M_bK M_bP D_cc (ok_check_call D_cc D_ic mgN_len mgN_all TC M_mH) D_il GIL;have GLi:=ok_lil (P:=l.prog) (w:=w) (base:=base) D_li mgN_sorted mgN_any mgN_range mgN_len;have GLn:=ok_lline (P:=l.prog) (w:=w) (base:=base) D_ln mgN_list mgN_any mgN_len D_T GT;have GLk:=ok_lilu D_lk mgN_sorted mgN_list mgN_range mgN_len mgN_all mgN_zip D_li GLi;have GLU:=ok_llineup D_lu mgN_range mgN_len D_T GT D_ln GLn;have GCp:=ok_copied (P:=l.prog) (w:=w) (base:=base) D_cp mgN_list;have GCa:=ok_case D_ca mgN_len mgN_range mgN_list mgN_tuple D_R GR D_P GP D_T GT D_A GLA D_de GDe;have GNw:=ok_no_word D_nw D_T GT D_W GW;have GNc:=ok_no_call D_nc mgN_len D_T GT D_nw GNw;have GTu:=ok_turned D_tu mgN_list mgN_len D_T GT D_sp (ok_spoilt D_sp mgN_list mgN_reversed mgN_len D_T GT D_W GW) D_ln GLn;have XIU:=ok_is_lineupX D_iu TC TBd M_bK M_bP D_cc (ok_check_callX (P:=l.prog) (w:=w) (base:=base) D_cc TP9 D_ic mgN_len mgN_all TC M_mH);have GRf:=ok_refusedU D_rf TD O9 D_iu XIU D_al (ok_alone D_al TD TF mgN_isinstance mgN_ValueError);ok_law D_L ⟨mgN_list,mgN_zip,mgN_isinstance,mgN_bool,mgN_range⟩ M mgC b_mI GI M_B mgB b_bI GB D_P GP D_ca GCa D_A GLA D_or (ok_other D_or D_T D_U TR) D_lu GLU D_tu GTu D_cp GCp D_iu GIU D_lk GLk D_rf GRf D_nc GNc⟩
theorem walk {l:PySem.W.OpenLaw}{q:Program}{loose:List Str}{XP:(Str→Option Value)→Heap→Prop}{YP:World→Heap→Prop}{d:DefRec}{K:Params→PySem.W.Frag}(hn:l.most=some 63) (hdf:d.params.defaults=[])
  (hY:∀ (w:World) (h:Heap),YP w h→(K w.params).In h)
  (F:∀ (w:World) (mg:Str→Option Value) (fa:Addr) (h:Heap),(K w.params).In h→h.Ns mainGlobals mg→mg d.name=some (.ref fa) →
   ∃ fd:FuncData,(∀ (s:Shared) (u:Value),BindsTo s fd ⟨[u],[]⟩ [("script",u)])∧∀ base:Heap,(K w.params).In base→base.Ns mainGlobals mg→Za0 l.prog w (K w.params) mg base CX0 8 fa fd ["script"] (spLaw (K w.params))):
  PySem.W.WalkO q loose XP YP l.row.toRowW d [] (fun f vs=>PySem.call f vs):=
 L2.walk_of (n:=63) (k:=8) (x:="script") (CX:=fun _=>CX0) (sp:=fun w=>spLaw (K w.params)) hn (by decide) hdf ⟨rfl,by decide,by decide,rfl⟩ hY F (fun _ _ a ns hl _ hS=>⟨a,ns,rfl,hS,hl,fun _=>rfl⟩) fun _ _ _ _ _ z=>z
end K23
def PySem.W.Fast.tw11074597580969489635:Nat:=0
def PySem.W.Fast.tw17786199009870717090:Nat:=0
def PySem.W.Fast.tw8029941925046378222:Nat:=0
def PySem.W.Fast.tw3704749233489581652:Nat:=0
def PySem.W.Fast.tw4944858333057845418:Nat:=0
def PySem.W.Fast.tw15549012859083156615:Nat:=0
def PySem.W.Fast.tw3898899287277945622:Nat:=0
def PySem.W.Fast.tw7560125675468208349:Nat:=0
def PySem.W.Fast.tw17428863270414615395:Nat:=0
def PySem.W.Fast.tw17239324830441261353:Nat:=0
def PySem.W.Fast.tw15868742576632192723:Nat:=0
def PySem.W.Fast.tw2361609891990021169:Nat:=0
def PySem.W.Fast.tw5455352367488666280:Nat:=0
def PySem.W.Fast.tw13986102910353882352:Nat:=0
def PySem.W.Fast.tw8720586302129602907:Nat:=0
def PySem.W.Fast.tw15383378965034800953:Nat:=0
def PySem.W.Fast.tw16305190160266703293:Nat:=0
def PySem.W.Fast.tw11469688371203524128:Nat:=0
def PySem.W.Fast.tw3508141517718443083:Nat:=0
def PySem.W.Fast.tw17985698666519640617:Nat:=0
def PySem.W.Fast.tw6061029088001696331:Nat:=0
def PySem.W.Fast.tw17477044597289545844:Nat:=0
def PySem.W.Fast.tw8009971184921314491:Nat:=0
def PySem.W.Fast.tw7034568936522545508:Nat:=0
def PySem.W.Fast.tw11444368724543545209:Nat:=0
def PySem.W.Fast.tw7285045638075229030:Nat:=0
def PySem.W.Fast.tw11390582260977053742:Nat:=0
def PySem.W.Fast.tw14828965227603039083:Nat:=0
def PySem.W.Fast.tw10777227607881693620:Nat:=0
def PySem.W.Fast.tw2734855107530522656:Nat:=0
def PySem.W.Fast.tw5135416208225939877:Nat:=0
def PySem.W.Fast.tw6225019784929243331:Nat:=0
open PySem PySem.W PyProof.Rows
set_option maxRecDepth 100000 in
set_option maxHeartbeats 0 in
theorem PySem.Challenge.cw_manydeeds_k23_lineups_known_holds : PySem.Challenge.rw_manydeeds_k23_lineups_known.Holds := by
 w_on;o_law;k_head;(case hw=>w_witness2)
 k_fill
 refine K23.walk (l:=PySem.Challenge.rw_manydeeds_k23_lineups_known) rfl rfl (fun w h Y=>PySem.W.kIn_of Y) ?F
 case F =>
  intro w mg fa h KX G hmg
  refine' K23.all_mk KX G hmg ?a_QD ?cl_QD ?ty_QD ?l_QD ?val_QD ?bas_QD ?att_QD ?nam_QD ?kp_QD ?a_Q0 ?cl_Q0 ?ty_Q0 ?a_Q1 ?cl_Q1 ?ty_Q1 ?a_Q2 ?cl_Q2 ?ty_Q2 ?a_Q3 ?cl_Q3 ?ty_Q3 ?a_Q4 ?cl_Q4 ?ty_Q4 ?a_Q5 ?cl_Q5 ?ty_Q5 ?a_Q6 ?cl_Q6 ?ty_Q6 ?a_Q7 ?cl_Q7 ?ty_Q7 ?a_Q8 ?cl_Q8 ?ty_Q8 ?a_Q9 ?cl_Q9 ?ty_Q9 ?l_Q9 ?val_Q9 ?bas_Q9 ?att_Q9 ?nam_Q9 ?kp_Q9 ?a_Q10 ?cl_Q10 ?ty_Q10 ?a_Q11 ?cl_Q11 ?ty_Q11 ?a_Q12 ?cl_Q12 ?ty_Q12 ?a_Q13 ?cl_Q13 ?ty_Q13 ?a_Q14 ?cl_Q14 ?ty_Q14 ?cg_Q ?ct_Q ?ga_Q9 ?gt_Q9 ?ca_Q9 ?ob_Q9 ?sd_Q9 ?s_Q9_0 ?s_Q9_1 ?s_Q9_2 ?s_Q9_3 ?s_Q9_4 ?s_Q9_5 ?s_Q9_6 ?s_Q9_7 ?s_Q9_8 ?s_Q9_9 ?s_Q9_10 ?s_Q9_11 ?s_Q9_12 ?s_Q9_13 ?s_Q9_14 ?in_Q9 ?aC ?aB ?a_mI ?i_mI ?l_mI ?c_mI ?k_mI ?a_mH ?i_mH ?l_mH ?c_mH ?k_mH ?a_mC ?i_mC ?l_mC ?c_mC ?k_mC ?a_mUn ?i_mUn ?l_mUn ?c_mUn ?k_mUn ?a_mB ?i_mB ?l_mB ?c_mB ?k_mB ?a_mA ?i_mA ?l_mA ?c_mA ?k_mA ?a_bI ?i_bI ?l_bI ?c_bI ?k_bI ?a_bK ?i_bK ?l_bK ?c_bK ?k_bK ?a_bP ?i_bP ?l_bP ?c_bP ?k_bP ?a_w ?l_w ?c_w ?k_w ?a_cr ?l_cr ?c_cr ?k_cr ?a_cu ?l_cu ?c_cu ?k_cu ?a_fa ?l_fa ?c_fa ?k_fa ?a_en ?l_en ?c_en ?k_en ?a_fr ?l_fr ?c_fr ?k_fr ?a_aa ?l_aa ?c_aa ?k_aa ?a_P ?l_P ?c_P ?k_P ?a_T ?l_T ?c_T ?k_T ?a_Le ?l_Le ?c_Le ?k_Le ?a_W ?l_W ?c_W ?k_W ?a_Ws ?l_Ws ?c_Ws ?k_Ws ?a_U ?l_U ?c_U ?k_U ?a_R ?l_R ?c_R ?k_R ?a_A ?l_A ?c_A ?k_A ?a_ic ?l_ic ?c_ic ?k_ic ?a_cd ?l_cd ?c_cd ?k_cd ?a_cc ?l_cc ?c_cc ?k_cc ?a_de ?l_de ?c_de ?k_de ?a_al ?l_al ?c_al ?k_al ?a_or ?l_or ?c_or ?k_or ?a_il ?l_il ?c_il ?k_il ?a_bo ?l_bo ?c_bo ?k_bo ?a_ln ?l_ln ?c_ln ?k_ln ?a_li ?l_li ?c_li ?k_li ?a_sp ?l_sp ?c_sp ?k_sp ?a_nw ?l_nw ?c_nw ?k_nw ?a_iu ?l_iu ?c_iu ?k_iu ?a_lu ?l_lu ?c_lu ?k_lu ?a_cp ?l_cp ?c_cp ?k_cp ?a_lk ?l_lk ?c_lk ?k_lk ?a_ca ?l_ca ?c_ca ?k_ca ?a_nc ?l_nc ?c_nc ?k_nc ?a_tu ?l_tu ?c_tu ?k_tu ?a_rf ?l_rf ?c_rf ?k_rf ?a_L ?l_L ?c_L ?k_L ?pg ?hd ?po ?sa ?mk ?kc ?n_ups_of ?n_above_of ?pg_B ?hd_B ?po_B ?sa_B ?mk_B ?kc_B ?n_book_B ?n_width_B ?n_stands_B ?n_has_B ?g_LETTERS ?g_MOST_LETTERS ?g_MOST_KINDS ?g_MOST_UPS ?g_MOST_PLACES ?g_MOST_DEEDS ?z_len ?z_all ?z_any ?z_list ?z_tuple ?z_range ?z_int ?z_isinstance ?z_sorted ?z_reversed ?z_zip ?z_bool ?z_enumerate ?z_ValueError
  (case a_QD=>k_is)
  (case cl_QD=>k_is)
  (case ty_QD=>k_is)
  (case l_QD=>k_is)
  (case val_QD=>k_is)
  (case bas_QD=>k_is)
  (case att_QD=>k_is)
  (case nam_QD=>k_is)
  (case kp_QD=>k_is)
  (case a_Q0=>k_is)
  (case cl_Q0=>k_is)
  (case ty_Q0=>k_is)
  (case a_Q1=>k_is)
  (case cl_Q1=>k_is)
  (case ty_Q1=>k_is)
  (case a_Q2=>k_is)
  (case cl_Q2=>k_is)
  (case ty_Q2=>k_is)
  (case a_Q3=>k_is)
  (case cl_Q3=>k_is)
  (case ty_Q3=>k_is)
  (case a_Q4=>k_is)
  (case cl_Q4=>k_is)
  (case ty_Q4=>k_is)
  (case a_Q5=>k_is)
  (case cl_Q5=>k_is)
  (case ty_Q5=>k_is)
  (case a_Q6=>k_is)
  (case cl_Q6=>k_is)
  (case ty_Q6=>k_is)
  (case a_Q7=>k_is)
  (case cl_Q7=>k_is)
  (case ty_Q7=>k_is)
  (case a_Q8=>k_is)
  (case cl_Q8=>k_is)
  (case ty_Q8=>k_is)
  (case a_Q9=>k_is)
  (case cl_Q9=>k_is)
  (case ty_Q9=>k_is)
  (case l_Q9=>k_is)
  (case val_Q9=>k_is)
  (case bas_Q9=>k_is)
  (case att_Q9=>k_is)
  (case nam_Q9=>k_is)
  (case kp_Q9=>k_is)
  (case a_Q10=>k_is)
  (case cl_Q10=>k_is)
  (case ty_Q10=>k_is)
  (case a_Q11=>k_is)
  (case cl_Q11=>k_is)
  (case ty_Q11=>k_is)
  (case a_Q12=>k_is)
  (case cl_Q12=>k_is)
  (case ty_Q12=>k_is)
  (case a_Q13=>k_is)
  (case cl_Q13=>k_is)
  (case ty_Q13=>k_is)
  (case a_Q14=>k_is)
  (case cl_Q14=>k_is)
  (case ty_Q14=>k_is)
  (case cg_Q=>k_is)
  (case ct_Q=>k_is)
  (case ga_Q9=>k_is)
  (case gt_Q9=>k_is)
  (case ca_Q9=>k_is)
  (case ob_Q9=>k_is)
  (case sd_Q9=>k_is)
  (case s_Q9_0=>k_is)
  (case s_Q9_1=>k_is)
  (case s_Q9_2=>k_is)
  (case s_Q9_3=>k_is)
  (case s_Q9_4=>k_is)
  (case s_Q9_5=>k_is)
  (case s_Q9_6=>k_is)
  (case s_Q9_7=>k_is)
  (case s_Q9_8=>k_is)
  (case s_Q9_9=>k_is)
  (case s_Q9_10=>k_is)
  (case s_Q9_11=>k_is)
  (case s_Q9_12=>k_is)
  (case s_Q9_13=>k_is)
  (case s_Q9_14=>k_is)
  (case in_Q9=>k_is)
  (case aC=>k_is)
  (case aB=>k_is)
  (case a_mI=>k_is)
  (case i_mI=>k_is)
  (case l_mI=>k_is)
  (case c_mI=>k_is)
  (case k_mI=>k_is)
  (case a_mH=>k_is)
  (case i_mH=>k_is)
  (case l_mH=>k_is)
  (case c_mH=>k_is)
  (case k_mH=>k_is)
  (case a_mC=>k_is)
  (case i_mC=>k_is)
  (case l_mC=>k_is)
  (case c_mC=>k_is)
  (case k_mC=>k_is)
  (case a_mUn=>k_is)
  (case i_mUn=>k_is)
  (case l_mUn=>k_is)
  (case c_mUn=>k_is)
  (case k_mUn=>k_is)
  (case a_mB=>k_is)
  (case i_mB=>k_is)
  (case l_mB=>k_is)
  (case c_mB=>k_is)
  (case k_mB=>k_is)
  (case a_mA=>k_is)
  (case i_mA=>k_is)
  (case l_mA=>k_is)
  (case c_mA=>k_is)
  (case k_mA=>k_is)
  (case a_bI=>k_is)
  (case i_bI=>k_is)
  (case l_bI=>k_is)
  (case c_bI=>k_is)
  (case k_bI=>k_is)
  (case a_bK=>k_is)
  (case i_bK=>k_is)
  (case l_bK=>k_is)
  (case c_bK=>k_is)
  (case k_bK=>k_is)
  (case a_bP=>k_is)
  (case i_bP=>k_is)
  (case l_bP=>k_is)
  (case c_bP=>k_is)
  (case k_bP=>k_is)
  (case a_w=>k_is)
  (case l_w=>k_is)
  (case c_w=>k_is)
  (case k_w=>k_is)
  (case a_cr=>k_is)
  (case l_cr=>k_is)
  (case c_cr=>k_is)
  (case k_cr=>k_is)
  (case a_cu=>k_is)
  (case l_cu=>k_is)
  (case c_cu=>k_is)
  (case k_cu=>k_is)
  (case a_fa=>k_is)
  (case l_fa=>k_is)
  (case c_fa=>k_is)
  (case k_fa=>k_is)
  (case a_en=>k_is)
  (case l_en=>k_is)
  (case c_en=>k_is)
  (case k_en=>k_is)
  (case a_fr=>k_is)
  (case l_fr=>k_is)
  (case c_fr=>k_is)
  (case k_fr=>k_is)
  (case a_aa=>k_is)
  (case l_aa=>k_is)
  (case c_aa=>k_is)
  (case k_aa=>k_is)
  (case a_P=>k_is)
  (case l_P=>k_is)
  (case c_P=>k_is)
  (case k_P=>k_is)
  (case a_T=>k_is)
  (case l_T=>k_is)
  (case c_T=>k_is)
  (case k_T=>k_is)
  (case a_Le=>k_is)
  (case l_Le=>k_is)
  (case c_Le=>k_is)
  (case k_Le=>k_is)
  (case a_W=>k_is)
  (case l_W=>k_is)
  (case c_W=>k_is)
  (case k_W=>k_is)
  (case a_Ws=>k_is)
  (case l_Ws=>k_is)
  (case c_Ws=>k_is)
  (case k_Ws=>k_is)
  (case a_U=>k_is)
  (case l_U=>k_is)
  (case c_U=>k_is)
  (case k_U=>k_is)
  (case a_R=>k_is)
  (case l_R=>k_is)
  (case c_R=>k_is)
  (case k_R=>k_is)
  (case a_A=>k_is)
  (case l_A=>k_is)
  (case c_A=>k_is)
  (case k_A=>k_is)
  (case a_ic=>k_is)
  (case l_ic=>k_is)
  (case c_ic=>k_is)
  (case k_ic=>k_is)
  (case a_cd=>k_is)
  (case l_cd=>k_is)
  (case c_cd=>k_is)
  (case k_cd=>k_is)
  (case a_cc=>k_is)
  (case l_cc=>k_is)
  (case c_cc=>k_is)
  (case k_cc=>k_is)
  (case a_de=>k_is)
  (case l_de=>k_is)
  (case c_de=>k_is)
  (case k_de=>k_is)
  (case a_al=>k_is)
  (case l_al=>k_is)
  (case c_al=>k_is)
  (case k_al=>k_is)
  (case a_or=>k_is)
  (case l_or=>k_is)
  (case c_or=>k_is)
  (case k_or=>k_is)
  (case a_il=>k_is)
  (case l_il=>k_is)
  (case c_il=>k_is)
  (case k_il=>k_is)
  (case a_bo=>k_is)
  (case l_bo=>k_is)
  (case c_bo=>k_is)
  (case k_bo=>k_is)
  (case a_ln=>k_is)
  (case l_ln=>k_is)
  (case c_ln=>k_is)
  (case k_ln=>k_is)
  (case a_li=>k_is)
  (case l_li=>k_is)
  (case c_li=>k_is)
  (case k_li=>k_is)
  (case a_sp=>k_is)
  (case l_sp=>k_is)
  (case c_sp=>k_is)
  (case k_sp=>k_is)
  (case a_nw=>k_is)
  (case l_nw=>k_is)
  (case c_nw=>k_is)
  (case k_nw=>k_is)
  (case a_iu=>k_is)
  (case l_iu=>k_is)
  (case c_iu=>k_is)
  (case k_iu=>k_is)
  (case a_lu=>k_is)
  (case l_lu=>k_is)
  (case c_lu=>k_is)
  (case k_lu=>k_is)
  (case a_cp=>k_is)
  (case l_cp=>k_is)
  (case c_cp=>k_is)
  (case k_cp=>k_is)
  (case a_lk=>k_is)
  (case l_lk=>k_is)
  (case c_lk=>k_is)
  (case k_lk=>k_is)
  (case a_ca=>k_is)
  (case l_ca=>k_is)
  (case c_ca=>k_is)
  (case k_ca=>k_is)
  (case a_nc=>k_is)
  (case l_nc=>k_is)
  (case c_nc=>k_is)
  (case k_nc=>k_is)
  (case a_tu=>k_is)
  (case l_tu=>k_is)
  (case c_tu=>k_is)
  (case k_tu=>k_is)
  (case a_rf=>k_is)
  (case l_rf=>k_is)
  (case c_rf=>k_is)
  (case k_rf=>k_is)
  (case a_L=>k_is)
  (case l_L=>k_is)
  (case c_L=>k_is)
  (case k_L=>k_is)
  (case pg=>k_is)
  (case hd=>k_is)
  (case po=>k_is)
  (case sa=>k_is)
  (case mk=>k_is)
  (case kc=>k_is)
  (case n_ups_of=>k_is)
  (case n_above_of=>k_is)
  (case pg_B=>k_is)
  (case hd_B=>k_is)
  (case po_B=>k_is)
  (case sa_B=>k_is)
  (case mk_B=>k_is)
  (case kc_B=>k_is)
  (case n_book_B=>k_is)
  (case n_width_B=>k_is)
  (case n_stands_B=>k_is)
  (case n_has_B=>k_is)
  (case g_LETTERS=>k_is)
  (case g_MOST_LETTERS=>k_is)
  (case g_MOST_KINDS=>k_is)
  (case g_MOST_UPS=>k_is)
  (case g_MOST_PLACES=>k_is)
  (case g_MOST_DEEDS=>k_is)
  (case z_len=>k_is)
  (case z_all=>k_is)
  (case z_any=>k_is)
  (case z_list=>k_is)
  (case z_tuple=>k_is)
  (case z_range=>k_is)
  (case z_int=>k_is)
  (case z_isinstance=>k_is)
  (case z_sorted=>k_is)
  (case z_reversed=>k_is)
  (case z_zip=>k_is)
  (case z_bool=>k_is)
  (case z_enumerate=>k_is)
  (case z_ValueError=>k_is)
