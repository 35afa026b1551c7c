import PyProof.Rows.All
import Wide.All
import OpenK.AllK
import Wide.FinOn
import Lean
import PyProof.EqAt
import PyProof.EqKinds
import PyProof.TupleCall
import PySem.Challenge.RW_manydeeds_k62_books_refused
set_option Elab.async false
set_option linter.all false
set_option maxRecDepth 100000
abbrev RS:=List (PySem.Str×List PySem.Str)
abbrev LS:=List PySem.Str
abbrev Fg:=PySem.W.Frag
local macro_rules|`(tactic|nofun)=>`(tactic|exact ⟨rfl,rfl,rfl,by decide +kernel,rfl,by decide +kernel,by decide +kernel⟩)
set_option hygiene false
local macro_rules|`(tactic|nomatch $t)=>`(tactic|refine $t (fun vs H Q E h=>?_) (fun cdv A outer s H vs Q E hr h=>?_))
local macro_rules|`(⋯)=>`(FnOk P w K mg base CX0)
noncomputable section
namespace L2
open PySem PySem.Spec PyProof.Rows
abbrev Key:=Sum Int Str
def keyIs:Key→Value→Bool
 | .inl k,v=>Value.isInt k v
 | .inr x,v=>Value.isStrOf x v
def keyH (w:World):Key→Int
 | .inl k=>hashInt k
 | .inr x=>hashStr w x
def keyIs_shape:∀ {k:Key}{v:Value},keyIs k v=true→(∃ i t,k=Sum.inl i∧v=Value.int i t)∨(∃ x t,k=Sum.inr x∧v=Value.str x t)
 | .inl i,v,h=>by
  obtain ⟨t,e⟩:=Value.isInt_shape (k:=i) (v:=v) h
  exact .inl ⟨i,t,rfl,e⟩
 | .inr x,v,h=>by
  obtain ⟨t,e⟩:=Value.isStrOf_shape (x:=x) (v:=v) h
  exact .inr ⟨x,t,rfl,e⟩
def keyIs_int (i:Int) (t:Tok):keyIs (.inl i) (.int i t)=true:=by simp [keyIs,Value.isInt]
def keyIs_str (x:Str) (t:Tok):keyIs (.inr x) (.str x t)=true:=by simp [keyIs,Value.isStrOf]
def key_ll (a b:Int):decide ((Sum.inl a:Key)=Sum.inl b)=(a == b):=by
 by_cases e:a=b
 ·subst e;simp
 ·have h:¬ (Sum.inl a:Key)=Sum.inl b:=fun q=>e (Sum.inl.inj q)
  rw [decide_eq_false h]
  exact (beq_eq_false_iff_ne.mpr e).symm
def key_rr (a b:Str):decide ((Sum.inr a:Key)=Sum.inr b)=decide (a=b):=by
 by_cases e:a=b
 ·subst e;simp
 ·have h:¬ (Sum.inr a:Key)=Sum.inr b:=fun q=>e (Sum.inr.inj q)
  rw [decide_eq_false h,decide_eq_false e]
def key_lr (a:Int) (b:Str):decide ((Sum.inl a:Key)=Sum.inr b)=false:=decide_eq_false (fun q=>nomatch q)
def key_rl (a:Str) (b:Int):decide ((Sum.inr a:Key)=Sum.inl b)=false:=decide_eq_false (fun q=>nomatch q)
def mixKind (prog:Program) (w:World):PySem.KeyKind prog w Key where
 is:=keyIs
 hash:=keyH w
 inj:=fun v a b ha hb=>by
  rcases keyIs_shape ha with ⟨i,t,rfl,rfl⟩ | ⟨x,t,rfl,rfl⟩
  ·rcases keyIs_shape hb with ⟨j,u,rfl,e⟩ | ⟨y,u,rfl,e⟩
   ·injection e with e1 _;rw [e1]
   ·exact nomatch e
  ·rcases keyIs_shape hb with ⟨j,u,rfl,e⟩ | ⟨y,u,rfl,e⟩
   ·exact nomatch e
   ·injection e with e1 _;rw [e1]
 byValue:=fun k v h=>by
  rcases keyIs_shape h with ⟨i,t,rfl,rfl⟩ | ⟨x,t,rfl,rfl⟩ <;> rfl
 pyHash:=fun hv h=>by
  rcases keyIs_shape hv with ⟨i,t,rfl,rfl⟩ | ⟨x,t,rfl,rfl⟩
  ·exact wpAny_pyHash_int h
  ·exact wpAny_pyHash_str h
 eqBool:=fun hu hv h=>by
  rcases keyIs_shape hu with ⟨i,t,rfl,rfl⟩ | ⟨x,t,rfl,rfl⟩
  ·rcases keyIs_shape hv with ⟨j,u,rfl,rfl⟩ | ⟨y,u,rfl,rfl⟩
   ·rw [key_ll] at h;exact wpAny_eqBool_int h
   ·rw [key_lr] at h;exact SeqAt.EqAt.int_str i t y u _ _ _ _ h
  ·rcases keyIs_shape hv with ⟨j,u,rfl,rfl⟩ | ⟨y,u,rfl,rfl⟩
   ·rw [key_rl] at h;exact SeqAt.EqAt.str_int x t j u _ _ _ _ h
   ·rw [key_rr] at h;exact wpAny_eqBool_str h
 «strs»:=fun k x t v h=>by
  rcases keyIs_shape h with ⟨i,u,rfl,e⟩ | ⟨y,u,rfl,e⟩
  ·exact nomatch e
  ·injection e with e1 _
   subst e1
   cases v <;> rfl
def mixKind_int (prog:Program) (w:World) (i:Int) (t:Tok):(mixKind prog w).is (.inl i) (.int i t)=true:=keyIs_int i t
def mixKind_str (prog:Program) (w:World) (x:Str) (t:Tok):(mixKind prog w).is (.inr x) (.str x t)=true:=keyIs_str x t
inductive V where
 | non | bl (b:Bool) | int (i:Int) | str (x:Str) | byt (b:Array UInt8) | flt (b:UInt64) | ref (a:Addr) | ty (n:String)
 deriving DecidableEq
def RelV:V→Value→Prop
 | .non,u=>u=Value.none
 | .bl b,u=>u=Value.bool b
 | .int i,u=>∃ t,u=Value.int i t
 | .str x,u=>∃ t,u=Value.str x t
 | .byt b,u=>∃ t,u=Value.bytes b t
 | .flt b,u=>∃ t,u=Value.float b t
 | .ref a,u=>u=Value.ref a
 | .ty n,u=>u=Value.type n
abbrev Vals:List V→List Value→Prop:=Paired RelV
theorem Vals.length {xs:List V}{us:List Value}(r:Vals xs us):xs.length=us.length:=Paired.length r
theorem Vals.get:∀ {xs:List V}{us:List Value}{i:Nat}{x:V},Vals xs us→xs[i]?=some x→∃ u,us[i]?=some u∧RelV x u
 | _,_,_,_,.nil,e=>by simp at e
 | _,_,0,_,.cons r _,e=>by simp at e;subst e;exact ⟨_,rfl,r⟩
 | _,_,i + 1,x,.cons _ t,e=>by
  obtain ⟨u,h1,h2⟩:=Vals.get (i:=i) (x:=x) t (by simpa using e)
  exact ⟨u,by simpa using h1,h2⟩
theorem Vals.set {x:V}{u:Value}(r:RelV x u):∀ {xs:List V}{us:List Value}(i:Nat),Vals xs us→Vals (xs.set i x) (us.set i u)
 | _,_,_,.nil=>.nil
 | _,_,0,.cons _ t=>.cons r t
 | _,_,i + 1,.cons q t=>.cons q (Vals.set r i t)
theorem Vals.append:∀ {xs ys:List V}{us ws:List Value},Vals xs us→Vals ys ws→Vals (xs++ys) (us++ws)
 | _,_,_,_,.nil,s=>s
 | _,_,_,_,.cons r t,s=>.cons r (Vals.append t s)
theorem Vals.take:∀ {xs:List V}{us:List Value}(n:Nat),Vals xs us→Vals (xs.take n) (us.take n)
 | _,_,0,_=>.nil
 | _,_,_ + 1,.nil=>.nil
 | _,_,n + 1,.cons r t=>.cons r (Vals.take n t)
theorem Vals.drop:∀ {xs:List V}{us:List Value}(n:Nat),Vals xs us→Vals (xs.drop n) (us.drop n)
 | _,_,0,r=>r
 | _,_,_ + 1,.nil=>.nil
 | _,_,n + 1,.cons _ t=>Vals.drop n t
def RelO:Option V→Option Value→Prop
 | some v,some u=>RelV v u
 | none,none=>True
 | _,_=>False
def KV {κ:Type}:List (κ×V)→List (κ×Value)→Prop:=Paired fun (p:κ×V) (q:κ×Value)=>p.1=q.1∧RelV p.2 q.2
def kV:Key→V
 | .inl i=>.int i
 | .inr x=>.str x
inductive HO where
 | lst (xs:List V)
 | tup (xs:List V)
 | dK (kvs:List (Key×V)) | dT (kvs:List (List Key×V))
 | set (S:Int→Bool) (n:Nat)
 | ins (C dx:Addr) (fs:List (Str×V))
 | own (x:Addr)
 | xd (fs:List (Str×V))
 | met (f x:Addr)
 | rng (lo hi:Int)
 | frz (o:Obj) (u:HO)
 | tbl (ps:Array Value)
 | ext (φ:Heap→Prop)
abbrev Hp:=Addr→Option HO
def upd (H:Hp) (a:Addr) (o:HO):Hp:=fun b=>if b=a then some o else H b
def uS {H:Hp}{a:Addr}{o:HO}:upd H a o a=some o:=by unfold upd;rw [if_pos rfl]
def upd_ne {H:Hp}{a b:Addr}{o:HO}(h:b≠a):upd H a o b=H b:=by unfold upd;rw [if_neg h]
def upd_upd {H:Hp}{a:Addr}{o u:HO}:upd (upd H a o) a u=upd H a u:=by
 funext b;unfold upd;split <;> rfl
def ne_of {H:Hp}{a b:Addr}{o u:HO}(h:H a=some o) (h':H b=some u) (d:o≠u):a≠b:=by
 intro e;subst e;rw [h] at h';exact d (Option.some.inj h')
def nNo {H:Hp}{a b:Addr}{o:HO}(h:H a=some o) (h':H b=none):a≠b:=by
 intro e;subst e;rw [h] at h';cases h'
section
variable (P:Program) (w:World)
def ObjOk (H:Hp) (h:Heap) (a:Addr):HO→Prop
 | .lst xs=>xs.length≤sizeLine∧∃ (its:List Value) (n:Nat),Vals xs its∧h.get? a=some { cls:=.type "list",data:=.seq its.toArray n }
 | .tup xs=>xs.length≤sizeLine∧∃ its:List Value,Vals xs its∧IsTup h a its.toArray
 | .dK kvs=>kvs.length≤sizeLine∧(a == sysModules)=false∧∃ vs,KV kvs vs∧h.DictOf (mixKind P w) a vs
 | .dT kvs=>kvs.length≤sizeLine∧(a == sysModules)=false∧∃ xs:List (List Key×Addr×Value),
   Paired (fun (p:List Key×V) (q:List Key×Addr×Value)=>p.1=q.1∧H q.2.1=some (.tup (p.1.map kV))∧RelV p.2 q.2.2) kvs xs ∧
   ∃ o es ep,h.get? a=some o∧o.ExactDict∧o.data=.dict es ep∧es.toList=xs.map (entryOfKey (tupleKind (mixKind P w)))∧(xs.map (·.1)).Nodup
 | .set S n=>h.SetOf (intKind P w) a S n
 | .ins C dx fs=>H dx=some (.own a)∧fs.length≤1000∧dx≠a∧h.get? a=some (W.instObj C dx) ∧
   ∃ mA,h.Ns1 dx mA∧(∀ f,RelO (fs.lookup f) (mA f))∧PySem.Within mA (fs.map (·.1))
 | .own _=>∃ o,h.get? a=some o
 | .xd fs=>∃ mA,h.Ns1 a mA∧∀ f,RelO (fs.lookup f) (mA f)
 | .rng lo hi=>∃ t u v,h.get? a=some { cls:=.type "range",data:=.fields #[.int lo t,.int hi u,.int 1 v] }
 | .frz o u=>h.get? a=some o∧ObjOk H h a u
 | .tbl ps=>h.get? a=some { cls:=.none,data:=.fields ps }
 | .met f x=>h.get? a=some (W.methodObj (.ref f) (.ref x))
 | .ext φ=>φ h∧(∃ o,h.get? a=some o)∧∀ h1 h2:Heap,φ h1→(∀ o,h1.get? a=some o→h2.get? a=some o)→φ h2
def HOk (H:Hp) (h:Heap):Prop:=∀ a o,H a=some o→ObjOk P w H h a o
end
section
variable {P:Program} {w:World} {H H':Hp} {h h':Heap} {a:Addr} {o:HO}
theorem ObjOk.lt (x:ObjOk P w H h a o):a<h.objs.size:=by
 cases o with
 | lst xs=>obtain ⟨_,_,_,_,e⟩:=x;exact Heap.lt_size e
 | tup xs=>obtain ⟨_,_,_,p⟩:=x;exact p.lt
 | dK kvs=>obtain ⟨_,_,_,_,o,_,_,e,_⟩:=x;exact Heap.lt_size e
 | dT kvs=>obtain ⟨_,_,_,_,o,_,_,e,_⟩:=x;exact Heap.lt_size e
 | set S n=>obtain ⟨o,_,_,_,e,_⟩:=x;exact Heap.lt_size e
 | ins C dx fs=>obtain ⟨_,_,_,e,_⟩:=x;exact Heap.lt_size e
 | own y=>obtain ⟨_,e⟩:=x;exact Heap.lt_size e
 | xd fs=>obtain ⟨_,⟨_,_,_,e,_⟩,_⟩:=x;exact Heap.lt_size e
 | rng lo hi=>obtain ⟨_,_,_,e⟩:=x;exact Heap.lt_size e
 | frz ob u=>obtain ⟨e,_⟩:=x;exact Heap.lt_size e
 | tbl ps=>exact Heap.lt_size (show h.get? a=some _ from x)
 | met f y=>exact Heap.lt_size (show h.get? a=some _ from x)
 | ext φ=>obtain ⟨_,⟨_,e⟩,_⟩:=x;exact Heap.lt_size e
theorem Paired.mapP {α β:Type}{F G:α→β→Prop}:∀ {l₁:List α}{l₂:List β},Paired F l₁ l₂→(∀ a b,F a b→G a b)→Paired G l₁ l₂
 | _,_,.nil,_=>.nil
 | _,_,.cons r t,f=>.cons (f _ _ r) (Paired.mapP t f)
def ObjOk.stay (x:ObjOk P w H h a o) (k:∀ b u,(b=a∨H b=some (.own a))→h.get? b=some u→h'.get? b=some u)
  (ho:∀ b,H b=some (.own a)→H' b=some (.own a)) (ht:∀ b xs,H b=some (.tup xs)→H' b=some (.tup xs)):ObjOk P w H' h' a o:=by
 induction o with
 | lst xs=>obtain ⟨z,its,n,r,e⟩:=x;exact ⟨z,its,n,r,k _ _ (.inl rfl) e⟩
 | tup xs=>obtain ⟨z,its,r,ob,e,c⟩:=x;exact ⟨z,its,r,ob,k _ _ (.inl rfl) e,c⟩
 | dK kvs=>obtain ⟨z,y,vs,r,ob,es,ep,e,c⟩:=x;exact ⟨z,y,vs,r,ob,es,ep,k _ _ (.inl rfl) e,c⟩
 | dT kvs =>
  obtain ⟨z,y,xs,r,ob,es,ep,e,c⟩:=x
  exact ⟨z,y,xs,Paired.mapP r fun p q z=>⟨z.1,ht _ _ z.2.1,z.2.2⟩,ob,es,ep,k _ _ (.inl rfl) e,c⟩
 | set S n=>obtain ⟨ob,es,ep,t,e,c⟩:=x;exact ⟨ob,es,ep,t,k _ _ (.inl rfl) e,c⟩
 | ins C dx fs =>
  obtain ⟨d,z,ne,e,mA,⟨od,es,ep,e2,c⟩,r⟩:=x
  exact ⟨ho _ d,z,ne,k _ _ (.inl rfl) e,mA,⟨od,es,ep,k _ _ (.inr d) e2,c⟩,r⟩
 | own y=>obtain ⟨ob,e⟩:=x;exact ⟨ob,k _ _ (.inl rfl) e⟩
 | xd fs=>obtain ⟨mA,⟨od,es,ep,e,c⟩,r⟩:=x;exact ⟨mA,⟨od,es,ep,k _ _ (.inl rfl) e,c⟩,r⟩
 | rng lo hi=>obtain ⟨t,u,v,e⟩:=x;exact ⟨t,u,v,k _ _ (.inl rfl) e⟩
 | frz ob u ih=>obtain ⟨e,q⟩:=x;exact ⟨k _ _ (.inl rfl) e,ih q⟩
 | tbl ps =>
  have e:h.get? a=some { cls:=.none,data:=.fields ps }:=x
  show h'.get? a=some { cls:=.none,data:=.fields ps }
  exact k a _ (.inl rfl) e
 | met f y =>
  have e:h.get? a=some (W.methodObj (.ref f) (.ref y)):=x
  show h'.get? a=some (W.methodObj (.ref f) (.ref y))
  exact k a _ (.inl rfl) e
 | ext φ=>obtain ⟨p,⟨o,e⟩,st⟩:=x;exact ⟨st _ _ p fun o q=>k _ _ (.inl rfl) q,⟨o,k _ _ (.inl rfl) e⟩,st⟩
theorem HOk.lt (x:HOk P w H h) (e:H a=some o):a<h.objs.size:=(x a o e).lt
def HOk.fresh (x:HOk P w H h) (e:h.objs.size≤a):H a=none:=by
 cases q:H a with
 | none=>rfl
 | some u=>exact absurd (Nat.lt_of_lt_of_le (x.lt q) e) (Nat.lt_irrefl _)
def HOk.kept (x:HOk P w H h) (k:∀ b u,h.get? b=some u→h'.get? b=some u):HOk P w H h':=fun a o e =>
 (x a o e).stay (fun b u _ q=>k b u q) (fun _ q=>q) fun _ _ q=>q
def HOk.laid (x:HOk P w H h) (k:∀ b u,h.get? b=some u→h'.get? b=some u) (hp:h.objs.size≤a) (new:ObjOk P w (upd H a o) h' a o):HOk P w (upd H a o) h':=fun b u e=>by
 have hn:=x.fresh hp
 by_cases hb:b=a
 ·subst hb;rw [uS] at e;cases e;exact new
 ·rw [upd_ne hb] at e
  exact (x b u e).stay (fun c v _ q=>k c v q) (fun c q=>by rw [upd_ne (nNo q hn)];exact q) fun c xs q=>by rw [upd_ne (nNo q hn)];exact q
end
def Rd (H:Hp) (a:Addr) (u:HO):Prop:=H a=some u∨∃ o,H a=some (.frz o u)
def Rd.ok {P:Program}{w:World}{H:Hp}{h:Heap}{a:Addr}{u:HO}(r:Rd H a u) (x:HOk P w H h):ObjOk P w H h a u:=by
 rcases r with r | ⟨o,r⟩
 ·exact x a u r
 ·obtain ⟨_,q⟩:=x a _ r
  exact q
def Mut:Option HO→Prop
 | some (.lst _)=>True
 | some (.dK _)=>True
 | some (.dT _)=>True
 | some (.set _ _)=>True
 | some (.ins _ _ _)=>True
 | some (.ext _)=>True
 | _=>False
section
variable {P:Program} {w:World} {H:Hp} {h h':Heap} {x e:Addr} {o':HO}
def HOk.write (ok:HOk P w H h) (mu:Mut (H x)) (he:e=x∨H e=some (.own x)) (k:∀ b u,b≠e→h.get? b=some u→h'.get? b=some u) (heo:∃ u,h'.get? e=some u)
  (new:ObjOk P w (upd H x o') h' x o'):HOk P w (upd H x o') h':=fun b u q=>by
 have nown:∀ c y,H c=some (.own y)→c≠x:=fun c y r z=>by subst z;rw [r] at mu;exact mu
 have ntup:∀ c xs,H c=some (.tup xs)→c≠x:=fun c xs r z=>by subst z;rw [r] at mu;exact mu
 by_cases hb:b=x
 ·subst hb;rw [uS] at q;cases q;exact new
 ·rw [upd_ne hb] at q
  by_cases hbe:b=e
  ·have q':H b=some (.own x):=by
    rcases he with z | z
    ·exact absurd (hbe.trans z) hb
    ·rw [hbe];exact z
   rw [q] at q';cases q'
   obtain ⟨v,hv⟩:=heo
   exact ⟨v,by rw [hbe];exact hv⟩
  ·refine (ok b u q).stay (fun c v hc r=>k c v ?_ r) (fun c r=>by rw [upd_ne (nown c b r)];exact r) fun c xs r=>by rw [upd_ne (ntup c xs r)];exact r
   rcases hc with rfl | hc
   ·exact hbe
   ·rintro rfl
    rcases he with z | z
    ·exact nown c b hc z
    ·rw [hc] at z;cases z;exact hb rfl
end
structure Un (fs ex:List Addr) (H H':Hp) (h h':Heap):Prop where
 keep:∀ b o,h.get? b=some o→H b=none→b∉fs→b∉ex→h'.get? b=some o
 slot:∀ b o,h.get? b=some o→H b=none→b∈fs→b∉ex→∃ sl,h'.get? b=some { o with slots:=sl }
 free:∀ b o,h.get? b=some o→H b=none→b∉ex→H' b=none
 there:∀ b o,h.get? b=some o→b∉ex→∃ o',h'.get? b=some o'
 tups:∀ b xs,H b=some (.tup xs)→H' b=some (.tup xs)
 frzs:∀ b o u,H b=some (.frz o u)→H' b=some (.frz o u)
 tbls:∀ b ps,H b=some (.tbl ps)→∃ more,H' b=some (.tbl (ps++more))
section
variable {fs fs' ex ex':List Addr} {H H1 H2:Hp} {h h1 h2 h':Heap} {a x e:Addr} {o:HO}
def Un.any (u:Un fs ex H H1 h h1) {b:Addr}{ob:Obj}(q:h.get? b=some ob) (n:H b=none) (hx:b∉ex):∃ sl,h1.get? b=some { ob with slots:=sl }:=by
 by_cases hb:b∈fs
 ·exact u.slot b ob q n hb hx
 ·exact ⟨ob.slots,u.keep b ob q n hb hx⟩
def Un.kept (k:∀ b u,h.get? b=some u→h'.get? b=some u):Un fs ex H H h h' :=
 ⟨fun b ob q _ _ _=>k b ob q,fun b ob q _ _ _=>⟨ob.slots,k b ob q⟩,fun _ _ _ n _=>n,fun b ob q _=>⟨ob,k b ob q⟩,fun _ _ q=>q,fun _ _ _ q=>q,fun _ ps q=>⟨#[],by rw [q];simp⟩⟩
def Un.refl:Un fs ex H H h h:=Un.kept fun _ _ q=>q
def Un.laid (k:∀ b u,h.get? b=some u→h'.get? b=some u) (hp:h.objs.size≤a) (hn:H a=none):Un fs ex H (upd H a o) h h' where
 keep:=fun b u q _ _ _=>k b u q
 slot:=fun b u q _ _ _=>⟨u.slots,k b u q⟩
 free:=fun b u q n _=>by rw [upd_ne (Nat.ne_of_lt (Nat.lt_of_lt_of_le (Heap.lt_size q) hp))];exact n
 there:=fun b u q _=>⟨u,k b u q⟩
 tups:=fun b xs q=>by rw [upd_ne (nNo q hn)];exact q
 frzs:=fun b u xs q=>by rw [upd_ne (nNo q hn)];exact q
 tbls:=fun b ps q=>⟨#[],by rw [upd_ne (nNo q hn),q];simp⟩
def Un.write (mu:Mut (H x)) (he:e=x∨H e=some (.own x)) (k:∀ b u,b≠e→h.get? b=some u→h'.get? b=some u) (heo:∃ u,h'.get? e=some u):Un fs ex H (upd H x o) h h':=by
 have hx:∀ b,H b=none→b≠x:=fun b n z=>by subst z;rw [n] at mu;exact mu
 have hb:∀ b,H b=none→b≠e:=fun b n z=>by
  subst z
  rcases he with r | r
  ·exact hx b n r
  ·rw [n] at r;cases r
 have hm:∀ b u,H b=some u→¬ Mut (some u)→b≠x:=fun b u q nm z=>by subst z;rw [q] at mu;exact nm mu
 refine ⟨fun b u q n _ _=>k b u (hb b n) q,fun b u q n _ _=>⟨u.slots,k b u (hb b n) q⟩,fun b u q n _=>by rw [upd_ne (hx b n)];exact n,fun b u q _=>?_,
  fun b xs q=>by rw [upd_ne (hm b _ q fun z=>z)];exact q,fun b u xs q=>by rw [upd_ne (hm b _ q fun z=>z)];exact q,fun b ps q=>⟨#[],by rw [upd_ne (hm b _ q fun z=>z),q];simp⟩⟩
 by_cases hbe:b=e
 ·subst hbe;exact heo
 ·exact ⟨u,k b u hbe q⟩
end
def trk (h:Heap) (H:Hp):List Addr:=(List.range h.objs.size).filter fun a=>(H a).isSome
def hidT (h:Heap) (H:Hp):Heap:=W.hideAll h (trk h H)
def hidT_size (h:Heap) (H:Hp):(hidT h H).objs.size=h.objs.size:=W.hideAll_size _ _
def hidT_get {h:Heap}{H:Hp}{b:Addr}{o:Obj}(e:h.get? b=some o) (n:H b=none):(hidT h H).get? b=some o :=
 W.hideAll_get _ e fun hm=>by
  have q:(H b).isSome=true:=(List.mem_filter.mp hm).2
  rw [n] at q;simp at q
def of_hidT {h:Heap}{H:Hp}{b:Addr}{o:Obj}(e:(hidT h H).get? b=some o):h.get? b=some o∧H b=none:=by
 have e':h.get? b=some o:=W.of_hideAll (trk h H) e
 refine ⟨e',?_⟩
 cases q:H b with
 | none=>rfl
 | some x =>
  have hm:b∈trk h H:=List.mem_filter.mpr ⟨List.mem_range.mpr (Heap.lt_size e'),by simp [q]⟩
  have z:(hidT h H).get? b=none:=W.hideAll_none (trk h H) hm
  rw [z] at e;cases e
def allNews (g h:Heap) (L:Addr):List (Addr×Obj):=(List.range h.objs.size).filterMap fun a=>if a=L∨(g.get? a).isSome=true then none else (h.get? a).map fun o=>(a,o)
def rest (g h:Heap) (L d:Addr):List (Addr×Obj):=(allNews g h L).filter fun p=>decide (p.1≠d)
structure Mod (K:Fg) (mg:Str→Option Value) (base:Heap):Prop where
 kin:K.In base
 glob:base.Ns mainGlobals mg
 blt:∃ mb,base.Ns builtinsNs mb∧∀ x:Str,x≠"__name__"→mb x=bootBuiltins x
 nolimit:base.NoLimit
structure Cx where
 prog:Program
 w:World
 K:Fg
 mg:Str→Option Value
 base:Heap
 A:Around
 N:LS
 s₀:Shared
 H₀:Hp
 env:Env
 outer:List Env
 stack:List Env
 ex:List Addr
 fn:Str→Bool
 calm:Bool
 pn:List (Addr×Obj)
 xe:Value→Shared→Prop
def frs (l:List Env):List Addr:=l.filterMap (·.frame)
abbrev Cx.fs (X:Cx):List Addr:=frs X.outer
def Vis (sc:Scope) (x:Str):Prop:=sc.names.lookup x=some .local∨sc.names.lookup x=some .cell∨sc.names.lookup x=some .free
def Loc (sc:Scope) (x:Str):Prop:=sc.names.lookup x=some .local∨sc.names.lookup x=some .cell
def Look (env:Env) (h:Heap) (m:Str→Option Value) (x:Str) (u:Value):Prop :=
 (env.kindOf x=some .local∧m x=some u)∨((env.kindOf x=some .cell∨env.kindOf x=some .free)∧∃ c,env.cells.lookup x=some c∧h.IsCell c (some u))
structure Cx.Ok (X:Cx):Prop where
 mod:Mod X.K X.mg X.base
 kind:X.env.scope.kind=.function
 glob:X.env.globals=mainGlobals
 blt:X.env.builtins=builtinsNs
 above:X.s₀.heap.objs.size≤X.env.locals
 inj:∀ x y c,X.env.cells.lookup x=some c→X.env.cells.lookup y=some c→x=y
 has:∀ x,(X.env.kindOf x=some .cell∨X.env.kindOf x=some .free)→∃ c,X.env.cells.lookup x=some c
 cab:∀ x c,X.fn x=true→X.env.cells.lookup x=some c→X.s₀.heap.objs.size≤c
 hd:X.calm=true→X.A.handled=none
 frames:X.A.frames=some X.stack
 stk:X.stack=X.outer∨(X.stack=X.env :: X.outer∧X.env.frame=some X.env.locals)
 exf:∀ b∈X.ex,b≠X.env.locals∧∀ x c,X.env.cells.lookup x=some c→c≠b
 bs:∀ b o,X.base.get? b=some o→X.s₀.heap.get? b=some o∧X.H₀ b=none
 bsz:X.base.objs.size≤X.s₀.heap.objs.size
 noex:∀ b o,X.base.get? b=some o→b∉X.ex
 exfs:∀ b∈X.ex,b∉X.fs
 funs:X.s₀.heap.FunFrames X.base X.outer
 frf:∀ b∈X.fs,X.H₀ b=none
structure Inv (X:Cx) (pins:List (Addr×Obj)) (σ:List (Option V)) (H:Hp) (s:Shared):Prop where
 ok:X.Ok
 os:s.os=X.s₀.os
 bare:AllBare s.gens
 base:Un X.fs X.ex X.H₀ H X.s₀.heap s.heap
 loc:∃ m,s.heap.Ns X.env.locals m∧∀ (i:Nat) (x:Str) (v:V),X.N[i]?=some x→σ[i]?=some (some v)→Vis X.env.scope x→∃ u,RelV v u∧Look X.env s.heap m x u
 cell:∀ x c,X.env.cells.lookup x=some c→∃ v,s.heap.IsCell c v
 free:H X.env.locals=none
 freeC:∀ x c,X.env.cells.lookup x=some c→H c=none
 pin:∀ p∈X.pn++pins,s.heap.get? p.1=some p.2∧H p.1=none∧p.1≠X.env.locals∧p.1∉X.fs∧∀ v,p.2.data≠.cell v
 hok:HOk X.prog X.w H s.heap
 len:σ.length=X.N.length
section
variable {X:Cx} {pins:List (Addr×Obj)} {σ:List (Option V)} {H H':Hp} {s:Shared} {h':Heap}
def Cx.Ok.nofr (ok:X.Ok) {b:Addr}{o:Obj}(e:X.base.get? b=some o):b∉X.fs:=fun hb=>by
 have:=(ok.funs.mem hb).1
 rw [e] at this;cases this
theorem Inv.bs (I:Inv X pins σ H s):∀ b o,X.base.get? b=some o→s.heap.get? b=some o∧H b=none:=fun b o e =>
 ⟨I.base.keep b o (I.ok.bs b o e).1 (I.ok.bs b o e).2 (I.ok.nofr e) (I.ok.noex b o e),I.base.free b o (I.ok.bs b o e).1 (I.ok.bs b o e).2 (I.ok.noex b o e)⟩
def Inv.bk (I:Inv X pins σ H s):∀ b o,X.base.get? b=some o→s.heap.get? b=some o:=fun b o e=>(I.bs b o e).1
theorem Inv.mod (I:Inv X pins σ H s):Mod X.K X.mg X.base:=I.ok.mod
def Inv.kIn (I:Inv X pins σ H s):X.K.In s.heap:=I.ok.mod.kin.keeps I.bk
theorem Inv.lt (I:Inv X pins σ H s):X.env.locals<s.heap.objs.size:=let ⟨_,hn,_⟩:=I.loc;hn.lt
def Inv.sz (I:Inv X pins σ H s):X.s₀.heap.objs.size≤s.heap.objs.size:=Nat.le_trans I.ok.above (Nat.le_of_lt I.lt)
def Inv.nofs (I:Inv X pins σ H s) {a:Addr}(h:s.heap.objs.size≤a):a∉X.fs:=fun hb=>by
 obtain ⟨_,o,ho,_⟩:=I.ok.funs.mem hb
 exact absurd (Nat.lt_of_lt_of_le (Heap.lt_size ho) (Nat.le_trans I.sz h)) (Nat.lt_irrefl _)
def Inv.cne (I:Inv X pins σ H s):∀ x c,X.env.cells.lookup x=some c→c≠X.env.locals:=fun x c e z=>by
 obtain ⟨v,o,ho,hd⟩:=I.cell x c e
 obtain ⟨m,⟨o',es,ep,ho',hd',_⟩,_⟩:=I.loc
 rw [z,ho'] at ho;cases ho;rw [hd'] at hd;cases hd
theorem Inv.funs (I:Inv X pins σ H s):s.heap.FunFrames X.base X.outer:=by
 have all:∀ (l:List Env),(∀ b∈frs l,b∈X.fs)→X.s₀.heap.FunFrames X.base l→s.heap.FunFrames X.base l:=by
  intro l
  induction l with
  | nil=>intro _ _;trivial
  | cons env r ih =>
   intro hs hl
   obtain ⟨hk,⟨L,o,hf,hn,ho,hd⟩,hr⟩:=hl
   have hL:L∈X.fs:=hs L (by unfold frs;rw [List.filterMap_cons,hf];exact List.mem_cons_self)
   obtain ⟨sl,e⟩:=I.base.slot L o ho (I.ok.frf L hL) hL fun z=>I.ok.exfs L z hL
   exact ⟨hk,⟨L,_,hf,hn,e,hd⟩,ih (fun b hb=>hs b (by unfold frs;rw [List.filterMap_cons,hf];exact List.mem_cons_of_mem _ hb)) hr⟩
 exact all X.outer (fun _ hb=>hb) I.ok.funs
theorem Inv.stack (I:Inv X pins σ H s):s.heap.FunFrames X.base X.stack:=by
 rcases I.ok.stk with e | ⟨e,hf⟩
 ·rw [e];exact I.funs
 ·rw [e]
  obtain ⟨m,hn,_⟩:=I.loc
  refine .cons (by rw [I.ok.kind];decide) hf hn ?_ I.funs
  exact Heap.get?_none_of_le (Nat.le_trans I.ok.bsz I.ok.above)
def Inv.stkSub (I:Inv X pins σ H s):∀ b∈frs X.stack,b∈X.env.locals :: X.fs:=fun b hb=>by
 rcases I.ok.stk with e | ⟨e,hf⟩
 ·rw [e] at hb;exact List.mem_cons_of_mem _ hb
 ·rw [e] at hb
  unfold frs at hb
  rw [List.filterMap_cons,hf] at hb
  exact hb
def Inv.stkFree (I:Inv X pins σ H s):∀ b∈frs X.stack,H b=none:=fun b hb=>by
 rcases List.mem_cons.mp (I.stkSub b hb) with e | hb
 ·rw [e];exact I.free
 ·obtain ⟨_,o,ho,_⟩:=I.ok.funs.mem hb
  exact I.base.free b o ho (I.ok.frf b hb) fun z=>I.ok.exfs b z hb
def Inv.step {g':Array GenState}{t':Nat}{d':Drawn}{ch:List Addr}(I:Inv X pins σ H s)
  (hch:∀ b∈ch,(b∈X.ex∨X.s₀.heap.objs.size≤b)∧b≠X.env.locals∧(∀ x c,X.env.cells.lookup x=some c→c≠b)∧∀ p∈X.pn++pins,p.1≠b)
  (keep:∀ b o,b≠X.env.locals→b∉X.fs→b∉ch→s.heap.get? b=some o→H b=none→h'.get? b=some o)
  (slot:∀ b o,b≠X.env.locals→b∈X.fs→b∉ch→s.heap.get? b=some o→H b=none→∃ sl,h'.get? b=some { o with slots:=sl }) (free:∀ b o,b∉ch→s.heap.get? b=some o→H b=none→H' b=none)
  (there:∀ b o,b∉ch→s.heap.get? b=some o→∃ o',h'.get? b=some o')
  (tups:∀ b xs,H b=some (.tup xs)→H' b=some (.tup xs)) (frzs:∀ b o u,H b=some (.frz o u)→H' b=some (.frz o u)) (tbls:∀ b ps,H b=some (.tbl ps)→∃ more,H' b=some (.tbl (ps++more)))
  (ns:∀ m,s.heap.Ns X.env.locals m→h'.Ns X.env.locals m) (hok:HOk X.prog X.w H' h') (hg:AllBare g'):
  Inv X pins σ H' { s with heap:=h',gens:=g',drawn:=d',toks:=t' }:=by
 have neL:∀ b o,X.s₀.heap.get? b=some o→b≠X.env.locals:=fun b o e=>Nat.ne_of_lt (Nat.lt_of_lt_of_le (Heap.lt_size e) I.ok.above)
 have neC:∀ b o,X.s₀.heap.get? b=some o→b∉X.ex→b∉ch:=fun b o e hx hb=>by
  rcases (hch b hb).1 with z | z
  ·exact hx z
  ·exact absurd (Nat.lt_of_lt_of_le (Heap.lt_size e) z) (Nat.lt_irrefl _)
 have cellK:∀ x c,X.env.cells.lookup x=some c→∀ v,s.heap.IsCell c v→h'.IsCell c v:=fun x c e v ⟨o,ho,hd⟩=>by
  have nch:c∉ch:=fun z=>(hch c z).2.2.1 x c e rfl
  by_cases hc:c∈X.fs
  ·obtain ⟨sl,q⟩:=slot c o (I.cne x c e) hc nch ho (I.freeC x c e)
   exact ⟨_,q,hd⟩
  ·exact ⟨o,keep c o (I.cne x c e) hc nch ho (I.freeC x c e),hd⟩
 refine ⟨I.ok,I.os,hg,⟨fun b o e n hb hx=>?_,fun b o e n hb hx=>?_,fun b o e n hx=>?_,fun b o e hx=>?_,fun b xs e=>tups b xs (I.base.tups b xs e),fun b o xs e=>frzs b o xs (I.base.frzs b o xs e),fun b ps e=>?_⟩,?_,fun x c e=>?_,?_,fun x c e=>?_,fun p hp=>?_,hok,I.len⟩
 ·exact keep b o (neL b o e) hb (neC b o e hx) (I.base.keep b o e n hb hx) (I.base.free b o e n hx)
 ·obtain ⟨sl,e1⟩:=I.base.slot b o e n hb hx
  obtain ⟨sl',e2⟩:=slot b _ (neL b o e) hb (neC b o e hx) e1 (I.base.free b o e n hx)
  exact ⟨sl',e2⟩
 ·obtain ⟨o',e1⟩:=I.base.there b o e hx
  exact free b o' (neC b o e hx) e1 (I.base.free b o e n hx)
 ·obtain ⟨o',e1⟩:=I.base.there b o e hx
  exact there b o' (neC b o e hx) e1
 ·obtain ⟨m1,e1⟩:=I.base.tbls b ps e
  obtain ⟨m2,e2⟩:=tbls b _ e1
  exact ⟨m1++m2,by rw [e2,Array.append_assoc]⟩
 ·obtain ⟨m,hn,hl⟩:=I.loc
  refine ⟨m,ns m hn,fun i x v e1 e2 e3=>?_⟩
  obtain ⟨u,r,l⟩:=hl i x v e1 e2 e3
  refine ⟨u,r,?_⟩
  rcases l with l | ⟨k,c,e,z⟩
  ·exact .inl l
  ·exact .inr ⟨k,c,e,cellK x c e _ z⟩
 ·obtain ⟨v,z⟩:=I.cell x c e
  exact ⟨v,cellK x c e v z⟩
 ·obtain ⟨m,⟨o,_,_,ho,_⟩,_⟩:=I.loc
  exact free _ o (fun z=>(hch _ z).2.1 rfl) ho I.free
 ·obtain ⟨v,o,ho,hd⟩:=I.cell x c e
  exact free c o (fun z=>(hch c z).2.2.1 x c e rfl) ho (I.freeC x c e)
 ·obtain ⟨e,n,ne,nf,d⟩:=I.pin p hp
  have nch:p.1∉ch:=fun z=>(hch p.1 z).2.2.2 p hp rfl
  exact ⟨keep p.1 p.2 ne nf nch e n,free p.1 p.2 nch e n,ne,nf,d⟩
def Inv.un {t':Nat}(I:Inv X pins σ H s) (u:Un X.fs [] H H' s.heap h') (hok:HOk X.prog X.w H' h'):Inv X pins σ H' { s with heap:=h',toks:=t' }:=by
 obtain ⟨m,⟨o,es,ep,ho,r⟩,_⟩:=id I.loc
 obtain ⟨sl,hL⟩:=u.any ho I.free (by simp)
 exact I.step (g':=s.gens) (d':=s.drawn) (ch:=[]) (fun _ z=>nomatch z) (fun b o _ hb _ e n=>u.keep b o e n hb (by simp)) (fun b o _ hb _ e n=>u.slot b o e n hb (by simp)) (fun b o _ e n=>u.free b o e n (by simp)) (fun b o _ e=>u.there b o e (by simp)) u.tups u.frzs u.tbls (fun m' hm=>by
  obtain ⟨o',es',ep',ho',r'⟩:=hm
  rw [ho] at ho';cases ho'
  exact ⟨_,es',ep',hL,r'⟩) hok I.bare
def Inv.call {g':Array GenState}{t':Nat}{d':Drawn}{ch:List Addr}(I:Inv X pins σ H s) (u:Un (frs X.stack) ch H H' s.heap h') (hok:HOk X.prog X.w H' h') (hg:AllBare g')
  (hch:∀ b∈ch,(b∈X.ex∨X.s₀.heap.objs.size≤b)∧b≠X.env.locals∧(∀ x c,X.env.cells.lookup x=some c→c≠b)∧∀ p∈X.pn++pins,p.1≠b):
  Inv X pins σ H' { s with heap:=h',gens:=g',drawn:=d',toks:=t' }:=by
 obtain ⟨m,⟨o,es,ep,ho,r⟩,_⟩:=id I.loc
 obtain ⟨sl,hL⟩:=u.any ho I.free fun z=>(hch _ z).2.1 rfl
 exact I.step (ch:=ch) hch (fun b o hL hb hc e n=>u.keep b o e n (fun z=>(List.mem_cons.mp (I.stkSub b z)).elim hL hb) hc) (fun b o _ _ hc e n=>u.any e n hc) (fun b o hc e n=>u.free b o e n hc) (fun b o hc e=>u.there b o e hc) u.tups u.frzs u.tbls (fun m' hm=>by
  obtain ⟨o',es',ep',ho',r'⟩:=hm
  rw [ho] at ho';cases ho'
  exact ⟨_,es',ep',hL,r'⟩) hok hg
def Inv.turned {t':Nat}{it:Addr}(I:Inv X pins σ H s) (k:∀ b o,b≠it→s.heap.get? b=some o→h'.get? b=some o) (hn:H it=none) (hL:it≠X.env.locals)
  (h1:it∈X.ex∨X.s₀.heap.objs.size≤it) (h2:∀ x c,X.env.cells.lookup x=some c→c≠it) (h3:∀ p∈X.pn++pins,p.1≠it):Inv X pins σ H { s with heap:=h',toks:=t' }:=by
 have nit:∀ b u,H b=some u→b≠it:=fun b u e z=>by rw [z,hn] at e;cases e
 refine I.step (g':=s.gens) (d':=s.drawn) (ch:=[it]) (fun b hb=>?_) (fun b o _ _ hc e _=>k b o (fun z=>hc (by simp [z])) e) (fun b o _ _ hc e _=>⟨o.slots,k b o (fun z=>hc (by simp [z])) e⟩) (fun _ _ _ _ n=>n)
  (fun b o hc e=>⟨o,k b o (fun z=>hc (by simp [z])) e⟩) (fun _ _ e=>e) (fun _ _ _ e=>e) (fun b ps e=>⟨#[],by rw [e];simp⟩) (fun m hm=>?_) (fun b u e=>?_) I.bare
 ·have e:b=it:=by simpa using hb
  subst e
  exact ⟨h1,hL,h2,h3⟩
 ·obtain ⟨o,es,ep,ho,r⟩:=hm
  exact ⟨o,es,ep,k _ o (Ne.symm hL) ho,r⟩
 ·refine (I.hok b u e).stay (fun c v hc q=>k c v ?_ q) (fun _ q=>q) fun _ _ q=>q
  rcases hc with z | z
  ·rw [z];exact nit b u e
  ·exact nit c _ z
def Inv.tok (I:Inv X pins σ H s) (t:Nat):Inv X pins σ H { s with toks:=t }:=I.un (h':=s.heap) (t':=t) Un.refl I.hok
theorem Inv.kept {t':Nat}(I:Inv X pins σ H s) (k:∀ b u,s.heap.get? b=some u→h'.get? b=some u):Inv X pins σ H { s with heap:=h',toks:=t' }:=I.un (Un.kept k) (I.hok.kept k)
theorem Inv.laid {a:Addr}{o:HO}{t':Nat}(I:Inv X pins σ H s) (k:∀ b u,s.heap.get? b=some u→h'.get? b=some u) (hp:s.heap.objs.size≤a) (new:ObjOk X.prog X.w (upd H a o) h' a o):
  Inv X pins σ (upd H a o) { s with heap:=h',toks:=t' }:=I.un (Un.laid k hp (I.hok.fresh hp)) (I.hok.laid k hp new)
theorem Inv.write {x e:Addr}{o:HO}{t':Nat}(I:Inv X pins σ H s) (mu:Mut (H x)) (he:e=x∨H e=some (.own x)) (k:∀ b u,b≠e→s.heap.get? b=some u→h'.get? b=some u) (heo:∃ u,h'.get? e=some u)
  (new:ObjOk X.prog X.w (upd H x o) h' x o):Inv X pins σ (upd H x o) { s with heap:=h',toks:=t' }:=I.un (Un.write mu he k heo) (I.hok.write mu he k heo new)
def Inv.pins_of {pins':List (Addr×Obj)}(I:Inv X pins σ H s) (h:∀ p∈pins',s.heap.get? p.1=some p.2∧H p.1=none∧p.1≠X.env.locals∧p.1∉X.fs∧∀ v,p.2.data≠.cell v):Inv X pins' σ H s :=
 ⟨I.ok,I.os,I.bare,I.base,I.loc,I.cell,I.free,I.freeC,fun p hp=>(List.mem_append.mp hp).elim (fun z=>I.pin p (List.mem_append_left _ z)) (h p),I.hok,I.len⟩
def nodup_ix {N:LS}(hN:N.Nodup) {i j:Nat}{x:Str}(a:N[i]?=some x) (b:N[j]?=some x):i=j:=by
 obtain ⟨h1,e1⟩:=List.getElem?_eq_some_iff.mp a
 obtain ⟨h2,e2⟩:=List.getElem?_eq_some_iff.mp b
 exact (List.getElem_inj hN).mp (e1.trans e2.symm)
def store_ok2 {M:Model}{A:Around}{E:Value→Shared→Prop}{i:Nat}{x:Str}{v:V}{u:Value}{Q:Unit→Shared→Prop}(I:Inv X pins σ H s) (hN:X.N.Nodup) (hi:X.N[i]?=some x) (hx:Loc X.env.scope x) (r:RelV v u)
  (h:∀ s',Inv X pins (σ.set i (some v)) H s'→(∃ a,Heap.SameBut a s.heap s'.heap∧(a=X.env.locals∨X.env.cells.lookup x=some a))→Q () s') (hf:X.fn x=true∨X.env.scope.names.lookup x=some .local:=by first | exact .inl rfl | exact .inr rfl | assumption):wpAny M A (storeName X.env x u) Q E s:=by
 obtain ⟨m,hn,hl⟩:=id I.loc
 have hcls:(X.env.scope.kind == .class || (X.env.scope.kind == .module&&X.env.locals != X.env.globals))=false:=by rw [I.ok.kind];rfl
 have hiσ:i<σ.length:=by rw [I.len];exact (List.getElem?_eq_some_iff.mp hi).1
 have cne:=I.cne
 have tracked:∀ {a:Addr} {h':Heap},(∃ o,s.heap.get? a=some o∧H a=none)→Heap.SameBut a s.heap h'→HOk X.prog X.w H h':=fun {a h'} ha hs b ob e=>by
  obtain ⟨_,_,hfree⟩:=ha
  refine (I.hok b ob e).stay (fun c w' hc q=>(hs.2 c ?_).trans q) (fun _ q=>q) fun _ _ q=>q
  rintro rfl
  rcases hc with rfl | hc
  ·rw [hfree] at e;cases e
  ·rw [hfree] at hc;cases hc
 rcases hx with hk | hk
 ·refine wpAny_storeName_local hk hn (fun h' hn' hs=>?_) hcls
  obtain ⟨oL,_,_,hoL,_⟩:=id hn
  refine h _ ⟨I.ok,I.os,I.bare,⟨fun b o e n hb hx=>?_,fun b o e n hb hx=>?_,I.base.free,fun b o e hx=>?_,I.base.tups,I.base.frzs,I.base.tbls⟩,⟨_,hn',fun j y v' e1 e2 e3=>?_⟩,fun y c e=>?_,I.free,I.freeC,fun p hp=>?_,tracked ⟨oL,hoL,I.free⟩ hs,by simpa using I.len⟩ ⟨_,hs,.inl rfl⟩
  ·exact (hs.2 b (Nat.ne_of_lt (Nat.lt_of_lt_of_le (Heap.lt_size e) I.ok.above))).trans (I.base.keep b o e n hb hx)
  ·obtain ⟨sl,e1⟩:=I.base.slot b o e n hb hx
   exact ⟨sl,(hs.2 b (Nat.ne_of_lt (Nat.lt_of_lt_of_le (Heap.lt_size e) I.ok.above))).trans e1⟩
  ·obtain ⟨o',e1⟩:=I.base.there b o e hx
   exact ⟨o',(hs.2 b (Nat.ne_of_lt (Nat.lt_of_lt_of_le (Heap.lt_size e) I.ok.above))).trans e1⟩
  ·by_cases hj:j=i
   ·subst hj
    rw [hi] at e1;cases e1
    rw [List.getElem?_set_self hiσ] at e2
    cases e2
    exact ⟨u,r,.inl ⟨hk,by simp⟩⟩
   ·rw [List.getElem?_set_ne (Ne.symm hj)] at e2
    obtain ⟨u',r',q⟩:=hl j y v' e1 e2 e3
    refine ⟨u',r',?_⟩
    rcases q with ⟨k,e⟩ | ⟨k,c,e,z⟩
    ·refine .inl ⟨k,?_⟩
     have:y≠x:=fun e=>hj (nodup_ix hN e1 (e ▸ hi))
     simp [this,e]
    ·exact .inr ⟨k,c,e,z.sameBut hs (cne y c e)⟩
  ·obtain ⟨w',z⟩:=I.cell y c e
   exact ⟨w',z.sameBut hs (cne y c e)⟩
  ·obtain ⟨e,n,ne,nf,d⟩:=I.pin p hp
   exact ⟨(hs.2 p.1 ne).trans e,n,ne,nf,d⟩
 ·have hfn:X.fn x=true:=by
   rcases hf with z | z
   ·exact z
   ·rw [z] at hk;cases hk
  obtain ⟨c,hc⟩:=I.ok.has x (.inl hk)
  obtain ⟨w',z⟩:=I.cell x c hc
  refine wpAny_storeName_cell I.ok.kind hk hc z (fun h' hc' hs=>?_)
  obtain ⟨oc,hoc,hocd⟩:=id z
  refine h { s with heap:=h' } ⟨I.ok,I.os,I.bare,⟨fun b o e n hb hx=>?_,fun b o e n hb hx=>?_,I.base.free,fun b o e hx=>?_,I.base.tups,I.base.frzs,I.base.tbls⟩,⟨m,hn.sameBut hs (Ne.symm (cne x c hc)),fun j y v' e1 e2 e3=>?_⟩,fun y c' e=>?_,I.free,I.freeC,fun p hp=>?_,tracked ⟨oc,hoc,I.freeC x c hc⟩ hs,by simpa using I.len⟩ ⟨c,hs,.inr hc⟩
  ·exact (hs.2 b (Nat.ne_of_lt (Nat.lt_of_lt_of_le (Heap.lt_size e) (I.ok.cab x c hfn hc)))).trans (I.base.keep b o e n hb hx)
  ·obtain ⟨sl,e1⟩:=I.base.slot b o e n hb hx
   exact ⟨sl,(hs.2 b (Nat.ne_of_lt (Nat.lt_of_lt_of_le (Heap.lt_size e) (I.ok.cab x c hfn hc)))).trans e1⟩
  ·obtain ⟨o',e1⟩:=I.base.there b o e hx
   exact ⟨o',(hs.2 b (Nat.ne_of_lt (Nat.lt_of_lt_of_le (Heap.lt_size e) (I.ok.cab x c hfn hc)))).trans e1⟩
  ·by_cases hj:j=i
   ·subst hj
    rw [hi] at e1;cases e1
    rw [List.getElem?_set_self hiσ] at e2
    cases e2
    exact ⟨u,r,.inr ⟨.inl hk,c,hc,hc'⟩⟩
   ·rw [List.getElem?_set_ne (Ne.symm hj)] at e2
    obtain ⟨u',r',q⟩:=hl j y v' e1 e2 e3
    refine ⟨u',r',?_⟩
    rcases q with q | ⟨k,c',e,z'⟩
    ·exact .inl q
    ·refine .inr ⟨k,c',e,z'.sameBut hs ?_⟩
     rintro rfl
     exact hj (nodup_ix hN e1 (I.ok.inj _ _ _ e hc ▸ hi))
  ·by_cases hcc:c'=c
   ·subst hcc;exact ⟨_,hc'⟩
   ·obtain ⟨w2,z2⟩:=I.cell y c' e
    exact ⟨w2,z2.sameBut hs hcc⟩
  ·obtain ⟨e,n,ne,nf,d⟩:=I.pin p hp
   refine ⟨(hs.2 p.1 ?_).trans e,n,ne,nf,d⟩
   intro q
   rw [q,hoc] at e
   have q':oc=p.2:=Option.some.inj e
   exact d w' (by rw [← q'];exact hocd)
def store_ok {M:Model}{A:Around}{E:Value→Shared→Prop}{i:Nat}{x:Str}{v:V}{u:Value}{Q:Unit→Shared→Prop}(I:Inv X pins σ H s) (hN:X.N.Nodup) (hi:X.N[i]?=some x) (hx:Loc X.env.scope x) (r:RelV v u)
  (h:∀ s',Inv X pins (σ.set i (some v)) H s'→Q () s') (hf:X.fn x=true∨X.env.scope.names.lookup x=some .local:=by first | exact .inl rfl | exact .inr rfl | assumption):wpAny M A (storeName X.env x u) Q E s :=
 store_ok2 I hN hi hx r (fun s' I' _=>h s' I') hf
def Inv.call' {s':Shared}{ch:List Addr}(I:Inv X pins σ H s) (ho:s'.os=s.os) (u:Un (frs X.stack) ch H H' s.heap s'.heap) (hok:HOk X.prog X.w H' s'.heap) (hg:AllBare s'.gens)
  (hch:∀ b∈ch,(b∈X.ex∨X.s₀.heap.objs.size≤b)∧b≠X.env.locals∧(∀ x c,X.env.cells.lookup x=some c→c≠b)∧∀ p∈X.pn++pins,p.1≠b):Inv X pins σ H' s':=by
 obtain ⟨h',g',d',t',o'⟩:=s'
 have e:o'=s.os:=ho
 subst e
 exact I.call (g':=g') (t':=t') (d':=d') u hok hg hch
end
abbrev XK:=Value→Option Addr→Hp→Prop
abbrev St:=List (Option V)
abbrev VK:=V→Hp→Prop
abbrev TE:=St→Hp→VK→Prop
abbrev TT:=St→Hp→(Bool→Hp→Prop)→Prop
abbrev TA:=St→Hp→(List V→Hp→Prop)→Prop
structure Ends where
 nx:St→Hp→Prop
 rt:VK
 bk:St→Hp→Prop:=fun _ _=>False
 ct:St→Hp→Prop:=fun _ _=>False
abbrev TS:=Ends→St→Hp→Prop
def EP (X:Cx) (pins:List (Addr×Obj)) (σ:St) (Q:VK) (u:Value) (s':Shared):Prop:=∃ v H',Inv X pins σ H' s'∧RelV v u∧Q v H'
def TP (X:Cx) (pins:List (Addr×Obj)) (σ:St) (Q:Bool→Hp→Prop) (b:Bool) (s':Shared):Prop:=∃ H',Inv X pins σ H' s'∧Q b H'
def AP (X:Cx) (pins:List (Addr×Obj)) (σ:St) (Q:List V→Hp→Prop) (us:List Value) (s':Shared):Prop:=∃ vs H',Inv X pins σ H' s'∧Vals vs us∧Q vs H'
def SP (X:Cx) (pins:List (Addr×Obj)) (D:Ends) (f:Flow) (s':Shared):Prop :=
 match f with
 | .next=>∃ σ' H',Inv X pins σ' H' s'∧D.nx σ' H'
 | .brk=>∃ σ' H',Inv X pins σ' H' s'∧D.bk σ' H'
 | .cont=>∃ σ' H',Inv X pins σ' H' s'∧D.ct σ' H'
 | .ret u=>∃ v σ' H',Inv X pins σ' H' s'∧RelV v u∧D.rt v H'
def PE (X:Cx) (e:Expr) (t:TE):Prop :=
 ∀ (pins:List (Addr×Obj)) (s:Shared) (σ:St) (H:Hp) (Q:VK),Inv X pins σ H s→t σ H Q→wpAny (model X.prog X.w) X.A (eval e X.env) (EP X pins σ Q) X.xe s
def PT (X:Cx) (e:Expr) (t:TT):Prop :=
 ∀ (pins:List (Addr×Obj)) (s:Shared) (σ:St) (H:Hp) (Q:Bool→Hp→Prop),Inv X pins σ H s→t σ H Q→wpAny (model X.prog X.w) X.A (isTrue e X.env (eval e X.env)) (TP X pins σ Q) X.xe s
def PW (X:Cx) (e:Expr) (t:TT):Prop :=
 ∀ (whole:Sem Value) (pins:List (Addr×Obj)) (s:Shared) (σ:St) (H:Hp) (Q:Bool→Hp→Prop),Inv X pins σ H s→t σ H Q→wpAny (model X.prog X.w) X.A (isTrue e X.env whole) (TP X pins σ Q) X.xe s
def PW.pt {X:Cx}{e:Expr}{t:TT}(h:PW X e t):PT X e t:=h _
def PA (X:Cx) (es:List Expr) (t:TA):Prop :=
 ∀ (pos:Pos) (pins:List (Addr×Obj)) (s:Shared) (σ:St) (H:Hp) (Q:List V→Hp→Prop),Inv X pins σ H s→t σ H Q→wpAny (model X.prog X.w) X.A (spliced (backTo pos (starEach es X.env))) (AP X pins σ Q) X.xe s
def PS (X:Cx) (st:Stmt) (t:TS):Prop :=
 ∀ (pins:List (Addr×Obj)) (s:Shared) (σ:St) (H:Hp) (D:Ends),Inv X pins σ H s→t D σ H→wpAny (model X.prog X.w) X.A (exec st X.env) (SP X pins D) X.xe s
def PSs (X:Cx) (st:List Stmt) (t:TS):Prop :=
 ∀ (pins:List (Addr×Obj)) (s:Shared) (σ:St) (H:Hp) (D:Ends),Inv X pins σ H s→t D σ H→wpAny (model X.prog X.w) X.A (execs st X.env) (SP X pins D) X.xe s
def thn {α:Type}{t:Sem α}{Q Q':α→Shared→Prop}{M:Model}{A:Around}{E:Value→Shared→Prop}{s:Shared}(h:wpAny M A t Q E s) (hQ:∀ a s,Q a s→Q' a s):wpAny M A t Q' E s:=wpAny_mono h hQ fun _ _ x=>x
section
variable {X:Cx}
def tVar (i:Nat):TE:=fun σ H Q=>∃ v,σ[i]?=some (some v)∧Q v H
def tC (v:V):TE:=fun _ H Q=>Q v H
def pe_var {i:Nat}{x:Str}{pos:Pos}(hN:X.N[i]?=some x) (hv:Vis X.env.scope x) (hd:(x == ("__debug__":Str))=false:=by decide) (hcd:(x == ("__classdict__":Str))=false:=by decide):PE X (.Name x pos) (tVar i):=by
 intro pins s σ H Q I h
 obtain ⟨v,e,h⟩:=h
 obtain ⟨m,hn,hl⟩:=I.loc
 obtain ⟨u,r,l⟩:=hl i x v hN e hv
 have fin:EP X pins σ Q u s:=⟨v,H,I,r,h⟩
 rcases l with ⟨hk,hm⟩ | ⟨hk,c,hc,hcell⟩
 ·exact wpAny_Name (wpAny_loadName_local I.ok.kind hk hn hm fin) hd
 ·rcases hk with hk | hk
  ·exact wpAny_Name (wpAny_loadName_cell I.ok.kind hk hc hcell fin) hd
  ·exact wpAny_Name (wpAny_loadName_free I.ok.kind hk hc hcell fin hcd) hd
def pe_int {i j pos}:PE X (.Constant (.int i) j pos) (tC (.int i)):=fun _ _ _ H _ I h=>wpAny_Constant_int ⟨.int i,H,I.tok _,⟨_,rfl⟩,h⟩
def pe_bl {b j pos}:PE X (.Constant (.bool b) j pos) (tC (.bl b)):=fun _ _ _ H _ I h=>Constant_bool ⟨.bl b,H,I,rfl,h⟩
def pe_non {j pos}:PE X (.Constant .none j pos) (tC .non):=fun _ _ _ H _ I h=>Constant_none ⟨.non,H,I,rfl,h⟩
def pe_str {x j pos}:PE X (.Constant (.str x) j pos) (tC (.str x)):=fun _ _ _ H _ I h=>Calls.Constant_str ⟨.str x,H,I.tok _,⟨_,rfl⟩,h⟩
def Gl (X:Cx) (x:Str):Prop:=X.env.kindOf x=some .globalImplicit
def ld_glob {E:Value→Shared→Prop}{pins:List (Addr×Obj)}{s:Shared}{σ:St}{H:Hp}{x:Str}{u:Value}{pos:Pos}{Q:Value→Shared→Prop}(I:Inv X pins σ H s) (hg:Gl X x) (hm:X.mg x=some u) (h:Q u s)
  (hd:(x == ("__debug__":Str))=false:=by decide):wpAny (model X.prog X.w) X.A (eval (.Name x pos) X.env) Q E s :=
 Calls.Name_function_global I.ok.kind hg (Calls.loadGlobal_global (by rw [I.ok.glob];exact I.mod.glob.keeps I.bk) hm h) hd
def ld_blt {E:Value→Shared→Prop}{pins:List (Addr×Obj)}{s:Shared}{σ:St}{H:Hp}{x:Str}{u:Value}{pos:Pos}{Q:Value→Shared→Prop}(I:Inv X pins σ H s) (hg:Gl X x) (hm:X.mg x=none) (hv:bootBuiltins x=some u) (h:Q u s)
  (hn:x≠"__name__":=by decide) (hd:(x == ("__debug__":Str))=false:=by decide):wpAny (model X.prog X.w) X.A (eval (.Name x pos) X.env) Q E s:=by
 obtain ⟨mb,h1,h2⟩:=I.mod.blt
 exact Calls.Name_function_global I.ok.kind hg (Calls.loadGlobal_builtin (by rw [I.ok.glob];exact I.mod.glob.keeps I.bk) hm (by rw [I.ok.blt];exact h1.keeps I.bk) ((h2 x hn).trans hv) h) hd
def pe_glob {x:Str}{v:V}{u:Value}{pos:Pos}(hg:Gl X x) (hm:X.mg x=some u) (r:RelV v u) (hd:(x == ("__debug__":Str))=false:=by decide):PE X (.Name x pos) (tC v):=
 fun _ _ _ H _ I h=>ld_glob I hg hm ⟨v,H,I,r,h⟩ hd
def pe_bltn {x:Str}{v:V}{u:Value}{pos:Pos}(hg:Gl X x) (hm:X.mg x=none) (hv:bootBuiltins x=some u) (r:RelV v u) (hn:x≠"__name__":=by decide) (hd:(x == ("__debug__":Str))=false:=by decide):PE X (.Name x pos) (tC v):=
 fun _ _ _ H _ I h=>ld_blt I hg hm hv ⟨v,H,I,r,h⟩ hn hd
variable {a b:Expr} {ta tb:TE} {pos:Pos}
def PC (X:Cx) (op:CmpOp) (a b:Expr) (t:TE):Prop :=
 ∀ (pins:List (Addr×Obj)) (s:Shared) (σ:St) (H:Hp) (Q:VK),Inv X pins σ H s→t σ H Q →
  wpAny (model X.prog X.w) X.A (eval a X.env) (fun v s₁=>wpAny (model X.prog X.w) X.A (eval b X.env) (fun u s₂=>wpAny (model X.prog X.w) X.A (compareOp op v u) (EP X pins σ Q) X.xe s₂) X.xe s₁) X.xe s
def nobehind (b:Expr) {op:CmpOp}(h:op≠.In) (h2:op≠.NotIn):behindInMarks op b=false:=by
 have e1:(op == CmpOp.In)=false:=by cases op <;> first | rfl | exact absurd rfl h
 have e2:(op == CmpOp.NotIn)=false:=by cases op <;> first | rfl | exact absurd rfl h2
 cases b <;> simp [behindInMarks,e1,e2]
def tNotN (ta:TE):TE:=fun σ H Q=>ta σ H fun x H1=>Q (.bl (!decide (x=.non))) H1
def RelV.none_iff {x:V}{v:Value}(r:RelV x v):(v == Value.none)=decide (x=.non):=by
 cases x with
 | non=>cases r;rfl
 | bl _=>cases r;rfl
 | int _=>obtain ⟨t,rfl⟩:=r;rfl
 | str _=>obtain ⟨t,rfl⟩:=r;rfl
 | byt _=>obtain ⟨t,rfl⟩:=r;rfl
 | flt _=>obtain ⟨t,rfl⟩:=r;rfl
 | ref _=>cases r;rfl
 | ty _=>cases r;rfl
def pc_notN {j pos'}(ha:PE X a ta):PC X .IsNot a (.Constant .none j pos') (tNotN ta):=by
 intro pins s σ H Q I h
 refine thn (ha pins s σ H _ I h) fun v s1 ⟨x,H1,I1,r1,q1⟩=>?_
 exact Constant_none (isnot_none_gen ⟨.bl _,H1,I1,by rw [r1.none_iff];rfl,q1⟩)
def tB (t:TE):TT:=fun σ H Q=>t σ H fun x H1=>∃ c,x=.bl c∧Q c H1
def pe_cmp {op:CmpOp}{t:TE}(h:PC X op a b t) (h1:behindInMarks op b=false:=by first | exact nobehind _ (by decide) (by decide) | rfl):PE X (.Compare a [op] [b] pos) t:=fun pins s σ H Q I hw=>wpAny_Compare1 (h pins s σ H Q I hw) h1
def pt_cmp {op:CmpOp}{t:TE}(h:PC X op a b t) (h1:behindInMarks op b=false:=by first | exact nobehind _ (by decide) (by decide) | rfl):PT X (.Compare a [op] [b] pos) (tB t):=by
 intro pins s σ H Q I hw
 refine wpAny_isTrue_Compare1 (thn (h pins s σ H _ I hw) fun v s1 h1=>thn h1 fun u s2 h2=>thn h2 fun c s3 ⟨x,H1,I1,r1,q1⟩=>?_) h1
 obtain ⟨d,rfl,q⟩:=q1
 cases r1
 exact wpAny_truthy_bool ⟨H1,I1,q⟩
def pt_val {e:Expr}{t:TE}(h:PE X e t) (he:∀ whole,isTrue e X.env whole=(do let v ← whole;standAt e.pos;holding [v] (truthy v)):=by intro _;rfl):PT X e (tB t):=by
 intro pins s σ H Q I hw
 refine isTrue_plain (thn (h pins s σ H _ I hw) fun v s1 ⟨x,H1,I1,r1,q1⟩=>?_) (he _)
 obtain ⟨d,rfl,q⟩:=q1
 cases r1
 exact wpAny_truthy_bool ⟨H1,I1,q⟩
variable {tA tB':TT} {rest:List Expr}
def tAnd (t u:TT):TT:=fun σ H Q=>t σ H fun c H1=>if c=true then u σ H1 Q else Q false H1
def tOr (t u:TT):TT:=fun σ H Q=>t σ H fun c H1=>if c=true then Q true H1 else u σ H1 Q
def tNot (t:TT):TT:=fun σ H Q=>t σ H fun c H1=>Q (!c) H1
def pw_and1 (ha:PT X a tA):PW X (.BoolOp .And [a] pos) tA:=by
 intro wh pins s σ H Q I h
 refine isTrue_and (thn (ha pins s σ H Q I h) fun c s1 e=>?_)
 cases c with
 | true=>exact isTrue_and_nil e
 | false=>exact e
def pw_or1 (ha:PT X a tA):PW X (.BoolOp .Or [a] pos) tA:=by
 intro wh pins s σ H Q I h
 refine isTrue_or (thn (ha pins s σ H Q I h) fun c s1 e=>?_)
 cases c with
 | false=>exact isTrue_or_nil e
 | true=>exact e
def pw_and (ha:PT X a tA) (hb:PW X (.BoolOp .And (b :: rest) pos) tB'):PW X (.BoolOp .And (a :: b :: rest) pos) (tAnd tA tB'):=by
 intro wh pins s σ H Q I h
 refine isTrue_and (thn (ha pins s σ H _ I h) fun c s1 ⟨H1,I1,q1⟩=>?_)
 cases c with
 | true=>exact hb wh pins s1 σ H1 Q I1 q1
 | false=>exact ⟨H1,I1,q1⟩
def pw_or (ha:PT X a tA) (hb:PW X (.BoolOp .Or (b :: rest) pos) tB'):PW X (.BoolOp .Or (a :: b :: rest) pos) (tOr tA tB'):=by
 intro wh pins s σ H Q I h
 refine isTrue_or (thn (ha pins s σ H _ I h) fun c s1 ⟨H1,I1,q1⟩=>?_)
 cases c with
 | true=>exact ⟨H1,I1,q1⟩
 | false=>exact hb wh pins s1 σ H1 Q I1 q1
def pt_not (ha:PT X a tA):PT X (.UnaryOp .Not a pos) (tNot tA):=by
 intro pins s σ H Q I h
 exact isTrue_not (ha pins s σ H (fun c H1=>Q (!c) H1) I h)
def tAndV (ta tb:TE):TE:=fun σ H Q=>ta σ H fun x H1=>∃ c,x=.bl c∧if c=true then tb σ H1 Q else Q (.bl false) H1
def pe_one {op}{t:TE}(h:PE X a t):PE X (.BoolOp op [a] pos) t:=fun pins s σ H Q I hw=>BoolOp_one (h pins s σ H Q I hw)
def pe_and (ha:PE X a ta) (hb:PE X (.BoolOp .And (b :: rest) pos) tb):PE X (.BoolOp .And (a :: b :: rest) pos) (tAndV ta tb):=by
 intro pins s σ H Q I h
 refine BoolOp_and (thn (ha pins s σ H _ I h) fun v s1 ⟨x,H1,I1,r1,q1⟩=>?_)
 obtain ⟨c,rfl,q1⟩:=q1
 cases r1
 refine wpAny_truthy_bool ?_
 cases c with
 | true=>exact hb pins s1 σ H1 Q I1 q1
 | false=>exact ⟨.bl false,H1,I1,rfl,q1⟩
end
def SqL (K:Fg) (H:Hp) (a:Addr) (xs:List V):Prop :=
 Rd H a (.lst xs) ∨
  ∃ (o:Obj) (its:Array Value) (n:Nat),K.lookup a=some o∧o.cls=.type "list"∧o.dict=none∧o.data=.seq its n∧its.size≤sizeLine∧Vals xs its.toList
def SqT (K:Fg) (H:Hp) (a:Addr) (xs:List V):Prop :=
 Rd H a (.tup xs) ∨
  ∃ (o:Obj) (its:Array Value) (n:Nat),K.lookup a=some o∧o.cls=.type "tuple"∧o.data=.seq its n∧its.size≤sizeLine∧Vals xs its.toList
def absV:Value→Option V
 | .none=>some .non
 | .bool b=>some (.bl b)
 | .int i _=>some (.int i)
 | .str x _=>some (.str x)
 | .bytes b _=>some (.byt b)
 | .float b _=>some (.flt b)
 | .ref a=>some (.ref a)
 | .type n=>some (.ty n)
 | _=>none
def RelV.abs {x:V}{u:Value}(r:RelV x u):absV u=some x:=by
 cases x with
 | non=>cases r;rfl
 | bl _=>cases r;rfl
 | int _=>obtain ⟨t,rfl⟩:=r;rfl
 | str _=>obtain ⟨t,rfl⟩:=r;rfl
 | byt _=>obtain ⟨t,rfl⟩:=r;rfl
 | flt _=>obtain ⟨t,rfl⟩:=r;rfl
 | ref _=>cases r;rfl
 | ty _=>cases r;rfl
theorem RelV.inj {x y:V}{u:Value}(r:RelV x u) (q:RelV y u):x=y:=Option.some.inj (r.abs.symm.trans q.abs)
theorem Vals.inj:∀ {xs ys:List V}{us:List Value},Vals xs us→Vals ys us→xs=ys
 | _,_,_,.nil,.nil=>rfl
 | _,_,_,.cons r t,.cons r' t'=>by rw [r.inj r',Vals.inj t t']
section
variable {X:Cx} {pins:List (Addr×Obj)} {σ:St} {H:Hp} {s:Shared} {a:Addr} {xs ys:List V}
def SqL.of {K:Fg}(h:H a=some (.lst xs)):SqL K H a xs:=.inl (.inl h)
def SqT.of {K:Fg}(h:H a=some (.tup xs)):SqT K H a xs:=.inl (.inl h)
def Inv.list (I:Inv X pins σ H s) (h:SqL X.K H a xs):∃ its:List Value,Vals xs its∧PlainL s.heap a its.toArray∧xs.length≤sizeLine:=by
 rcases h with h | ⟨o,its,n,hk,hc,hd,hs,hz,r⟩
 ·obtain ⟨z,its,n,r,e⟩:=h.ok I.hok
  exact ⟨its,r,⟨_,n,e,rfl,rfl,rfl⟩,z⟩
 ·refine ⟨its.toList,r,⟨o,n,I.kIn a o hk,hc,hd,by simpa using hs⟩,?_⟩
  have e:=r.length
  simp only [Array.length_toList] at e
  omega
def Inv.tuple (I:Inv X pins σ H s) (h:SqT X.K H a xs):∃ its:List Value,Vals xs its∧IsTup s.heap a its.toArray∧xs.length≤sizeLine:=by
 rcases h with h | ⟨o,its,n,hk,hc,hs,hz,r⟩
 ·obtain ⟨z,its,r,p⟩:=h.ok I.hok
  exact ⟨its,r,p,z⟩
 ·refine ⟨its.toList,r,⟨o,I.kIn a o hk,hc,n,by simpa using hs⟩,?_⟩
  have e:=r.length
  simp only [Array.length_toList] at e
  omega
def Inv.list_inj (I:Inv X pins σ H s) (h:SqL X.K H a xs) (h':SqL X.K H a ys):xs=ys:=by
 obtain ⟨its,r,⟨o,n,e,_,_,d⟩,_⟩:=I.list h
 obtain ⟨its',r',⟨o',n',e',_,_,d'⟩,_⟩:=I.list h'
 rw [e] at e';cases e'
 rw [d] at d'
 injection d' with d1 _
 have:its=its':=by simpa using congrArg Array.toList d1
 subst this
 exact r.inj r'
def Inv.tuple_inj (I:Inv X pins σ H s) (h:SqT X.K H a xs) (h':SqT X.K H a ys):xs=ys:=by
 obtain ⟨its,r,⟨o,e,_,n,d⟩,_⟩:=I.tuple h
 obtain ⟨its',r',⟨o',e',_,n',d'⟩,_⟩:=I.tuple h'
 rw [e] at e';cases e'
 rw [d] at d'
 injection d' with d1 _
 have:its=its':=by simpa using congrArg Array.toList d1
 subst this
 exact r.inj r'
end
abbrev Cx.wish (X:Cx) (E:Value→Shared→Prop):Cx:={ X with xe:=E }
abbrev Cx.nox (X:Cx):Cx:=X.wish fun _ _=>False
theorem Cx.Ok.wish {X:Cx}(ok:X.Ok) (E:Value→Shared→Prop):(X.wish E).Ok :=
 ⟨ok.mod,ok.kind,ok.glob,ok.blt,ok.above,ok.inj,ok.has,ok.cab,ok.hd,ok.frames,ok.stk,ok.exf,ok.bs,ok.bsz,ok.noex,ok.exfs,ok.funs,ok.frf⟩
def Cx.Ok.unwish {X:Cx}{E:Value→Shared→Prop}(ok:(X.wish E).Ok):X.Ok :=
 ⟨ok.mod,ok.kind,ok.glob,ok.blt,ok.above,ok.inj,ok.has,ok.cab,ok.hd,ok.frames,ok.stk,ok.exf,ok.bs,ok.bsz,ok.noex,ok.exfs,ok.funs,ok.frf⟩
section
variable {X:Cx} {pins:List (Addr×Obj)} {σ:St} {H:Hp} {s:Shared} {E:Value→Shared→Prop}
theorem Inv.wish (I:Inv X pins σ H s) (E:Value→Shared→Prop):Inv (X.wish E) pins σ H s:=⟨I.ok.wish E,I.os,I.bare,I.base,I.loc,I.cell,I.free,I.freeC,I.pin,I.hok,I.len⟩
theorem Inv.unwish (I:Inv (X.wish E) pins σ H s):Inv X pins σ H s:=⟨I.ok.unwish,I.os,I.bare,I.base,I.loc,I.cell,I.free,I.freeC,I.pin,I.hok,I.len⟩
theorem SP.unwish {D:Ends}{f:Flow}{s':Shared}(h:SP (X.wish E) pins D f s'):SP X pins D f s':=by
 cases f with
 | next=>obtain ⟨σ',H',I,q⟩:=h;exact ⟨σ',H',I.unwish,q⟩
 | brk=>obtain ⟨σ',H',I,q⟩:=h;exact ⟨σ',H',I.unwish,q⟩
 | cont=>obtain ⟨σ',H',I,q⟩:=h;exact ⟨σ',H',I.unwish,q⟩
 | ret u=>obtain ⟨v,σ',H',I,r,q⟩:=h;exact ⟨v,σ',H',I.unwish,r,q⟩
theorem PSs.nox {st:List Stmt}{t:TS}(h:PSs X.nox st t):PSs X st t:=fun pins s σ H D I hw =>
 wpAny_mono (h pins s σ H D (I.wish _) hw) (fun _ _ q=>q.unwish) fun _ _ z=>False.elim z
end
section
variable {X:Cx} {st:Stmt} {rest:List Stmt} {t u:TS} {e:Expr} {te:TE} {pos:Pos}
def tNext:TS:=fun D σ H=>D.nx σ H
def tSeq (t u:TS):TS:=fun D σ H=>t { D with nx:=u D } σ H
def pss_nil:PSs X [] tNext:=fun _ _ σ H _ I h=>wpAny_execs_nil ⟨σ,H,I,h⟩
def pS (h1:PS X st t) (h2:PSs X rest u):PSs X (st :: rest) (tSeq t u):=by
 intro pins s σ H D I h
 refine wpAny_execs_cons (thn (h1 pins s σ H { D with nx:=u D } I h) fun f s1 q=>?_)
 cases f with
 | next =>
  obtain ⟨σ',H',I',q⟩:=q
  exact h2 pins s1 σ' H' D I' q
 | ret v=>exact q
 | brk=>exact q
 | cont=>exact q
def pss_one (h1:PS X st t):PSs X [st] t:=by
 intro pins s σ H D I h
 refine wpAny_execs_cons (thn (h1 pins s σ H D I h) fun f s1 q=>?_)
 cases f with
 | next=>exact wpAny_execs_nil q
 | ret v=>exact q
 | brk=>exact q
 | cont=>exact q
def Inv.quiet {pins:List (Addr×Obj)}{σ:St}{H:Hp}{s:Shared}(I:Inv X pins σ H s):interactive X.env=false:=by simp [interactive,I.ok.kind]
def tDrop (te:TE):TS:=fun D σ H=>te σ H fun _ H1=>D.nx σ H1
def ps_expr (he:PE X e te) (hs:swapsWith e none pos.line X.env=pure false:=by rfl):PS X (.Expr e pos) (tDrop te):=by
 intro pins s σ H D I h
 exact wpAny_Expr_any (thn (he pins s σ H _ I h) fun v s1 ⟨x,H1,I1,r1,q1⟩=>⟨σ,H1,I1,q1⟩) I.quiet hs
def tRet (te:TE):TS:=fun D σ H=>te σ H D.rt
def ps_ret (he:PE X e te):PS X (.Return (some e) pos) (tRet te):=by
 intro pins s σ H D I h
 exact wpAny_Return_some (thn (he pins s σ H _ I h) fun v s1 ⟨x,H1,I1,r1,q1⟩=>⟨x,σ,H1,I1,r1,q1⟩)
def tIfS (c:TT) (t u:TS):TS:=fun D σ H=>c σ H fun b H1=>if b=true then t D σ H1 else u D σ H1
def ps_if {c:Expr}{a b:List Stmt}{tc:TT}(hc:PT X c tc) (ha:PSs X a t) (hb:PSs X b u):PS X (.If c a b pos) (tIfS tc t u):=by
 intro pins s σ H D I h
 refine wpAny_If (thn (hc pins s σ H _ I h) fun d s1 ⟨H1,I1,q1⟩=>?_)
 cases d with
 | true=>exact ha pins s1 σ H1 D I1 q1
 | false=>exact hb pins s1 σ H1 D I1 q1
def tNever:TS:=fun _ _ _=>False
def pss_never {sts:List Stmt}:PSs X sts tNever:=fun _ _ _ _ _ _ h=>h.elim
end
abbrev TG:=V→St→Hp→(St→Hp→Prop)→Prop
abbrev TGs:=List V→St→Hp→(St→Hp→Prop)→Prop
def PG (X:Cx) (target:Expr) (t:TG):Prop :=
 ∀ (pins:List (Addr×Obj)) (s:Shared) (σ:St) (H:Hp) (v:V) (u:Value) (Q:St→Hp→Prop),Inv X pins σ H s→RelV v u→t v σ H Q →
  wpAny (model X.prog X.w) X.A (assign target X.env u) (fun _ s'=>∃ σ' H',Inv X pins σ' H' s'∧Q σ' H') X.xe s
def PGs (X:Cx) (ts:List Expr) (t:TGs):Prop :=
 ∀ (pins:List (Addr×Obj)) (s:Shared) (σ:St) (H:Hp) (vs:List V) (us:List Value) (Q:St→Hp→Prop),Inv X pins σ H s→Vals vs us→t vs σ H Q →
  wpAny (model X.prog X.w) X.A (assignInOrder ((assignEach ts X.env).map (·.2)) us) (fun _ s'=>∃ σ' H',Inv X pins σ' H' s'∧Q σ' H') X.xe s
abbrev TSet:=V→V→V→Hp→(Hp→Prop)→Prop
def PSet (X:Cx) (t:TSet):Prop :=
 ∀ (pins:List (Addr×Obj)) (s:Shared) (σ:St) (H:Hp) (o i v:V) (ov iv u:Value) (Q:Hp→Prop),Inv X pins σ H s→RelV o ov→RelV i iv→RelV v u→t o i v H Q →
  wpAny (model X.prog X.w) X.A (setItem ov iv u) (fun _ s'=>∃ H',Inv X pins σ H' s'∧Q H') X.xe s
section
variable {X:Cx} {pos:Pos}
def gName (i:Nat):TG:=fun v σ H Q=>Q (σ.set i (some v)) H
def pg_name {i:Nat}{x:Str}(hN:X.N.Nodup) (hi:X.N[i]?=some x) (hx:Loc X.env.scope x) (hf:X.fn x=true∨X.env.scope.names.lookup x=some .local:=by first | exact .inl rfl | exact .inr rfl | assumption):PG X (.Name x pos) (gName i):=by
 intro pins s σ H v u Q I r h
 exact wpAny_assign_Name (store_ok I hN hi hx r (fun s' I'=>⟨_,H,I',h⟩) hf)
def gNil:TGs:=fun vs σ H Q=>vs=[]∧Q σ H
def gCons (t:TG) (u:TGs):TGs:=fun vs σ H Q=>∃ v r,vs=v :: r∧t v σ H fun σ' H'=>u r σ' H' Q
def pgs_nil:PGs X [] gNil:=by
 intro pins s σ H vs us Q I r h
 obtain ⟨e,h⟩:=h
 subst e
 cases r
 exact assignInOrder_nil ⟨σ,H,I,h⟩
def gC {e:Expr}{es:List Expr}{t:TG}{u:TGs} (h1:PG X e t) (h2:PGs X es u)
  (hs:(assignEach (e :: es) X.env).map (·.2)=assign e X.env :: (assignEach es X.env).map (·.2):=by rfl):PGs X (e :: es) (gCons t u):=by
 intro pins s σ H vs us Q I r h
 obtain ⟨v,vr,e1,h⟩:=h
 subst e1
 cases r with
 | cons r rr =>
  rw [hs]
  refine assignInOrder_cons (thn (h1 pins s σ H _ _ _ I r h) fun _ s1 ⟨σ1,H1,I1,q1⟩=>?_)
  exact h2 pins s1 σ1 H1 _ _ Q I1 rr q1
def gTup (K:Fg) (n:Nat) (t:TGs):TG:=fun v σ H Q=>∃ a xs,v=.ref a∧SqT K H a xs∧xs.length=n∧t xs σ H Q
def pg_tup {es:List Expr}{k:Nat}{t:TGs}{n:Nat}(hc:X.calm=true) (h:PGs X es t)
  (hn:(assignEach es X.env).length=n:=by rfl) (hst:(assignEach es X.env).findIdx? (·.1)=none:=by rfl):PG X (.Tuple es k pos) (gTup X.K n t):=by
 intro pins s σ H v u Q I r hw
 obtain ⟨a,xs,e1,hq,hl,hw⟩:=hw
 subst e1
 cases r
 obtain ⟨its,rv,ht,hz⟩:=I.tuple hq
 refine assign_Tuple_tuple (I.ok.hd hc) ht (by simp [hn,← hl,rv.length]) hst fun h' hx=>?_
 have I1:Inv X pins σ H { s with heap:=h' }:=I.kept (t':=s.toks) fun b o e=>hx b o (Nat.ne_of_lt (Heap.lt_size e)) e
 exact h pins _ σ H xs _ Q I1 (by simpa using rv) hw
def gSub (to ti:TE) (t:TSet):TG:=fun v σ H Q=>to σ H fun o H1=>ti σ H1 fun i H2=>t o i v H2 fun H3=>Q σ H3
def pg_sub {o i:Expr}{to ti:TE}{t:TSet}(ho:PE X o to) (hi:PE X i ti) (hs:PSet X t)
  (ha:∀ v,assign (.Subscript o i pos) X.env v=(do
   let ov ← holding [v] (eval o X.env)
   let iv ← holding [v,ov] (eval i X.env)
   standAt pos
   holding [v,ov,iv] (setItem ov iv v)
   release [v,ov,iv] []):=by intro _;rfl):PG X (.Subscript o i pos) (gSub to ti t):=by
 intro pins s σ H v u Q I r h
 rw [ha]
 refine wpAny_bind (wpAny_holding (thn (ho pins s σ H _ I h) fun ov s1 ⟨x,H1,I1,r1,q1⟩=>?_))
 refine wpAny_bind (wpAny_holding (thn (hi pins s1 σ H1 _ I1 q1) fun iv s2 ⟨y,H2,I2,r2,q2⟩=>?_))
 refine wpAny_bind (wpAny_standAt (wpAny_bind (wpAny_holding (thn (hs pins s2 σ H2 x y v ov iv u _ I2 r1 r2 r q2) fun _ s3 ⟨H3,I3,q3⟩=>?_))))
 exact wpAny_release ⟨σ,H3,I3,q3⟩
def tAsg (te:TE) (g:TG):TS:=fun D σ H=>te σ H fun x H1=>g x σ H1 D.nx
def ps_asg {tg e:Expr}{te:TE}{g:TG}(he:PE X e te) (hg:PG X tg g) (hs:swapsWithSole [tg] e pos.line X.env=pure false:=by rfl) (hw:swappedStores [tg] e X.env=pure none:=by rfl)
  (h1:(assignEach [tg] X.env).map (·.2)=[assign tg X.env]:=by rfl):PS X (.Assign [tg] e pos) (tAsg te g):=by
 intro pins s σ H D I h
 refine wpAny_Assign_stores (thn (he pins s σ H _ I h) fun v s1 ⟨x,H1,I1,r1,q1⟩=>?_) hs hw
 rw [h1]
 exact thn (hg pins s1 σ H1 x v _ I1 r1 q1) fun _ s2 q=>q
def ps_set {i:Nat}{x:Str}{e:Expr}{te:TE}{pos':Pos}(hN:X.N.Nodup) (hi:X.N[i]?=some x) (hx:Loc X.env.scope x) (he:PE X e te) (hs:swapsWith e (some (.Name x pos')) pos.line X.env=pure false:=by rfl) (hf:X.fn x=true∨X.env.scope.names.lookup x=some .local:=by first | exact .inl rfl | exact .inr rfl | assumption):
  PS X (.Assign [.Name x pos'] e pos) (tAsg te (gName i)):=by
 intro pins s σ H D I h
 refine wpAny_Assign_Name (thn (he pins s σ H _ I h) fun v s1 ⟨y,H1,I1,r1,q1⟩=>?_) hs
 exact store_ok I1 hN hi hx r1 (fun s2 I2=>⟨_,H1,I2,q1⟩) hf
end
section
variable {X:Cx} {pos:Pos}
def tWhile (c:TT) (tb:TS):TS:=fun D σ H=>∃ W:Nat→St→Hp→Prop,(∃ m,W m σ H)∧∀ m σ H,W m σ H →
 c σ H fun b H1=>if b=true then ∃ N:St→Hp→Prop,(∀ σ' H',N σ' H'→∃ m',m'<m∧W m' σ' H')∧tb { D with nx:=N,ct:=N,bk:=D.nx } σ H1 else D.nx σ H1
def ps_while {c:Expr}{body:List Stmt}{tc:TT}{tb:TS}(hp:PassesOwn (model X.prog X.w) X.A X.env X.xe) (hc:PT X c tc) (hb:PSs X body tb):PS X (.While c body [] pos) (tWhile tc tb):=by
 intro pins s σ H D I h
 obtain ⟨W,⟨m0,w0⟩,turn⟩:=h
 refine wpAny_While (codeAny_whileLoop (fun n s'=>∃ σ' H',Inv X pins σ' H' s'∧W n σ' H') ?_ m0 ⟨σ,H,I,w0⟩)
 rintro n s1 ⟨σ1,H1,I1,w1⟩
 refine wpAny_passesOwn hp (thn (hc pins s1 σ1 H1 _ I1 (turn n σ1 H1 w1)) fun b s2 ⟨H2,I2,q2⟩=>?_)
 cases b with
 | true =>
  obtain ⟨N,hN,q2⟩:=q2
  rw [if_pos rfl]
  refine wpAny_passesOwn hp (thn (hb pins s2 σ1 H2 _ I2 q2) fun f s3 q3=>?_)
  cases f with
  | next =>
   obtain ⟨σ3,H3,I3,n3⟩:=q3
   obtain ⟨m',hm,w3⟩:=hN σ3 H3 n3
   exact ⟨m',hm,σ3,H3,I3,w3⟩
  | cont =>
   obtain ⟨σ3,H3,I3,n3⟩:=q3
   obtain ⟨m',hm,w3⟩:=hN σ3 H3 n3
   exact ⟨m',hm,σ3,H3,I3,w3⟩
  | brk=>exact q3
  | ret v=>exact q3
 | false =>
  rw [if_neg Bool.false_ne_true]
  exact wpAny_execs_nil ⟨σ1,H2,I2,q2⟩
end
structure It where
 go:Nat→Hp→Prop
 yld:Nat→Hp→V→Hp→Prop
 stop:Nat→Hp→Prop
def FpOk (X:Cx) (pins:List (Addr×Obj)) (H:Hp) (b:Addr):Prop :=
 H b=none∧b≠X.env.locals∧b∉X.fs∧(b∈X.ex∨X.s₀.heap.objs.size≤b)∧(∀ x c,X.env.cells.lookup x=some c→c≠b)∧∀ p∈X.pn++pins,p.1≠b
def Inv.fpOk {X:Cx}{pins:List (Addr×Obj)}{σ:St}{H H':Hp}{s:Shared}{b:Addr}(I:Inv X pins σ H s) (hb:s.heap.objs.size≤b) (hn:H' b=none):FpOk X pins H' b:=by
 refine ⟨hn,Nat.ne_of_gt (Nat.lt_of_lt_of_le I.lt hb),I.nofs hb,.inr (Nat.le_trans I.sz hb),fun x c e z=>?_,fun p hp z=>?_⟩
 ·obtain ⟨v,q⟩:=I.cell x c e
  exact absurd (Nat.lt_of_lt_of_le q.lt (by rw [z];exact hb)) (Nat.lt_irrefl _)
 ·exact absurd (Nat.lt_of_lt_of_le (Heap.lt_size (I.pin p hp).1) (by rw [z];exact hb)) (Nat.lt_irrefl _)
structure Turn (P:Program) (w:World) (K:Fg) (tg:Expr) (J:It) (fp:List Addr) (it:Addr) (tn:Nat→Heap→Prop):Prop where
 mem:it∈fp
 obj:∀ i h,tn i h→∀ b∈fp,∃ o,h.get? b=some o∧∀ v,o.data≠.cell v
 keep:∀ i h h',tn i h→(∀ b∈fp,∀ o,h.get? b=some o→h'.get? b=some o)→tn i h'
 item:∀ (X:Cx),X.prog=P→X.w=w→X.K=K→X.calm=true→∀ (i:Nat) (pins:List (Addr×Obj)) (s:Shared) (σ:St) (H:Hp) (E:Value→Shared→Prop),Inv X pins σ H s→(∀ b∈fp,FpOk X pins H b)→tn i s.heap→J.go i H →
  wpAny (model P w) X.A (pyNext (.ref it)) (fun r s1=>∃ u,r=some u ∧
   wpAny (model P w) X.A (letOwnedTupleGo tg (.ref it) u) (fun _ s2=>∃ x H',Inv X pins σ H' s2∧RelV x u∧J.yld i H x H'∧tn (i + 1) s2.heap∧∀ b∈fp,H' b=none) E s1) E s
 done:∀ (X:Cx),X.prog=P→X.w=w→X.K=K→X.calm=true→∀ (i:Nat) (pins:List (Addr×Obj)) (s:Shared) (σ:St) (H:Hp) (E:Value→Shared→Prop),Inv X pins σ H s→(∀ b∈fp,FpOk X pins H b)→tn i s.heap→J.stop i H →
  wpAny (model P w) X.A (pyNext (.ref it)) (fun r s1=>r=none∧Inv X pins σ H s1) E s
 self:∀ (A:Around) (i:Nat) (s:Shared) (Q:Value→Shared→Prop) (E:Value→Shared→Prop),tn i s.heap→Q (.ref it) s→wpAny (model P w) A (pyIter (.ref it)) Q E s
abbrev TI:=St→Hp→(It→Hp→Prop)→Prop
def PIE (X:Cx) (pins:List (Addr×Obj)) (σ:St) (tg:Expr) (R:It→Hp→Prop) (itv:Value) (s2:Shared):Prop :=
 ∃ (it:Addr) (fp:List Addr) (tn:Nat→Heap→Prop) (J:It) (H':Hp),itv=.ref it∧Inv X pins σ H' s2∧Turn X.prog X.w X.K tg J fp it tn∧tn 0 s2.heap∧(∀ b∈fp,FpOk X pins H' b)∧R J H'
def PI (X:Cx) (tg iter:Expr) (wi:TI):Prop :=
 ∀ (pins:List (Addr×Obj)) (s:Shared) (σ:St) (H:Hp) (R:It→Hp→Prop),Inv X pins σ H s→wi σ H R →
  wpAny (model X.prog X.w) X.A (eval iter X.env) (fun v s1=>wpAny (model X.prog X.w) X.A (pyIter v) (PIE X pins σ tg R) X.xe s1) X.xe s
def go_of {M:Model}{A:Around}{E:Value→Shared→Prop}{s:Shared}{tg:Expr}{it:Addr}{u:Value}{o:Obj}{n:String}{vs:Array Value}{Q:Unit→Shared→Prop}(ho:s.heap.get? it=some o) (hc:o.cls=.type n) (hd:o.data=.fields vs)
  (hn:["enumerate","zip","dict_itemiterator","dict_reverseitemiterator","odict_iterator","itertools.zip_longest","itertools.pairwise"].contains n=false) (hQ:Q () s):wpAny M A (letOwnedTupleGo tg (.ref it) u) Q E s:=by
 unfold letOwnedTupleGo
 cases tg <;> first
  | exact wpAny_pure hQ
  | (cases u <;> first
    | exact wpAny_pure hQ
    | (refine wpAny_bind (wpAny_load ho ?_)
       rw [hc,hd]
       show wpAny M A (if (["enumerate","zip","dict_itemiterator","dict_reverseitemiterator","odict_iterator","itertools.zip_longest","itertools.pairwise"].contains n&&vs[0]? == some (rawInt _))=true then _ else _) Q E s
       rw [if_neg (by intro h;rw [hn,Bool.false_and] at h;cases h)]
       exact wpAny_pure hQ))
def Itl (K:Fg) (a:Addr):It :=
 ⟨fun i H=>∃ xs x,SqL K H a xs∧xs[i]?=some x,fun i H x H'=>H'=H∧∀ xs,SqL K H a xs→xs[i]?=some x,fun i H=>∃ xs,SqL K H a xs∧xs.length≤i⟩
def Itt (K:Fg) (a:Addr):It :=
 ⟨fun i H=>∃ xs x,SqT K H a xs∧xs[i]?=some x,fun i H x H'=>H'=H∧∀ xs,SqT K H a xs→xs[i]?=some x,fun i H=>∃ xs,SqT K H a xs∧xs.length≤i⟩
def Itr (lo:Int) (n:Nat):It:=⟨fun i _=>i<n,fun i H x H'=>H'=H∧x=.int (lo + i),fun i _=>n≤i⟩
def turn_list {P:Program}{w:World}{K:Fg}{tg:Expr} (a it:Addr):Turn P w K tg (Itl K a) [it] it (fun i h=>h.IsListIter it a i) where
 mem:=by simp
 obj:=fun i h st b hb=>by
  have e:b=it:=by simpa using hb
  subst e
  obtain ⟨o,e,c,d⟩:=st
  exact ⟨o,e,fun v z=>by rw [d] at z;cases z⟩
 keep:=fun i h h' st k=>st.at fun o e=>k it (by simp) o e
 item:=by
  intro X hP hw hK hc i pins s σ H E I hf st hg
  subst hP hw hK
  obtain ⟨xs,x,hq,hx⟩:=hg
  obtain ⟨its,rv,p,hz⟩:=I.list hq
  obtain ⟨u,hu,ru⟩:=rv.get hx
  obtain ⟨f0,f1,f2,f3,f4,f5⟩:=hf it (by simp)
  refine wpAny_pyNext_list_item st p.isList (x:=u) (by simpa using hu) fun h' st' sb=>?_
  have I1:Inv X pins σ H { s with heap:=h' }:=I.turned (t':=s.toks) (fun b o hb e=>(sb.2 b hb).trans e) f0 f1 f3 f4 f5
  obtain ⟨o,e,c,d⟩:=id st'
  exact ⟨u,rfl,go_of (s:={ s with heap:=h' }) e c d (by decide) ⟨x,H,I1,ru,⟨rfl,fun ys hy=>by rw [I.list_inj hy hq];exact hx⟩,st',fun b hb=>(hf b hb).1⟩⟩
 done:=by
  intro X hP hw hK hc i pins s σ H E I hf st hg
  subst hP hw hK
  obtain ⟨xs,hq,hx⟩:=hg
  obtain ⟨its,rv,p,hz⟩:=I.list hq
  obtain ⟨f0,f1,f2,f3,f4,f5⟩:=hf it (by simp)
  have hl:=rv.length
  exact wpAny_pyNext_list_end (I.ok.hd hc) st p.isList (by simp;omega) fun h' eb=>⟨rfl,I.turned (t':=s.toks) (fun b o hb e=>eb b o hb e) f0 f1 f3 f4 f5⟩
 self:=fun _ _ _ _ _ st h=>wpAny_pyIter_listiter st h
def turn_tuple {P:Program}{w:World}{K:Fg}{tg:Expr} (a it:Addr):Turn P w K tg (Itt K a) [it] it (fun i h=>h.IsTupleIter it a i) where
 mem:=by simp
 obj:=fun i h st b hb=>by
  have e:b=it:=by simpa using hb
  subst e
  obtain ⟨o,e,c,d⟩:=st
  exact ⟨o,e,fun v z=>by rw [d] at z;cases z⟩
 keep:=fun i h h' st k=>st.at fun o e=>k it (by simp) o e
 item:=by
  intro X hP hw hK hc i pins s σ H E I hf st hg
  subst hP hw hK
  obtain ⟨xs,x,hq,hx⟩:=hg
  obtain ⟨its,rv,p,hz⟩:=I.tuple hq
  obtain ⟨u,hu,ru⟩:=rv.get hx
  obtain ⟨f0,f1,f2,f3,f4,f5⟩:=hf it (by simp)
  refine wpAny_pyNext_tuple_item st (show s.heap.IsTuple a its.toArray from p) (x:=u) (by simpa using hu) fun h' st' sb=>?_
  have I1:Inv X pins σ H { s with heap:=h' }:=I.turned (t':=s.toks) (fun b o hb e=>(sb.2 b hb).trans e) f0 f1 f3 f4 f5
  obtain ⟨o,e,c,d⟩:=id st'
  exact ⟨u,rfl,go_of (s:={ s with heap:=h' }) e c d (by decide) ⟨x,H,I1,ru,⟨rfl,fun ys hy=>by rw [I.tuple_inj hy hq];exact hx⟩,st',fun b hb=>(hf b hb).1⟩⟩
 done:=by
  intro X hP hw hK hc i pins s σ H E I hf st hg
  subst hP hw hK
  obtain ⟨xs,hq,hx⟩:=hg
  obtain ⟨its,rv,p,hz⟩:=I.tuple hq
  obtain ⟨f0,f1,f2,f3,f4,f5⟩:=hf it (by simp)
  have hl:=rv.length
  exact wpAny_pyNext_tuple_end (I.ok.hd hc) st (show s.heap.IsTuple a its.toArray from p) (by simp;omega) fun h' eb=>⟨rfl,I.turned (t':=s.toks) (fun b o hb e=>eb b o hb e) f0 f1 f3 f4 f5⟩
 self:=fun _ _ _ _ _ st h=>wpAny_pyIter_tupleiter st h
def turn_range {P:Program}{w:World}{K:Fg}{tg:Expr}(it:Addr) (lo:Int) (n:Nat):Turn P w K tg (Itr lo n) [it] it (fun i h=>IsRangeIter h it (lo + (i:Nat) * 1) ((n:Int) - (i:Nat)) 1) where
 mem:=by simp
 obj:=fun i h st b hb=>by
  have e:b=it:=by simpa using hb
  subst e
  exact ⟨_,st,fun v z=>by
   have z':Data.fields _=Data.cell v:=z
   cases z'⟩
 keep:=fun i h h' st k=>k it (by simp) _ st
 item:=by
  intro X hP hw hK hc i pins s σ H E I hf st hg
  subst hP hw hK
  obtain ⟨f0,f1,f2,f3,f4,f5⟩:=hf it (by simp)
  have W:=Walks.range (prog:=X.prog) (w:=X.w) (I.ok.hd hc) it lo 1 n
  refine W.item i s _ _ hg st fun v h' tk hv st' kk=>?_
  obtain ⟨t,rfl⟩:=hv
  have I1:Inv X pins σ H { s with heap:=h',toks:=tk }:=I.turned (fun b o hb e=>kk b o (by simpa using hb) e) f0 f1 f3 f4 f5
  refine ⟨_,rfl,go_of (s:={ s with heap:=h',toks:=tk }) (n:="range_iterator") st' rfl rfl (by decide) ⟨.int (lo + i),H,I1,⟨t,?_⟩,⟨rfl,rfl⟩,st',fun b hb=>(hf b hb).1⟩⟩
  rw [Int.mul_one]
 done:=by
  intro X hP hw hK hc i pins s σ H E I hf st hg
  subst hP hw hK
  obtain ⟨f0,f1,f2,f3,f4,f5⟩:=hf it (by simp)
  exact wpAny_pyNext_range_end (I.ok.hd hc) st (by have:n≤i:=hg;omega) fun h' eb=>⟨rfl,I.turned (t':=s.toks) (fun b o hb e=>eb b o hb e) f0 f1 f3 f4 f5⟩
 self:=fun _ _ _ _ _ st h=>wpAny_pyIter_rangeiter st h
section
variable {X:Cx} {tg:Expr}
def iList (K:Fg) (tl:TE):TI:=fun σ H R=>tl σ H fun x H1=>∃ a,x=.ref a∧(∃ xs,SqL K H1 a xs)∧R (Itl K a) H1
def iTup (K:Fg) (tl:TE):TI:=fun σ H R=>tl σ H fun x H1=>∃ a,x=.ref a∧(∃ xs,SqT K H1 a xs)∧R (Itt K a) H1
def pi_list {l:Expr}{tl:TE}(hl:PE X l tl):PI X tg l (iList X.K tl):=by
 intro pins s σ H R I h
 refine thn (hl pins s σ H _ I h) fun v s1 ⟨x,H1,I1,r1,q1⟩=>?_
 obtain ⟨a,e,⟨xs,hq⟩,q⟩:=q1
 subst e
 cases r1
 obtain ⟨its,rv,p,hz⟩:=I1.list hq
 refine wpAny_pyIter_list p.isList ?_
 refine ⟨s1.heap.objs.size,[s1.heap.objs.size],_,_,H1,rfl,I1.kept (t':=s1.toks) fun b o e=>Heap.get?_push_of_some _ e,turn_list a _,⟨_,Heap.get?_push_size _ rfl,rfl,rfl⟩,fun b hb=>?_,q⟩
 have e:b=s1.heap.objs.size:=by simpa using hb
 subst e
 exact I1.fpOk (Nat.le_refl _) (I1.hok.fresh (Nat.le_refl _))
def pi_tup {l:Expr}{tl:TE}(hl:PE X l tl):PI X tg l (iTup X.K tl):=by
 intro pins s σ H R I h
 refine thn (hl pins s σ H _ I h) fun v s1 ⟨x,H1,I1,r1,q1⟩=>?_
 obtain ⟨a,e,⟨xs,hq⟩,q⟩:=q1
 subst e
 cases r1
 obtain ⟨its,rv,p,hz⟩:=I1.tuple hq
 refine wpAny_pyIter_tuple (show s1.heap.IsTuple a its.toArray from p) ?_
 refine ⟨s1.heap.objs.size,[s1.heap.objs.size],_,_,H1,rfl,I1.kept (t':=s1.toks) fun b o e=>Heap.get?_push_of_some _ e,turn_tuple a _,⟨_,Heap.get?_push_size _ rfl,rfl,rfl⟩,fun b hb=>?_,q⟩
 have e:b=s1.heap.objs.size:=by simpa using hb
 subst e
 exact I1.fpOk (Nat.le_refl _) (I1.hok.fresh (Nat.le_refl _))
def range_it {pins:List (Addr×Obj)}{σ:St}{H:Hp}{s:Shared}{R:It→Hp→Prop}{E:Value→Shared→Prop}{lo hi:Int}{t u v:Tok}{tk:Nat}(I:Inv X pins σ H s) (h1:-(2 ^ 62)≤lo) (h2:lo<2 ^ 62) (h3:-(2 ^ 62)≤hi) (h4:hi<2 ^ 62)
  (q:R (Itr lo (hi - lo).toNat) H):wpAny (model X.prog X.w) X.A (pyIter (.ref s.heap.objs.size)) (PIE X pins σ tg R) E { s with heap:=s.heap.push { cls:=.type "range",data:=.fields #[.int lo t,.int hi u,.int 1 v] },toks:=tk }:=by
 refine wpAny_pyIter_range (IsRange.new ..) (small_one h1 h2 h3 h4) ?_
 have I1:Inv X pins σ H { s with heap:=s.heap.push { cls:=.type "range",data:=.fields #[.int lo t,.int hi u,.int 1 v] },toks:=tk }:=I.kept fun b o e=>Heap.get?_push_of_some _ e
 refine ⟨(s.heap.push { cls:=.type "range",data:=.fields #[.int lo t,.int hi u,.int 1 v] }).objs.size,[(s.heap.push { cls:=.type "range",data:=.fields #[.int lo t,.int hi u,.int 1 v] }).objs.size],_,_,H,rfl,
  I1.kept (t':=tk) fun b o e=>Heap.get?_push_of_some _ e,turn_range _ lo (hi - lo).toNat,?_,fun b hb=>?_,q⟩
 ·have e1:lo + ((0:Nat):Int) * 1=lo:=by simp
  have e2:(((hi - lo).toNat:Nat):Int) - ((0:Nat):Int)=Builtin.Range.rangeSize lo hi 1:=by rw [rangeSize_one];split <;> omega
  show IsRangeIter _ _ (lo + ((0:Nat):Int) * 1) ((((hi - lo).toNat:Nat):Int) - ((0:Nat):Int)) 1
  rw [e1,e2]
  exact Heap.get?_push_size _ rfl
 ·have e:b=(s.heap.push { cls:=.type "range",data:=.fields #[.int lo t,.int hi u,.int 1 v] }).objs.size:=by simpa using hb
  subst e
  exact I1.fpOk (Nat.le_refl _) (I1.hok.fresh (Nat.le_refl _))
def iRng1 (ta:TA):TI:=fun σ H R=>ta σ H fun vs H1=>∃ j:Int,vs=[.int j]∧-(2 ^ 62)≤j∧j<2 ^ 62∧R (Itr 0 j.toNat) H1
def pi_range1 {a:Expr}{ta:TA}{p pos:Pos}(hg:Gl X "range") (hm:X.mg "range"=none) (ha:PA X [a] ta) (hs:starEach [a] X.env=[(false,eval a X.env)]:=by rfl):PI X tg (.Call (.Name "range" p) [a] [] pos) (iRng1 ta):=by
 intro pins s σ H R I h
 refine Call_ (ld_blt I hg hm boot_range (PyProof.Rows.callWith_type1 (thn (ha pos pins s σ H _ I h) fun us s1 ⟨vs,H1,I1,r1,q1⟩=>?_) hs rfl))
 obtain ⟨j,e,q1,q2,q⟩:=q1
 subst e
 cases r1 with
 | cons r rr =>
  cases rr
  obtain ⟨t,rfl⟩:=r
  exact call_range_1 (range_it I1 (by omega) (by omega) q1 q2 (by simpa using q))
def tFor (wi:TI) (g:TG) (tb:TS):TS:=fun D σ H=>wi σ H fun J H1=>∃ W:Nat→Nat→St→Hp→Prop,(∃ m,W 0 m σ H1)∧∀ i m σ H,W i m σ H →
 (J.stop i H∧D.nx σ H)∨(J.go i H∧∃ N:St→Hp→Prop,(∀ σ' H',N σ' H'→∃ m',m'<m∧W (i + 1) m' σ' H')∧∀ x H',J.yld i H x H'→g x σ H' fun σ2 H2=>tb { D with nx:=N,ct:=N,bk:=D.nx } σ2 H2)
def pinsAt (fp:List Addr) (h:Heap):List (Addr×Obj):=fp.filterMap fun b=>(h.get? b).map fun o=>(b,o)
def mem_pinsAt {fp:List Addr}{h:Heap}{b:Addr}{o:Obj}(hb:b∈fp) (e:h.get? b=some o):(b,o)∈pinsAt fp h:=List.mem_filterMap.mpr ⟨b,hb,by rw [e];rfl⟩
def of_pinsAt {fp:List Addr}{h:Heap}{p:Addr×Obj}(hp:p∈pinsAt fp h):p.1∈fp∧h.get? p.1=some p.2:=by
 obtain ⟨b,hb,e⟩:=List.mem_filterMap.mp hp
 cases q:h.get? b with
 | none=>rw [q] at e;cases e
 | some o =>
  rw [q] at e
  have e':(b,o)=p:=Option.some.inj e
  subst e'
  exact ⟨hb,q⟩
def Inv.pinned {pins:List (Addr×Obj)}{σ:St}{H:Hp}{s:Shared}{fp:List Addr}(I:Inv X pins σ H s) (hf:∀ b∈fp,FpOk X pins H b) (ho:∀ b∈fp,∃ o,s.heap.get? b=some o∧∀ v,o.data≠.cell v):Inv X (pins++pinsAt fp s.heap) σ H s :=
 I.pins_of fun p hp=>(List.mem_append.mp hp).elim (fun z=>I.pin p (List.mem_append_right _ z)) fun z=>by
  obtain ⟨hb,e⟩:=of_pinsAt z
  obtain ⟨f0,f1,f2,_⟩:=hf p.1 hb
  obtain ⟨o,e',d⟩:=ho p.1 hb
  rw [e] at e';cases e'
  exact ⟨e,f0,f1,f2,d⟩
def Inv.unpinned {pins pl:List (Addr×Obj)}{σ:St}{H:Hp}{s:Shared}(I:Inv X (pins++pl) σ H s):Inv X pins σ H s:=I.pins_of fun p hp=>I.pin p (List.mem_append_right _ (List.mem_append_left _ hp))
def ps_for {iter:Expr}{body:List Stmt}{wi:TI}{g:TG}{tb:TS}{pos:Pos}(hp:PassesOwn (model X.prog X.w) X.A X.env X.xe) (hc:X.calm=true) (hi:PI X tg iter wi) (hg:PG X tg g) (hb:PSs X body tb)
  (hs:∀ x,foldedSetIterable iter X.env x=pure x:=by intro _;rfl):PS X (.For tg iter body [] pos) (tFor wi g tb):=by
 intro pins s σ H D I h
 refine wpAny_For (thn (hi pins s σ H _ I h) fun v s1 h1=>thn h1 fun itv s2 h2=>?_) hs
 obtain ⟨it,fp,tn,J,H2,e,I2,T,st2,f2,W,⟨m0,w0⟩,turn⟩:=h2
 subst e
 have stat:∀ {H':Hp},(∀ b∈fp,H' b=none)→∀ b∈fp,FpOk X pins H' b:=fun hn b hb=>⟨hn b hb,(f2 b hb).2⟩
 refine codeAny_forLoop_any (fun n s'=>∃ i σ' H',Inv X pins σ' H' s'∧tn i s'.heap∧(∀ b∈fp,H' b=none)∧W i n σ' H') ?_ m0 ⟨0,σ,H2,I2,st2,fun b hb=>(f2 b hb).1,w0⟩
 rintro n s3 ⟨i,σ3,H3,I3,st3,fr3,w3⟩
 rcases turn i n σ3 H3 w3 with ⟨stop,qn⟩ | ⟨go,N,hN,step⟩
 ·refine wpAny_passesOwn hp (thn (T.done X rfl rfl rfl hc i pins s3 σ3 H3 X.xe I3 (stat fr3) st3 stop) fun r s4 ⟨hr,I4⟩=>?_)
  subst hr
  exact wpAny_execs_nil ⟨σ3,H3,I4,qn⟩
 ·refine wpAny_passesOwn hp (thn (T.item X rfl rfl rfl hc i pins s3 σ3 H3 X.xe I3 (stat fr3) st3 go) fun r s4 ⟨u,hr,h4⟩=>?_)
  subst hr
  refine wpAny_passesOwn hp (thn h4 fun _ s5 ⟨x,H5,I5,r5,y5,st5,fr5⟩=>?_)
  have I5':=I5.pinned (stat fr5) (T.obj _ _ st5)
  refine wpAny_passesOwn hp (thn (hg _ s5 σ3 H5 x u _ I5' r5 (step x H5 y5)) fun _ s6 ⟨σ6,H6,I6,q6⟩=>?_)
  refine wpAny_passesOwn hp (thn (hb _ s6 σ6 H6 _ I6 q6) fun f s7 q7=>?_)
  have again:∀ {σ7:St} {H7:Hp},Inv X (pins++pinsAt fp s5.heap) σ7 H7 s7→N σ7 H7→∃ m,m<n∧∃ i σ' H',Inv X pins σ' H' s7∧tn i s7.heap∧(∀ b∈fp,H' b=none)∧W i m σ' H':=fun {σ7 H7} I7 n7=>by
   obtain ⟨m',hm,w7⟩:=hN σ7 H7 n7
   refine ⟨m',hm,i + 1,σ7,H7,I7.unpinned,T.keep _ _ _ st5 fun b hb o e=>(I7.pin (b,o) (List.mem_append_right _ (List.mem_append_right _ (mem_pinsAt hb e)))).1,fun b hb=>?_,w7⟩
   obtain ⟨o,e,d⟩:=T.obj _ _ st5 b hb
   exact (I7.pin (b,o) (List.mem_append_right _ (List.mem_append_right _ (mem_pinsAt hb e)))).2.1
  cases f with
  | next=>obtain ⟨σ7,H7,I7,n7⟩:=q7;exact again I7 n7
  | cont=>obtain ⟨σ7,H7,I7,n7⟩:=q7;exact again I7 n7
  | brk=>obtain ⟨σ7,H7,I7,q7⟩:=q7;exact ⟨σ7,H7,I7.unpinned,q7⟩
  | ret v=>obtain ⟨x7,σ7,H7,I7,r7,q7⟩:=q7;exact ⟨x7,σ7,H7,I7.unpinned,r7,q7⟩
end
abbrev R2:=V→V→Hp→VK→Prop
def OpR (X:Cx) (f:Value→Value→Sem Value) (r:R2):Prop :=
 ∀ (pins:List (Addr×Obj)) (s:Shared) (σ:St) (H:Hp) (x y:V) (v u:Value) (Q:VK),Inv X pins σ H s→RelV x v→RelV y u→r x y H Q →
  wpAny (model X.prog X.w) X.A (f v u) (EP X pins σ Q) X.xe s
def UnR (X:Cx) (f:Value→Sem Value) (r:V→Hp→VK→Prop):Prop :=
 ∀ (pins:List (Addr×Obj)) (s:Shared) (σ:St) (H:Hp) (x:V) (v:Value) (Q:VK),Inv X pins σ H s→RelV x v→r x H Q →
  wpAny (model X.prog X.w) X.A (f v) (EP X pins σ Q) X.xe s
def CallR (X:Cx) (f:Value) (r:List V→Hp→VK→Prop):Prop :=
 ∀ (pins:List (Addr×Obj)) (s:Shared) (σ:St) (H:Hp) (xs:List V) (us:List Value) (Q:VK),Inv X pins σ H s→Vals xs us→r xs H Q →
  wpAny (model X.prog X.w) X.A (call f us) (EP X pins σ Q) X.xe s
def TruR (X:Cx) (r:V→Hp→(Bool→Hp→Prop)→Prop):Prop :=
 ∀ (pins:List (Addr×Obj)) (s:Shared) (σ:St) (H:Hp) (x:V) (v:Value) (Q:Bool→Hp→Prop),Inv X pins σ H s→RelV x v→r x H Q →
  wpAny (model X.prog X.w) X.A (truthy v) (TP X pins σ Q) X.xe s
def tOp (r:R2) (ta tb:TE):TE:=fun σ H Q=>ta σ H fun x H1=>tb σ H1 fun y H2=>r x y H2 Q
def tUn (r:V→Hp→VK→Prop) (ta:TE):TE:=fun σ H Q=>ta σ H fun x H1=>r x H1 Q
def rI (C:Int→Int→Prop) (g:Int→Int→V):R2:=fun x y H Q=>∃ i j,x=.int i∧y=.int j∧C i j∧Q (g i j) H
def rI0 (g:Int→Int→V):R2:=fun x y H Q=>∃ i j,x=.int i∧y=.int j∧Q (g i j) H
def rU (g:Int→V):V→Hp→VK→Prop:=fun x H Q=>∃ i,x=.int i∧Q (g i) H
section
variable {X:Cx} {a b c:Expr} {ta tb tc:TE} {pos:Pos}
def binT (ha:PE X a ta) (hb:PE X b tb) {pins:List (Addr×Obj)}{s:Shared}{σ:St}{H:Hp}{R:V→V→Hp→Prop}(I:Inv X pins σ H s)
  (h:ta σ H fun x H1=>tb σ H1 fun y H2=>R x y H2) {Q:Value→Shared→Prop} {f:Value→Value→Sem Value}
  (hf:∀ v u s2 x y H2,Inv X pins σ H2 s2→RelV x v→RelV y u→R x y H2→wpAny (model X.prog X.w) X.A (f v u) Q X.xe s2):
  wpAny (model X.prog X.w) X.A (eval a X.env) (fun v s₁=>wpAny (model X.prog X.w) X.A (eval b X.env) (fun u s₂=>wpAny (model X.prog X.w) X.A (f v u) Q X.xe s₂) X.xe s₁) X.xe s:=by
 refine thn (ha pins s σ H _ I h) fun v s1 ⟨x,H1,I1,r1,q1⟩=>?_
 refine thn (hb pins s1 σ H1 _ I1 q1) fun u s2 ⟨y,H2,I2,r2,q2⟩=>?_
 exact hf v u s2 x y H2 I2 r1 r2 q2
def pe_op {op:Operator}{r:R2}(ho:OpR X (binaryOp op) r) (ha:PE X a ta) (hb:PE X b tb):PE X (.BinOp a op b pos) (tOp r ta tb):=by
 intro pins s σ H Q I h
 exact wpAny_BinOp (binT ha hb I h fun v u s2 x y H2 I2 rx ry q=>ho pins s2 σ H2 x y v u Q I2 rx ry q)
def pe_un {op:UnaryOp}{r:V→Hp→VK→Prop}(ho:UnR X (unaryOp op) r) (ha:PE X a ta):PE X (.UnaryOp op a pos) (tUn r ta):=by
 intro pins s σ H Q I h
 exact UnaryOp_ (thn (ha pins s σ H _ I h) fun v s1 ⟨x,H1,I1,r1,q1⟩=>ho pins s1 σ H1 x v Q I1 r1 q1)
def opI {f:Value→Value→Sem Value}{C:Int→Int→Prop}{g:Int→Int→Int}
  (rule:∀ (i j:Int) (t u:Tok) (s:Shared) (Q:Value→Shared→Prop) (E:Value→Shared→Prop),C i j→Q (.int (g i j) s.toks) { s with toks:=s.toks + 1 }→wpAny (model X.prog X.w) X.A (f (.int i t) (.int j u)) Q E s):
  OpR X f (rI C fun i j=>.int (g i j)):=by
 intro pins s σ H x y v u Q I rx ry h
 obtain ⟨i,j,rfl,rfl,hc,q⟩:=h
 obtain ⟨t,rfl⟩:=rx
 obtain ⟨t',rfl⟩:=ry
 exact rule i j t t' s _ _ hc ⟨.int (g i j),H,I.tok _,⟨_,rfl⟩,q⟩
def opI0 {f:Value→Value→Sem Value}{g:Int→Int→Int}
  (rule:∀ (i j:Int) (t u:Tok) (s:Shared) (Q:Value→Shared→Prop) (E:Value→Shared→Prop),Q (.int (g i j) s.toks) { s with toks:=s.toks + 1 }→wpAny (model X.prog X.w) X.A (f (.int i t) (.int j u)) Q E s):
  OpR X f (rI0 fun i j=>.int (g i j)):=by
 intro pins s σ H x y v u Q I rx ry h
 obtain ⟨i,j,rfl,rfl,q⟩:=h
 obtain ⟨t,rfl⟩:=rx
 obtain ⟨t',rfl⟩:=ry
 exact rule i j t t' s _ _ ⟨.int (g i j),H,I.tok _,⟨_,rfl⟩,q⟩
def opB0 {f:Value→Value→Sem Value}{g:Int→Int→Bool}
  (rule:∀ (i j:Int) (t u:Tok) (s:Shared) (Q:Value→Shared→Prop) (E:Value→Shared→Prop),Q (.bool (g i j)) s→wpAny (model X.prog X.w) X.A (f (.int i t) (.int j u)) Q E s):
  OpR X f (rI0 fun i j=>.bl (g i j)):=by
 intro pins s σ H x y v u Q I rx ry h
 obtain ⟨i,j,rfl,rfl,q⟩:=h
 obtain ⟨t,rfl⟩:=rx
 obtain ⟨t',rfl⟩:=ry
 exact rule i j t t' s _ _ ⟨.bl (g i j),H,I,rfl,q⟩
def CDiv (i j:Int):Prop:=0<j∧j<1073741824
def CPow (i j:Int):Prop:=0≤j∧j≤1000000∧i.natAbs<2 ^ 64
def CMul (i j:Int):Prop:=(-(2 ^ 64)<i∧i<2 ^ 64)∨(-(2 ^ 64)<j∧j<2 ^ 64)
def CMul.ok {i j:Int}(h:CMul i j):IntMulOk i j:=by
 rcases h with ⟨h1,h2⟩ | ⟨h1,h2⟩
 ·exact .of_left (intBits_le_64 h1 h2)
 ·exact .of_right (intBits_le_64 h1 h2)
def op_add:OpR X (binaryOp .Add) (rI0 fun i j=>.int (i + j)):=opI0 fun _ _ _ _ _ _ _ q=>add_int q
def op_sub:OpR X (binaryOp .Sub) (rI0 fun i j=>.int (i - j)):=opI0 fun _ _ _ _ _ _ _ q=>sub_int q
def op_mul:OpR X (binaryOp .Mult) (rI CMul fun i j=>.int (i * j)):=opI fun _ _ _ _ _ _ _ hc q=>mul_int q hc.ok
def op_fdiv:OpR X (binaryOp .FloorDiv) (rI CDiv fun i j=>.int (i / j)):=opI fun i j _ _ _ _ _ hc q=>by
 have h1:(0:Int)<j:=hc.1
 have h2:j<1073741824:=hc.2
 exact floordiv_int (by omega) (by rw [Int.fdiv_eq_ediv_of_nonneg i (by omega)];exact q) (.inl (PyProof.noPylong_small (by omega)))
def op_mod:OpR X (binaryOp .Mod) (rI (fun _ j=>0<j) fun i j=>.int (i % j)):=opI fun i j _ _ _ _ _ hc q=>by
 have h1:(0:Int)<j:=hc
 exact mod_int' (by omega) (by rw [Int.fmod_eq_emod_of_nonneg i (by omega)];exact q)
def op_pow:OpR X (binaryOp .Pow) (rI CPow fun i j=>.int (i ^ j.toNat)):=opI fun _ _ _ _ _ _ _ hc q=>pow_int_small hc.1 hc.2.1 hc.2.2 q
def unI {f:Value→Sem Value}{g:Int→Int}
  (rule:∀ (i:Int) (t:Tok) (s:Shared) (Q:Value→Shared→Prop) (E:Value→Shared→Prop),Q (.int (g i) s.toks) { s with toks:=s.toks + 1 }→wpAny (model X.prog X.w) X.A (f (.int i t)) Q E s):
  UnR X f (rU fun i=>.int (g i)):=by
 intro pins s σ H x v Q I rx h
 obtain ⟨i,rfl,q⟩:=h
 obtain ⟨t,rfl⟩:=rx
 exact rule i t s _ _ ⟨.int (g i),H,I.tok _,⟨_,rfl⟩,q⟩
def un_neg:UnR X (unaryOp .USub) (rU fun i=>.int (-i)):=unI fun _ _ _ _ _ q=>neg_int q
end
def scal:V→V→Bool
 | .non,.non=>true | .non,.int _=>true | .int _,.non=>true | .non,.bl _=>true | .bl _,.non=>true | .non,.str _=>true | .str _,.non=>true
 | .int _,.int _=>true | .bl _,.bl _=>true | .str _,.str _=>true | .byt _,.byt _=>true
 | .int _,.str _=>true | .str _,.int _=>true | .bl _,.str _=>true | .str _,.bl _=>true
 | _,_=>false
def rEq:R2:=fun x y H Q=>scal x y=true∧Q (.bl (decide (x=y))) H
def rNe:R2:=fun x y H Q=>scal x y=true∧Q (.bl (!decide (x=y))) H
def dec_int {i j:Int}:decide (V.int i=V.int j)=(i == j):=by
 rw [Bool.eq_iff_iff]
 simp
def dec_bl {i j:Bool}:decide (V.bl i=V.bl j)=(i == j):=by
 rw [Bool.eq_iff_iff]
 simp
def dec_str {i j:Str}:decide (V.str i=V.str j)=(i == j):=by
 rw [Bool.eq_iff_iff]
 simp
def dec_byt {i j:Array UInt8}:decide (V.byt i=V.byt j)=(i.toList == j.toList):=by
 rw [Bool.eq_iff_iff]
 cases i
 cases j
 simp
section
variable {X:Cx} {a b c:Expr} {ta tb tc:TE} {pos:Pos}
def fin_bl {pins:List (Addr×Obj)}{σ:St}{H:Hp}{s:Shared}{Q:VK}{k k':Bool}(I:Inv X pins σ H s) (q:Q (.bl k) H) (e:k=k'):EP X pins σ Q (.bool k') s:=by
 subst e
 exact ⟨.bl k,H,I,rfl,q⟩
def op_eq:OpR X (compareOp .Eq) rEq:=by
 intro pins s σ H x y v u Q I rx ry h
 obtain ⟨hs,q⟩:=h
 cases x with
 | non =>
  cases rx
  cases y with
  | non=>cases ry;exact PySem.EqNone.eq_none_none (fin_bl I q (by simp))
  | bl j=>cases ry;exact PySem.EqNone.eq_none_bool (fin_bl I q (by simp))
  | int j=>obtain ⟨t',rfl⟩:=ry;exact PySem.EqNone.eq_none_int (fin_bl I q (by simp))
  | str j=>obtain ⟨t',rfl⟩:=ry;exact PySem.EqNone.eq_none_str (fin_bl I q (by simp))
  | _=>exact absurd (show false=true from hs) Bool.false_ne_true
 | bl i =>
  cases rx
  cases y with
  | non=>cases ry;exact PySem.EqNone.eq_bool_none (fin_bl I q (by simp))
  | bl j=>cases ry;exact eq_bool (fin_bl I q dec_bl)
  | str j=>obtain ⟨t',rfl⟩:=ry;exact PySem.EqMixed.eq_bool_str (fin_bl I q (by simp))
  | _=>exact absurd (show false=true from hs) Bool.false_ne_true
 | int i =>
  obtain ⟨t,rfl⟩:=rx
  cases y with
  | non=>cases ry;exact PySem.EqNone.eq_int_none (fin_bl I q (by simp))
  | int j=>obtain ⟨t',rfl⟩:=ry;exact eq_int (fin_bl I q dec_int)
  | str j=>obtain ⟨t',rfl⟩:=ry;exact PySem.EqMixed.eq_int_str (fin_bl I q (by simp))
  | _=>exact absurd (show false=true from hs) Bool.false_ne_true
 | str i =>
  obtain ⟨t,rfl⟩:=rx
  cases y with
  | non=>cases ry;exact PySem.EqNone.eq_str_none (fin_bl I q (by simp))
  | bl j=>cases ry;exact PySem.EqMixed.eq_str_bool (fin_bl I q (by simp))
  | int j=>obtain ⟨t',rfl⟩:=ry;exact PySem.EqMixed.eq_str_int (fin_bl I q (by simp))
  | str j=>obtain ⟨t',rfl⟩:=ry;exact eq_str (fin_bl I q dec_str)
  | _=>exact absurd (show false=true from hs) Bool.false_ne_true
 | byt i =>
  obtain ⟨t,rfl⟩:=rx
  cases y with
  | byt j=>obtain ⟨t',rfl⟩:=ry;exact W.eq_bytes (fin_bl I q dec_byt)
  | _=>exact absurd (show false=true from hs) Bool.false_ne_true
 | _=>cases y <;> exact absurd (show false=true from hs) Bool.false_ne_true
def op_ne:OpR X (compareOp .NotEq) rNe:=by
 intro pins s σ H x y v u Q I rx ry h
 obtain ⟨hs,q⟩:=h
 cases x with
 | non =>
  cases rx
  cases y with
  | non=>cases ry;exact PySem.EqNone.ne_none_none (fin_bl I q (by simp))
  | bl j=>cases ry;exact PySem.EqNone.ne_none_bool (fin_bl I q (by simp))
  | int j=>obtain ⟨t',rfl⟩:=ry;exact PySem.EqNone.ne_none_int (fin_bl I q (by simp))
  | str j=>obtain ⟨t',rfl⟩:=ry;exact PySem.EqNone.ne_none_str (fin_bl I q (by simp))
  | _=>exact absurd (show false=true from hs) Bool.false_ne_true
 | bl i =>
  cases rx
  cases y with
  | non=>cases ry;exact PySem.EqNone.ne_bool_none (fin_bl I q (by simp))
  | bl j=>cases ry;exact ne_bool (fin_bl I q (congrArg not dec_bl))
  | str j=>obtain ⟨t',rfl⟩:=ry;exact PySem.EqMixed.ne_bool_str (fin_bl I q (by simp))
  | _=>exact absurd (show false=true from hs) Bool.false_ne_true
 | int i =>
  obtain ⟨t,rfl⟩:=rx
  cases y with
  | non=>cases ry;exact PySem.EqNone.ne_int_none (fin_bl I q (by simp))
  | int j=>obtain ⟨t',rfl⟩:=ry;exact ne_int (fin_bl I q (congrArg not dec_int))
  | str j=>obtain ⟨t',rfl⟩:=ry;exact PySem.EqMixed.ne_int_str (fin_bl I q (by simp))
  | _=>exact absurd (show false=true from hs) Bool.false_ne_true
 | str i =>
  obtain ⟨t,rfl⟩:=rx
  cases y with
  | non=>cases ry;exact PySem.EqNone.ne_str_none (fin_bl I q (by simp))
  | bl j=>cases ry;exact PySem.EqMixed.ne_str_bool (fin_bl I q (by simp))
  | int j=>obtain ⟨t',rfl⟩:=ry;exact PySem.EqMixed.ne_str_int (fin_bl I q (by simp))
  | str j=>obtain ⟨t',rfl⟩:=ry;exact ne_str (fin_bl I q (congrArg not dec_str))
  | _=>exact absurd (show false=true from hs) Bool.false_ne_true
 | byt i =>
  obtain ⟨t,rfl⟩:=rx
  cases y with
  | byt j=>obtain ⟨t',rfl⟩:=ry;exact W.ne_bytes (fin_bl I q (congrArg not dec_byt))
  | _=>exact absurd (show false=true from hs) Bool.false_ne_true
 | _=>cases y <;> exact absurd (show false=true from hs) Bool.false_ne_true
def op_lt:OpR X (compareOp .Lt) (rI0 fun i j=>.bl (decide (i<j))):=opB0 fun _ _ _ _ _ _ _ q=>lt_int q
def op_le:OpR X (compareOp .LtE) (rI0 fun i j=>.bl (decide (i≤j))):=opB0 fun _ _ _ _ _ _ _ q=>le_int q
def op_gt:OpR X (compareOp .Gt) (rI0 fun i j=>.bl (decide (j<i))):=opB0 fun _ _ _ _ _ _ _ q=>gt_int q
def op_ge:OpR X (compareOp .GtE) (rI0 fun i j=>.bl (decide (j≤i))):=opB0 fun _ _ _ _ _ _ _ q=>ge_int q
def op_in_str:OpR X (compareOp .In) (fun x y H Q=>∃ i j,x=.str i∧y=.str j∧Q (.bl (!(Builtin.Str.occurrences j i 0 j.length 1).isEmpty)) H):=by
 intro pins s σ H x y v u Q I rx ry h
 obtain ⟨i,j,rfl,rfl,q⟩:=h
 obtain ⟨t,rfl⟩:=rx
 obtain ⟨t',rfl⟩:=ry
 exact in_str (fin_bl I q rfl)
def op_isN:OpR X (compareOp .Is) (fun x y H Q=>y=.non∧Q (.bl (decide (x=.non))) H):=by
 intro pins s σ H x y v u Q I rx ry h
 obtain ⟨rfl,q⟩:=h
 cases ry
 refine is_none_gen (fin_bl I q ?_)
 cases x <;> first
  | (cases rx;rfl)
  | (obtain ⟨t,rfl⟩:=rx;rfl)
def op_notN:OpR X (compareOp .IsNot) (fun x y H Q=>y=.non∧Q (.bl (!decide (x=.non))) H):=by
 intro pins s σ H x y v u Q I rx ry h
 obtain ⟨rfl,q⟩:=h
 cases ry
 refine isnot_none_gen (fin_bl I q ?_)
 cases x <;> first
  | (cases rx;rfl)
  | (obtain ⟨t,rfl⟩:=rx;rfl)
def nomark (b:Expr) {op:CmpOp}(h:op≠.In:=by decide) (h2:op≠.NotIn:=by decide):behindInMarks op b=false:=by
 have e1:(op == CmpOp.In)=false:=by cases op <;> first | rfl | exact absurd rfl h
 have e2:(op == CmpOp.NotIn)=false:=by cases op <;> first | rfl | exact absurd rfl h2
 cases b <;> simp [behindInMarks,e1,e2]
def pe_cmpR {op:CmpOp}{r:R2}(ho:OpR X (compareOp op) r) (ha:PE X a ta) (hb:PE X b tb) (hm:behindInMarks op b=false):PE X (.Compare a [op] [b] pos) (tOp r ta tb):=by
 intro pins s σ H Q I h
 exact wpAny_Compare1 (binT ha hb I h fun v u s2 x y H2 I2 rx ry q=>ho pins s2 σ H2 x y v u Q I2 rx ry q) hm
def tTest (t:TE):TT:=fun σ H Q=>t σ H fun x H'=>∃ k,x=.bl k∧Q k H'
def pt_cmpR {op:CmpOp}{r:R2}(ho:OpR X (compareOp op) r) (ha:PE X a ta) (hb:PE X b tb) (hm:behindInMarks op b=false):PT X (.Compare a [op] [b] pos) (tTest (tOp r ta tb)):=by
 intro pins s σ H Q I h
 refine wpAny_isTrue_Compare1 (thn (ha pins s σ H _ I h) fun v s1 ⟨x,H1,I1,r1,q1⟩=>thn (hb pins s1 σ H1 _ I1 q1) fun u s2 ⟨y,H2,I2,r2,q2⟩ =>
  thn (ho pins s2 σ H2 x y v u _ I2 r1 r2 q2) fun c s3 ⟨z,H3,I3,r3,k,e,q3⟩=>?_) hm
 subst e
 cases r3
 exact wpAny_truthy_bool ⟨H3,I3,q3⟩
def tChain (r r':R2) (ta tb tc:TE):TE:=fun σ H Q=>ta σ H fun x H1=>tb σ H1 fun y H2=>r x y H2 fun z H3=>∃ k,z=.bl k ∧
 (if k=true then tc σ H3 fun w' H4=>r' y w' H4 Q else Q (.bl false) H3)
def pe_chain {op op':CmpOp}{r r':R2}(ho:OpR X (compareOp op) r) (ho':OpR X (compareOp op') r') (ha:PE X a ta) (hb:PE X b tb) (hc:PE X c tc)
  (hm:lastMarks [op,op'] [b,c]=false:=by with_unfolding_all rfl):PE X (.Compare a [op,op'] [b,c] pos) (tChain r r' ta tb tc):=by
 intro pins s σ H Q I h
 refine Compare_chain (thn (ha pins s σ H _ I h) fun v s1 ⟨x,H1,I1,r1,q1⟩=>chain_link (thn (hb pins s1 σ H1 _ I1 q1) fun u s2 ⟨y,H2,I2,r2,q2⟩ =>
  thn (ho pins s2 σ H2 x y v u _ I2 r1 r2 q2) fun d s3 ⟨z,H3,I3,r3,k,e,q3⟩=>?_)) hm
 subst e
 cases r3
 refine wpAny_truthy_bool ?_
 cases k with
 | false=>exact ite_ff ⟨.bl false,H3,I3,rfl,q3⟩
 | true=>exact ite_tt (chain_last (thn (hc pins s3 σ H3 _ I3 q3) fun w' s4 ⟨z',H4,I4,r4,q4⟩=>ho' pins s4 σ H4 y z' u w' Q I4 r2 r4 q4))
def pt_chain {op op':CmpOp}{r r':R2}(ho:OpR X (compareOp op) r) (ho':OpR X (compareOp op') r') (ha:PE X a ta) (hb:PE X b tb) (hc:PE X c tc)
  (hm:lastMarks [op,op'] [b,c]=false:=by with_unfolding_all rfl):PT X (.Compare a [op,op'] [b,c] pos) (tTest (tChain r r' ta tb tc)):=by
 intro pins s σ H Q I h
 refine isTrue_chain (thn (ha pins s σ H _ I h) fun v s1 ⟨x,H1,I1,r1,q1⟩=>test_link (thn (hb pins s1 σ H1 _ I1 q1) fun u s2 ⟨y,H2,I2,r2,q2⟩ =>
  thn (ho pins s2 σ H2 x y v u _ I2 r1 r2 q2) fun d s3 ⟨z,H3,I3,r3,k,e,q3⟩=>?_)) hm
 subst e
 cases r3
 refine wpAny_truthy_bool ?_
 cases k with
 | false =>
  obtain ⟨k',e',q'⟩:=q3
  cases e'
  exact ite_ff ⟨H3,I3,q'⟩
 | true =>
  refine ite_tt (test_last (thn (hc pins s3 σ H3 _ I3 q3) fun w' s4 ⟨z',H4,I4,r4,q4⟩=>thn (ho' pins s4 σ H4 y z' u w' _ I4 r2 r4 q4) fun d' s5 ⟨z2,H5,I5,r5,k2,e2,q5⟩=>?_))
  subst e2
  cases r5
  exact wpAny_truthy_bool ⟨H5,I5,q5⟩
def TruV (K:Fg) (x:V) (H:Hp) (k:Bool):Prop :=
 match x with
 | .non=>k=false
 | .bl b=>k=b
 | .int i=>k=(i != 0)
 | .str y=>y.length≤sizeLine∧k=((y.length:Int) != 0)
 | .byt y=>y.size≤sizeLine∧k=((y.size:Int) != 0)
 | .ref p=>(∃ xs,SqL K H p xs∧k=!xs.isEmpty)∨(∃ xs,SqT K H p xs∧k=!xs.isEmpty)∨∃ kvs,H p=some (.dK kvs)∧k=!kvs.isEmpty
 | _=>False
def isEmpty_kv {κ:Type}{kvs:List (κ×V)}{vs:List (κ×Value)}(r:KV kvs vs):(!vs.isEmpty)=!kvs.isEmpty:=by
 cases r <;> rfl
def isEmpty_of {xs:List V}{its:List Value}(r:Vals xs its):(!its.toArray.isEmpty)=!xs.isEmpty:=by
 cases r <;> simp
def line63:(sizeLine:Nat)<2 ^ 63:=by rw [sizeLine_eq];decide
def tru_ok:TruR X (fun x H Q=>∃ k,TruV X.K x H k∧Q k H):=by
 intro pins s σ H x v Q I rx h
 obtain ⟨k,e,q⟩:=h
 have hl:=line63
 have hs:sizeLine=16777216:=sizeLine_eq
 cases x with
 | non =>
  cases rx
  have e':k=false:=e
  subst e'
  exact truthy_none ⟨H,I,q⟩
 | bl b =>
  cases rx
  have e':k=b:=e
  subst e'
  exact wpAny_truthy_bool ⟨H,I,q⟩
 | int i =>
  obtain ⟨t,rfl⟩:=rx
  have e':k=(i != 0):=e
  subst e'
  exact PySem.P.truthy_int ⟨H,I,q⟩
 | str y =>
  obtain ⟨t,rfl⟩:=rx
  obtain ⟨hy,e'⟩:y.length≤sizeLine∧k=((y.length:Int) != 0):=e
  subst e'
  exact PySem.P.truthy_str (by omega) ⟨H,I.tok _,q⟩
 | byt y =>
  obtain ⟨t,rfl⟩:=rx
  obtain ⟨hy,e'⟩:y.size≤sizeLine∧k=((y.size:Int) != 0):=e
  subst e'
  exact W.truthy_bytes (by omega) ⟨H,I.tok _,q⟩
 | ref p =>
  cases rx
  have e':(∃ xs,SqL X.K H p xs∧k=!xs.isEmpty)∨(∃ xs,SqT X.K H p xs∧k=!xs.isEmpty)∨∃ kvs,H p=some (.dK kvs)∧k=!kvs.isEmpty:=e
  rcases e' with ⟨xs,hx,e'⟩ | ⟨xs,hx,e'⟩ | ⟨kvs,hx,e'⟩
  ·subst e'
   obtain ⟨its,r,pl,hz⟩:=I.list hx
   have hlen:=r.length
   exact wpAny_truthy_list pl.isList (by simp only [List.size_toArray];omega) ⟨H,I.tok _,by rw [isEmpty_of r];exact q⟩
  ·subst e'
   obtain ⟨its,r,pl,hz⟩:=I.tuple hx
   have hlen:=r.length
   exact truthy_tuple pl (by simp only [List.size_toArray];omega) ⟨H,I.tok _,by rw [isEmpty_of r];exact q⟩
  ·subst e'
   obtain ⟨hz,hS,vs,r,m⟩:kvs.length≤sizeLine∧(p == sysModules)=false∧∃ vs,KV kvs vs∧s.heap.DictOf (mixKind X.prog X.w) p vs:=I.hok p _ hx
   have hlen:kvs.length=vs.length:=Paired.length r
   exact wpAny_truthy_dict hS m (by omega) ⟨H,I.tok _,by rw [isEmpty_kv r];exact q⟩
 | _=>exact (show False from e).elim
def pt_truth (ha:PE X a ta) (he:∀ whole,isTrue a X.env whole=(do let v ← whole;standAt a.pos;holding [v] (truthy v))):
  PT X a (fun σ H Q=>ta σ H fun x H'=>∃ k,TruV X.K x H' k∧Q k H'):=by
 intro pins s σ H Q I h
 exact isTrue_plain (thn (ha pins s σ H _ I h) fun v s1 ⟨x,H1,I1,r1,q1⟩=>tru_ok pins s1 σ H1 x v Q I1 r1 q1) (he _)
def op_add_str:OpR X (binaryOp .Add) (fun x y H Q=>∃ i j,x=.str i∧y=.str j∧i.length + j.length≤sizeLine∧Q (.str (i++j)) H):=by
 intro pins s σ H x y v u Q I rx ry h
 obtain ⟨i,j,rfl,rfl,hz,q⟩:=h
 obtain ⟨t,rfl⟩:=rx
 obtain ⟨t',rfl⟩:=ry
 exact add_str (fun t' tk=>⟨.str (i++j),H,I.tok _,⟨_,rfl⟩,q⟩) hz
def vals1 {x:V}{us:List Value}(r:Vals [x] us):∃ u,us=[u]∧RelV x u:=by
 cases r with
 | cons r1 r2=>cases r2;exact ⟨_,rfl,r1⟩
def vals2 {x y:V}{us:List Value}(r:Vals [x,y] us):∃ u w',us=[u,w']∧RelV x u∧RelV y w':=by
 cases r with
 | cons r1 r2 =>
  cases r2 with
  | cons r3 r4=>cases r4;exact ⟨_,_,rfl,r1,r3⟩
def call_max2 (hc:X.calm=true):CallR X (.builtin "max") (fun xs H Q=>∃ i j,xs=[.int i,.int j]∧Q (.int (if j > i then j else i)) H):=by
 intro pins s σ H xs us Q I r h
 obtain ⟨i,j,rfl,q⟩:=h
 obtain ⟨u,w',rfl,⟨t,rfl⟩,⟨t',rfl⟩⟩:=vals2 r
 refine max_two_ints (I.ok.hd hc) fun h' tk k=>⟨_,H,I.kept k,?_,q⟩
 by_cases hj:j > i
 ·rw [if_pos hj,if_pos hj];exact ⟨_,rfl⟩
 ·rw [if_neg hj,if_neg hj];exact ⟨_,rfl⟩
def call_int1:CallR X (.type "int") (fun xs H Q=>(∃ i,xs=[.int i]∧Q (.int i) H)∨∃ k,xs=[.bl k]∧Q (.int (if k then 1 else 0)) H):=by
 intro pins s σ H xs us Q I r h
 rcases h with ⟨i,rfl,q⟩ | ⟨k,rfl,q⟩
 ·obtain ⟨u,rfl,t,rfl⟩:=vals1 r
  exact call_int_int ⟨.int i,H,I,⟨_,rfl⟩,q⟩
 ·obtain ⟨u,rfl,r1⟩:=vals1 r
  cases r1
  exact call_int_bool ⟨.int (if k then 1 else 0),H,I.tok _,⟨_,rfl⟩,q⟩
def LenV (K:Fg) (x:V) (H:Hp) (n:Nat):Prop :=
 match x with
 | .str y=>y.length≤sizeLine∧n=y.length
 | .byt y=>y.size≤sizeLine∧n=y.size
 | .ref p=>(∃ xs,SqL K H p xs∧n=xs.length)∨∃ xs,SqT K H p xs∧n=xs.length
 | _=>False
def call_len:CallR X (.builtin "len") (fun xs H Q=>∃ x n,xs=[x]∧LenV X.K x H n∧Q (.int n) H):=by
 intro pins s σ H xs us Q I r h
 obtain ⟨x,n,rfl,e,q⟩:=h
 obtain ⟨u,rfl,rx⟩:=vals1 r
 have hl:=line63
 have hs:sizeLine=16777216:=sizeLine_eq
 cases x with
 | str y =>
  obtain ⟨t,rfl⟩:=rx
  obtain ⟨hy,e'⟩:y.length≤sizeLine∧n=y.length:=e
  subst e'
  exact len_str (by omega) ⟨.int _,H,I.tok _,⟨_,rfl⟩,q⟩
 | byt y =>
  obtain ⟨t,rfl⟩:=rx
  obtain ⟨hy,e'⟩:y.size≤sizeLine∧n=y.size:=e
  subst e'
  exact W.len_bytes (by omega) ⟨.int _,H,I.tok _,⟨_,rfl⟩,q⟩
 | ref p =>
  cases rx
  have e':(∃ xs,SqL X.K H p xs∧n=xs.length)∨∃ xs,SqT X.K H p xs∧n=xs.length:=e
  rcases e' with ⟨xs,hx,e'⟩ | ⟨xs,hx,e'⟩
  ·subst e'
   obtain ⟨its,r',pl,hz⟩:=I.list hx
   have hlen:=r'.length
   exact Calls.call_len_list pl.isList (by simp only [List.size_toArray];omega) ⟨.int xs.length,H,I.tok _,⟨_,by simp only [List.size_toArray];rw [hlen]⟩,q⟩
  ·subst e'
   obtain ⟨its,r',pl,hz⟩:=I.tuple hx
   have hlen:=r'.length
   exact len_tuple pl (by simp only [List.size_toArray];omega) ⟨.int xs.length,H,I.tok _,⟨_,by simp only [List.size_toArray];rw [hlen]⟩,q⟩
 | _=>exact (show False from e).elim
end
structure ObjM (h:Heap) (x dx C:Addr) (mA:Str→Option Value):Prop where
 obj:h.get? x=some (W.instObj C dx)
 ns:h.Ns1 dx mA
 ne:dx≠x
def lookIn_ns {h:Heap}{dx:Addr}{mA:Str→Option Value}(n:h.Ns1 dx mA):∃ od,h.get? dx=some od∧∀ name,W.lookIn name od=some (mA name):=by
 obtain ⟨o,es,ep,ho,hd,hk,_,hm⟩:=n
 refine ⟨o,ho,fun name=>?_⟩
 have e:=hm name
 unfold nsFind findBy at e
 rw [← Array.find?_toList] at e
 unfold W.lookIn
 rw [hd]
 dsimp only
 split
 ·rename_i y q
  rw [q] at e
  exact congrArg some e
 ·rename_i q
  rw [q] at e
  have a:es.toList.any (·.refKey)=false:=by
   rw [List.any_eq_false]
   intro y hy
   obtain ⟨z,t,hkey⟩:=hk y (Array.mem_toList_iff.mp hy)
   simp [DictEntry.refKey,hkey]
  have a':¬ es.toList.any (·.refKey)=true:=by rw [a];exact Bool.false_ne_true
  rw [if_neg a']
  exact congrArg some e
def ObjM.look {h:Heap}{x dx C:Addr}{mA:Str→Option Value}(I:ObjM h x dx C mA):∃ od,W.InstAt h x (W.instObj C dx) C (some od)∧∀ name,W.lookIn name od=some (mA name):=
 let ⟨od,ho,hl⟩:=lookIn_ns I.ns
 ⟨od,⟨I.obj,rfl,rfl,ho⟩,hl⟩
section
variable {prog:Program} {w:World} {A:Around} {E:Value→Shared→Prop} {s:Shared} {K:Fg} {x dx C f:Addr} {mA:Str→Option Value} {name:Str} {v:Value}
def get_map {expr:Bool}{Q:Value→Shared→Prop}(X:K.In s.heap) (I:ObjM s.heap x dx C mA) (hg:W.plainGet K C name=true) (hh:W.hasDictIn K C=true)
  (ha:W.findIn K (.ref C) name=some none) (hv:mA name=some v) (hv':W.handedIn v=true) (h:Q v { s with toks:=s.toks + 1 }):
  wpAny (model prog w) A (getAttr (.ref x) name expr) Q E s:=by
 obtain ⟨od,J,hl⟩:=I.look
 exact W.get_value X J (W.plainGet_of hg).1 (W.findObj_own hh ha rfl (by rw [hl,hv])) hv' h
def get_meth {pl:Sem Bool}{Q:Value×List Value→Shared→Prop}(X:K.In s.heap) (I:ObjM s.heap x dx C mA) (hg:W.plainGet K C name=true)
  (hf:W.findIn K (.ref C) name=some (some (.ref f))) (ht:W.isFn K (.ref f)=true) (hv:mA name=none) (h:Q (.ref f,[.ref x]) s):
  wpAny (model prog w) A (getMethod (.ref x) name pl) Q E s:=by
 obtain ⟨od,J,hl⟩:=I.look
 exact W.method_fn X J (W.plainGet_of hg).1 (W.plainGet_of hg).2 hf (beq_iff_eq.mp ht) (by show (W.lookIn name od).map (·.isSome)=some false;rw [hl,hv];rfl) h
def set_map {ns:LS}{Q:Unit→Shared→Prop}(X:K.In s.heap) (I:ObjM s.heap x dx C mA)
  (hs:W.findIn K (.ref C) "__setattr__"=some (some (.builtin "object.__setattr__"))) (hp:W.plainOver K C=true) (ht:W.takerIn K C name=some none) (hh:W.hasDictIn K C=true)
  (hw:PySem.Within mA ns) (hsz:ns.length≤sizeLine)
  (h:∀ h',ObjM h' x dx C (fun y=>if y=name then some v else mA y)→Heap.SameBut dx s.heap h'→Q () { s with heap:=h',toks:=s.toks + 2 }):
  wpAny (model prog w) A (setAttr (.ref x) name v) Q E s:=by
 obtain ⟨od,J,hl⟩:=I.look
 refine W.set_plain X J hs (W.osa_open (s:={ s with toks:=s.toks + 1 }) (r:=none) X J hp ht fun b=>?_)
 obtain ⟨cd,hc,hd'⟩:=W.any_some hh
 have hx:s.heap.get? x=some ⟨.ref C,some dx,.plain,#[]⟩:=I.obj
 refine wpAny_bind (wpAny_pure (wpAny_bind (wpAny_bind (wpAny_loadPart hx (wpAny_bind (W.Looks.here (s:={ s with toks:=s.toks + 1 }) (W.looks_clsIn X hc) ?_))))))
 rw [hd']
 refine wpAny_pure (a:=some dx) (wpAny_bind (wpAny_pure (wpAny_bind ?_)))
 refine wpAny_nsSet1 (s:={ s with toks:=s.toks + 1 }) I.ns fun h' hn2 hs2=>?_
 obtain ⟨oD,esD,epD,hoD,hdD,hcD⟩:=hn2.count (PySem.Within.cons name v hw)
 refine wpAny_bind (wpAny_lookBehind hoD (by rw [hdD];exact pastItsLine_dict (Nat.le_trans hcD (by rw [List.length_cons];omega))) ?_)
 exact wpAny_pure (h _ ⟨(hs2.2 _ (Ne.symm I.ne)).trans I.obj,hn2,I.ne⟩ hs2)
def make_map {R:Result→Shared→Prop}{vs:List Value}{kw:List (Str×Value)}(X:K.In s.heap) (hm:W.makesIn K C=true)
  (hi:W.findIn K (.ref C) "__init__"=some (some (.ref f))) (hf:W.typeIn K (.ref f)=some (.type "function"))
  (h:codeAny (model prog w) (A.under (.builtin "type.__call__" ⟨.ref C :: vs,kw⟩)) (.call (.ref f) ⟨.ref (s.heap.objs.size + 1):: vs,kw⟩) (W.InitBack (s.heap.objs.size + 1) R)
   { s with heap:=(s.heap.push W.emptyDict).push (W.instObj C s.heap.objs.size) }):
  codeAny (model prog w) A (.call (.ref C) ⟨vs,kw⟩) R s:=by
 obtain ⟨hh,g,d,t,os⟩:=s
 exact W.make_core (W.makes_of X hm) (W.looks_findIn X hi) (fun self=>W.bind_fn X self hf) (.inl rfl) h
end
def putF (f:Str) (v:V):List (Str×V)→List (Str×V)
 | []=>[(f,v)]
 | (g,x):: r=>if g=f then (g,v):: r else (g,x):: putF f v r
theorem lookup_putF (f g:Str) (v:V):∀ fs:List (Str×V),(putF f v fs).lookup g=if g=f then some v else fs.lookup g
 | []=>by
  show List.lookup g [(f,v)]=_
  by_cases h:g=f
  ·have hb:(g == f)=true:=beq_iff_eq.mpr h
   simp only [List.lookup,hb,if_pos h]
  ·have hb:(g == f)=false:=beq_eq_false_iff_ne.mpr h
   simp only [List.lookup,hb,if_neg h]
 | (k,x):: r=>by
  have ih:=lookup_putF f g v r
  rw [show putF f v ((k,x):: r)=(if k=f then (k,v):: r else (k,x):: putF f v r) from rfl]
  by_cases hk:k=f
  ·rw [if_pos hk]
   by_cases h:g=k
   ·have hb:(g == k)=true:=beq_iff_eq.mpr h
    simp only [List.lookup,hb,if_pos (h.trans hk)]
   ·have hb:(g == k)=false:=beq_eq_false_iff_ne.mpr h
    simp only [List.lookup,hb,if_neg (fun e:g=f=>h (e.trans hk.symm))]
  ·rw [if_neg hk]
   by_cases h:g=k
   ·have hb:(g == k)=true:=beq_iff_eq.mpr h
    simp only [List.lookup,hb,if_neg (fun e:g=f=>hk (h.symm.trans e))]
   ·have hb:(g == k)=false:=beq_eq_false_iff_ne.mpr h
    simp only [List.lookup,hb]
    exact ih
theorem keys_putF (f:Str) (v:V):∀ fs:List (Str×V),f∈(putF f v fs).map (·.1)∧∀ g,g∈fs.map (·.1)→g∈(putF f v fs).map (·.1)
 | []=>⟨by simp [putF],fun g h=>by simp at h⟩
 | (k,x):: r=>by
  obtain ⟨i1,i2⟩:=keys_putF f v r
  rw [show putF f v ((k,x):: r)=(if k=f then (k,v):: r else (k,x):: putF f v r) from rfl]
  by_cases hk:k=f
  ·rw [if_pos hk]
   subst hk
   exact ⟨by simp,fun g h=>by simpa using h⟩
  ·rw [if_neg hk]
   refine ⟨?_,fun g h=>?_⟩
   ·rw [List.map_cons]
    exact List.mem_cons_of_mem _ i1
   ·rw [List.map_cons] at h ⊢
    rcases List.mem_cons.mp h with e | e
    ·exact List.mem_cons.mpr (.inl e)
    ·exact List.mem_cons_of_mem _ (i2 g e)
theorem length_putF (f:Str) (v:V):∀ fs:List (Str×V),(putF f v fs).length≤fs.length + 1
 | []=>by simp [putF]
 | (k,x):: r=>by
  have ih:=length_putF f v r
  rw [show putF f v ((k,x):: r)=(if k=f then (k,v):: r else (k,x):: putF f v r) from rfl]
  by_cases hk:k=f
  ·rw [if_pos hk,List.length_cons,List.length_cons];omega
  ·rw [if_neg hk,List.length_cons,List.length_cons];omega
def RelO.some_of {v:V}{o:Option Value}(r:RelO (some v) o):∃ u,o=some u∧RelV v u:=by
 cases o with
 | none=>exact (show False from r).elim
 | some u=>exact ⟨u,rfl,r⟩
def RelO.none_of {o:Option Value}(r:RelO none o):o=none:=by
 cases o with
 | none=>rfl
 | some u=>exact (show False from r).elim
def handed_of {v:V}{u:Value}(r:RelV v u):W.handedIn u=true:=by
 cases v with
 | non=>cases (show u=Value.none from r);rfl
 | bl b=>cases (show u=Value.bool b from r);rfl
 | int i=>obtain ⟨t,e⟩:=(show ∃ t,u=Value.int i t from r);cases e;rfl
 | str x=>obtain ⟨t,e⟩:=(show ∃ t,u=Value.str x t from r);cases e;rfl
 | byt b=>obtain ⟨t,e⟩:=(show ∃ t,u=Value.bytes b t from r);cases e;rfl
 | flt b=>obtain ⟨t,e⟩:=(show ∃ t,u=Value.float b t from r);cases e;rfl
 | ref a=>cases (show u=Value.ref a from r);rfl
 | ty n=>cases (show u=Value.type n from r);rfl
section
variable {P:Program} {w:World} {H H':Hp} {h h':Heap} {a C dx:Addr} {fs fs':List (Str×V)}
def ins_get (hok:HOk P w H h) (e:H a=some (.ins C dx fs)):∃ mA,ObjM h a dx C mA∧(∀ f,RelO (fs.lookup f) (mA f))∧PySem.Within mA (fs.map (·.1))∧fs.length≤1000∧H dx=some (.own a):=by
 obtain ⟨d,z,ne,ob,mA,n,r,q⟩:=(show ObjOk P w H h a (.ins C dx fs) from hok a _ e)
 exact ⟨mA,⟨ob,n,ne⟩,r,q,z,d⟩
end
structure Cls (K:Fg) (C:Addr):Prop where
 pg:W.plainGet K C Str.empty=true
 hd:W.hasDictIn K C=true
 po:W.plainOver K C=true
 sa:W.findIn K (.ref C) "__setattr__"=some (some (.builtin "object.__setattr__"))
def Cls.get {K:Fg}{C:Addr}(c:Cls K C) (f:Str):W.plainGet K C f=true:=c.pg
def NoAttr (K:Fg) (C:Addr) (f:Str):Prop:=W.findIn K (.ref C) f=some none
def NoAttr.taker {K:Fg}{C:Addr}{f:Str}(n:NoAttr K C f):W.takerIn K C f=some none:=by
 unfold W.takerIn
 rw [show W.findIn K (.ref C) f=some none from n]
 rfl
structure Con (K:Fg) (C:Addr) (f:Str) (v:V) (u:Value):Prop where
 at_:W.findIn K (.ref C) f=some (some u)
 rel:RelV v u
 get:W.specialIn K u "__get__"=some none
 cp:W.copiedNames.contains f=false
structure Meth (K:Fg) (C:Addr) (m:Str) (f:Addr):Prop where
 at_:W.findIn K (.ref C) m=some (some (.ref f))
 fn:W.isFn K (.ref f)=true
 kp:W.keepIn K (.ref f)=true
section
variable {X:Cx} {pins:List (Addr×Obj)} {σ:St} {H:Hp} {s:Shared} {a C dx:Addr} {fs:List (Str×V)} {f:Str} {v:V} {A:Around} {E:Value→Shared→Prop}
def getattr_ok {b:Bool}{Q:Value→Shared→Prop}(I:Inv X pins σ H s) (e:H a=some (.ins C dx fs)) (c:Cls X.K C) (n:NoAttr X.K C f) (l:fs.lookup f=some v)
  (h:∀ u s',Inv X pins σ H s'→RelV v u→Q u s'):wpAny (model X.prog X.w) A (getAttr (.ref a) f b) Q E s:=by
 obtain ⟨mA,O,r,_,_,_⟩:=ins_get I.hok e
 obtain ⟨u,hu,ru⟩:=RelO.some_of (v:=v) (o:=mA f) (by rw [← l];exact r f)
 exact get_map I.kIn O (c.get f) c.hd n hu (handed_of ru) (h u _ (I.tok _) ru)
def getmeth_ok {m:Str}{g:Addr}{pl:Sem Bool}{Q:Value×List Value→Shared→Prop}(I:Inv X pins σ H s) (e:H a=some (.ins C dx fs)) (c:Cls X.K C) (k:Meth X.K C m g) (l:fs.lookup m=none)
  (h:Q (.ref g,[.ref a]) s):wpAny (model X.prog X.w) A (getMethod (.ref a) m pl) Q E s:=by
 obtain ⟨mA,O,r,_,_,_⟩:=ins_get I.hok e
 have hn:mA m=none:=RelO.none_of (by rw [← l];exact r m)
 exact get_meth I.kIn O (c.get m) k.at_ k.fn hn h
def setattr_ok {y:V}{u:Value}{Q:Unit→Shared→Prop}(I:Inv X pins σ H s) (e:H a=some (.ins C dx fs)) (c:Cls X.K C) (n:NoAttr X.K C f) (hl:fs.length<1000) (ry:RelV y u)
  (h:∀ s',Inv X pins σ (upd H a (.ins C dx (putF f y fs))) s'→Q () s'):wpAny (model X.prog X.w) A (setAttr (.ref a) f u) Q E s:=by
 obtain ⟨mA,O,r,wi,_,ho⟩:=ins_get I.hok e
 have hz:(fs.map (·.1)).length≤sizeLine:=by rw [List.length_map,sizeLine_eq];omega
 refine set_map I.kIn O c.sa c.po n.taker c.hd wi hz fun h' O' sb=>h _ ?_
 have hd:∃ o,h'.get? dx=some o:=let ⟨o,_,_,e',_⟩:=O'.ns;⟨o,e'⟩
 refine I.write (x:=a) (e:=dx) (by rw [e];exact True.intro) (.inr ho) (fun b q hb z=>(sb.2 b hb).trans z) hd ?_
 refine ⟨by rw [upd_ne O.ne];exact ho,?_,O.ne,O'.obj,_,O'.ns,fun g=>?_,fun g hg=>?_⟩
 ·have:=length_putF f y fs;omega
 ·show RelO ((putF f y fs).lookup g) (if g=f then some u else mA g)
  rw [lookup_putF]
  by_cases q:g=f
  ·rw [if_pos q,if_pos q];exact ry
  ·rw [if_neg q,if_neg q];exact r g
 ·by_cases q:g=f
  ·rw [q];exact (keys_putF f y fs).1
  ·refine (keys_putF f y fs).2 g (wi g fun z=>hg ?_)
   show (if g=f then some u else mA g)=none
   rw [if_neg q];exact z
def Inv.made (I:Inv X pins σ H s):Inv X pins σ (upd (upd H s.heap.objs.size (.own (s.heap.objs.size + 1))) (s.heap.objs.size + 1) (.ins C s.heap.objs.size []))
  { s with heap:=(s.heap.push W.emptyDict).push (W.instObj C s.heap.objs.size) }:=by
 have e1:(s.heap.push W.emptyDict).get? s.heap.objs.size=some W.emptyDict:=Heap.get?_push_size s.heap rfl
 have e2:((s.heap.push W.emptyDict).push (W.instObj C s.heap.objs.size)).get? (s.heap.objs.size + 1)=some (W.instObj C s.heap.objs.size):=by
  have:=Heap.get?_push_size (s.heap.push W.emptyDict) (o:=W.instObj C s.heap.objs.size) rfl
  rwa [Heap.size_push] at this
 have e3:(s.heap.push W.emptyDict).Ns s.heap.objs.size (fun _=>none):=⟨W.emptyDict,#[],_,e1,rfl,(fun e he=>absurd he (by simp)),fun _=>rfl⟩
 have I1:=I.laid (a:=s.heap.objs.size) (o:=.own (s.heap.objs.size + 1)) (h':=s.heap.push W.emptyDict) (t':=s.toks) (fun b u q=>Heap.get?_push_of_some _ q) (Nat.le_refl _) ⟨_,e1⟩
 refine I1.laid (a:=s.heap.objs.size + 1) (o:=.ins C s.heap.objs.size []) (t':=s.toks) (fun b u q=>Heap.get?_push_of_some _ q) (Nat.le_of_eq (Heap.size_push _ _)) ?_
 have ne:s.heap.objs.size≠s.heap.objs.size + 1:=Nat.ne_of_lt (Nat.lt_succ_self _)
 refine ⟨by rw [upd_ne ne,uS],Nat.zero_le _,ne,e2,fun _=>none,(Heap.Ns1.of_empty e3).at fun o q=>Heap.get?_push_of_some _ q,fun _=>True.intro,fun y hy=>absurd rfl hy⟩
def attr_of {prog:Program}{w:World}{env:Env}{e:Expr}{f:Str}{pos:Pos}{s:Shared}{Q:Value→Shared→Prop}(hb:attributeBase e f env (eval e env)=eval e env)
  (h:wpAny (model prog w) A (eval e env) (fun o s₁=>wpAny (model prog w) A (getAttr o f true) Q E s₁) E s):wpAny (model prog w) A (eval (.Attribute e f pos) env) Q E s :=
 Attribute_any_ h (by rw [arm_eval_Attribute,hb])
end
def tFld (K:Fg) (ta:TE) (f:Str):TE:=fun σ H Q=>ta σ H fun x H1=>∃ a C dx fs v,x=.ref a∧H1 a=some (.ins C dx fs)∧Cls K C∧NoAttr K C f∧fs.lookup f=some v∧Q v H1
def sFld (K:Fg) (ta tv:TE) (f:Str):TS:=fun D σ H=>tv σ H fun y H1=>ta σ H1 fun x H2=>∃ a C dx fs,x=.ref a∧H2 a=some (.ins C dx fs)∧Cls K C∧NoAttr K C f∧fs.length<1000 ∧
 D.nx σ (upd H2 a (.ins C dx (putF f y fs)))
section
variable {X:Cx} {o e value:Expr} {f:Str} {pos pos' tpos:Pos} {ta tv:TE}
def pe_fld (he:PE X e ta) (hb:attributeBase e f X.env (eval e X.env)=eval e X.env):PE X (.Attribute e f pos) (tFld X.K ta f):=by
 intro pins s σ H Q I h
 refine attr_of hb (thn (he pins s σ H _ I h) fun u s1 ⟨x,H1,I1,rx,a,C,dx,fs,v,ex,ea,c,n,l,q⟩=>?_)
 subst ex
 obtain rfl:u=Value.ref a:=rx
 exact getattr_ok I1 ea c n l fun u' s2 I2 ru=>⟨v,H1,I2,ru,q⟩
def ps_fld (ha:PE X o ta) (hv:PE X value tv) (hs:swapsWith value (some (.Attribute o f pos')) pos.line X.env=pure false):PS X (.Assign [.Attribute o f pos'] value pos) (sFld X.K ta tv f):=by
 intro pins s σ H D I h
 refine plainObj_wpAny_Assign_Attribute (thn (hv pins s σ H _ I h) fun u s1 ⟨y,H1,I1,ry,q⟩=>thn (ha pins s1 σ H1 _ I1 q) fun ov s2 ⟨x,H2,I2,rx,a,C,dx,fs,ex,ea,c,n,l,q2⟩=>?_) hs
 subst ex
 obtain rfl:ov=Value.ref a:=rx
 exact setattr_ok I2 ea c n l ry fun s3 I3=>⟨σ,_,I3,q2⟩
end
section
variable {X:Cx} {pins:List (Addr×Obj)} {σ:St} {H:Hp} {s:Shared} {A:Around} {E:Value→Shared→Prop} {Q:Value→Shared→Prop} {c:Value} {b:Bool}
inductive TyOf (K:Fg) (H:Hp):V→Value→Prop where
 | non:TyOf K H .non (.type "NoneType")
 | bl (x:Bool):TyOf K H (.bl x) (.type "bool")
 | int (i:Int):TyOf K H (.int i) (.type "int")
 | str (x:Str):TyOf K H (.str x) (.type "str")
 | flt (x:UInt64):TyOf K H (.flt x) (.type "float")
 | lst {a:Addr} {xs:List V} (e:H a=some (.lst xs)):TyOf K H (.ref a) (.type "list")
 | frz {a:Addr} {o:Obj} {xs:List V} (e:H a=some (.frz o (.lst xs))):TyOf K H (.ref a) (.type "list")
 | tup {a:Addr} {xs:List V} (e:H a=some (.tup xs)):TyOf K H (.ref a) (.type "tuple")
 | dK {a:Addr} {kvs:List (Key×V)} (e:H a=some (.dK kvs)):TyOf K H (.ref a) (.type "dict")
 | dT {a:Addr} {kvs:List (List Key×V)} (e:H a=some (.dT kvs)):TyOf K H (.ref a) (.type "dict")
 | ins {a C dx:Addr} {fs:List (Str×V)} (e:H a=some (.ins C dx fs)) (cl:Cls K C) (ha:W.findIn K (.ref C) "__class__"=some (some (.builtin "object.__class__")))
   (hn:W.specialIn K (.builtin "object.__class__") "__get__"=some (some (.builtin "getset_descriptor.__get__"))) (htk:W.takesIn K (.builtin "object.__class__")=some true)
   (hm:W.mroIn K C (.type "object")=some true):TyOf K H (.ref a) (.ref C)
end
structure Room (k:Nat) (A:Around):Prop where
 hd:A.handled=none
 dp:A.depth + 3 * k + 5<recursionLimit
 un:A.units + 16 * k + 200<cLine
 gd:A.guards=some []
def Room.mono {j k:Nat}{A:Around}(r:Room k A) (h:j≤k):Room j A:=⟨r.hd,by have:=r.dp;omega,by have:=r.un;omega,r.gd⟩
theorem Room.deeper {k:Nat}{A:Around}(r:Room (k + 1) A) (env:Env):Room k (A.deeper env):=
 ⟨r.hd,by have:=r.dp;show A.depth + 1 + 3 * k + 5<_;omega,by have:=r.un;show A.units + 3 + 16 * k + 200<_;omega,r.gd⟩
def make_depth {A:Around}{C:Addr}{us:List Value}{kw:List (Str×Value)}:(A.under (.builtin "type.__call__" ⟨.ref C :: us,kw⟩)).depth=A.depth + 1:=by
 first | rfl | simp [Around.under,Code.weight,Code.isCreation,Code.isGuard,Code.isCaller,Code.frames,Code.isFrame,guardIds]
def make_units {A:Around}{C:Addr}{us:List Value}{kw:List (Str×Value)}:(A.under (.builtin "type.__call__" ⟨.ref C :: us,kw⟩)).units=A.units + 1:=by
 first | rfl | simp [Around.under,Code.cUnits,Code.frames,Code.isFrame]
def Room.make {k:Nat}{A:Around}(r:Room (k + 1) A) (C:Addr) (us:List Value) (kw:List (Str×Value)):Room k (A.under (.builtin "type.__call__" ⟨.ref C :: us,kw⟩)):=
 ⟨r.hd,by have:=r.dp;rw [make_depth];omega,by have:=r.un;rw [make_units];omega,by first | exact r.gd | simpa [Around.under,Code.guards,Code.isGuard,guardIds,pushGuards] using r.gd⟩
theorem Room.depth {k:Nat}{A:Around}(r:Room k A):A.depth<recursionLimit:=by have:=r.dp;omega
theorem Room.units {k:Nat}{A:Around}(r:Room k A):A.units + 64<cLine:=by have:=r.un;omega
def tNil:TA:=fun _ H Q=>Q [] H
def tCons (ta:TE) (tr:TA):TA:=fun σ H Q=>ta σ H fun x H1=>tr σ H1 fun xs H2=>Q (x :: xs) H2
section
variable {X:Cx} {e:Expr} {es:List Expr} {te:TE} {t:TA} {pos:Pos}
def pa_nil:PA X [] tNil:=fun _ _ _ _ H Q I h=>Calls.spliced_nil ⟨[],H,I,.nil,h⟩
def pC (ha:PE X e te) (hr:PA X es t) (hs:starEach (e :: es) X.env=(false,eval e X.env):: starEach es X.env:=by rfl):PA X (e :: es) (tCons te t):=by
 intro pos pins s σ H Q I h
 rw [hs]
 show wpAny _ _ (spliced ((false,eval e X.env):: backTo pos (starEach es X.env))) _ _ s
 refine Calls.spliced_cons (thn (ha pins s σ H _ I h) fun u s1 ⟨x,H1,I1,r1,q1⟩=>?_)
 exact thn (hr pos pins s1 σ H1 _ I1 q1) fun us s2 ⟨xs,H2,I2,r2,q2⟩=>⟨x :: xs,H2,I2,.cons r1 r2,q2⟩
def tTup (t:TA):TE:=fun σ H Q=>t σ H fun xs H1=>xs.length≤sizeLine∧∀ p,H1 p=none→Q (.ref p) (upd H1 p (.tup xs))
def tLst (t:TA):TE:=fun σ H Q=>t σ H fun xs H1=>xs.length≤sizeLine∧∀ p,H1 p=none→Q (.ref p) (upd H1 p (.lst xs))
def pe_tup {x1}(h:PA X es t):PE X (.Tuple es x1 pos) (tTup t):=by
 intro pins s σ H Q I hq
 refine wpAny_Tuple_spliced (thn (h pos pins s σ H _ I hq) fun us s1 ⟨xs,H1,I1,r,z,q⟩=>⟨by rw [← r.length];exact z,?_⟩)
 have hf:H1 s1.heap.objs.size=none:=I1.hok.fresh (Nat.le_refl _)
 refine ⟨.ref s1.heap.objs.size,upd H1 s1.heap.objs.size (.tup xs),I1.laid (t':=s1.toks) (fun b u e=>Heap.get?_push_of_some _ e) (Nat.le_refl _) ?_,rfl,q _ hf⟩
 exact ⟨z,us,r,⟨_,Heap.get?_push_size _ rfl,rfl,_,rfl⟩⟩
def pe_lst (h:PA X es t):PE X (.List es pos) (tLst t):=by
 intro pins s σ H Q I hq
 refine wpAny_List_spliced (thn (h pos pins s σ H _ I hq) fun us s1 ⟨xs,H1,I1,r,z,q⟩=>⟨by rw [← r.length];exact z,?_⟩)
 have hf:H1 s1.heap.objs.size=none:=I1.hok.fresh (Nat.le_refl _)
 refine ⟨.ref s1.heap.objs.size,upd H1 s1.heap.objs.size (.lst xs),I1.laid (t':=s1.toks) (fun b u e=>Heap.get?_push_of_some _ e) (Nat.le_refl _) ?_,rfl,q _ hf⟩
 exact ⟨z,us,0,r,Heap.get?_push_size _ rfl⟩
end
abbrev Sp:=List V→Hp→VK→XK→Prop
abbrev CXT:=List Env→Hp→Shared→XK→Value→Shared→Prop
structure Env0 (P:Program) (w:World) (K:Fg) (mg:Str→Option Value) (base:Heap) (A:Around) (outer:List Env) (s:Shared) (H:Hp):Prop where
 frames:A.frames=some outer
 mod:Mod K mg base
 bs:∀ b o,base.get? b=some o→s.heap.get? b=some o∧H b=none
 bsz:base.objs.size≤s.heap.objs.size
 funs:s.heap.FunFrames base outer
 frf:∀ b∈frs outer,H b=none
 hok:HOk P w H s.heap
 bare:AllBare s.gens
def CE (outer:List Env) (P:Program) (w:World) (H:Hp) (s:Shared) (Q:VK) (u:Value) (s':Shared):Prop :=
 ∃ v H',s'.os=s.os∧AllBare s'.gens∧Un (frs outer) [] H H' s.heap s'.heap∧HOk P w H' s'.heap∧RelV v u∧Q v H'
def CR (CX:CXT) (outer:List Env) (P:Program) (w:World) (H:Hp) (s:Shared) (Q:VK) (E:XK) (r:Result) (s':Shared):Prop :=
 match r with
 | .ok (.ret u)=>CE outer P w H s Q u s'
 | .ok _=>False
 | .error e=>CX outer H s E e s'
structure FnOk (P:Program) (w:World) (K:Fg) (mg:Str→Option Value) (base:Heap) (CX:CXT) (k:Nat) (f:Addr) (fd:FuncData) (ps:LS) (sp:Sp):Prop where
 len:∀ vs H Q E,sp vs H Q E→vs.length=ps.length
 run:∀ (A:Around) (outer:List Env) (s:Shared) (H:Hp) (args:Args) (us:List Value) (vs:List V) (Q:VK) (E:XK),Room k A→Env0 P w K mg base A outer s H→BindsTo s fd args (ps.zip us)→Vals vs us→sp vs H Q E →
  codeAny (model P w) A (.call (.ref f) args) (CR CX outer P w H s Q E) s
def Env0.make {P:Program}{w:World}{K:Fg}{mg:Str→Option Value}{base:Heap}{A:Around}{outer:List Env}{s:Shared}{H:Hp}(e:Env0 P w K mg base A outer s H) (C:Addr) (us:List Value) (kw:List (Str×Value)):
  Env0 P w K mg base (A.under (.builtin "type.__call__" ⟨.ref C :: us,kw⟩)) outer s H:=⟨by first | exact e.frames | (simpa [Around.under,Code.envs,Code.isFrame,pushEnvs] using e.frames),e.mod,e.bs,e.bsz,e.funs,e.frf,e.hok,e.bare⟩
section
variable {X:Cx} {pins:List (Addr×Obj)} {σ:St} {H:Hp} {s s':Shared}
def Inv.env0 (I:Inv X pins σ H s):Env0 X.prog X.w X.K X.mg X.base X.A X.stack s H :=
 ⟨I.ok.frames,I.ok.mod,I.bs,Nat.le_trans I.ok.bsz I.sz,I.stack,I.stkFree,I.hok,I.bare⟩
def Inv.after {Q:VK}{u:Value}(I:Inv X pins σ H s) (h:CE X.stack X.prog X.w H s Q u s'):EP X pins σ Q u s':=by
 obtain ⟨v,H',os,bare,un,hok,r,q⟩:=h
 obtain ⟨hh,g,d,t,os'⟩:=s'
 obtain rfl:os'=s.os:=os
 exact ⟨v,H',I.call (h':=hh) (g':=g) (d':=d) (t':=t) (ch:=[]) un hok bare (fun b z=>absurd z (by simp)),r,q⟩
end
def tCall (sp:Sp) (dvs:List V) (E:XK) (t:TA):TE:=fun σ H Q=>t σ H fun vs H1=>sp (vs++dvs) H1 Q E
def tMeth (C:Addr) (m:Str) (sp:Sp) (dvs:List V) (E:XK) (ta:TE) (t:TA):TE:=fun σ H Q=>ta σ H fun x H1=>∃ a dx fs,x=.ref a∧H1 a=some (.ins C dx fs)∧fs.lookup m=none ∧
 t σ H1 fun vs H2=>sp (x :: (vs++dvs)) H2 Q E
def tMake (C:Addr) (sp:Sp) (dvs:List V) (E:XK) (t:TA):TE:=fun σ H Q=>t σ H fun vs H1=>∀ x dx,H1 x=none→H1 dx=none→dx≠x →
 sp (.ref x :: (vs++dvs)) (upd (upd H1 dx (.own x)) x (.ins C dx [])) (fun v H2=>v=.non∧Q (.ref x) H2) E
def Binds (K:Fg) (fd:FuncData) (ps:LS) (ds:List Value):Prop :=
 ∀ (s:Shared) (us:List Value),K.In s.heap→(us++ds).length=ps.length→BindsTo s fd ⟨us,[]⟩ (ps.zip (us++ds))
def Binds.all {K:Fg}{ps:LS}(h:∀ us:List Value,us.length=ps.length→bindArgs fd ⟨us,[]⟩=pure (ps.zip us)):Binds K fd ps []:=fun s us _ hl=>by
 rw [List.append_nil] at hl ⊢
 exact .of_eq (h us hl)
def Passes (CX:CXT) (X:Cx) (E:XK):Prop:=∀ (pins:List (Addr×Obj)) (σ:St) (H:Hp) (s:Shared) (e:Value) (s':Shared),Inv X pins σ H s→CX X.stack H s E e s'→X.xe e s'
section
variable {X:Cx} {CX:CXT} {k:Nat} {f C:Addr} {fd:FuncData} {ps:LS} {sp:Sp} {dvs:List V} {ds:List Value} {E:XK} {x m:Str} {p pos apos:Pos} {e o:Expr} {es:List Expr} {ta:TE} {t:TA}
def run_fn {pins:List (Addr×Obj)}{σ:St}{H:Hp}{s:Shared}{Q:VK}{us:List Value}{vs:List V}(F:FnOk X.prog X.w X.K X.mg X.base CX k f fd ps sp) (hr:Room k X.A) (hb:Binds X.K fd ps ds) (hd:Vals dvs ds) (hx:Passes CX X E)
  (I:Inv X pins σ H s) (r:Vals vs us) (h:sp (vs++dvs) H Q E):wpAny (model X.prog X.w) X.A (call (.ref f) us) (EP X pins σ Q) X.xe s:=by
 have r2:Vals (vs++dvs) (us++ds):=r.append hd
 have hl:(us++ds).length=ps.length:=by rw [← r2.length];exact F.len _ _ _ _ h
 refine wpAny_call (codeAny_mono (F.run X.A X.stack s H ⟨us,[]⟩ (us++ds) (vs++dvs) Q E hr I.env0 (hb s us I.kIn hl) r2 h) fun r s' hq=>?_)
 cases r with
 | error e=>exact hx pins σ H s e s' I hq
 | ok fl =>
  cases fl with
  | ret u=>exact I.after hq
  | next=>exact False.elim hq
  | brk=>exact False.elim hq
  | cont=>exact False.elim hq
def pe_call (F:FnOk X.prog X.w X.K X.mg X.base CX k f fd ps sp) (hr:Room k X.A) (hg:Gl X x) (hm:X.mg x=some (.ref f)) (hk:W.keepIn X.K (.ref f)=true) (hb:Binds X.K fd ps ds) (hd:Vals dvs ds) (hx:Passes CX X E)
  (ha:PA X (e :: es) t) (hdb:(x == ("__debug__":Str))=false:=by decide) (he:starEach (e :: es) X.env=(false,eval e X.env):: starEach es X.env:=by rfl) (hpl:(backTo pos (starEach es X.env)).any (·.1)=false:=by rfl):
  PE X (.Call (.Name x p) (e :: es) [] pos) (tCall sp dvs E t):=by
 intro pins s σ H Q I h
 refine wpAny_Call_Name_kw (ld_glob I hg hm ?_ hdb)
 refine W.callWith_K (h₀:=X.base) I.ok.mod.kin hk (thn (ha pos pins s σ H _ I h) fun us s1 ⟨vs,H1,I1,r,q⟩=>⟨I1.kIn,?_⟩) he hpl
 exact run_fn F hr hb hd hx I1 r q
def pe_meth {pl:Sem Bool}(he:PE X o ta) (c:Cls X.K C) (hm:Meth X.K C m f) (F:FnOk X.prog X.w X.K X.mg X.base CX k f fd ps sp) (hr:Room k X.A) (hb:Binds X.K fd ps ds) (hd:Vals dvs ds) (hx:Passes CX X E) (ha:PA X (e :: es) t)
  (hst:starEach (e :: es) X.env=(false,eval e X.env):: starEach es X.env:=by rfl) (hpl:(backTo pos (starEach es X.env)).any (·.1)=false:=by rfl)
  (ht:eval (.Call (.Attribute o m apos) (e :: es) [] pos) X.env=(do
   let ov ← eval o X.env
   standAt apos.atName
   let (f,first) ← holding [ov] (getMethod ov m pl)
   callWith pos f first (backTo pos (starEach (e :: es) X.env)) (backToKw pos (keywordEach [] X.env))):=by rfl):
  PE X (.Call (.Attribute o m apos) (e :: es) [] pos) (tMeth C m sp dvs E ta t):=by
 intro pins s σ H Q I h
 refine W.methodCall_KW (pl:=pl) (thn (he pins s σ H _ I h) fun u s1 ⟨x,H1,I1,rx,a,dx,fs,ex,ea,l,q⟩=>?_) ht
 subst ex
 obtain rfl:u=Value.ref a:=rx
 refine getmeth_ok I1 ea c hm l ?_
 refine W.callWith_K (first:=[.ref a]) (h₀:=X.base) I.ok.mod.kin hm.kp (thn (ha pos pins s1 σ H1 _ I1 q) fun us s2 ⟨vs,H2,I2,r,q2⟩=>⟨I2.kIn,?_⟩) hst hpl
 exact run_fn (us:=.ref a :: us) (vs:=.ref a :: vs) F hr hb hd hx I2 (.cons rfl r) q2
def pe_meth0 {pl:Sem Bool}(he:PE X o ta) (c:Cls X.K C) (hm:Meth X.K C m f) (F:FnOk X.prog X.w X.K X.mg X.base CX k f fd ps sp) (hr:Room k X.A) (hb:Binds X.K fd ps ds) (hd:Vals dvs ds) (hx:Passes CX X E)
  (ht:eval (.Call (.Attribute o m apos) [] [] pos) X.env=(do
   let ov ← eval o X.env
   standAt apos.atName
   let (f,first) ← holding [ov] (getMethod ov m pl)
   callWith pos f first (backTo pos (starEach [] X.env)) (backToKw pos (keywordEach [] X.env))):=by rfl):
  PE X (.Call (.Attribute o m apos) [] [] pos) (tMeth C m sp dvs E ta tNil):=by
 intro pins s σ H Q I h
 refine W.methodCall_KW (pl:=pl) (thn (he pins s σ H _ I h) fun u s1 ⟨x,H1,I1,rx,a,dx,fs,ex,ea,l,q⟩=>?_) ht
 subst ex
 obtain rfl:u=Value.ref a:=rx
 refine getmeth_ok I1 ea c hm l ?_
 exact W.callWith_K0 (first:=[.ref a]) I1.kIn hm.kp (run_fn (us:=[.ref a]) (vs:=[.ref a]) F hr hb hd hx I1 (.cons rfl .nil) q)
structure Mk (K:Fg) (C f:Addr):Prop where
 makes:W.makesIn K C=true
 init:W.findIn K (.ref C) "__init__"=some (some (.ref f))
 fn:W.isFn K (.ref f)=true
 kp:W.keepIn K (.ref C)=true
def run_make {pins:List (Addr×Obj)}{σ:St}{H:Hp}{s:Shared}{Q:VK}{us:List Value}{vs:List V}(M:Mk X.K C f) (F:FnOk X.prog X.w X.K X.mg X.base CX k f fd ps sp) (hr:Room (k + 1) X.A) (hb:Binds X.K fd ps ds) (hd:Vals dvs ds)
  (hx:Passes CX X E) (I:Inv X pins σ H s) (r:Vals vs us)
  (h:∀ x dx,H x=none→H dx=none→dx≠x→sp (.ref x :: (vs++dvs)) (upd (upd H dx (.own x)) x (.ins C dx [])) (fun v H2=>v=.non∧Q (.ref x) H2) E):
  wpAny (model X.prog X.w) X.A (call (.ref C) us) (EP X pins σ Q) X.xe s:=by
 have hq:=h (s.heap.objs.size + 1) s.heap.objs.size (I.hok.fresh (Nat.le_succ _)) (I.hok.fresh (Nat.le_refl _)) (Nat.ne_of_lt (Nat.lt_succ_self _))
 have I2:=Inv.made (C:=C) I
 have r2:Vals (V.ref (s.heap.objs.size + 1):: (vs++dvs)) (Value.ref (s.heap.objs.size + 1):: (us++ds)):=.cons rfl (r.append hd)
 have hl:(Value.ref (s.heap.objs.size + 1):: us++ds).length=ps.length:=by
  have e:=r2.length
  rw [F.len _ _ _ _ hq] at e
  exact e.symm
 refine wpAny_call (make_map (f:=f) I.kIn M.makes M.init (beq_iff_eq.mp M.fn) (codeAny_mono (F.run _ X.stack _ _ ⟨Value.ref (s.heap.objs.size + 1):: us,[]⟩ (Value.ref (s.heap.objs.size + 1):: (us++ds)) _ _ E (hr.make C us [])
  (I2.env0.make C us []) (hb _ (Value.ref (s.heap.objs.size + 1):: us) I2.kIn hl) r2 hq) fun r s' hq'=>?_))
 cases r with
 | error e=>exact hx pins σ _ _ e s' I2 hq'
 | ok fl =>
  cases fl with
  | ret u =>
   obtain ⟨v,H',I3,rv,ev,q3⟩:=I2.after hq'
   subst ev
   exact ⟨rv,⟨V.ref (s.heap.objs.size + 1),H',I3,rfl,q3⟩⟩
  | next=>exact False.elim hq'
  | brk=>exact False.elim hq'
  | cont=>exact False.elim hq'
def pe_make (M:Mk X.K C f) (F:FnOk X.prog X.w X.K X.mg X.base CX k f fd ps sp) (hr:Room (k + 1) X.A) (hg:Gl X x) (hm:X.mg x=some (.ref C)) (hb:Binds X.K fd ps ds) (hd:Vals dvs ds) (hx:Passes CX X E)
  (ha:PA X (e :: es) t) (hdb:(x == ("__debug__":Str))=false:=by decide) (he:starEach (e :: es) X.env=(false,eval e X.env):: starEach es X.env:=by rfl) (hpl:(backTo pos (starEach es X.env)).any (·.1)=false:=by rfl):
  PE X (.Call (.Name x p) (e :: es) [] pos) (tMake C sp dvs E t):=by
 intro pins s σ H Q I h
 refine wpAny_Call_Name_kw (ld_glob I hg hm ?_ hdb)
 refine W.callWith_K (h₀:=X.base) I.ok.mod.kin M.kp (thn (ha pos pins s σ H _ I h) fun us s1 ⟨vs,H1,I1,r,q⟩=>⟨I1.kIn,?_⟩) he hpl
 exact run_make M F hr hb hd hx I1 r q
end
section
variable {X:Cx} {CX:CXT} {k:Nat} {f C:Addr} {fd:FuncData} {ps ks:LS} {sp:Sp} {E:XK} {x m:Str} {p pos apos kpos:Pos} {e o:Expr} {es:List Expr} {kws:List Keyword} {te ta:TE} {t tk:TA} {nm:Option Str}
structure KBinds (K:Fg) (fd:FuncData) (ps ks:LS) (g:List Value→List Value→List Value) (gV:List V→List V→List V):Prop where
 to:∀ (s:Shared) (us ws:List Value),K.In s.heap→(g us ws).length=ps.length→BindsTo s fd ⟨us,ks.zip ws⟩ (ps.zip (g us ws))
 rel:∀ {vs:List V} {us:List Value} {zs:List V} {ws:List Value},Vals vs us→Vals zs ws→Vals (gV vs zs) (g us ws)
variable {g:List Value→List Value→List Value} {gV:List V→List V→List V}
end
structure FnScope (N P:LS) (sc:Scope):Prop where
 kind:sc.kind=.function
 co:sc.isCoroutine=false
 gen:sc.isGenerator=false
 nd:N.Nodup
 pre:N.take P.length=P
 par:∀ x∈P,sc.names.lookup x=some .local∨sc.names.lookup x=some .cell
 nofree:∀ y∈sc.names,y.2≠.free
theorem bindL_out {kindOf:Str→Option NameKind}{x:Str}:∀ {binds:List (Str×Value)}{m:Str→Option Value},(∀ v,(x,v)∉binds)→bindL kindOf binds m x=m x
 | [],_,_=>rfl
 | (n,v):: r,m,h=>by
  unfold bindL
  rw [bindL_out fun w hw=>h w (List.mem_cons_of_mem _ hw)]
  split
  ·have:x≠n:=by rintro rfl;exact h v List.mem_cons_self
   simp [this]
  ·rfl
theorem bindC_out {kindOf:Str→Option NameKind}{x:Str}:∀ {binds:List (Str×Value)}{m:Str→Option Value},(∀ v,(x,v)∉binds)→bindC kindOf binds m x=m x
 | [],_,_=>rfl
 | (n,v):: r,m,h=>by
  unfold bindC
  rw [bindC_out fun w hw=>h w (List.mem_cons_of_mem _ hw)]
  split
  ·rfl
  ·have:x≠n:=by rintro rfl;exact h v List.mem_cons_self
   simp [this]
theorem bindL_get {kindOf:Str→Option NameKind}{x:Str}{v:Value}:∀ {P:LS}{vs:List Value}{i:Nat}{m:Str→Option Value},P.Nodup→P[i]?=some x→vs[i]?=some v→kindOf x=some .local →
  bindL kindOf (P.zip vs) m x=some v
 | [],_,_,_,_,h,_,_=>by simp at h
 | _ :: _,[],_,_,_,_,h,_=>by simp at h
 | p :: P,w :: vs,0,m,nd,h1,h2,hk=>by
  simp at h1 h2;subst h1;subst h2
  show bindL kindOf ((p,w):: P.zip vs) m p=_
  unfold bindL
  rw [bindL_out fun v hv=>(List.nodup_cons.mp nd).1 (List.of_mem_zip hv).1,if_pos hk]
  simp
 | p :: P,w :: vs,i + 1,m,nd,h1,h2,hk=>by
  show bindL kindOf ((p,w):: P.zip vs) m x=_
  unfold bindL
  exact bindL_get (i:=i) (List.nodup_cons.mp nd).2 (by simpa using h1) (by simpa using h2) hk
theorem bindC_get {kindOf:Str→Option NameKind}{x:Str}{v:Value}:∀ {P:LS}{vs:List Value}{i:Nat}{m:Str→Option Value},P.Nodup→P[i]?=some x→vs[i]?=some v→kindOf x≠some .local →
  bindC kindOf (P.zip vs) m x=some v
 | [],_,_,_,_,h,_,_=>by simp at h
 | _ :: _,[],_,_,_,_,h,_=>by simp at h
 | p :: P,w :: vs,0,m,nd,h1,h2,hk=>by
  simp at h1 h2;subst h1;subst h2
  show bindC kindOf ((p,w):: P.zip vs) m p=_
  unfold bindC
  rw [bindC_out fun v hv=>(List.nodup_cons.mp nd).1 (List.of_mem_zip hv).1,if_neg hk]
  simp
 | p :: P,w :: vs,i + 1,m,nd,h1,h2,hk=>by
  show bindC kindOf ((p,w):: P.zip vs) m x=_
  unfold bindC
  exact bindC_get (i:=i) (List.nodup_cons.mp nd).2 (by simpa using h1) (by simpa using h2) hk
def start (N:LS) (vs:List V):St:=vs.map some++List.replicate (N.length - vs.length) none
def cxOf (CX:CXT) (P:Program) (w:World) (K:Fg) (mg:Str→Option Value) (base:Heap) (N:LS) (qual:Str) (scope:Scope) (f:Addr) (cd:Value) (A:Around) (outer:List Env) (s:Shared) (H:Hp) (E:XK):Cx where
 prog:=P
 w:=w
 K:=K
 mg:=mg
 base:=base
 A:=A.deeper (envOfC qual scope s.heap.objs.size f cd)
 N:=N
 s₀:=s
 H₀:=H
 env:=envOfC qual scope s.heap.objs.size f cd
 outer:=outer
 stack:=envOfC qual scope s.heap.objs.size f cd :: outer
 ex:=[]
 calm:=true
 fn:=fun _=>true
 pn:=[]
 xe:=fun e s'=>wpAny (model P w) (A.deeper (envOfC qual scope s.heap.objs.size f cd)) (leaving (envOfC qual scope s.heap.objs.size f cd) e) (fun _ s''=>CX outer H s E e s'') (fun e' s''=>CX outer H s E e' s'') s'
def cell_has {sc:Scope}{n:Nat}{x:Str}(h:sc.names.lookup x=some .cell):∃ c,(cellsFrom n sc.names []).lookup x=some c:=by
 have q:=W.cellsFrom_some sc.names n [] (.inl h)
 exact Option.isSome_iff_exists.mp q
def inv_start {CX:CXT}{P:Program}{w:World}{K:Fg}{mg:Str→Option Value}{base:Heap}{N ps:LS}{qual:Str}{scope:Scope}{f:Addr}{cd:Value}{A:Around}{outer:List Env}{s s1:Shared}{H:Hp}{E:XK}{us:List Value}{vs:List V}
  (S:FnScope N ps scope) (hd:A.handled=none) (e0:Env0 P w K mg base A outer s H) (hl:vs.length=ps.length) (r:Vals vs us)
  (x:InCallC s s.heap.objs.size (bindL (envOfC qual scope s.heap.objs.size f cd).kindOf (ps.zip us) fun _=>none) (cellsFrom (s.heap.objs.size + 1) scope.names []) (bindC (envOfC qual scope s.heap.objs.size f cd).kindOf (ps.zip us) fun _=>none) s1):
  Inv (cxOf CX P w K mg base N qual scope f cd A outer s H E) [] (start N vs) H s1:=by
 have hpl:ps.length≤N.length:=by have:=congrArg List.length S.pre;rw [List.length_take] at this;omega
 obtain ⟨h1,tk,rfl,hk⟩:=x.done
 have noA:∀ b:Addr,b∉(cxOf CX P w K mg base N qual scope f cd A outer s H E).ex:=fun b z=>absurd (show b∈([]:List Addr) from z) (by simp)
 refine ⟨⟨e0.mod,S.kind,rfl,rfl,Nat.le_refl _,fun y z c h1 h2=>?_,fun y hy=>?_,fun y c _ h=>?_,fun _=>hd,Around.frames_deeper e0.frames,.inr ⟨rfl,rfl⟩,fun b z=>absurd z (noA b),e0.bs,e0.bsz,fun b _ _=>noA b,fun b z=>absurd z (noA b),e0.funs,e0.frf⟩,
  rfl,e0.bare,Un.kept hk,⟨_,x.toInCall.ns,fun i y v h1 h2 h3=>?_⟩,fun y c h=>⟨_,x.cell y c h⟩,e0.hok.fresh (Nat.le_refl _),fun y c h=>?_,fun p hp=>absurd (show p∈([]:List (Addr×Obj)) from hp) (by simp),e0.hok.kept hk,?_⟩
 ·exact name_of_addr x.apart (PySem.mem_of_lookup h1) (PySem.mem_of_lookup h2)
 ·have hy:scope.names.lookup y=some .cell∨scope.names.lookup y=some .free:=hy
  rcases hy with hy | hy
  ·exact cell_has hy
  ·exact absurd rfl (S.nofree _ (PySem.mem_of_lookup hy))
 ·exact Nat.le_of_lt (x.above y c (PySem.mem_of_lookup h))
 ·have hi:i<vs.length:=by
   unfold start at h2
   by_cases hi:i<vs.length
   ·exact hi
   ·rw [List.getElem?_append_right (by simpa using hi)] at h2
    rw [List.getElem?_replicate] at h2
    split at h2 <;> cases h2
  have ha:vs[i]?=some v:=by
   unfold start at h2
   rw [List.getElem?_append_left (by simpa using hi),List.getElem?_map] at h2
   cases e:vs[i]? with
   | none=>rw [e] at h2;cases h2
   | some a=>rw [e] at h2;cases h2;rfl
  obtain ⟨u,hu,rv⟩:=r.get ha
  have hp:ps[i]?=some y:=by
   rw [← S.pre,List.getElem?_take_of_lt (by omega)];exact h1
  have ndP:ps.Nodup:=by rw [← S.pre];exact S.nd.sublist (List.take_sublist _ _)
  refine ⟨u,rv,?_⟩
  rcases S.par y (List.mem_of_getElem? hp) with k | k
  ·exact .inl ⟨k,bindL_get ndP hp hu k⟩
  ·obtain ⟨c,e⟩:=cell_has (n:=s.heap.objs.size + 1) k
   refine .inr ⟨.inl k,c,e,?_⟩
   have q:=x.cell y c e
   rw [bindC_get ndP hp hu (by show scope.names.lookup y≠_;rw [k];decide)] at q
   exact q
 ·exact e0.hok.fresh (Nat.le_of_lt (x.above y c (PySem.mem_of_lookup h)))
 ·unfold start
  show _=N.length
  rw [List.length_append,List.length_map,List.length_replicate]
  omega
def fn_of {CX:CXT}{P:Program}{w:World}{K:Fg}{mg:Str→Option Value}{base:Heap}{k:Nat}{f:Addr}{name qual:Str}{params:Arguments}{body:List Stmt}{scope:Scope}{dV kV doc pm cdv ct oc:Value}{an od:Option Addr}
  {osl:Array (Option Value)} {N ps:LS} {sp:Sp} (lk:K.lookup f=some ⟨oc,od,.func (W.fnOf name qual params body scope dV kV doc pm an cdv ct),osl⟩) (hcd:W.codeIn K cdv qual=true) (S:FnScope N ps scope)
  (len:∀ vs H Q E,sp vs H Q E→vs.length=ps.length)
  (hbody:∀ (A:Around) (outer:List Env) (s:Shared) (H:Hp) (vs:List V) (Q:VK) (E:XK),Room k (A.deeper (envOfC qual scope s.heap.objs.size f cdv))→sp vs H Q E →
   ∃ t,PSs (cxOf CX P w K mg base N qual scope f cdv A outer s H E) body t∧t { nx:=fun _ H'=>Q .non H',rt:=Q } (start N vs) H):
  FnOk P w K mg base CX (k + 1) f (W.fnOf name qual params body scope dV kV doc pm an cdv ct) ps sp:=by
 refine ⟨len,fun A outer s H args us vs Q E hr e0 hb r hsp=>?_⟩
 have hl:=len _ _ _ _ hsp
 have KX:K.In s.heap:=e0.mod.kin.keeps fun b o e=>(e0.bs b o e).1
 have lim:s.heap.NoLimit:=e0.mod.nolimit.keeps fun b o e=>(e0.bs b o e).1
 have hkind:∀ y∈ps.zip us,scope.names.lookup y.1=some .local∨(scope.names.lookup y.1=some .cell∧((cellsFrom (s.heap.objs.size + 1) scope.names []).lookup y.1).isSome=true):=fun ⟨n,v⟩ hy=>by
  rcases S.par n (List.of_mem_zip hy).1 with q | q
  ·exact .inl q
  ·exact .inr ⟨q,W.cellsFrom_some _ _ _ (.inl q)⟩
 refine codeAny_call_function hr.depth (KX _ _ lk) rfl S.co S.gen rfl (W.codeRec_of KX hcd) (hb _ _ _ _ ?_)
 refine wpAny_newFunctionEnv_cells S.kind hkind fun env he s1 x=>?_
 subst he
 refine ⟨lim.keeps x.toInCall.keep,codeAny_func ?_⟩
 obtain ⟨t,ht,hq⟩:=hbody A outer s H vs Q E (hr.deeper _) hsp
 have I:Inv (cxOf CX P w K mg base N qual scope f cdv A outer s H E) [] (start N vs) H s1:=inv_start S hr.hd e0 hl r x
 refine wpAny_mono (ht [] s1 (start N vs) H _ I hq) (fun fl s' hs=>?_) fun e s' hs=>hs
 have fin:∀ {σ':St} {H':Hp} {v:V} {u:Value},Inv (cxOf CX P w K mg base N qual scope f cdv A outer s H E) [] σ' H' s'→RelV v u→Q v H'→CE outer P w H s Q u s' :=
  fun {σ' H' v u} J rv q=>⟨v,H',J.os,J.bare,J.base,J.hok,rv,q⟩
 cases fl with
 | ret u =>
  obtain ⟨v,σ',H',J,rv,q⟩:=hs
  exact fin J rv q
 | next =>
  obtain ⟨σ',H',J,q⟩:=hs
  exact fin (v:=V.non) (u:=Value.none) J rfl q
 | brk =>
  obtain ⟨_,_,_,q⟩:=hs
  exact False.elim q
 | cont =>
  obtain ⟨_,_,_,q⟩:=hs
  exact False.elim q
section
variable {X:Cx} {x:Str} {p pos:Pos} {e:Expr} {es:List Expr} {t:TA} {id T:String} {r:List V→Hp→VK→Prop}
def tCB (r:List V→Hp→VK→Prop) (t:TA):TE:=fun σ H Q=>t σ H fun vs H1=>r vs H1 Q
def pe_callB (hc:CallR X (.builtin id) r) (hg:Gl X x) (hm:X.mg x=none) (hv:bootBuiltins x=some (.builtin id)) (ha:PA X (e :: es) t) (hn:x≠"__name__":=by decide) (hdb:(x == ("__debug__":Str))=false:=by decide)
  (he:starEach (e :: es) X.env=(false,eval e X.env):: starEach es X.env:=by rfl) (hpl:(backTo pos (starEach es X.env)).any (·.1)=false:=by rfl):PE X (.Call (.Name x p) (e :: es) [] pos) (tCB r t):=by
 intro pins s σ H Q I h
 refine wpAny_Call_Name_kw (ld_blt I hg hm hv ?_ hn hdb)
 exact PyProof.Rows.callWith_builtin1 (thn (ha pos pins s σ H _ I h) fun us s1 ⟨vs,H1,I1,r1,q1⟩=>hc pins s1 σ H1 vs us Q I1 r1 q1) he hpl
def pe_callTy (hc:CallR X (.type T) r) (hg:Gl X x) (hm:X.mg x=none) (hv:bootBuiltins x=some (.type T)) (ha:PA X (e :: es) t) (hn:x≠"__name__":=by decide) (hdb:(x == ("__debug__":Str))=false:=by decide)
  (he:starEach (e :: es) X.env=(false,eval e X.env):: starEach es X.env:=by rfl) (hpl:(backTo pos (starEach es X.env)).any (·.1)=false:=by rfl):PE X (.Call (.Name x p) (e :: es) [] pos) (tCB r t):=by
 intro pins s σ H Q I h
 refine wpAny_Call_Name_kw (ld_blt I hg hm hv ?_ hn hdb)
 exact PyProof.Rows.callWith_type1 (thn (ha pos pins s σ H _ I h) fun us s1 ⟨vs,H1,I1,r1,q1⟩=>hc pins s1 σ H1 vs us Q I1 r1 q1) he hpl
end
end L2
namespace HT
open PySem PyProof.Rows
section
open PySem.SeqAt
open PySem.AutoSeq1 (wpAny_loadPart')
open PySem.MeetsSeq PySem.MeetsSeq2 PySem.MeetsSeq3
end
section
variable {prog:Program} {w:World} {A:Around} {E:Value→Shared→Prop} {s:Shared}
def sIx (n d:Nat):Option Int→Nat
 | none=>d
 | some v=>if v<0 then (v + (n:Int)).toNat else min v.toNat n
def sIx_none (n d:Nat):sIx n d none=d:=rfl
def sIx_nat (n d k:Nat):sIx n d (some (k:Int))=min k n:=by
 show (if (k:Int)<0 then ((k:Int) + (n:Int)).toNat else min (k:Int).toNat n)=min k n
 rw [if_neg (by omega),Int.toNat_natCast]
def sIx_le (n d:Nat) (hd:d≤n) (o:Option Int):sIx n d o≤n:=by
 cases o with
 | none=>exact hd
 | some v =>
  show (if v<0 then (v + (n:Int)).toNat else min v.toNat n)≤n
  by_cases hv:v<0
  ·rw [if_pos hv];omega
  ·rw [if_neg hv];exact Nat.min_le_right _ _
def clip_eq (v:Int) (n d:Nat):(if v<0 then max (v + (n:Int)) 0 else min v (n:Int))=((sIx n d (some v):Nat):Int):=by
 show (if v<0 then max (v + (n:Int)) 0 else min v (n:Int))=(((if v<0 then (v + (n:Int)).toNat else min v.toNat n):Nat):Int)
 by_cases hv:v<0
 ·simp only [if_pos hv];omega
 ·simp only [if_neg hv];omega
def adjust_gen (lo hi:Option Int) (n:Nat):Builtin.Slice.sliceAdjust lo hi 1 (n:Int)=(((sIx n 0 lo:Nat):Int),((sIx n n hi:Nat):Int)):=by
 have h1:¬ ((1:Int)<0):=by omega
 unfold Builtin.Slice.sliceAdjust
 simp only [h1,if_false]
 refine Prod.ext ?_ ?_
 ·cases lo with
  | none=>rfl
  | some v=>exact clip_eq v n 0
 ·cases hi with
  | none=>rfl
  | some v=>exact clip_eq v n n
def places_gen (i j:Nat):Builtin.Slice.slicePlaces (i:Int) (j:Int) 1=j - i:=by
 unfold Builtin.Slice.slicePlaces
 have h1:(1:Int) > 0:=by omega
 simp only [h1,if_true,Int.ediv_one]
 split <;> omega
def slicePart_ {v:Value}{o:Option Int}{Q:Option Int→Shared→Prop}(p:IsPart v o) (h:Q o s):wpAny (model prog w) A (Builtin.Slice.slicePartIndex v) Q E s:=by
 cases p with
 | none=>exact slicePart_none h
 | int i t=>exact slicePart_int h
def sliceApplied_gen {sl:Addr}{vl vu:Value}{lo hi:Option Int}{n:Nat}{Q:Int×Int×Nat→Shared→Prop}(hs:s.heap.IsSliceOf sl vl vu .none) (pl:IsPart vl lo) (pu:IsPart vu hi)
  (h:Q (((sIx n 0 lo:Nat):Int),1,sIx n n hi - sIx n 0 lo) s):wpAny (model prog w) A (Builtin.Slice.sliceApplied (.ref sl) (pure (n:Int))) Q E s:=by
 obtain ⟨os,hos,hcs,hds⟩:=id hs
 unfold Builtin.Slice.sliceApplied Builtin.Slice.sliceFields
 refine wpAny_bind (wpAny_bind (wpAny_field hos hds (x:=vl) rfl (wpAny_bind (wpAny_field hos hds (x:=vu) rfl (wpAny_bind (wpAny_field hos hds (x:=.none) rfl (wpAny_pure ?_)))))))
 refine wpAny_bind (slicePart_none ?_)
 show wpAny _ _ (if ((1:Int) == 0)=true then _ else _) _ _ s
 rw [if_neg (by decide)]
 refine wpAny_bind (slicePart_ pl (wpAny_bind (slicePart_ pu (wpAny_bind (wpAny_pure ?_)))))
 show wpAny _ _ (match Builtin.Slice.sliceAdjust lo hi 1 (n:Int) with | (lo,hi)=>pure (lo,(1:Int),Builtin.Slice.slicePlaces lo hi 1)) _ _ s
 rw [adjust_gen lo hi n]
 show wpAny _ _ (pure (((sIx n 0 lo:Nat):Int),(1:Int),Builtin.Slice.slicePlaces ((sIx n 0 lo:Nat):Int) ((sIx n n hi:Nat):Int) 1)) _ _ s
 rw [places_gen]
 exact wpAny_pure h
def pick_gen (xs:Array Value) (i k:Nat):((List.range k).filterMap fun (m:Nat)=>xs[((i:Int) + (m:Int) * 1).toNat]?).toArray=((xs.toList.drop i).take k).toArray:=by
 have e:(fun (m:Nat)=>xs[((i:Int) + (m:Int) * 1).toNat]?)=fun m=>xs[i + m]?:=by
  funext m
  have:((i:Int) + (m:Int) * 1).toNat=i + m:=by omega
  rw [this]
 rw [e]
 have:=pick_run xs i k
 rw [List.filterMap_map] at this
 have e2:((fun x=>xs[x]?) ∘ fun x=>i + x)=fun m=>xs[i + m]?:=rfl
 rw [e2] at this
 rw [this]
def getItem_tuple_cut {t sl:Addr}{items:Array Value}{vl vu:Value}{lo hi:Option Int}{Q:Value→Shared→Prop}(ht:IsTup s.heap t items) (hs:s.heap.IsSliceOf sl vl vu .none) (pl:IsPart vl lo) (pu:IsPart vu hi)
  (hw:¬ (sIx items.size 0 lo=0∧sIx items.size items.size hi=items.size))
  (h:Q (.ref s.heap.objs.size) { s with heap:=s.heap.push { cls:=.type "tuple",data:=.seq ((items.toList.drop (sIx items.size 0 lo)).take (sIx items.size items.size hi - sIx items.size 0 lo)).toArray } })
  (hsz:items.size≤sizeLine):wpAny (model prog w) A (getItem (.ref t) (.ref sl)) Q E s:=by
 have htake:sizeOk (.seq ((items.toList.drop (sIx items.size 0 lo)).take (sIx items.size items.size hi - sIx items.size 0 lo)).toArray):=by
  show ((items.toList.drop (sIx items.size 0 lo)).take (sIx items.size items.size hi - sIx items.size 0 lo)).toArray.size≤sizeLine
  rw [List.size_toArray,List.length_take,List.length_drop,Array.length_toList]
  omega
 have hj:sIx items.size items.size hi≤items.size:=sIx_le _ _ (Nat.le_refl _) hi
 obtain ⟨os,hos,hcs,hds⟩:=id hs
 have hTs:s.TypeIs (.ref sl) "slice":=⟨os,hos,hcs⟩
 unfold getItem
 try with_reducible refine wpAny_holding ?_
 first | refine wpAny_bind (wpAny_pure ?_) | skip
 refine wpAny_bind (wpAny_sequenceKey ht.typeIs (by decide) ?_)
 refine wpAny_bind (wpAny_callSpecial?_slot (name:=Str.ofString "__getitem__") ht.typeIs PyProof.Rows.slot_tuple_getitem
  (wpAny_call_entry PyProof.Rows.slot_tuple_getitem ht.typeIs entry_tuple_getitem ?_ (args_tuple_getitem _ _)))
 show wpAny _ _ (Builtin.Tuple.tupleItemsOf (.ref t)>>=_) _ _ s
 refine wpAny_bind (tupleItemsOf_ ht ?_)
 refine wpAny_bind (wpAny_typeOf hTs ?_)
 rw [if_pos (by decide)]
 refine wpAny_bind (sliceApplied_gen hs pl pu ?_)
 have hno:¬ ((((sIx items.size 0 lo:Nat):Int) == 0&&(1:Int) == 1&&(sIx items.size items.size hi - sIx items.size 0 lo) == items.size)=true):=by
  intro q
  rw [Bool.and_eq_true,Bool.and_eq_true] at q
  have q1:((sIx items.size 0 lo:Nat):Int)=0:=eq_of_beq q.1.1
  have q2:sIx items.size items.size hi - sIx items.size 0 lo=items.size:=eq_of_beq q.2
  exact hw ⟨by omega,by omega⟩
 show wpAny _ _ (if (((sIx items.size 0 lo:Nat):Int) == 0&&(1:Int) == 1&&(sIx items.size items.size hi - sIx items.size 0 lo) == items.size)=true then _ else _) _ _ s
 rw [if_neg hno,pick_gen]
 first
  | exact wpAny_bind (m:=Builtin.Tuple.tupleExact _) (wpAny_newObj_type (wpAny_pure ⟨_,rfl,wpAny_pure h⟩) htake)
  | exact wpAny_bind (m:=Builtin.Tuple.tupleExact _) (wpAny_newObj_type (wpAny_bind (wpAny_pure (wpAny_pure ⟨_,rfl,wpAny_pure h⟩))) htake)
  | exact wpAny_bind (wpAny_bind (m:=Builtin.Tuple.tupleExact _) (wpAny_newObj_type (wpAny_pure (wpAny_pure ⟨_,rfl,wpAny_pure h⟩)) htake))
  | exact wpAny_bind (wpAny_bind (m:=Builtin.Tuple.tupleExact _) (wpAny_newObj_type (wpAny_pure ⟨_,rfl,wpAny_pure h⟩) htake))
end
end HT
namespace L2
open PySem PySem.Spec PyProof.Rows
abbrev TO:=St→Hp→(Option Int→Hp→Prop)→Prop
def PO (X:Cx) (e:Option Expr) (t:TO):Prop :=
 ∀ (pins:List (Addr×Obj)) (s:Shared) (σ:St) (H:Hp) (Q:Option Int→Hp→Prop),Inv X pins σ H s→t σ H Q →
  wpAny (model X.prog X.w) X.A (evalPart e X.env) (fun u s'=>∃ o H',Inv X pins σ H' s'∧IsPart u o∧Q o H') X.xe s
def tNoPart:TO:=fun _ H Q=>Q none H
def tPart (t:TE):TO:=fun σ H Q=>t σ H fun x H1=>∃ i,x=.int i∧Q (some i) H1
section
variable {X:Cx} {e:Expr} {te:TE} {lo hi:Option Expr} {tl th:TO} {pos p2:Pos}
def po_none:PO X none tNoPart:=by
 intro pins s σ H Q I h
 rw [evalPart_none]
 exact wpAny_pure ⟨none,H,I,.none,h⟩
def po_some (h:PE X e te):PO X (some e) (tPart te):=by
 intro pins s σ H Q I hw
 rw [evalPart_some]
 refine thn (h pins s σ H _ I hw) fun u s1 ⟨x,H1,I1,r1,q1⟩=>?_
 obtain ⟨i,rfl,q⟩:=q1
 obtain ⟨t,rfl⟩:=r1
 exact ⟨some i,H1,I1,.int i t,q⟩
def SlR (X:Cx) (r:V→Option Int→Option Int→Hp→VK→Prop):Prop :=
 ∀ (pins:List (Addr×Obj)) (s:Shared) (σ:St) (H:Hp) (x:V) (v vl vu:Value) (lo hi:Option Int) (sl:Addr) (Q:VK),Inv X pins σ H s→RelV x v→s.heap.IsSliceOf sl vl vu .none→IsPart vl lo→IsPart vu hi→r x lo hi H Q →
  ∃ T id,typeLookup (.type T) "__getitem__"=pure (some (.builtin id))∧s.TypeIs v T∧wpAny (model X.prog X.w) X.A (getItem v (.ref sl)) (EP X pins σ Q) X.xe s
def SlR.or {r r':V→Option Int→Option Int→Hp→VK→Prop}(h:SlR X r) (h':SlR X r'):SlR X (fun x lo hi H Q=>r x lo hi H Q∨r' x lo hi H Q):=by
 intro pins s σ H x v vl vu lo hi sl Q I rx hs pl pu q
 rcases q with q | q
 ·exact h pins s σ H x v vl vu lo hi sl Q I rx hs pl pu q
 ·exact h' pins s σ H x v vl vu lo hi sl Q I rx hs pl pu q
def tSl (r:V→Option Int→Option Int→Hp→VK→Prop) (te:TE) (tl th:TO):TE:=fun σ H Q=>te σ H fun x H1=>tl σ H1 fun l H2=>th σ H2 fun u H3=>r x l u H3 Q
def pe_slice {r:V→Option Int→Option Int→Hp→VK→Prop}(hr:SlR X r) (he:PE X e te) (hl:PO X lo tl) (hu:PO X hi th):PE X (.Subscript e (.Slice lo hi none p2) pos) (tSl r te tl th):=by
 intro pins s σ H Q I h
 refine Subscript_ (thn (he pins s σ H _ I h) fun v s1 ⟨x,H1,I1,r1,q1⟩=>?_)
 refine wpAny_Slice (thn (hl pins s1 σ H1 _ I1 q1) fun vl s2 ⟨l,H2,I2,pl,q2⟩=>thn (hu pins s2 σ H2 _ I2 q2) fun vu s3 ⟨u,H3,I3,pu,q3⟩=>?_)
 rw [evalPart_none]
 refine wpAny_pure ?_
 have I4:Inv X pins σ H3 { s3 with heap:=s3.heap.push { cls:=.type "slice",data:=.fields #[vl,vu,.none] } }:=I3.kept (t':=s3.toks) fun b ob q=>Heap.get?_push_of_some _ q
 obtain ⟨T,id,hT,ht,hg⟩:=hr pins { s3 with heap:=s3.heap.push { cls:=.type "slice",data:=.fields #[vl,vu,.none] } } σ H3 x v vl vu l u s3.heap.objs.size Q I4 r1 (Heap.IsSliceOf.new ..) pl pu q3
 show wpAny (model X.prog X.w) X.A (subscriptTail e (.Slice lo hi none p2) v (.ref s3.heap.objs.size)) (EP X pins σ Q) X.xe { s3 with heap:=s3.heap.push { cls:=.type "slice",data:=.fields #[vl,vu,.none] } }
 exact tail_any (ops:=[.ref s3.heap.objs.size,v]) ht hT hg (by with_unfolding_all rfl)
def cutV (xs:List V) (lo hi:Option Int):List V:=(xs.drop (HT.sIx xs.length 0 lo)).take (HT.sIx xs.length xs.length hi - HT.sIx xs.length 0 lo)
def cutV_length (xs:List V) (lo hi:Option Int):(cutV xs lo hi).length≤xs.length:=by
 unfold cutV
 rw [List.length_take,List.length_drop]
 omega
def rSlT (K:Fg):V→Option Int→Option Int→Hp→VK→Prop:=fun x lo hi H Q=>∃ a xs,x=.ref a∧SqT K H a xs ∧
 ¬ (HT.sIx xs.length 0 lo=0∧HT.sIx xs.length xs.length hi=xs.length)∧∀ p,H p=none→Q (.ref p) (upd H p (.tup (cutV xs lo hi)))
def sl_tup:SlR X (rSlT X.K):=by
 intro pins s σ H x v vl vu lo hi sl Q I rx hs pl pu h
 obtain ⟨a,xs,rfl,hx,hw,q⟩:=h
 cases rx
 obtain ⟨its,r,ht,hz⟩:=I.tuple hx
 have hlen:its.toArray.size=xs.length:=by rw [List.size_toArray];exact r.length.symm
 refine ⟨"tuple",_,PyProof.Rows.slot_tuple_getitem.lookup,ht.typeIs,?_⟩
 refine HT.getItem_tuple_cut ht hs pl pu (by rw [hlen];exact hw) ?_ (by rw [hlen];exact hz)
 rw [hlen]
 refine ⟨.ref s.heap.objs.size,_,I.laid (t':=s.toks) (o:=.tup (cutV xs lo hi)) (fun b ob q=>Heap.get?_push_of_some _ q) (Nat.le_refl _) ?_,rfl,q _ (I.hok.fresh (Nat.le_refl _))⟩
 exact ⟨Nat.le_trans (cutV_length xs lo hi) hz,_,(r.drop (HT.sIx xs.length 0 lo)).take (HT.sIx xs.length xs.length hi - HT.sIx xs.length 0 lo),IsTup.new _ _⟩
end
def ixN (n:Nat) (i:Int):Option Nat:=if 0≤i then (if i<n then some i.toNat else none) else if -(n:Int)≤i then some (i + n).toNat else none
def atI {α:Type} (xs:List α) (i:Int):Option α:=(ixN xs.length i).bind fun j=>xs[j]?
def ixN_seq {n:Nat}{i:Int}{j:Nat}(h:ixN n i=some j):seqIndex? i n=some j∧j<n∧-(n:Int)≤i∧i<n:=by
 unfold ixN at h
 by_cases h0:0≤i
 ·rw [if_pos h0] at h
  by_cases h1:i<n
  ·rw [if_pos h1] at h
   have e:i.toNat=j:=Option.some.inj h
   exact ⟨by rw [seqIndex_of h0 h1,e],by omega,by omega,h1⟩
  ·rw [if_neg h1] at h;cases h
 ·rw [if_neg h0] at h
  by_cases h1:-(n:Int)≤i
  ·rw [if_pos h1] at h
   have e:(i + n).toNat=j:=Option.some.inj h
   exact ⟨by rw [seqIndex_neg (by omega) h1,e],by omega,h1,by omega⟩
  ·rw [if_neg h1] at h;cases h
def atI_get {α:Type}{xs:List α}{i:Int}{v:α}(h:atI xs i=some v):∃ j,seqIndex? i xs.length=some j∧xs[j]?=some v∧j<xs.length∧-(xs.length:Int)≤i∧i<xs.length:=by
 unfold atI at h
 cases e:ixN xs.length i with
 | none=>rw [e] at h;cases h
 | some j =>
  rw [e] at h
  obtain ⟨h1,h2,h3,h4⟩:=ixN_seq e
  exact ⟨j,h1,h,h2,h3,h4⟩
def atI_nat {α:Type}{xs:List α}{j:Nat}{v:α}(h:xs[j]?=some v):atI xs (j:Int)=some v:=by
 have hj:j<xs.length:=(List.getElem?_eq_some_iff.mp h).1
 have e:ixN xs.length (j:Int)=some j:=by
  unfold ixN
  rw [if_pos (by omega),if_pos (by omega)];simp
 unfold atI;rw [e];exact h
def PlainIx (b:Expr):Prop:=∀ o i,subscripted b false o i=operate [o,i] (getItem o i)
def IxR (X:Cx) (r:R2):Prop :=
 ∀ (value slice:Expr) (pins:List (Addr×Obj)) (s:Shared) (σ:St) (H:Hp) (x y:V) (v u:Value) (Q:VK),Inv X pins σ H s→RelV x v→RelV y u→r x y H Q →
  subscripted slice false v u=operate [v,u] (getItem v u)→wpAny (model X.prog X.w) X.A (subscriptTail value slice v u) (EP X pins σ Q) X.xe s
def MtR (X:Cx) (id:String) (r:V→List V→Hp→VK→Prop):Prop :=
 ∀ (pins:List (Addr×Obj)) (s:Shared) (σ:St) (H:Hp) (x:V) (xs:List V) (v:Value) (us:List Value) (Q:VK),Inv X pins σ H s→RelV x v→Vals xs us→r x xs H Q →
  wpAny (model X.prog X.w) X.A (call (.builtin id) (v :: us)) (EP X pins σ Q) X.xe s
section
variable {X:Cx} {a b:Expr} {ta tb:TE} {pos:Pos}
def pe_ix {r:R2}(hr:IxR X r) (ha:PE X a ta) (hb:PE X b tb) (hs:PlainIx b):PE X (.Subscript a b pos) (tOp r ta tb):=by
 intro pins s σ H Q I h
 exact Subscript_ (binT ha hb I h fun v u s2 x y H2 I2 rx ry q=>hr a b pins s2 σ H2 x y v u Q I2 rx ry q (hs _ _))
def rIxL (K:Fg):R2:=fun x y H Q=>∃ p xs i v,x=.ref p∧y=.int i∧SqL K H p xs∧atI xs i=some v∧Q v H
def rIxT (K:Fg):R2:=fun x y H Q=>∃ p xs i v,x=.ref p∧y=.int i∧SqT K H p xs∧atI xs i=some v∧Q v H
def rIxS:R2:=fun x y H Q=>∃ z i c,x=.str z∧y=.int i∧z.length≤sizeLine∧atI z.cps.toList i=some c∧Q (.str ⟨#[c]⟩) H
def ix_list:IxR X (rIxL X.K):=by
 intro value slice pins s σ H x y v u Q I rx ry h hs
 obtain ⟨p,xs,i,z,rfl,rfl,hq,he,q⟩:=h
 cases rx
 obtain ⟨t,rfl⟩:=ry
 obtain ⟨its,r,pl,hz⟩:=I.list hq
 obtain ⟨j,h1,h2,h3,h4,h5⟩:=atI_get he
 obtain ⟨w,ew,rw'⟩:=r.get h2
 have hl:=r.length
 have hn:=line63
 have fin:EP X pins σ Q w s:=⟨z,H,I,rw',q⟩
 by_cases h0:0≤i
 ·have hj:i.toNat=j:=by
   rw [seqIndex_of h0 h5] at h1
   exact Option.some.inj h1
  exact item_listR pl.isList h0 (by omega) (by rw [hj];simpa using ew) fin hs
 ·have hj:(i + (its.toArray.size:Int)).toNat=j:=by
   rw [seqIndex_neg (by omega) h4] at h1
   rw [List.size_toArray,← hl]
   exact Option.some.inj h1
  exact subscriptTail_builtinR (x:=w) pl.isList.typeIs slot_list_getitem.lookup
   (wpAny_getItem_list_neg (Q:=fun r s'=>r=w∧EP X pins σ Q r s') pl.isList (by omega) (by rw [List.size_toArray] <;> omega) (by omega) (by rw [hj];simpa using ew) ⟨rfl,fin⟩) hs
def ix_tup:IxR X (rIxT X.K):=by
 intro value slice pins s σ H x y v u Q I rx ry h hs
 obtain ⟨p,xs,i,z,rfl,rfl,hq,he,q⟩:=h
 cases rx
 obtain ⟨t,rfl⟩:=ry
 obtain ⟨its,r,pl,hz⟩:=I.tuple hq
 obtain ⟨j,h1,h2,h3,h4,h5⟩:=atI_get he
 obtain ⟨w,ew,rw'⟩:=r.get h2
 have hl:=r.length
 have hn:=line63
 have fin:EP X pins σ Q w s:=⟨z,H,I,rw',q⟩
 exact subscriptTail_builtinR (x:=w) pl.typeIs slot_tuple_getitem.lookup
  (getItem_tuple (j:=j) (Q:=fun r s'=>r=w∧EP X pins σ Q r s') pl (by omega) (by omega) (by rw [List.size_toArray,← hl];exact h1) (by simpa using ew) ⟨rfl,fin⟩) hs
def ix_str:IxR X rIxS:=by
 intro value slice pins s σ H x y v u Q I rx ry h hs
 obtain ⟨z,i,c,rfl,rfl,hz,he,q⟩:=h
 obtain ⟨t,rfl⟩:=rx
 obtain ⟨t',rfl⟩:=ry
 obtain ⟨j,h1,h2,h3,h4,h5⟩:=atI_get he
 have hl:z.cps.toList.length=z.length:=by simp [Str.length]
 rw [hl] at h1 h4 h5
 have hn:=line63
 exact tail_any (typeIs_str s z t) slot_str_getitem.lookup (getItem_str (c:=c) (by
  have e1:decide (i < -(2 ^ 63:Int))=false:=decide_eq_false (by omega)
  have e2:decide (i ≥ 2 ^ 63)=false:=decide_eq_false (by omega)
  rw [e1,e2,Bool.or_false]) (by rw [h1];simpa using h2) ⟨.str ⟨#[c]⟩,H,I.tok _,⟨_,rfl⟩,q⟩) hs
def mapSeq_set (its:List Value) (n j:Nat) (u:Value):Obj.mapSeq (·.setIfInBounds j u) { cls:=.type "list",data:=.seq its.toArray n }={ cls:=.type "list",data:=.seq (its.set j u).toArray n }:=by
 simp [Obj.mapSeq]
theorem Inv.lst {pins:List (Addr×Obj)}{σ:St}{H:Hp}{s:Shared}{p:Addr}{xs:List V}(I:Inv X pins σ H s) (h:H p=some (.lst xs)):
  ∃ (its:List Value) (n:Nat),Vals xs its∧s.heap.get? p=some { cls:=.type "list",data:=.seq its.toArray n }∧xs.length≤sizeLine:=by
 obtain ⟨z,its,n,r,e⟩:=I.hok p _ h
 exact ⟨its,n,r,e,z⟩
def Inv.lstUpd {pins:List (Addr×Obj)}{σ:St}{H:Hp}{s:Shared}{p:Addr}{xs ys:List V}{its its':List Value}{n n':Nat}{f:Obj→Obj}(I:Inv X pins σ H s) (h:H p=some (.lst xs))
  (ho:s.heap.get? p=some { cls:=.type "list",data:=.seq its.toArray n }) (hf:f { cls:=.type "list",data:=.seq its.toArray n }={ cls:=.type "list",data:=.seq its'.toArray n' }) (r:Vals ys its') (hz:ys.length≤sizeLine) (t:Nat):
  Inv X pins σ (upd H p (.lst ys)) { s with heap:=s.heap.update p f,toks:=t }:=by
 have e:(s.heap.update p f).get? p=some { cls:=.type "list",data:=.seq its'.toArray n' }:=by
  rw [Heap.get?_update_self f ho (by rw [hf] <;> rfl),hf]
 refine I.write (x:=p) (e:=p) (by rw [h];trivial) (.inl rfl) (fun b u hb q=>(Heap.get?_update_other _ _ (Ne.symm hb)).trans q) ⟨_,e⟩ ?_
 exact ⟨hz,its',n',r,e⟩
def rSetL:V→V→V→Hp→(Hp→Prop)→Prop:=fun o i v H Q=>∃ p xs k j,o=.ref p∧i=.int k∧H p=some (.lst xs)∧ixN xs.length k=some j∧Q (upd H p (.lst (xs.set j v)))
def set_list:PSet X rSetL:=by
 intro pins s σ H o i v ov iv u Q I ro ri rv h
 obtain ⟨p,xs,k,j,rfl,rfl,hp,hj,q⟩:=h
 cases ro
 obtain ⟨t,rfl⟩:=ri
 obtain ⟨its,n,r,ho,hz⟩:=I.lst hp
 obtain ⟨h1,h2,h3,h4⟩:=ixN_seq hj
 have hl:=r.length
 have hn:=line63
 have I':Inv X pins σ (upd H p (.lst (xs.set j v))) { s with heap:=s.heap.update p (Obj.mapSeq (·.setIfInBounds j u)) } :=
  I.lstUpd hp ho (mapSeq_set its n j u) (r.set rv j) (by rw [List.length_set];exact hz) s.toks
 by_cases h0:0≤k
 ·have hk:k.toNat=j:=by
   rw [seqIndex_of h0 h4] at h1
   exact Option.some.inj h1
  exact W.ki_setAt ho h0 (by omega) (by rw [List.size_toArray,← hl];exact h4) (by rw [hk];exact ⟨_,I',q⟩)
 ·have hk:(k + (its.toArray.size:Int)).toNat=j:=by
   rw [seqIndex_neg (by omega) h3] at h1
   rw [List.size_toArray,← hl]
   exact Option.some.inj h1
  exact W.ki_setBack ho (by omega) (by rw [List.size_toArray,← hl];exact h3) (by omega) (by rw [hk];exact ⟨_,I',q⟩)
def slice_bounds (lo hi:Option Int) (n:Nat):(sliceBounds lo hi none n).1=((HT.sIx n 0 lo:Nat):Int)∧(sliceBounds lo hi none n).2.1=((HT.sIx n n hi:Nat):Int)∧(sliceBounds lo hi none n).2.2=1:=by
 refine ⟨?_,?_,rfl⟩
 ·cases lo with
  | none=>simp [sliceBounds,HT.sIx]
  | some i =>
   simp only [sliceBounds,HT.sIx,Option.getD_none,show (1:Int) > 0 by decide,if_true]
   by_cases h:i<0
   ·simp only [h,if_true] <;> omega
   ·simp only [h,if_false] <;> omega
 ·cases hi with
  | none=>simp [sliceBounds,HT.sIx]
  | some i =>
   simp only [sliceBounds,HT.sIx,Option.getD_none,show (1:Int) > 0 by decide,if_true]
   by_cases h:i<0
   ·simp only [h,if_true] <;> omega
   ·simp only [h,if_false] <;> omega
def slicePick_cut (its:List Value) (lo hi:Option Int):slicePick its.toArray lo hi none=((its.drop (HT.sIx its.length 0 lo)).take (HT.sIx its.length its.length hi - HT.sIx its.length 0 lo)).toArray:=by
 obtain ⟨h1,h2,h3⟩:=slice_bounds lo hi its.toArray.size
 unfold slicePick
 rw [h1,h2,h3]
 simp only [sliceRange_one,pick_run,List.size_toArray] <;> rfl
def rSlL (K:Fg):V→Option Int→Option Int→Hp→VK→Prop:=fun x lo hi H Q=>∃ a xs,x=.ref a∧SqL K H a xs∧∀ p,H p=none→Q (.ref p) (upd H p (.lst (cutV xs lo hi)))
def sl_list:SlR X (rSlL X.K):=by
 intro pins s σ H x v vl vu lo hi sl Q I rx hs pl pu h
 obtain ⟨a,xs,rfl,hx,q⟩:=h
 cases rx
 obtain ⟨its,r,ht,hz⟩:=I.list hx
 have hlen:=r.length
 refine ⟨"list",_,slot_list_getitem.lookup,ht.isList.typeIs,?_⟩
 refine wpAny_getItem_list_slice ht.isList hs pl pu .none (by simp) ?_ (by rw [List.size_toArray] <;> omega)
 rw [slicePick_cut,← hlen]
 refine ⟨.ref s.heap.objs.size,_,I.laid (t':=s.toks) (o:=.lst (cutV xs lo hi)) (fun b ob q=>Heap.get?_push_of_some _ q) (Nat.le_refl _) ?_,rfl,q _ (I.hok.fresh (Nat.le_refl _))⟩
 exact ⟨Nat.le_trans (cutV_length xs lo hi) hz,_,0,(r.drop (HT.sIx xs.length 0 lo)).take (HT.sIx xs.length xs.length hi - HT.sIx xs.length 0 lo),Heap.get?_push_size _ rfl⟩
def flatV:V→Bool
 | .non=>true
 | .bl _=>true
 | .int _=>true
 | .str _=>true
 | _=>false
def eqV:V→V→Bool
 | .non,.non=>true
 | .bl a,.bl b=>a == b
 | .bl a,.int b=>(if a then 1 else 0) == b
 | .int a,.bl b=>a == (if b then 1 else 0)
 | .int a,.int b=>a == b
 | .str a,.str b=>a == b
 | _,_=>false
def eqAt_V {A:Around}{s:Shared}{y x:V}{u v:Value}(ry:RelV y u) (rx:RelV x v) (fy:flatV y=true) (fx:flatV x=true):SeqAt.EqAt A s u v (eqV y x):=by
 cases y with
 | non =>
  cases ry
  cases x with
  | non=>cases rx;exact SeqAt.EqAt.same _
  | bl b=>cases rx;exact SeqAt.EqAt.none_bool b
  | int b=>obtain ⟨t,rfl⟩:=rx;exact SeqAt.EqAt.none_int b t
  | str b=>obtain ⟨t,rfl⟩:=rx;exact SeqAt.EqAt.none_str b t
  | _=>exact absurd (show false=true from fx) Bool.false_ne_true
 | bl a =>
  cases ry
  cases x with
  | non=>cases rx;exact SeqAt.EqAt.bool_none a
  | bl b=>cases rx;exact SeqAt.EqAt.bool_bool a b
  | int b=>obtain ⟨t,rfl⟩:=rx;exact SeqAt.EqAt.bool_int a b t
  | str b=>obtain ⟨t,rfl⟩:=rx;exact SeqAt.EqAt.bool_str a b t
  | _=>exact absurd (show false=true from fx) Bool.false_ne_true
 | int a =>
  obtain ⟨t',rfl⟩:=ry
  cases x with
  | non=>cases rx;exact SeqAt.EqAt.int_none a t'
  | bl b=>cases rx;exact SeqAt.EqAt.int_bool a t' b
  | int b=>obtain ⟨t,rfl⟩:=rx;exact SeqAt.EqAt.int_int a t' b t
  | str b=>obtain ⟨t,rfl⟩:=rx;exact SeqAt.EqAt.int_str a t' b t
  | _=>exact absurd (show false=true from fx) Bool.false_ne_true
 | str a =>
  obtain ⟨t',rfl⟩:=ry
  cases x with
  | non=>cases rx;exact SeqAt.EqAt.str_none a t'
  | bl b=>cases rx;exact SeqAt.EqAt.str_bool a t' b
  | int b=>obtain ⟨t,rfl⟩:=rx;exact SeqAt.EqAt.str_int a t' b t
  | str b=>obtain ⟨t,rfl⟩:=rx;exact SeqAt.EqAt.str_str a t' b t
  | _=>exact absurd (show false=true from fx) Bool.false_ne_true
 | _=>exact absurd (show false=true from fy) Bool.false_ne_true
def eqU (x:V) (u:Value):Bool:=match u with
 | .none=>eqV .non x
 | .bool b=>eqV (.bl b) x
 | .int i _=>eqV (.int i) x
 | .str z _=>eqV (.str z) x
 | _=>false
def eqU_of {x y:V}{u:Value}(r:RelV y u) (f:flatV y=true):eqU x u=eqV y x:=by
 cases y with
 | non=>cases r;rfl
 | bl b=>cases r;rfl
 | int i=>obtain ⟨t,rfl⟩:=r;rfl
 | str z=>obtain ⟨t,rfl⟩:=r;rfl
 | _=>exact absurd (show false=true from f) Bool.false_ne_true
theorem any_eqU {x:V}:∀ {xs:List V}{us:List Value},Vals xs us→xs.all flatV=true→us.any (eqU x)=xs.any fun y=>eqV y x
 | _,_,.nil,_=>rfl
 | y :: xs,u :: us,.cons r t,f=>by
  rw [List.all_cons,Bool.and_eq_true] at f
  rw [List.any_cons,List.any_cons,eqU_of r f.1,any_eqU t f.2]
theorem mem_eqAt {A:Around}{s:Shared}{x:V}{v:Value}(rx:RelV x v) (fx:flatV x=true):∀ {xs:List V}{us:List Value},Vals xs us→xs.all flatV=true→∀ u∈us,SeqAt.EqAt A s u v (eqU x u)
 | _,_,.nil,_=>fun u hu=>by cases hu
 | y :: xs,u :: us,.cons r t,f=>fun u' hu=>by
  rw [List.all_cons,Bool.and_eq_true] at f
  rcases List.mem_cons.mp hu with rfl | hu
  ·rw [eqU_of r f.1];exact eqAt_V r rx f.1 fx
  ·exact mem_eqAt rx fx t f.2 u' hu
def inV (x:V) (xs:List V):Bool:=xs.any fun y=>eqV y x
def rIn (K:Fg) (neg:Bool):R2:=fun x y H Q=>∃ p xs,y=.ref p∧(SqL K H p xs∨SqT K H p xs)∧flatV x=true∧xs.all flatV=true∧Q (.bl (if neg then !inV x xs else inV x xs)) H
def op_in_seq:OpR X (compareOp .In) (rIn X.K false):=by
 intro pins s σ H x y v u Q I rx ry h
 obtain ⟨p,xs,rfl,hq,fx,fs,q⟩:=h
 cases ry
 rcases hq with hq | hq
 ·obtain ⟨its,r,pl,hz⟩:=I.list hq
  refine SeqAt.in_listAt (eqU x) pl.isList (fun w hw=>mem_eqAt rx fx r fs w (by simpa using hw)) ⟨.bl _,H,I,rfl,?_⟩
  rw [show its.toArray.any (eqU x)=its.any (eqU x) by simp,any_eqU r fs]
  exact q
 ·obtain ⟨its,r,pl,hz⟩:=I.tuple hq
  refine SeqAt.in_tupleAt (eqU x) pl (fun w hw=>mem_eqAt rx fx r fs w (by simpa using hw)) ⟨.bl _,H,I,rfl,?_⟩
  rw [show its.toArray.any (eqU x)=its.any (eqU x) by simp,any_eqU r fs]
  exact q
def op_notIn_seq:OpR X (compareOp .NotIn) (rIn X.K true):=by
 intro pins s σ H x y v u Q I rx ry h
 obtain ⟨p,xs,rfl,hq,fx,fs,q⟩:=h
 cases ry
 rcases hq with hq | hq
 ·obtain ⟨its,r,pl,hz⟩:=I.list hq
  refine SeqAt.notIn_listAt (eqU x) pl.isList (fun w hw=>mem_eqAt rx fx r fs w (by simpa using hw)) ⟨.bl _,H,I,rfl,?_⟩
  rw [show its.toArray.any (eqU x)=its.any (eqU x) by simp,any_eqU r fs]
  exact q
 ·obtain ⟨its,r,pl,hz⟩:=I.tuple hq
  refine SeqAt.notIn_tupleAt (eqU x) pl (fun w hw=>mem_eqAt rx fx r fs w (by simpa using hw)) ⟨.bl _,H,I,rfl,?_⟩
  rw [show its.toArray.any (eqU x)=its.any (eqU x) by simp,any_eqU r fs]
  exact q
def call_len_seq:CallR X (.builtin "len") (fun xs H Q=>∃ p ys,xs=[.ref p]∧(SqL X.K H p ys∨SqT X.K H p ys)∧Q (.int ys.length) H):=by
 intro pins s σ H xs us Q I r h
 obtain ⟨p,ys,rfl,hq,q⟩:=h
 obtain ⟨u,rfl,rx⟩:=vals1 r
 cases rx
 have hn:=line63
 rcases hq with hq | hq
 ·obtain ⟨its,r',pl,hz⟩:=I.list hq
  have hlen:=r'.length
  exact Calls.call_len_list pl.isList (by simp only [List.size_toArray] <;> omega) ⟨.int ys.length,H,I.tok _,⟨s.toks + 1,by rw [List.size_toArray,hlen]⟩,q⟩
 ·obtain ⟨its,r',pl,hz⟩:=I.tuple hq
  have hlen:=r'.length
  exact len_tuple pl (by simp only [List.size_toArray] <;> omega) ⟨.int ys.length,H,I.tok _,⟨s.toks + 1,by rw [List.size_toArray,hlen]⟩,q⟩
def call_list_of:CallR X (.type "list") (fun xs H Q=>∃ p ys,xs=[.ref p]∧(SqL X.K H p ys∨SqT X.K H p ys)∧∀ l,H l=none→Q (.ref l) (upd H l (.lst ys))):=by
 intro pins s σ H xs us Q I r h
 obtain ⟨p,ys,rfl,hq,q⟩:=h
 obtain ⟨u,rfl,rx⟩:=vals1 r
 cases rx
 have fin:∀ (its:List Value),Vals ys its→ys.length≤sizeLine→∀ (h':Heap) (c':Nat),(∀ b o',s.heap.get? b=some o'→h'.get? b=some o') →
   h'.get? s.heap.objs.size=some { cls:=.type "list",dict:=none,data:=.seq its.toArray c',slots:=#[] }→EP X pins σ Q (.ref s.heap.objs.size) { s with heap:=h' }:=fun its r' hz h' c' kp e =>
  ⟨.ref s.heap.objs.size,_,I.laid (t':=s.toks) kp (Nat.le_refl _) (show ObjOk X.prog X.w _ h' _ (.lst ys) from ⟨hz,its,c',r',e⟩),rfl,q _ (I.hok.fresh (Nat.le_refl _))⟩
 rcases hq with hq | hq
 ·obtain ⟨its,r',pl,hz⟩:=I.list hq
  have hlen:=r'.length
  obtain ⟨o,ho,hc,n,hd⟩:=pl.isList
  exact call_list_seq p (.inl rfl) ho hc hd (fun h' c' kp e=>fin its r' hz h' c' kp e) (by simp only [List.size_toArray] <;> omega)
 ·obtain ⟨its,r',pl,hz⟩:=I.tuple hq
  have hlen:=r'.length
  obtain ⟨o,ho,hc,n,hd⟩:=pl
  exact call_list_seq p (.inr rfl) ho hc hd (fun h' c' kp e=>fin its r' hz h' c' kp e) (by simp only [List.size_toArray] <;> omega)
def call_tuple_of:CallR X (.type "tuple") (fun xs H Q=>∃ p ys,xs=[.ref p]∧((SqL X.K H p ys∧∀ l,H l=none→Q (.ref l) (upd H l (.tup ys)))∨(SqT X.K H p ys∧Q (.ref p) H))):=by
 intro pins s σ H xs us Q I r h
 obtain ⟨p,ys,rfl,h⟩:=h
 obtain ⟨u,rfl,rx⟩:=vals1 r
 cases rx
 rcases h with ⟨hq,q⟩ | ⟨hq,q⟩
 ·obtain ⟨its,r',pl,hz⟩:=I.list hq
  have hlen:=r'.length
  refine call_tuple_list pl.isList (fun h' kp=>?_) (by simp only [List.size_toArray] <;> omega)
  have I1:Inv X pins σ H { s with heap:=h' }:=I.kept (t':=s.toks) kp
  have I2:Inv X pins σ (upd H h'.objs.size (.tup ys)) { s with heap:=h'.push { cls:=.type "tuple",data:=.seq its.toArray } } :=
   I1.laid (t':=s.toks) (fun b o e=>Heap.get?_push_of_some _ e) (Nat.le_refl _) (show ObjOk X.prog X.w _ _ _ (.tup ys) from ⟨hz,its,r',IsTup.new _ _⟩)
  exact ⟨.ref h'.objs.size,_,I2,rfl,q _ (I1.hok.fresh (Nat.le_refl _))⟩
 ·obtain ⟨its,r',pl,hz⟩:=I.tuple hq
  exact call_tuple_same pl ⟨.ref p,H,I,rfl,q⟩
def tyV (K:Fg) (T:String) (x:V) (H:Hp):Prop:=match x with
 | .str _=>T="str"
 | .int _=>T="int"
 | .ref p=>(T="list"∧∃ xs,SqL K H p xs)∨(T="tuple"∧∃ o,K.lookup p=some o∧o.cls=.type "tuple"∧o.dict=none) ∨
   (T="dict"∧((∃ kvs,H p=some (.dK kvs))∨∃ kvs,H p=some (.dT kvs)))∨(T="set"∧∃ S n,H p=some (.set S n))
 | _=>False
def tyV_is {pins:List (Addr×Obj)}{σ:St}{H:Hp}{s:Shared}{T:String}{x:V}{v:Value}(I:Inv X pins σ H s) (r:RelV x v) (ty:tyV X.K T x H):
  s.TypeIs v T∧∀ a,v=.ref a→∃ ob,s.heap.get? a=some ob∧ob.dict=none:=by
 cases x with
 | str z =>
  obtain ⟨t,rfl⟩:=r
  cases (show T="str" from ty)
  exact ⟨typeIs_str s z t,fun _ e=>nomatch e⟩
 | int i =>
  obtain ⟨t,rfl⟩:=r
  cases (show T="int" from ty)
  exact ⟨typeIs_int s i t,fun _ e=>nomatch e⟩
 | ref p =>
  cases r
  rcases ty with ⟨rfl,xs,hq⟩ | ⟨rfl,o,hk,hc,hd⟩ | ⟨rfl,hk⟩ | ⟨rfl,S,n,hk⟩
  ·obtain ⟨its,_,pl,_⟩:=I.list hq
   refine ⟨pl.isList.typeIs,fun a e=>?_⟩
   cases e
   obtain ⟨o,n,e,c,hd,_⟩:=pl
   exact ⟨o,e,hd⟩
  ·refine ⟨⟨o,I.kIn p o hk,hc⟩,fun a e=>?_⟩
   cases e
   exact ⟨o,I.kIn _ o hk,hd⟩
  ·have z:∃ o,s.heap.get? p=some o∧o.ExactDict:=by
    rcases hk with ⟨kvs,hk⟩ | ⟨kvs,hk⟩
    ·obtain ⟨_,_,_,_,o,_,_,e,ex,_⟩:=I.hok p _ hk
     exact ⟨o,e,ex⟩
    ·obtain ⟨_,_,_,_,o,_,_,e,ex,_⟩:=I.hok p _ hk
     exact ⟨o,e,ex⟩
   obtain ⟨o,e,ex⟩:=z
   refine ⟨⟨o,e,ex.1⟩,fun a e2=>?_⟩
   cases e2
   exact ⟨o,e,ex.2.1⟩
  ·obtain ⟨o,_,_,_,e,ex,_⟩:=I.hok p _ hk
   refine ⟨⟨o,e,ex.1⟩,fun a e2=>?_⟩
   cases e2
   exact ⟨o,e,ex.2.1⟩
 | _=>exact False.elim ty
def tBM0 (K:Fg) (T:String) (r:V→List V→Hp→VK→Prop) (to:TE):TE:=fun σ H Q=>to σ H fun x H1=>tyV K T x H1∧r x [] H1 Q
def tBM (K:Fg) (T:String) (r:V→List V→Hp→VK→Prop) (to:TE) (t:TA):TE:=fun σ H Q=>to σ H fun x H1=>tyV K T x H1∧t σ H1 fun xs H2=>r x xs H2 Q
variable {o e:Expr} {es:List Expr} {to:TE} {t:TA} {name:Str} {apos cpos:Pos} {T id:String} {r:V→List V→Hp→VK→Prop}
def pe_bm0 (pa:PlainAttrs T) (slot:Slot T name id) (hty:typeOf (.builtin id)=pure (.type "method_descriptor")) (hm:MtR X id r) (ho:PE X o to)
  (hbase:attributeBase o name X.env (eval o X.env)=eval o X.env:=by rfl) (hline:(apos.endLine == cpos.line)=true:=by rfl):PE X (.Call (.Attribute o name apos) [] [] cpos) (tBM0 X.K T r to):=by
 intro pins s σ H Q I h
 refine wpAny_Call_method0_late hbase hline (thn (ho pins s σ H _ I h) fun v s1 ⟨x,H1,I1,r1,ty,q1⟩=>?_)
 obtain ⟨h1,h2⟩:=tyV_is I1 r1 ty
 exact ⟨T,id,pa,slot,hty,h1,h2,Calls.callWith_builtin rfl (PySem.evalArgs_none (hm pins s1 σ H1 x [] v [] Q I1 r1 .nil q1))⟩
def pe_bm (pa:PlainAttrs T) (slot:Slot T name id) (hty:typeOf (.builtin id)=pure (.type "method_descriptor")) (hm:MtR X id r) (ho:PE X o to) (ha:PA X (e :: es) t)
  (hbase:attributeBase o name X.env (eval o X.env)=eval o X.env:=by rfl)
  (hfew:((backTo cpos (starEach (e :: es) X.env)).all (fun x=>!x.1)&&(backToKw cpos (keywordEach [] X.env)).all (fun x=>x.1.isSome)
   && decide ((e :: es).length + ([]:List Keyword).length + (if ([]:List Keyword).isEmpty then 0 else 1)<30))=true:=by rfl)
  (hline:(apos.endLine == cpos.line)=true:=by rfl) (hs:starEach (e :: es) X.env=(false,eval e X.env):: starEach es X.env:=by rfl) (hplain:(backTo cpos (starEach es X.env)).any (·.1)=false:=by rfl):
  PE X (.Call (.Attribute o name apos) (e :: es) [] cpos) (tBM X.K T r to t):=by
 intro pins s σ H Q I h
 refine wpAny_Call_method_late hbase hfew hline rfl (thn (ho pins s σ H _ I h) fun v s1 ⟨x,H1,I1,r1,ty,q1⟩=>?_)
 obtain ⟨h1,h2⟩:=tyV_is I1 r1 ty
 refine ⟨T,id,pa,slot,hty,h1,h2,?_⟩
 have hA:=ha cpos pins s1 σ H1 _ I1 q1
 rw [hs] at hA ⊢
 refine Calls.callWith_builtin (by show (false || (backTo cpos (starEach es X.env)).any (·.1))=false;rw [hplain] <;> rfl) (Calls.evalArgs_plain ?_)
 exact thn hA fun us s2 ⟨vs,H2,I2,r2,q2⟩=>hm pins s2 σ H2 x vs v us Q I2 r1 r2 q2
end
def MtM (X:Cx) (id:String) (r:V→List V→Hp→VK→Prop):Prop :=
 ∀ (pins:List (Addr×Obj)) (s:Shared) (σ:St) (H:Hp) (x:V) (xs:List V) (v:Value) (us:List Value) (Q:VK),Inv X pins σ H s→RelV x v→Vals xs us→r x xs H Q →
  wpAny (model X.prog X.w) X.A (call (.builtin id) (v :: us)) (EP X pins σ Q) X.xe s
def Vals.one:∀ {x:V}{us:List Value},Vals [x] us→∃ u,us=[u]∧RelV x u
 | _,_,.cons r .nil=>⟨_,rfl,r⟩
def Vals.zero:∀ {us:List Value},Vals [] us→us=[]
 | _,.nil=>rfl
theorem Vals.dropLast {xs:List V}{us:List Value}(h:Vals xs us):Vals xs.dropLast us.dropLast:=by
 induction h with
 | nil=>exact .nil
 | cons r t ih =>
  cases t with
  | nil=>exact .nil
  | cons q t'=>exact .cons r ih
theorem Vals.rep {xs:List V}{us:List Value}(h:Vals xs us):∀ k:Nat,Vals (List.replicate k xs).flatten (List.replicate k us).flatten
 | 0=>.nil
 | k + 1=>by
  rw [List.replicate_succ,List.replicate_succ,List.flatten_cons,List.flatten_cons]
  exact Vals.append h (Vals.rep h k)
def erase_last {α:Type}(l:List α):l.eraseIdx (l.length - 1)=l.dropLast:=by
 induction l with
 | nil=>rfl
 | cons a r ih =>
  cases r with
  | nil=>rfl
  | cons b r =>
   have e:(a :: b :: r).length - 1=((b :: r).length - 1) + 1:=by
    have h1:(a :: b :: r).length=r.length + 2:=rfl
    have h2:(b :: r).length=r.length + 1:=rfl
    omega
   rw [e,List.eraseIdx_cons_succ,ih]
   all_goals rfl
theorem foldl_rep (its:List Value):∀ (k:Nat) (acc:List Value),
  List.foldl (fun x1 x2=>x1++x2) acc.toArray (List.replicate k its.toArray)=(acc++(List.replicate k its).flatten).toArray
 | 0,acc=>by simp
 | k + 1,acc=>by
  have e:acc.toArray++its.toArray=(acc++its).toArray:=by simp
  have e2:(acc++its)++(List.replicate k its).flatten=acc++(List.replicate (k + 1) its).flatten:=by
   rw [List.replicate_succ,List.flatten_cons,List.append_assoc]
  rw [← e2,← foldl_rep its k (acc++its),← e,List.replicate_succ,List.foldl_cons]
section
variable {X:Cx} {pins:List (Addr×Obj)} {σ:St} {H:Hp} {s:Shared} {l b:Addr} {xs ys zs:List V}
def Inv.lset {its its':List Value}{n:Nat}{f:Array Value→Array Value}{t':Nat}(I:Inv X pins σ H s) (hH:H l=some (.lst xs))
  (e:s.heap.get? l=some { cls:=.type "list",data:=.seq its.toArray n }) (hf:f its.toArray=its'.toArray) (hv:Vals ys its') (hz:ys.length≤sizeLine):
  Inv X pins σ (upd H l (.lst ys)) { s with heap:=s.heap.update l (Obj.mapSeq f),toks:=t' }:=by
 have q:=PySem.IsL.update e f
 rw [hf] at q
 refine I.write (x:=l) (e:=l) (by rw [hH];exact trivial) (.inl rfl) (fun b' u hb hu=>(Heap.get?_update_other s.heap (Obj.mapSeq f) (Ne.symm hb)).trans hu) ⟨_,q⟩ ?_
 exact ⟨hz,its',_,hv,q⟩
def Inv.lnew {its:List Value}{t':Nat}(I:Inv X pins σ H s) (hv:Vals ys its) (hz:ys.length≤sizeLine):
  Inv X pins σ (upd H s.heap.objs.size (.lst ys)) { s with heap:=s.heap.push { cls:=.type "list",data:=.seq its.toArray },toks:=t' } :=
 I.laid (fun _ _ q=>Heap.get?_push_of_some _ q) (Nat.le_refl _) ⟨hz,its,0,hv,Heap.get?_push_size _ rfl⟩
theorem Inv.fresh (I:Inv X pins σ H s):H s.heap.objs.size=none:=I.hok.fresh (Nat.le_refl _)
def Inv.lstM (I:Inv X pins σ H s) (hH:H l=some (.lst xs)):xs.length≤sizeLine∧∃ (its:List Value) (n:Nat),Vals xs its∧xs.length=its.length∧s.heap.get? l=some { cls:=.type "list",data:=.seq its.toArray n }:=by
 obtain ⟨z,its,n,r,e⟩:=I.hok l _ hH
 exact ⟨z,its,n,r,r.length,e⟩
def notLongL {n:Nat}(h:n≤sizeLine):Builtin.List.listTooLong n=false:=by
 unfold Builtin.List.listTooLong
 exact decide_eq_false (by omega)
end
section
variable {X:Cx}
def rAppend:V→List V→Hp→VK→Prop:=fun x vs H Q=>∃ l xs y,x=.ref l∧vs=[y]∧H l=some (.lst xs)∧xs.length<sizeLine∧Q .non (upd H l (.lst (xs++[y])))
def mt_append:MtM X "list.append" rAppend:=by
 intro pins s σ H x vs v us Q I rx rv h
 obtain ⟨l,xs,y,rfl,rfl,hH,hz,q⟩:=h
 cases rx
 obtain ⟨u,rfl,ru⟩:=rv.one
 obtain ⟨z,its,n,r,hl,e⟩:=I.lstM hH
 refine call_meets F.slot_list_append ⟨_,e,rfl⟩ F.entry_list_append (F.args_list_append_2 _ _) (PySem.list_append l its.toArray n u (by rw [List.size_toArray];omega)) ⟨e,?_⟩
 refine ⟨.non,_,I.lset (its':=its++[u]) hH e (by simp) (r.append (.cons ru .nil)) ?_,rfl,q⟩
 rw [List.length_append,List.length_singleton]
 omega
def rPop:V→List V→Hp→VK→Prop:=fun x vs H Q=>∃ l xs y,x=.ref l∧vs=[]∧H l=some (.lst xs)∧xs[xs.length - 1]?=some y∧Q y (upd H l (.lst xs.dropLast))
def mt_pop:MtM X "list.pop" rPop:=by
 intro pins s σ H x vs v us Q I rx rv h
 obtain ⟨l,xs,y,rfl,rfl,hH,hy,q⟩:=h
 cases rx
 have hus:=rv.zero
 subst hus
 obtain ⟨z,its,n,r,hl,e⟩:=I.lstM hH
 obtain ⟨u,hu,ru⟩:=r.get hy
 have hy':its.toArray[its.toArray.size - 1]?=some u:=by
  show its.toArray[its.length - 1]?=some u
  rw [← Array.getElem?_toList,← hl]
  exact hu
 refine call_meets F.slot_list_pop ⟨_,e,rfl⟩ F.entry_list_pop (F.args_list_pop_1 _) (MeetsSeq.list_pop_last l its.toArray n u hy' (by rw [List.size_toArray];omega)) ⟨e,?_⟩
 refine ⟨y,_,I.lset (its':=its.dropLast) hH e ?_ r.dropLast ?_,ru,q⟩
 ·show its.toArray.eraseIdxIfInBounds (its.toArray.size - 1)=its.dropLast.toArray
  rw [List.size_toArray,List.eraseIdxIfInBounds_toArray,erase_last]
 ·rw [List.length_dropLast]
  omega
def rCat:R2:=fun x y H Q=>∃ l b xs zs,x=.ref l∧y=.ref b∧H l=some (.lst xs)∧H b=some (.lst zs)∧xs.length + zs.length≤sizeLine∧∀ p,H p=none→Q (.ref p) (upd H p (.lst (xs++zs)))
def op_cat:OpR X (binaryOp .Add) rCat:=by
 intro pins s σ H x y v u Q I rx ry h
 obtain ⟨l,b,xs,zs,rfl,rfl,hH,hB,hz,q⟩:=h
 cases rx
 cases ry
 obtain ⟨z,its,n,r,hl,e⟩:=I.lstM hH
 obtain ⟨z2,its2,n2,r2,hl2,e2⟩:=I.lstM hB
 refine PySem.P.add_list e e2 ?_ (by rw [List.size_toArray,List.size_toArray];omega)
 have ea:its.toArray++its2.toArray=(its++its2).toArray:=by simp
 rw [ea]
 exact ⟨.ref _,_,I.lnew (t':=s.toks) (r.append r2) (by rw [List.length_append];omega),rfl,q _ I.fresh⟩
def rRep:R2:=fun x y H Q=>∃ l k xs,x=.ref l∧y=.int k∧H l=some (.lst xs)∧-(2 ^ 63)≤k∧k<2 ^ 63∧xs.length * k.toNat≤sizeLine ∧
 ∀ p,H p=none→Q (.ref p) (upd H p (.lst (List.replicate k.toNat xs).flatten))
def len_rep {α:Type}(xs:List α) (k:Nat):(List.replicate k xs).flatten.length=k * xs.length:=by
 induction k with
 | zero=>simp
 | succ k ih=>rw [List.replicate_succ,List.flatten_cons,List.length_append,ih,Nat.succ_mul,Nat.add_comm]
def op_rep:OpR X (binaryOp .Mult) rRep:=by
 intro pins s σ H x y v u Q I rx ry h
 obtain ⟨l,k,xs,rfl,rfl,hH,h1,h2,hz,q⟩:=h
 cases rx
 obtain ⟨t,rfl⟩:=ry
 obtain ⟨z,its,n,r,hl,e⟩:=I.lstM hH
 have hlen:its.toArray.size * k.toNat≤sizeLine:=by rw [List.size_toArray,← hl];exact hz
 have hcap:¬ its.toArray.size * k.toNat > (2 ^ 63 - 1) / 8:=by
  have:(sizeLine:Nat)≤(2 ^ 63 - 1) / 8:=by decide
  omega
 have hfit:¬ (!Builtin.List.listFitsIndex k)=true:=by
  rw [fitsIndex_both h1 h2]
  exact Bool.false_ne_true
 have hlong:¬ Builtin.List.listTooLong (its.toArray.size * k.toNat)=true:=by
  rw [notLongL hlen]
  exact Bool.false_ne_true
 have hnew:List.foldl (fun x1 x2=>x1++x2) #[] (List.replicate (if its.toArray.isEmpty=true then 0 else k.toNat) its.toArray)=(List.replicate k.toNat its).flatten.toArray:=by
  have f0:∀ m:Nat,List.foldl (fun x1 x2=>x1++x2) #[] (List.replicate m its.toArray)=(List.replicate m its).flatten.toArray:=fun m=>by
   have:=foldl_rep its m []
   rw [List.nil_append] at this
   exact this
  rw [f0]
  cases its with
  | nil=>simp
  | cons a r'=>rw [if_neg (by simp)]
 refine wpAny_binaryOp_repeat_ref (T:="list") (U:="int") (by decide) ⟨_,e,rfl⟩ (fun s'=>typeIs_int s' k t) noFill_list_mul F.fills_int_mul F.slot_int_rmul repeat_list F.slot_int_index.lookup
  (call_meets F.slot_int_rmul (typeIs_int s k t) F.entry_int_rmul (F.args_int_rmul_2 _ _) (int___rmul___int_list k t l its.toArray n)
   ⟨e,rfl,⟨_,e,rfl⟩,call_meets F.slot_list_mul ⟨_,e,rfl⟩ F.entry_list_mul (F.args_list_mul_2 _ _) (AutoListH.list___mul___list_int_3 l its.toArray n k t hfit hcap hlong) ⟨e,?_⟩⟩)
 rw [hnew]
 exact ⟨.ref _,_,I.lnew (t':=s.toks) (r.rep k.toNat) (by rw [len_rep,Nat.mul_comm];exact hz),rfl,q _ I.fresh⟩
end
section
variable {prog:Program} {w:World} {A:Around} {E:Value→Shared→Prop} {s:Shared}
end
section
variable {X:Cx}
end
section
variable {κ:Type} [DecidableEq κ]
def valV (kvs:List (κ×V)) (k:κ):Option V:=(kvs.find? fun kv=>decide (kv.1=k)).map (·.2)
def putK (kvs:List (κ×V)) (k:κ) (v:V):List (κ×V):=
 if (kvs.any fun kv=>decide (kv.1=k))=true then kvs.map (fun kv=>if kv.1=k then (kv.1,v) else kv) else kvs++[(k,v)]
def valV_pos {p:κ×V}{r:List (κ×V)}{k:κ}(e:p.1=k):valV (p :: r) k=some p.2:=by simp [valV,List.find?_cons,e]
def valV_neg {p:κ×V}{r:List (κ×V)}{k:κ}(e:¬ p.1=k):valV (p :: r) k=valV r k:=by simp [valV,List.find?_cons,e]
theorem valV_any (k:κ):∀ kvs:List (κ×V),(kvs.any fun kv=>decide (kv.1=k))=(valV kvs k).isSome
 | []=>rfl
 | p :: r=>by
  rw [List.any_cons]
  by_cases e:p.1=k
  ·simp only [valV_pos e,decide_eq_true e,Bool.true_or,Option.isSome_some]
  ·rw [valV_neg e,decide_eq_false e,Bool.false_or];exact valV_any k r
theorem valV_map (k j:κ) (y:V):∀ kvs:List (κ×V),valV (kvs.map fun kv=>if kv.1=k then (kv.1,y) else kv) j=(valV kvs j).map fun x=>if j=k then y else x
 | []=>rfl
 | p :: r=>by
  have ih:=valV_map k j y r
  rw [List.map_cons]
  by_cases h:p.1=k
  ·rw [if_pos h]
   by_cases e:p.1=j
   ·rw [valV_pos (p:=(p.1,y)) e,valV_pos e,Option.map_some,if_pos (e.symm.trans h)]
   ·rw [valV_neg (p:=(p.1,y)) e,valV_neg e,ih]
  ·rw [if_neg h]
   by_cases e:p.1=j
   ·rw [valV_pos (p:=p) e,valV_pos e,Option.map_some,if_neg (fun z=>h (e.trans z))]
   ·rw [valV_neg (p:=p) e,valV_neg e,ih]
theorem valV_snoc (k j:κ) (y:V):∀ kvs:List (κ×V),valV kvs k=none→valV (kvs++[(k,y)]) j=if j=k then some y else valV kvs j
 | [],_=>by
  by_cases e:k=j
  ·rw [if_pos e.symm];exact valV_pos (p:=(k,y)) e
  ·rw [if_neg (fun z=>e z.symm)];exact valV_neg (p:=(k,y)) e
 | p :: r,hn=>by
  rw [List.cons_append]
  have hk:¬ p.1=k:=fun z=>by rw [valV_pos z] at hn;cases hn
  rw [valV_neg hk] at hn
  have ih:=valV_snoc k j y r hn
  by_cases e:p.1=j
  ·rw [valV_pos e,valV_pos e,if_neg (fun z=>hk (e.trans z))]
  ·rw [valV_neg e,valV_neg e,ih]
def valV_put (kvs:List (κ×V)) (k j:κ) (y:V):valV (putK kvs k y) j=if j=k then some y else valV kvs j:=by
 unfold putK
 by_cases a:(kvs.any fun kv=>decide (kv.1=k))=true
 ·rw [if_pos a,valV_map]
  rw [valV_any] at a
  by_cases e:j=k
  ·obtain ⟨x,hx⟩:=Option.isSome_iff_exists.mp a
   rw [if_pos e,e,hx,Option.map_some,if_pos rfl]
  ·rw [if_neg e]
   cases valV kvs j with
   | none=>rfl
   | some x=>rw [Option.map_some,if_neg e]
 ·rw [if_neg a]
  refine valV_snoc k j y kvs ?_
  rw [valV_any] at a
  cases q:valV kvs k with
  | none=>rfl
  | some x=>rw [q] at a;exact (a rfl).elim
def length_putK (kvs:List (κ×V)) (k:κ) (v:V):(putK kvs k v).length≤kvs.length + 1:=by
 unfold putK
 split
 ·rw [List.length_map];omega
 ·rw [List.length_append,List.length_cons,List.length_nil];omega
def putK_new {kvs:List (κ×V)}{k:κ}(v:V) (h:valV kvs k=none):putK kvs k v=kvs++[(k,v)]:=by
 unfold putK
 rw [valV_any,h]
 exact if_neg (by decide)
def RelO.isSome_eq {o:Option V}{u:Option Value}(r:RelO o u):o.isSome=u.isSome:=by
 cases o with
 | none=>cases u with
  | none=>rfl
  | some _=>exact (show False from r).elim
 | some _=>cases u with
  | none=>exact (show False from r).elim
  | some _=>rfl
def KV.val {kvs:List (κ×V)}{vs:List (κ×Value)}(r:KV kvs vs) (k:κ):RelO (valV kvs k) (valueAt vs k):=by
 unfold KV at r
 induction r with
 | nil=>exact True.intro
 | @cons p q ps qs h t ih =>
  obtain ⟨h1,h2⟩:=h
  by_cases e:p.1=k
  ·have e':q.1=k:=h1.symm.trans e
   have b:valueAt (q :: qs) k=some q.2:=by simp [valueAt,List.find?_cons,e']
   rw [valV_pos e,b];exact h2
  ·have e':¬ q.1=k:=fun z=>e (h1.trans z)
   have b:valueAt (q :: qs) k=valueAt qs k:=by simp [valueAt,List.find?_cons,e']
   rw [valV_neg e,b];exact ih
theorem KV.any {kvs:List (κ×V)}{vs:List (κ×Value)}(r:KV kvs vs) (k:κ):(kvs.any fun kv=>decide (kv.1=k))=vs.any fun kv=>decide (kv.1=k):=by
 unfold KV at r
 induction r with
 | nil=>rfl
 | cons h t ih=>rw [List.any_cons,List.any_cons,ih,h.1]
def KV.repl {kvs:List (κ×V)}{vs:List (κ×Value)}(r:KV kvs vs) (k:κ) {y:V}{u:Value}(ry:RelV y u):
  KV (kvs.map fun kv=>if kv.1=k then (kv.1,y) else kv) (vs.map fun kv=>if kv.1=k then (kv.1,u) else kv):=by
 unfold KV at r ⊢
 induction r with
 | nil=>exact .nil
 | @cons p q ps qs h t ih =>
  rw [List.map_cons,List.map_cons]
  refine .cons ?_ ih
  obtain ⟨h1,h2⟩:=h
  by_cases e:p.1=k
  ·rw [if_pos e,if_pos (h1.symm.trans e)];exact ⟨h1,ry⟩
  ·rw [if_neg e,if_neg (fun z=>e (h1.trans z))];exact ⟨h1,h2⟩
def KV.put {kvs:List (κ×V)}{vs:List (κ×Value)}(r:KV kvs vs) (k:κ) {y:V}{u:Value}(ry:RelV y u):KV (putK kvs k y) (stored vs k u):=by
 unfold putK stored
 rw [r.any k]
 by_cases e:(vs.any fun kv=>decide (kv.1=k))=true
 ·rw [if_pos e,if_pos e];exact r.repl k ry
 ·rw [if_neg e,if_neg e];exact Paired.snoc r ⟨rfl,ry⟩
theorem KV.length {kvs:List (κ×V)}{vs:List (κ×Value)}(r:KV kvs vs):kvs.length=vs.length:=Paired.length r
end
def kV_is {P:Program}{w:World}{k:Key}{u:Value}(r:RelV (kV k) u):(mixKind P w).is k u=true:=by
 cases k with
 | inl i=>obtain ⟨t,e⟩:=(show ∃ t,u=Value.int i t from r);subst e;exact mixKind_int P w i t
 | inr x=>obtain ⟨t,e⟩:=(show ∃ t,u=Value.str x t from r);subst e;exact mixKind_str P w x t
theorem items_are {P:Program}{w:World}:∀ {ks:List Key}{us:List Value},Vals (ks.map kV) us→ItemsAre (mixKind P w) ks us
 | [],_,r=>by rw [List.map_nil] at r;cases r;exact .nil
 | k :: ks,_,r=>by
  rw [List.map_cons] at r
  cases r with
  | cons h t=>exact .cons (kV_is h) (items_are t)
abbrev KT (H:Hp):List (List Key×V)→List (List Key×Addr×Value)→Prop:=Paired fun p q=>p.1=q.1∧H q.2.1=some (.tup (p.1.map kV))∧RelV p.2 q.2.2
def KT.val {H:Hp}{kvs:List (List Key×V)}{xs:List (List Key×Addr×Value)}(r:KT H kvs xs) (k:List Key):RelO (valV kvs k) ((atKey xs k).map (·.2)):=by
 induction r with
 | nil=>exact True.intro
 | @cons p q ps qs h t ih =>
  obtain ⟨h1,_,h2⟩:=h
  by_cases e:p.1=k
  ·have e':q.1=k:=h1.symm.trans e
   have b:atKey (q :: qs) k=some q.2:=by simp [atKey,List.find?_cons,e']
   rw [valV_pos e,b];exact h2
  ·have e':¬ q.1=k:=fun z=>e (h1.trans z)
   have b:atKey (q :: qs) k=atKey qs k:=by simp [atKey,List.find?_cons,e']
   rw [valV_neg e,b];exact ih
def KT.repl {H:Hp}{kvs:List (List Key×V)}{xs:List (List Key×Addr×Value)}(r:KT H kvs xs) (k:List Key) {y:V}{u:Value}(ry:RelV y u):
  KT H (kvs.map fun kv=>if kv.1=k then (kv.1,y) else kv) (xs.map (putAt k u)):=by
 induction r with
 | nil=>exact .nil
 | @cons p q ps qs h t ih =>
  rw [List.map_cons,List.map_cons]
  refine .cons ?_ ih
  obtain ⟨h1,h2,h3⟩:=h
  unfold putAt
  by_cases e:p.1=k
  ·rw [if_pos e,if_pos (h1.symm.trans e)];exact ⟨h1,h2,ry⟩
  ·rw [if_neg e,if_neg (fun z=>e (h1.trans z))];exact ⟨h1,h2,h3⟩
def KT.put {H:Hp}{kvs:List (List Key×V)}{xs:List (List Key×Addr×Value)}(r:KT H kvs xs) (k:List Key) {b:Addr}{y:V}{u:Value}(hb:H b=some (.tup (k.map kV))) (ry:RelV y u):
  KT H (putK kvs k y) (storedH xs k b u):=by
 have e:(kvs.any fun kv=>decide (kv.1=k))=(atKey xs k).isSome:=by
  rw [valV_any,(r.val k).isSome_eq,Option.isSome_map]
 unfold putK storedH
 rw [e]
 by_cases q:(atKey xs k).isSome=true
 ·rw [if_pos q,if_pos q];exact r.repl k ry
 ·rw [if_neg q,if_neg q];exact Paired.snoc r ⟨rfl,hb,ry⟩
def KT.keeps {H H':Hp}{kvs:List (List Key×V)}{xs:List (List Key×Addr×Value)}(r:KT H kvs xs) (ht:∀ b ys,H b=some (.tup ys)→H' b=some (.tup ys)):KT H' kvs xs :=
 Paired.mapP r fun _ _ z=>⟨z.1,ht _ _ z.2.1,z.2.2⟩
section
variable {P:Program} {w:World} {H:Hp} {h:Heap} {a:Addr}
def rd_of {u:HO}(ok:HOk P w H h) (e:Rd H a u):ObjOk P w H h a u:=e.ok ok
def dk_rd {kvs:List (Key×V)}(ok:HOk P w H h) (e:Rd H a (.dK kvs)):kvs.length≤sizeLine∧(a == sysModules)=false∧∃ vs,KV kvs vs∧h.DictOf (mixKind P w) a vs :=
 show ObjOk P w H h a (.dK kvs) from rd_of ok e
def dk_of {kvs:List (Key×V)}(ok:HOk P w H h) (e:H a=some (.dK kvs)):kvs.length≤sizeLine∧(a == sysModules)=false∧∃ vs,KV kvs vs∧h.DictOf (mixKind P w) a vs:=dk_rd ok (.inl e)
def key_of {ks:List Key}(ok:HOk P w H h) (e:H a=some (.tup (ks.map kV))):(tupleKind (mixKind P w)).is h ks a:=by
 obtain ⟨_,its,r,o,h1,h2,n,h3⟩:=(show ObjOk P w H h a (.tup (ks.map kV)) from ok a _ e)
 exact ⟨o,its.toArray,n,h1,h2,h3,by simpa using items_are r⟩
def dt_rd {kvs:List (List Key×V)}(ok:HOk P w H h) (e:Rd H a (.dT kvs)):kvs.length≤sizeLine∧(a == sysModules)=false ∧
  ∃ xs,KT H kvs xs∧h.DictOfH (tupleKind (mixKind P w)) a xs:=by
 obtain ⟨z,y,xs,r,o,es,ep,h1,h2,h3,h4,h5⟩:=(show ObjOk P w H h a (.dT kvs) from rd_of ok e)
 refine ⟨z,y,xs,r,o,es,ep,h1,h2,h3,h4,fun x hx=>?_,h5⟩
 have all:∀ {l:List (List Key×V)} {m:List (List Key×Addr×Value)},KT H l m→∀ x∈m,(tupleKind (mixKind P w)).is h x.1 x.2.1:=by
  intro l m q
  induction q with
  | nil=>intro x hx;exact nomatch hx
  | @cons p q ps qs hq t ih =>
   intro x hx
   rcases List.mem_cons.mp hx with e | hx
   ·subst e
    exact key_of ok (by rw [← hq.1];exact hq.2.1)
   ·exact ih x hx
 exact all r x hx
def dt_of {kvs:List (List Key×V)}(ok:HOk P w H h) (e:H a=some (.dT kvs)):kvs.length≤sizeLine∧(a == sysModules)=false ∧
  ∃ xs,KT H kvs xs∧h.DictOfH (tupleKind (mixKind P w)) a xs:=dt_rd ok (.inl e)
end
def DGet (H:Hp) (a:Addr) (y:V) (r:Option V):Prop :=
 (∃ kvs k,Rd H a (.dK kvs)∧y=kV k∧r=valV kvs k)∨∃ kvs k b,Rd H a (.dT kvs)∧y=.ref b∧H b=some (.tup (k.map kV))∧r=valV kvs k
def DPut (H:Hp) (a:Addr) (y v:V) (H':Hp):Prop :=
 (∃ kvs k,H a=some (.dK kvs)∧y=kV k∧kvs.length<sizeLine∧H'=upd H a (.dK (putK kvs k v))) ∨
 ∃ kvs k b,H a=some (.dT kvs)∧y=.ref b∧H b=some (.tup (k.map kV))∧kvs.length<sizeLine∧H'=upd H a (.dT (putK kvs k v))
def DGet.k {H:Hp}{a:Addr}{kvs:List (Key×V)}{k:Key}(e:H a=some (.dK kvs)):DGet H a (kV k) (valV kvs k):=.inl ⟨kvs,k,.inl e,rfl,rfl⟩
def DGet.t {H:Hp}{a b:Addr}{kvs:List (List Key×V)}{k:List Key}(e:H a=some (.dT kvs)) (eb:H b=some (.tup (k.map kV))):DGet H a (.ref b) (valV kvs k):=.inr ⟨kvs,k,b,.inl e,rfl,eb,rfl⟩
def DPut.k {H:Hp}{a:Addr}{kvs:List (Key×V)}{k:Key}{v:V}(e:H a=some (.dK kvs)) (hl:kvs.length<sizeLine):DPut H a (kV k) v (upd H a (.dK (putK kvs k v))):=.inl ⟨kvs,k,e,rfl,hl,rfl⟩
def DPut.t {H:Hp}{a b:Addr}{kvs:List (List Key×V)}{k:List Key}{v:V}(e:H a=some (.dT kvs)) (eb:H b=some (.tup (k.map kV))) (hl:kvs.length<sizeLine):
  DPut H a (.ref b) v (upd H a (.dT (putK kvs k v))):=.inr ⟨kvs,k,b,e,rfl,eb,hl,rfl⟩
section
variable {X:Cx} {pins:List (Addr×Obj)} {σ:St} {H:Hp} {s:Shared} {a:Addr} {y v:V} {u r:Value} {o:Option V} {A:Around} {E:Value→Shared→Prop}
def Inv.big (I:Inv X pins σ H s):sysModules<s.heap.objs.size:=by
 have h:mainGlobals<s.heap.objs.size:=(I.mod.glob.keeps I.bk).lt
 exact Nat.lt_trans (by decide) h
def d_getItem {Q:Value→Shared→Prop}(hu:A.units + 1<cLine) (I:Inv X pins σ H s) (g:DGet H a y (some v)) (ry:RelV y u) (h:∀ w' s',Inv X pins σ H s'→RelV v w'→Q w' s'):
  wpAny (model X.prog X.w) A (getItem (.ref a) u) Q E s:=by
 rcases g with ⟨kvs,k,e,ey,l⟩ | ⟨kvs,k,b,e,ey,eb,l⟩
 ·subst ey
  obtain ⟨z,hd,vs,rel,dd⟩:=dk_rd I.hok e
  obtain ⟨w',hw,rw'⟩:=RelO.some_of (v:=v) (o:=valueAt vs k) (by rw [l];exact rel.val k)
  exact wpAny_getItem_of (kV_is ry) dd.mapOf hw (h w' _ (I.tok _) rw')
 ·subst ey
  cases (show u=Value.ref b from ry)
  obtain ⟨z,hd,xs,rel,dd⟩:=dt_rd I.hok e
  obtain ⟨w',hw,rw'⟩:=RelO.some_of (v:=v) (o:=(atKey xs k).map (·.2)) (by rw [l];exact rel.val k)
  obtain ⟨p,hp,hp2⟩:=Option.map_eq_some_iff.mp hw
  refine wpAny_getItem_heap (tupleKind_room_in1 hu) (key_of I.hok eb) dd hp ?_
  rw [hp2]
  exact h w' _ (I.tok _) rw'
def d_in {Q:Value→Shared→Prop}(hu:A.units + 1<cLine) (I:Inv X pins σ H s) (g:DGet H a y o) (ry:RelV y u) (h:∀ s',Inv X pins σ H s'→Q (.bool o.isSome) s'):
  wpAny (model X.prog X.w) A (compareOp .In u (.ref a)) Q E s:=by
 rcases g with ⟨kvs,k,e,ey,l⟩ | ⟨kvs,k,b,e,ey,eb,l⟩
 ·subst ey
  obtain ⟨z,hd,vs,rel,dd⟩:=dk_rd I.hok e
  refine wpAny_in_of (kV_is ry) hd dd.mapOf ?_
  rw [← (rel.val k).isSome_eq,← l]
  exact h _ (I.tok _)
 ·subst ey
  cases (show u=Value.ref b from ry)
  obtain ⟨z,hd,xs,rel,dd⟩:=dt_rd I.hok e
  refine wpAny_in_heap (tupleKind_room_in1 hu) (key_of I.hok eb) hd dd ?_
  have q:=(rel.val k).isSome_eq
  rw [Option.isSome_map] at q
  rw [← q,← l]
  exact h _ (I.tok _)
def d_notIn {Q:Value→Shared→Prop}(hu:A.units + 1<cLine) (I:Inv X pins σ H s) (g:DGet H a y o) (ry:RelV y u) (h:∀ s',Inv X pins σ H s'→Q (.bool (!o.isSome)) s'):
  wpAny (model X.prog X.w) A (compareOp .NotIn u (.ref a)) Q E s:=by
 rcases g with ⟨kvs,k,e,ey,l⟩ | ⟨kvs,k,b,e,ey,eb,l⟩
 ·subst ey
  obtain ⟨z,hd,vs,rel,dd⟩:=dk_rd I.hok e
  refine wpAny_notIn_of (kV_is ry) hd dd.mapOf ?_
  rw [← (rel.val k).isSome_eq,← l]
  exact h _ (I.tok _)
 ·subst ey
  cases (show u=Value.ref b from ry)
  obtain ⟨z,hd,xs,rel,dd⟩:=dt_rd I.hok e
  refine wpAny_notIn_heap (tupleKind_room_in1 hu) (key_of I.hok eb) hd dd ?_
  have q:=(rel.val k).isSome_eq
  rw [Option.isSome_map] at q
  rw [← q,← l]
  exact h _ (I.tok _)
def d_write {h':Heap}{t':Nat}{ob:HO}(I:Inv X pins σ H s) (mu:Mut (H a)) (hs:Heap.SameBut a s.heap h') (he:∃ q,h'.get? a=some q) (new:ObjOk X.prog X.w (upd H a ob) h' a ob):
  Inv X pins σ (upd H a ob) { s with heap:=h',toks:=t' } :=
 I.write (x:=a) (e:=a) mu (.inl rfl) (fun b q hb z=>(hs.2 b hb).trans z) he new
def dk_new {P:Program}{w:World}{H':Hp}{h':Heap}{kvs:List (Key×V)}{vs:List (Key×Value)}(z:kvs.length≤sizeLine) (hd:(a == sysModules)=false) (rel:KV kvs vs) (dd:h'.DictOf (mixKind P w) a vs):
  ObjOk P w H' h' a (.dK kvs):=⟨z,hd,vs,rel,dd⟩
def d_setItem {H':Hp}{Q:Unit→Shared→Prop}(hu:A.units + 1<cLine) (I:Inv X pins σ H s) (g:DPut H a y v H') (ry:RelV y u) (rv:RelV v r) (h:∀ s',Inv X pins σ H' s'→Q () s'):
  wpAny (model X.prog X.w) A (setItem (.ref a) u r) Q E s:=by
 rcases g with ⟨kvs,k,e,ey,l,eH⟩ | ⟨kvs,k,b,e,ey,eb,l,eH⟩
 ·subst ey eH
  obtain ⟨z,hd,vs,rel,dd⟩:=dk_of I.hok e
  have hz:vs.length≤sizeLine:=by rw [← rel.length];exact z
  have hl:(putK kvs k v).length≤sizeLine:=by have:=length_putK kvs k v;omega
  refine wpAny_setItem_pairs (hsz:=hz) (kV_is ry) dd fun h' dd' hs=>h _ ?_
  have he:∃ q,h'.get? a=some q:=let ⟨q,_,_,hq,_⟩:=dd';⟨q,hq⟩
  exact d_write I (by rw [e];exact True.intro) hs he (dk_new hl hd (rel.put k rv) dd')
 ·subst ey eH
  cases (show u=Value.ref b from ry)
  obtain ⟨z,hd,xs,rel,dd⟩:=dt_of I.hok e
  have hz:xs.length≤sizeLine:=by rw [← Paired.length rel];exact z
  have hl:(putK kvs k v).length≤sizeLine:=by have:=length_putK kvs k v;omega
  refine wpAny_setItem_heap (hsz:=hz) (tupleKind_room_in1 hu) (key_of I.hok eb) dd fun h' dd' hs=>h _ ?_
  obtain ⟨q,es,ep,hq,h2,h3,h4,_,h5⟩:=dd'
  refine d_write I (by rw [e];exact True.intro) hs ⟨q,hq⟩ ⟨hl,hd,_,(rel.put k eb rv).keeps fun c ys ec=>?_,q,es,ep,hq,h2,h3,h4,h5⟩
  rw [upd_ne (ne_of ec e (fun z=>nomatch z))]
  exact ec
end
section
variable {X:Cx} {pins:List (Addr×Obj)} {σ:St} {H:Hp} {s:Shared} {a:Addr} {kvs:List (Key×V)} {k:Key} {u:Value} {A:Around} {E:Value→Shared→Prop}
end
def NoSl (i:Expr):Prop:=∀ ov iv,subscripted i false ov iv=operate [ov,iv] (getItem ov iv)
def subD_of {prog:Program}{w:World}{A:Around}{E:Value→Shared→Prop}{s:Shared}{env:Env}{value slice:Expr}{pos:Pos}{T id:String}{Q:Value→Shared→Prop}
  (hl:typeLookup (.type T) "__getitem__"=pure (some (.builtin id))) (hs:NoSl slice)
  (h:wpAny (model prog w) A (eval value env) (fun o s₁=>wpAny (model prog w) A (eval slice env) (fun i s₂=>s₂.TypeIs o T∧wpAny (model prog w) A (getItem o i) Q E s₂) E s₁) E s):
  wpAny (model prog w) A (eval (.Subscript value slice pos) env) Q E s:=by
 refine Subscript_ (wpAny_mono h (fun o s₁ h₁=>wpAny_mono h₁ (fun i s₂ h₂=>?_) fun _ _ x=>x) fun _ _ x=>x)
 obtain ⟨hT,h₂⟩:=h₂
 unfold subscriptTail
 refine wpAny_bind ?_
 rw [getitemInPython_of_ne hT.not_modules]
 refine wpAny_bind (wpAny_specialOf hT hl ?_)
 have fin:wpAny (model prog w) A (subscripted slice false o i) (fun r s₃=>wpAny (model prog w) A (letTemporaryGo value o r>>=fun _=>pure r) Q E s₃) E s₂:=by
  rw [hs o i]
  exact wpAny_operating (wpAny_mono h₂ (fun r s₃ h₃=>wpAny_bind (wpAny_letTemporaryGo (wpAny_pure h₃))) fun _ _ x=>x)
 first
  | exact wpAny_pure (wpAny_bind fin)
  | exact wpAny_bind (wpAny_pure (wpAny_bind fin))
  | exact wpAny_bind fin
def dict_typeIs {X:Cx}{pins:List (Addr×Obj)}{σ:St}{H:Hp}{s:Shared}{a:Addr}{y:V}{o:Option V}(I:Inv X pins σ H s) (g:DGet H a y o):s.TypeIs (.ref a) "dict":=by
 rcases g with ⟨kvs,k,e,_,_⟩ | ⟨kvs,k,b,e,_,_,_⟩
 ·obtain ⟨_,_,vs,_,dd⟩:=dk_rd I.hok e
  exact dd.typeIs
 ·obtain ⟨_,_,xs,_,dd⟩:=dt_rd I.hok e
  exact dd.typeIs
def tDGet (td ty:TE):TE:=fun σ H Q=>td σ H fun x H1=>ty σ H1 fun y H2=>∃ a v,x=.ref a∧DGet H2 a y (some v)∧Q v H2
def tDIn (ty td:TE):TE:=fun σ H Q=>ty σ H fun y H1=>td σ H1 fun x H2=>∃ a o,x=.ref a∧DGet H2 a y o∧Q (.bl o.isSome) H2
def tDNotIn (ty td:TE):TE:=fun σ H Q=>ty σ H fun y H1=>td σ H1 fun x H2=>∃ a o,x=.ref a∧DGet H2 a y o∧Q (.bl (!o.isSome)) H2
def sDPut (td ty tv:TE):TS:=fun D σ H=>tv σ H fun v H1=>td σ H1 fun x H2=>ty σ H2 fun y H3=>∃ a H4,x=.ref a∧DPut H3 a y v H4∧D.nx σ H4
section
variable {X:Cx} {o i e value:Expr} {pos pos' tpos:Pos} {td ty tv:TE}
def pe_dget (hu:X.A.units + 1<cLine) (ho:PE X o td) (hi:PE X i ty) (hs:NoSl i):PE X (.Subscript o i pos) (tDGet td ty):=by
 intro pins s σ H Q I h
 refine subD_of PySem.F.slot_dict_getitem.lookup hs (thn (ho pins s σ H _ I h) fun u s1 ⟨x,H1,I1,rx,q1⟩=>thn (hi pins s1 σ H1 _ I1 q1) fun iv s2 ⟨y,H2,I2,ry,a,v,ex,g,q2⟩=>?_)
 subst ex
 obtain rfl:u=Value.ref a:=rx
 exact ⟨dict_typeIs I2 g,d_getItem hu I2 g ry fun w' s3 I3 rw'=>⟨v,H2,I3,rw',q2⟩⟩
def pc_din (hu:X.A.units + 1<cLine) (hi:PE X i ty) (ho:PE X o td):PC X .In i o (tDIn ty td):=by
 intro pins s σ H Q I h
 refine thn (hi pins s σ H _ I h) fun iv s1 ⟨y,H1,I1,ry,q1⟩=>thn (ho pins s1 σ H1 _ I1 q1) fun u s2 ⟨x,H2,I2,rx,a,ov,ex,g,q2⟩=>?_
 subst ex
 obtain rfl:u=Value.ref a:=rx
 exact d_in hu I2 g ry fun s3 I3=>⟨.bl ov.isSome,H2,I3,rfl,q2⟩
def pc_dnotin (hu:X.A.units + 1<cLine) (hi:PE X i ty) (ho:PE X o td):PC X .NotIn i o (tDNotIn ty td):=by
 intro pins s σ H Q I h
 refine thn (hi pins s σ H _ I h) fun iv s1 ⟨y,H1,I1,ry,q1⟩=>thn (ho pins s1 σ H1 _ I1 q1) fun u s2 ⟨x,H2,I2,rx,a,ov,ex,g,q2⟩=>?_
 subst ex
 obtain rfl:u=Value.ref a:=rx
 exact d_notIn hu I2 g ry fun s3 I3=>⟨.bl (!ov.isSome),H2,I3,rfl,q2⟩
def ps_dput (hu:X.A.units + 1<cLine) (ho:PE X o td) (hi:PE X i ty) (hv:PE X value tv) (hs:swapsWith value (some (.Subscript o i pos')) pos.line X.env=pure false):
  PS X (.Assign [.Subscript o i pos'] value pos) (sDPut td ty tv):=by
 intro pins s σ H D I h
 refine wpAny_Assign_Subscript (thn (hv pins s σ H _ I h) fun r s1 ⟨v,H1,I1,rv,q1⟩=>thn (ho pins s1 σ H1 _ I1 q1) fun u s2 ⟨x,H2,I2,rx,q2⟩=>thn (hi pins s2 σ H2 _ I2 q2) fun iv s3 ⟨y,H3,I3,ry,a,H4,ex,g,q3⟩=>?_) hs
 subst ex
 obtain rfl:u=Value.ref a:=rx
 exact d_setItem hu I3 g ry rv fun s4 I4=>⟨σ,H4,I4,q3⟩
end
def dk_empty {P:Program}{w:World}{H:Hp}(h:Heap) (hb:sysModules<h.objs.size):ObjOk P w H (h.push { cls:=.type "dict",data:=.dict #[] }) h.objs.size (.dK []):=
 ⟨Nat.zero_le _,beq_eq_false_iff_ne.mpr (Ne.symm (Nat.ne_of_lt hb)),[],.nil,Heap.DictOf.new h⟩
def dt_empty {P:Program}{w:World}{H:Hp}(h:Heap) (hb:sysModules<h.objs.size):ObjOk P w H (h.push { cls:=.type "dict",data:=.dict #[] }) h.objs.size (.dT []):=
 ⟨Nat.zero_le _,beq_eq_false_iff_ne.mpr (Ne.symm (Nat.ne_of_lt hb)),[],.nil,_,#[],0,Heap.get?_push_size _ rfl,⟨rfl,rfl,rfl⟩,rfl,rfl,List.nodup_nil⟩
def tDNewK:TE:=fun _ H Q=>∀ p,H p=none→Q (.ref p) (upd H p (.dK []))
def tDNewT:TE:=fun _ H Q=>∀ p,H p=none→Q (.ref p) (upd H p (.dT []))
section
variable {X:Cx} {pos:Pos}
def pe_dnewK:PE X (.Dict [] [] pos) tDNewK:=fun pins s σ H Q I h =>
 wpAny_Dict_empty ⟨.ref s.heap.objs.size,_,I.laid (a:=s.heap.objs.size) (o:=.dK []) (t':=s.toks) (fun _ _ q=>Heap.get?_push_of_some _ q) (Nat.le_refl _) (dk_empty s.heap I.big),rfl,h _ (I.hok.fresh (Nat.le_refl _))⟩
def pe_dnewT:PE X (.Dict [] [] pos) tDNewT:=fun pins s σ H Q I h =>
 wpAny_Dict_empty ⟨.ref s.heap.objs.size,_,I.laid (a:=s.heap.objs.size) (o:=.dT []) (t':=s.toks) (fun _ _ q=>Heap.get?_push_of_some _ q) (Nat.le_refl _) (dt_empty s.heap I.big),rfl,h _ (I.hok.fresh (Nat.le_refl _))⟩
end
def tPairs:List (TE×TE)→St→Hp→(List (V×V)→Hp→Prop)→Prop
 | [],_,H,Q=>Q [] H
 | (tk,tv):: r,σ,H,Q=>tk σ H fun x H1=>tv σ H1 fun y H2=>tPairs r σ H2 fun ps H3=>Q ((x,y):: ps) H3
abbrev VV:List (V×V)→List (Value×Value)→Prop:=Paired fun p q=>RelV p.1 q.1∧RelV p.2 q.2
def PPs (X:Cx) (pos:Pos) (keys:List (Option Expr)) (values:List Expr) (trs:List (TE×TE)):Prop :=
 ∀ (pins:List (Addr×Obj)) (s:Shared) (σ:St) (H:Hp) (Q:List (V×V)→Hp→Prop),Inv X pins σ H s→tPairs trs σ H Q →
  wpAny (model X.prog X.w) X.A (evalPairs (pairTrees keys values X.env pos)) (fun vs s'=>∃ ps H',Inv X pins σ H' s'∧VV ps vs∧Q ps H') X.xe s
def pps_nil {X:Cx}{pos:Pos}:PPs X pos [] [] []:=fun pins s σ H Q I h=>pairTrees_nil_walk ⟨[],H,I,.nil,h⟩
def pps_cons {X:Cx}{pos:Pos}{k v:Expr}{ks:List (Option Expr)}{vs:List Expr}{tk tv:TE}{trs:List (TE×TE)}(hk:PE X k tk) (hv:PE X v tv) (hr:PPs X pos ks vs trs):
  PPs X pos (some k :: ks) (v :: vs) ((tk,tv):: trs):=fun pins s σ H Q I h =>
 pairTrees_cons_walk (thn (hk pins s σ H _ I h) fun u s1 ⟨x,H1,I1,rx,q1⟩=>thn (hv pins s1 σ H1 _ I1 q1) fun w2 s2 ⟨y,H2,I2,ry,q2⟩ =>
  thn (hr pins s2 σ H2 _ I2 q2) fun ws s3 ⟨ps,H3,I3,rel,q3⟩=>⟨(x,y):: ps,H3,I3,.cons ⟨rx,ry⟩ rel,q3⟩)
def mergeK (kvs more:List (Key×V)):List (Key×V):=more.foldl (fun acc kv=>putK acc kv.1 kv.2) kvs
def KV.merge:∀ {more:List (Key×V)}{rs:List (Key×Value)}{kvs:List (Key×V)}{vs:List (Key×Value)},KV more rs→KV kvs vs→KV (mergeK kvs more) (merged vs rs):=by
 intro more rs kvs vs r
 unfold KV at r
 induction r generalizing kvs vs with
 | nil=>intro q;exact q
 | @cons p q ps qs h t ih =>
  intro r0
  have e:KV (putK kvs p.1 p.2) (stored vs q.1 q.2):=by
   have:=r0.put p.1 h.2
   rw [← h.1];exact this
  exact ih e
theorem length_mergeK:∀ (more kvs:List (Key×V)),(mergeK kvs more).length≤kvs.length + more.length
 | [],kvs=>by show kvs.length≤kvs.length + 0;omega
 | p :: r,kvs=>by
  have h1:=length_mergeK r (putK kvs p.1 p.2)
  have h2:=length_putK kvs p.1 p.2
  show (mergeK (putK kvs p.1 p.2) r).length≤_
  rw [List.length_cons];omega
theorem carries_of {P:Program}{w:World}:∀ {kvs:List (Key×V)}{ws:List (Value×Value)},VV (kvs.map fun kv=>(kV kv.1,kv.2)) ws→∃ rs,Carries (mixKind P w) ws rs∧KV kvs rs
 | [],_,r=>by rw [List.map_nil] at r;cases r;exact ⟨[],True.intro,.nil⟩
 | p :: kvs,_,r=>by
  rw [List.map_cons] at r
  cases r with
  | @cons a b as bs h t =>
   obtain ⟨rs,c,q⟩:=carries_of (P:=P) (w:=w) t
   obtain ⟨b1,b2⟩:=b
   exact ⟨(p.1,b2):: rs,⟨kV_is h.1,rfl,c⟩,.cons ⟨rfl,h.2⟩ q⟩
def tDisp (trs:List (TE×TE)):TE:=fun σ H Q=>∀ p,H p=none→tPairs trs σ (upd H p (.dK [])) fun ps H2=>H2 p=some (.dK [])∧∃ kvs:List (Key×V),ps=kvs.map (fun kv=>(kV kv.1,kv.2))∧kvs.length≤15∧Q (.ref p) (upd H2 p (.dK (mergeK [] kvs)))
def pe_disp {X:Cx}{pos:Pos}{keys:List (Option Expr)}{values:List Expr}{trs:List (TE×TE)}(h:PPs X pos keys values trs) (hall:keys.all (·.isSome)=true) (hl:keys.length=values.length) (h0:keys≠[])
  (h15:keys.length≤15):PE X (.Dict keys values pos) (tDisp trs):=by
 intro pins s σ H Q I q
 have hn:=I.hok.fresh (Nat.le_refl s.heap.objs.size)
 have I1:=I.laid (a:=s.heap.objs.size) (o:=.dK []) (h':=s.heap.push { cls:=.type "dict",data:=.dict #[] }) (t':=s.toks) (fun _ _ q=>Heap.get?_push_of_some _ q) (Nat.le_refl _) (dk_empty s.heap I.big)
 refine wpAny_Dict_walk (knd:=mixKind X.prog X.w) hall hl h0 h15 (thn (h pins _ σ _ _ I1 (q _ hn)) fun ws s2 ⟨ps,H2,I2,rel,e,kvs,ep,lk,q2⟩=>?_)
 subst ep
 obtain ⟨rs,c,rk⟩:=carries_of (P:=X.prog) (w:=X.w) rel
 obtain ⟨z,hd,vs0,r0,dd⟩:=dk_of I2.hok e
 cases r0
 refine ⟨rs,c,dd,fun h' dd' hs=>⟨.ref s.heap.objs.size,_,?_,rfl,q2⟩⟩
 have hz:(mergeK [] kvs).length≤sizeLine:=by
  have h1:=length_mergeK kvs []
  rw [List.length_nil] at h1
  rw [sizeLine_eq];omega
 have he:∃ q,h'.get? s.heap.objs.size=some q:=let ⟨q,_,_,hq,_⟩:=dd';⟨q,hq⟩
 exact d_write I2 (by rw [e];exact True.intro) hs he (dk_new hz hd (rk.merge .nil) dd')
structure M1 (X:Cx) (o:Expr) (m:Str) (apos:Pos) (e:Expr) (cpos:Pos):Prop where
 base:attributeBase o m X.env (eval o X.env)=eval o X.env
 few:((backTo cpos (starEach [e] X.env)).all (fun x=>!x.1)&&(backToKw cpos (keywordEach [] X.env)).all (fun x=>x.1.isSome)
  && decide (([e]:List Expr).length + ([]:List Keyword).length + (if ([]:List Keyword).isEmpty then 0 else 1)<30))=true
 line:(apos.endLine == cpos.line)=true
 trees:backTo cpos (starEach [e] X.env)=[(false,eval e X.env)]
structure M2 (X:Cx) (o:Expr) (m:Str) (apos:Pos) (e f:Expr) (cpos:Pos):Prop where
 base:attributeBase o m X.env (eval o X.env)=eval o X.env
 few:((backTo cpos (starEach [e,f] X.env)).all (fun x=>!x.1)&&(backToKw cpos (keywordEach [] X.env)).all (fun x=>x.1.isSome)
  && decide (([e,f]:List Expr).length + ([]:List Keyword).length + (if ([]:List Keyword).isEmpty then 0 else 1)<30))=true
 line:(apos.endLine == cpos.line)=true
 trees:backTo cpos (starEach [e,f] X.env)=[(false,eval e X.env),(false,eval f X.env)]
def IsD (H:Hp) (a:Addr):Prop:=(∃ kvs,Rd H a (.dK kvs))∨∃ kvs,Rd H a (.dT kvs)
def isD_at {X:Cx}{pins:List (Addr×Obj)}{σ:St}{H:Hp}{s:Shared}{a:Addr}(I:Inv X pins σ H s) (d:IsD H a):
  s.TypeIs (.ref a) "dict"∧(∀ b,Value.ref a=.ref b→∃ ob,s.heap.get? b=some ob∧ob.dict=none)∧(a == sysModules)=false:=by
 rcases d with ⟨kvs,e⟩ | ⟨kvs,e⟩
 ·obtain ⟨_,hd,vs,_,dd⟩:=dk_rd I.hok e
  refine ⟨dd.typeIs,fun b q=>?_,hd⟩
  cases q
  obtain ⟨ob,_,_,h1,h2,_⟩:=dd
  exact ⟨ob,h1,h2.2.1⟩
 ·obtain ⟨_,hd,xs,_,dd⟩:=dt_rd I.hok e
  refine ⟨dd.typeIs,fun b q=>?_,hd⟩
  cases q
  obtain ⟨ob,_,_,h1,h2,_⟩:=dd
  exact ⟨ob,h1,h2.2.1⟩
section
variable {X:Cx} {pins:List (Addr×Obj)} {σ:St} {H:Hp} {s:Shared} {a:Addr} {y d:V} {u r:Value} {o:Option V} {A:Around} {E:Value→Shared→Prop}
end
section
variable {X:Cx} {o e f:Expr} {apos cpos:Pos} {td ty tx:TE}
end
section
variable {X:Cx} {pins:List (Addr×Obj)} {σ:St} {H:Hp} {s:Shared} {a:Addr} {kvs:List (Key×V)} {A:Around} {E:Value→Shared→Prop}
end
section
variable {X:Cx} {pins:List (Addr×Obj)} {σ:St} {H:Hp} {s:Shared} {a:Addr} {y:V} {u:Value} {A:Around} {E:Value→Shared→Prop}
end
end L2
namespace Att
open PySem PySem.W PySem.Calls PyProof.Rows
def ints_of_wellAll {P:Params}{h:Heap}:∀ (ns:List Int) (vs:List Value),WellAll P h vs (ns.map WData.int)→IntsAre vs ns:=by
 intro ns
 induction ns with
 | nil =>
  intro vs w
  rw [List.map_nil] at w
  cases w
  exact .nil
 | cons n ns ih =>
  intro vs w
  rw [List.map_cons] at w
  cases w with
  | cons a b =>
   cases a
   exact .cons _ _ (ih _ b)
def script_of {l:OpenLaw}{n:Nat}(hn:l.most=some n) {P:Params}{h:Heap}{args:List WData}{vals:List Value}
  (hpre:l.row.toRowW.claim.pre args=true) (hwl:WellAll P h vals args):
  ∃ a vs ns,vals=[Value.ref a]∧args=[WData.list (ns.map WData.int)]∧h.get? a=some { cls:=.type "list",data:=.seq vs.toArray }∧IntsAre vs ns∧ns.length≤n:=by
 have hsh:WShape.hasAll [] args [.list .int]=true:=(pre_splitW hpre).1
 have hc:l.pre.holds [] { args:=args }=true:=(pre_splitW hpre).2
 obtain ⟨d,r,rfl,h1,h2⟩:=hasAllW_cons hsh
 obtain rfl:=hasAllW_nil h2
 obtain ⟨xs,rfl,h3⟩:=hasW_list h1
 obtain ⟨ns,rfl⟩:=items_int h3
 have hlen:ns.length≤n:=by
  unfold OpenLaw.pre at hc
  have h4:(WTm.not (.lt (.lit (.int (n:Int))) (.len (.arg 0)))).holds [] { args:=[.list (ns.map .int)] }=true:=by
   have h4:=(holds_andW hc).1
   rw [hn] at h4
   exact h4
  have h5:=condW_of h4 (w_not (w_lt w_lit (w_len_list (w_arg rfl))))
  rw [List.length_map] at h5
  refine Nat.le_of_not_lt fun q=>?_
  have q':(n:Int)<((ns.length:Nat):Int):=by omega
  first
   | (rw [decide_eq_true q'] at h5;exact absurd h5 (by decide))
   | (simp at h5;omega)
 cases hwl with
 | cons w1 w2 =>
  cases w2
  cases w1 with
  | list ho hall=>exact ⟨_,_,ns,rfl,rfl,ho,ints_of_wellAll ns _ hall,hlen⟩
def post_true (l:OpenLaw) (args:List WData):l.row.toRowW.claim.post args (.bool true) args=true :=
 postW_of (r:=l.row.toRowW) (X:=(true == true))
  (show WShape.has [] (.bool true) .bool=true by first | rfl | decide | simp [WShape.has,WShape.arms,WShape.armsAll])
  (show (WTm.eq .res (.lit (.bool true))).value [] { args:=args,res:=some (.bool true),after:=args }=some (.bool (true == true)) from w_eq_bool (w_res rfl) w_lit) rfl
def attach_call {l:OpenLaw}{n:Nat}{q:Program}{loose:LS}{XP:(Str→Option Value)→Heap→Prop}{YP:World→Heap→Prop}{d:DefRec}
  (hn:l.most=some n) (hdf:d.params.defaults=[])
  (call:∀ (w:World) (s₀ s₁:Shared) (mg mb:Str→Option Value) (fa:Addr) (o:Obj) (pm cd doc:Value) (a:Addr) (vs:List Value) (ns:List Int),
   Ground q loose [] XP w s₀ mg mb s₁.heap→YP w s₁.heap →
   s₁.heap.get? fa=some o→o.data=.func (docDef d.name d.params d.body d.scope pm cd doc)→s₁.heap.CodeRec cd d.name→mg d.name=some (.ref fa) →
   s₁.heap.get? a=some { cls:=.type "list",data:=.seq vs.toArray }→IntsAre vs ns→ns.length≤n→s₁.gens=#[] →
   codeAny (model l.prog w) callerA (.call (.ref fa) ⟨[.ref a],[]⟩) (fun r s'=>r=.ok (.ret (.bool true))∧OldK s₁.heap s'.heap∧s'.os=s₁.os∧AllBare s'.gens) s₁):
  WalkO q loose XP YP l.row.toRowW d [] (fun f vs=>PySem.call f vs):=by
 intro w s₀ s₁ mg mb G Y fa o pm cd doc dV kV ho hd hcd hD hmg hg args vals as hpre hlay hrd hwl hlo
 obtain rfl:dV=.none:=Dflts.none hD hdf
 obtain rfl:kV=.none:=Dflts.noKw hD
 obtain ⟨a,vs,ns,rfl,rfl,hobj,hints,hlen⟩:=script_of hn hpre hwl
 refine enter_call (codeAny_mono (call w s₀ s₁ mg mb fa o pm cd doc a vs ns G Y ho (fd_plain hd) hcd hmg hobj hints hlen hg) fun r s' hq=>?_)
 obtain ⟨rfl,h2,h3,h4⟩:=hq
 exact ⟨.inl ⟨.bool true,.bool true,[],rfl,fun _=>rfl,.bool true,post_true l _,fun _=>⟨List.Pairwise.nil,fun _ hm=>(nomatch hm)⟩⟩,h2,h3,h4⟩
section
variable {prog:Program} {w:World} {A:Around} {E:Value→Shared→Prop} {s:Shared} {K:Frag}
end
end Att
namespace L2
open PySem PySem.Spec PyProof.Rows
theorem vals_ints:∀ {vs:List Value}{ns:List Int},IntsAre vs ns→Vals (ns.map V.int) vs
 | _,_,.nil=>.nil
 | _,_,.cons n t h=>.cons ⟨t,rfl⟩ (vals_ints h)
def Only (H:Hp):Prop:=∀ b,H b=none∨∃ o xs,H b=some (.frz o (.lst xs))
def law_call {P:Program}{w:World}{K:Fg}{mg mb:Str→Option Value}{CX:CXT}{k:Nat}{x:Str}{sp:Sp}{s₁:Shared}{vs:List Value}{ns:List Int}
  (KX:K.In s₁.heap) (hns:s₁.heap.Ns mainGlobals mg) (hb:s₁.heap.Ns builtinsNs mb) (hbb:∀ x:Str,x≠"__name__"→mb x=bootBuiltins x) (hlim:s₁.heap.NoLimit) (hg:s₁.gens=#[])
  (ha:s₁.heap.get? a=some { cls:=.type "list",data:=.seq vs.toArray }) (hi:IntsAre vs ns) (hl:ns.length≤sizeLine) (hr:Room k callerA)
  (F:∀ base:Heap,K.In base→base.Ns mainGlobals mg→FnOk P w K mg base CX k fa fd [x] sp) (hbind:∀ (s:Shared) (u:Value),BindsTo s fd ⟨[u],[]⟩ [(x,u)])
  (hsp:∀ H:Hp,Only H→SqL K H a (ns.map V.int)→sp [.ref a] H (fun v _=>v=.bl true) fun _ _ _=>False)
  (hCX:∀ H e s',CX [] H s₁ (fun _ _ _=>False) e s'→False):
  codeAny (model P w) callerA (.call (.ref fa) ⟨[.ref a],[]⟩) (fun r s'=>r=.ok (.ret (.bool true))∧OldK s₁.heap s'.heap∧s'.os=s₁.os∧AllBare s'.gens) s₁:=by
 have rv:=vals_ints hi
 have lenV:=hi.length
 have core:∀ H:Hp,Only H→SqL K H a (ns.map V.int)→HOk P w H s₁.heap→(∀ b,H b≠none→b=a)→(H a≠none→K.lookup a=none) →
   codeAny (model P w) callerA (.call (.ref fa) ⟨[.ref a],[]⟩) (fun r s'=>r=.ok (.ret (.bool true))∧OldK s₁.heap s'.heap∧s'.os=s₁.os∧AllBare s'.gens) s₁:=by
  intro H hO hS hok hA hK
  have base_of:∀ {b:Addr} {o:Obj},s₁.heap.get? b=some o→H b=none→(hidT s₁.heap H).get? b=some o:=fun e n=>hidT_get e n
  have noA:∀ {b:Addr} {o:Obj} {es:Array DictEntry} {ep:Nat},s₁.heap.get? b=some o→o.data=.dict es ep→H b=none:=fun {b o es ep} e d=>by
   cases q:H b with
   | none=>rfl
   | some u =>
    have e':b=a:=hA b (by rw [q];simp)
    subst e'
    rw [ha] at e;cases e
    have d':Data.seq vs.toArray _=Data.dict es ep:=d
    cases d'
  have nsK:∀ {b:Addr} {m:Str→Option Value},s₁.heap.Ns b m→(hidT s₁.heap H).Ns b m:=fun {b m} ⟨o,es,ep,e,d,r⟩=>⟨o,es,ep,base_of e (noA e d),d,r⟩
  have hKb:K.In (hidT s₁.heap H):=fun b o e=>base_of (KX b o e) (by
   cases q:H b with
   | none=>rfl
   | some u =>
    have e':b=a:=hA b (by rw [q];simp)
    subst e'
    rw [hK (by rw [q];simp)] at e;cases e)
  have hM:Mod K mg (hidT s₁.heap H):=⟨hKb,nsK hns,⟨mb,nsK hb,hbb⟩,let ⟨mc,h1,h2⟩:=hlim;⟨mc,nsK h1,h2⟩⟩
  have e0:Env0 P w K mg (hidT s₁.heap H) callerA [] s₁ H:=⟨rfl,hM,fun b o e=>of_hidT e,Nat.le_of_eq (hidT_size _ _),trivial,fun b hb=>absurd (show b∈([]:List Addr) from hb) (by simp),hok,.of_eq hg⟩
  refine codeAny_mono ((F _ hKb (nsK hns)).run callerA [] s₁ H ⟨[.ref a],[]⟩ [.ref a] [.ref a] _ _ hr e0 (hbind s₁ (.ref a)) (.cons rfl .nil) (hsp H hO hS)) fun r s' h=>?_
  cases r with
  | error e=>exact (hCX H e s' h).elim
  | ok fl =>
   cases fl with
   | next=>exact False.elim h
   | brk=>exact False.elim h
   | cont=>exact False.elim h
   | ret u =>
    obtain ⟨v,H',os,bare,un,hok',r',q⟩:=h
    have q':v=.bl true:=q
    subst q'
    obtain rfl:u=Value.bool true:=r'
    refine ⟨rfl,OldK.of_keep fun b o e=>?_,os,bare⟩
    cases q:H b with
    | none=>exact un.keep b o e q (by intro z;exact absurd (show b∈([]:List Addr) from z) (by simp)) (by simp)
    | some u =>
     rcases hO b with z | ⟨ob,xs,z⟩
     ·rw [q] at z;cases z
     ·have z2:=un.frzs b ob _ z
      obtain ⟨e1,_⟩:=hok b _ z
      obtain ⟨e2,_⟩:=hok' b _ z2
      rw [e] at e1;cases e1
      exact e2
 cases hk:K.lookup a with
 | some o =>
  have e:=KX a o hk
  rw [ha] at e
  cases e
  refine core (fun _=>none) (fun _=>.inl rfl) (.inr ⟨_,vs.toArray,_,hk,rfl,rfl,rfl,by rw [List.size_toArray,lenV];exact hl,by simpa using rv⟩) (fun b u z=>by have z':(none:Option HO)=some u:=z;cases z') (fun b z=>absurd rfl z) fun z=>absurd rfl z
 | none =>
  refine core (fun b=>if b=a then some (.frz { cls:=.type "list",data:=.seq vs.toArray } (.lst (ns.map V.int))) else none) (fun b=>?_) (.inl (.inr ⟨{ cls:=.type "list",data:=.seq vs.toArray },if_pos rfl⟩)) (fun b u z=>?_) (fun b z=>?_) fun _=>hk
  ·by_cases hb:b=a
   ·exact .inr ⟨_,_,if_pos hb⟩
   ·exact .inl (if_neg hb)
  ·by_cases hb:b=a
   ·have z':=(if_pos hb).symm.trans z
    cases z'
    subst hb
    exact ⟨ha,by rw [List.length_map];exact hl,vs,_,rv,ha⟩
   ·have z':=(if_neg hb).symm.trans z
    cases z'
  ·by_cases hb:b=a
   ·exact hb
   ·exact absurd (if_neg hb) z
def walk_of {l:W.OpenLaw}{n k:Nat}{q:Program}{loose:LS}{XP:(Str→Option Value)→Heap→Prop}{YP:World→Heap→Prop}{d:DefRec}{K:Params→Fg}{CX:World→CXT}{sp:World→Sp}{x:Str}
  (hn:l.most=some n) (hn2:n≤sizeLine) (hdf:d.params.defaults=[]) (hr:Room k callerA)
  (hY:∀ (w:World) (h:Heap),YP w h→(K w.params).In h)
  (F:∀ (w:World) (mg:Str→Option Value) (fa:Addr) (h:Heap),(K w.params).In h→h.Ns mainGlobals mg→mg d.name=some (.ref fa) →
   ∃ fd:FuncData,(∀ (s:Shared) (u:Value),BindsTo s fd ⟨[u],[]⟩ [(x,u)]) ∧
    ∀ base:Heap,(K w.params).In base→base.Ns mainGlobals mg→FnOk l.prog w (K w.params) mg base (CX w) k fa fd [x] (sp w))
  (hsp:∀ (w:World) (H:Hp) (a:Addr) (ns:List Int),ns.length≤n→Only H→SqL (K w.params) H a (ns.map V.int)→sp w [.ref a] H (fun v _=>v=.bl true) fun _ _ _=>False)
  (hCX:∀ (w:World) (H:Hp) (s:Shared) (e:Value) (s':Shared),CX w [] H s (fun _ _ _=>False) e s'→False):
  W.WalkO q loose XP YP l.row.toRowW d [] (fun f vs=>PySem.call f vs):=by
 refine Att.attach_call hn hdf fun w s₀ s₁ mg mb fa o pm cd doc a vs ns G Y ho hd hcd hmg hobj hints hlen hg=>?_
 have KX:=hY w _ Y
 obtain ⟨fd,hb,hF⟩:=F w mg fa _ KX G.T.g hmg
 exact law_call KX G.T.g G.T.b G.T.builtins G.T.nolimit hg hobj hints (Nat.le_trans hlen hn2) hr hF hb (fun H hO hS=>hsp w H a ns hlen hO hS) fun H e s'=>hCX w H s₁ e s'
def inClass (s:Stmt) (j:Nat):Stmt:=match s with
 | .ClassDef _ _ _ body _ _ _ _ _ _ _=>body.getD j (.Pass ⟨0,0,0,0⟩)
 | _=>.Pass ⟨0,0,0,0⟩
def defArgs (s:Stmt):Arguments:=match s with
 | .FunctionDef _ a _ _ _ _ _ _ _ _=>a
 | _=>{ posonlyargs:=[],args:=[],vararg:=none,kwonlyargs:=[],kw_defaults:=[],kwarg:=none,defaults:=[] }
def defBody (s:Stmt):List Stmt:=match s with
 | .FunctionDef _ _ b _ _ _ _ _ _ _=>b
 | _=>[]
def defScope (s:Stmt):Scope:=match s with
 | .FunctionDef _ _ _ _ _ _ sc _ _ _=>sc
 | _=>{ kind:=.function,names:=[],isGenerator:=false,isCoroutine:=false }
abbrev CX0:CXT:=fun _ _ _ _ _ _=>False
abbrev E0:XK:=fun _ _ _=>False
def pass0 {X:Cx}:Passes CX0 X E0:=fun _ _ _ _ _ _ _ h=>h.elim
structure Fun (K:Fg) (x qual:Str) (st:Stmt) (f:Addr) (fd:FuncData):Prop where
 ex:∃ (oc:Value) (od:Option Addr) (kV doc pm:Value) (an:Option Addr) (cdv ct:Value) (osl:Array (Option Value)),
  fd=W.fnOf x qual (defArgs st) (defBody st) (defScope st) .none kV doc pm an cdv ct∧K.lookup f=some ⟨oc,od,.func fd,osl⟩∧W.codeIn K cdv qual=true
 kp:W.keepIn K (.ref f)=true
section
variable {P:Program} {w:World} {K:Fg} {mg:Str→Option Value} {base:Heap}
def Fun.ok {x qual:Str}{st:Stmt}{N ps:LS}{k:Nat}{sp:Sp}(F:Fun K x qual st f fd) (S:FnScope N ps (defScope st)) (len:∀ vs H Q E,sp vs H Q E→vs.length=ps.length)
  (hbody:∀ (cdv:Value) (A:Around) (outer:List Env) (s:Shared) (H:Hp) (vs:List V) (Q:VK) (E:XK),Room k (A.deeper (envOfC qual (defScope st) s.heap.objs.size f cdv))→sp vs H Q E →
   ∃ t,PSs (cxOf CX0 P w K mg base N qual (defScope st) f cdv A outer s H E).nox (defBody st) t∧t { nx:=fun _ H'=>Q .non H',rt:=Q } (start N vs) H):FnOk P w K mg base CX0 (k + 1) f fd ps sp:=by
 obtain ⟨oc,od,kV,doc,pm,an,cdv,ct,osl,rfl,lk,hcd⟩:=F.ex
 refine fn_of lk hcd S len fun A outer s H vs Q E hr hsp=>?_
 obtain ⟨t,h,q⟩:=hbody cdv A outer s H vs Q E hr hsp
 exact ⟨t,h.nox,q⟩
def Fun.binds {x qual:Str}{st:Stmt}{ps:LS}(F:Fun K x qual st f fd)
  (h:∀ (kV doc pm:Value) (an:Option Addr) (cdv ct:Value) (us:List Value),us.length=ps.length→bindArgs (W.fnOf x qual (defArgs st) (defBody st) (defScope st) .none kV doc pm an cdv ct) ⟨us,[]⟩=pure (ps.zip us)):Binds K fd ps []:=by
 obtain ⟨oc,od,kV,doc,pm,an,cdv,ct,osl,rfl,lk,hcd⟩:=F.ex
 exact .all (h kV doc pm an cdv ct)
def fun_mk {x qual:Str}{st:Stmt}{f:Addr}{oc:Value}{od an:Option Addr}{osl:Array (Option Value)}{kV doc pm cdv ct:Value}(l:K.lookup f=some ⟨oc,od,.func (W.fnOf x qual (defArgs st) (defBody st) (defScope st) .none kV doc pm an cdv ct),osl⟩)
  (c:W.codeIn K cdv qual=true) (k:W.keepIn K (.ref f)=true):Fun K x qual st f (W.fnOf x qual (defArgs st) (defBody st) (defScope st) .none kV doc pm an cdv ct):=⟨⟨oc,od,kV,doc,pm,an,cdv,ct,osl,rfl,l,c⟩,k⟩
end
def hu_of {A:Around}{k:Nat}(hr:Room k A):A.units + 1<cLine:=Nat.lt_of_le_of_lt (Nat.add_le_add_left (by decide:1≤64) _) hr.units
section
variable {X:Cx}
def pv (i:Nat) {x:Str}{pos:Pos}(hN:X.N[i]?=some x:=by rfl) (hv:Vis X.env.scope x:=by first | exact Or.inl rfl | exact Or.inr (Or.inl rfl) | exact Or.inr (Or.inr rfl)) (hd:(x == ("__debug__":Str))=false:=by decide)
  (hcd:(x == ("__classdict__":Str))=false:=by decide):PE X (.Name x pos) (tVar i):=pe_var hN hv hd hcd
end
def iteF {A B:Prop}(h:B):if false=true then A else B:=by
 rw [if_neg Bool.false_ne_true]
 exact h
def iteT {A B:Prop}(h:A):if true=true then A else B:=by
 rw [if_pos rfl]
 exact h
def ite2 {c A B:Prop} [Decidable c] (h1:c→A) (h2:¬ c→B):if c then A else B:=by
 by_cases h:c
 ·rw [if_pos h]
  exact h1 h
 ·rw [if_neg h]
  exact h2 h
def Same (H H':Hp):Prop:=∀ b o,H b=some o→H' b=some o
def Same.refl (H:Hp):Same H H:=fun _ _ h=>h
def Same.trans {H H1 H2:Hp}(a:Same H H1) (b:Same H1 H2):Same H H2:=fun c o h=>b c o (a c o h)
def Same.free {H H':Hp}(e:Same H H') {l:Addr}(h:H' l=Option.none):H l=Option.none:=by
 cases q:H l with
 | none=>rfl
 | some o =>
  rw [e l o q] at h
  cases h
def Same.seq {K:Fg}{H H':Hp}{a:Addr}{xs:List V}(e:Same H H') (h:SqL K H a xs):SqL K H' a xs:=by
 rcases h with (h | ⟨o,h⟩) | h
 ·exact .inl (.inl (e _ _ h))
 ·exact .inl (.inr ⟨o,e _ _ h⟩)
 ·exact .inr h
section
variable {X:Cx}
end
section
variable {κ:Type} [DecidableEq κ]
def valV_not {kvs:List (κ×V)}{k:κ}(h:valV kvs k=none):¬ k∈kvs.map (·.1):=by
 intro m
 obtain ⟨p,hp,e⟩:=List.mem_map.mp m
 have q:(kvs.any fun kv=>decide (kv.1=k))=true:=List.any_eq_true.mpr ⟨p,hp,decide_eq_true e⟩
 rw [valV_any,h] at q
 exact absurd q (by simp)
def valV_in {kvs:List (κ×V)}{k:κ}{v:V}(h:valV kvs k=some v):k∈kvs.map (·.1):=by
 have q:(kvs.any fun kv=>decide (kv.1=k))=true:=by
  rw [valV_any,h]
  all_goals rfl
 obtain ⟨p,hp,e⟩:=List.any_eq_true.mp q
 exact List.mem_map.mpr ⟨p,hp,of_decide_eq_true e⟩
end
end L2
set_option maxHeartbeats 4000000
namespace HT
open PySem PyProof.Rows
open PySem.SeqAt
open PySem.AutoSeq1 (wpAny_loadPart')
open PySem.MeetsSeq PySem.MeetsSeq2 PySem.MeetsSeq3
section
variable {prog:Program} {w:World} {A:Around} {E:Value→Shared→Prop} {s:Shared}
end
end HT
namespace L2
open PySem PySem.Spec PyProof.Rows
structure Runs (J:It) (xs:List V) (Ok:Hp→Prop):Prop where
 go:∀ (i:Nat) (x:V) (H:Hp),Ok H→xs[i]?=some x→J.go i H
 yld:∀ (i:Nat) (x:V) (H:Hp) (y:V) (H':Hp),Ok H→xs[i]?=some x→J.yld i H y H'→y=x∧H'=H
 stop:∀ (H:Hp),Ok H→J.stop xs.length H
def runs_list {K:Fg}{a:Addr}{xs:List V}:Runs (Itl K a) xs (fun H=>SqL K H a xs) where
 go:=fun i x H ok hx=>⟨xs,x,ok,hx⟩
 yld:=fun i x H y H' ok hx h=>by
  obtain ⟨e,h⟩:=h
  have q:=h xs ok
  rw [hx] at q
  exact ⟨(Option.some.inj q).symm,e⟩
 stop:=fun H ok=>⟨xs,ok,Nat.le_refl _⟩
def runs_tup {K:Fg}{a:Addr}{xs:List V}:Runs (Itt K a) xs (fun H=>SqT K H a xs) where
 go:=fun i x H ok hx=>⟨xs,x,ok,hx⟩
 yld:=fun i x H y H' ok hx h=>by
  obtain ⟨e,h⟩:=h
  have q:=h xs ok
  rw [hx] at q
  exact ⟨(Option.some.inj q).symm,e⟩
 stop:=fun H ok=>⟨xs,ok,Nat.le_refl _⟩
def rangeV (lo:Int) (n:Nat):List V:=(List.range n).map fun (k:Nat)=>V.int (lo + (k:Int))
def rangeV_len (lo:Int) (n:Nat):(rangeV lo n).length=n:=by unfold rangeV;rw [List.length_map,List.length_range]
def rangeV_get {lo:Int}{n i:Nat}{x:V}(h:(rangeV lo n)[i]?=some x):i<n∧x=V.int (lo + (i:Int)):=by
 have hi:i<n:=by
  have:=(List.getElem?_eq_some_iff.mp h).1
  rwa [rangeV_len] at this
 refine ⟨hi,?_⟩
 unfold rangeV at h
 rw [List.getElem?_map,List.getElem?_range hi] at h
 exact (Option.some.inj h).symm
def runs_range {lo:Int}{n:Nat}:Runs (Itr lo n) (rangeV lo n) (fun _=>True) where
 go:=fun i x H _ hx=>(rangeV_get hx).1
 yld:=fun i x H y H' _ hx h=>by
  obtain ⟨e,h⟩:=h
  exact ⟨h.trans (rangeV_get hx).2.symm,e⟩
 stop:=fun H _=>by
  show n≤(rangeV lo n).length
  rw [rangeV_len]
  exact Nat.le_refl _
def for_runs {J:It}{xs:List V}{Ok:Hp→Prop}(R:Runs J xs Ok) {g:TG}{tb:TS}{D:Ends}{σ:St}{H:Hp}(Pv:Nat→St→Hp→Prop) (h0:Pv 0 σ H) (hl:∀ i σ H,i≤xs.length→Pv i σ H→Ok H)
  (hs:∀ i x σ H,xs[i]?=some x→Pv i σ H→g x σ H fun σ2 H2=>tb { D with nx:=Pv (i + 1),ct:=Pv (i + 1),bk:=D.nx } σ2 H2) (hd:∀ σ H,Pv xs.length σ H→D.nx σ H):
  ∃ W:Nat→Nat→St→Hp→Prop,(∃ m,W 0 m σ H)∧∀ i m σ H,W i m σ H →
   (J.stop i H∧D.nx σ H)∨(J.go i H∧∃ N:St→Hp→Prop,(∀ σ' H',N σ' H'→∃ m',m'<m∧W (i + 1) m' σ' H')∧∀ x H',J.yld i H x H'→g x σ H' fun σ2 H2=>tb { D with nx:=N,ct:=N,bk:=D.nx } σ2 H2):=by
 refine ⟨fun i m σ H=>m=xs.length - i∧i≤xs.length∧Pv i σ H,⟨xs.length,by simp,Nat.zero_le _,h0⟩,?_⟩
 rintro i m σ H ⟨rfl,hi,p⟩
 have q:=hl i σ H hi p
 by_cases hlt:i<xs.length
 ·have hx:xs[i]?=some xs[i]:=by simp [hlt]
  refine .inr ⟨R.go i _ H q hx,Pv (i + 1),fun σ' H' p'=>⟨xs.length - (i + 1),by omega,rfl,hlt,p'⟩,fun x H' y=>?_⟩
  obtain ⟨e1,e2⟩:=R.yld i _ H x H' q hx y
  rw [e2]
  exact hs i x σ H (by rw [e1];exact hx) p
 ·have e:i=xs.length:=by omega
  subst e
  exact .inl ⟨R.stop H q,hd σ H p⟩
def Its (x:Str):It:=⟨fun i _=>i<x.cps.size,fun i H v H'=>H'=H∧∃ c,x.cps[i]?=some c∧v=.str ⟨#[c]⟩,fun i _=>x.cps.size≤i⟩
def signsV (x:Str):List V:=x.cps.toList.map fun c=>V.str ⟨#[c]⟩
def runs_str {x:Str}:Runs (Its x) (signsV x) (fun _=>True) where
 go:=fun i y H _ hx=>by
  have:=(List.getElem?_eq_some_iff.mp hx).1
  unfold signsV at this
  rw [List.length_map] at this
  show i<x.cps.size
  simpa using this
 yld:=fun i y H z H' _ hx h=>by
  obtain ⟨e,c,hc,hz⟩:=h
  refine ⟨?_,e⟩
  unfold signsV at hx
  rw [List.getElem?_map,Array.getElem?_toList,hc] at hx
  rw [hz]
  exact Option.some.inj hx
 stop:=fun H _=>by
  show x.cps.size≤(signsV x).length
  unfold signsV
  simp
def turn_str {P:Program}{w:World}{K:Fg}{tg:Expr}(x:Str) (t:Tok) (it:Addr) (ty:String) (hty:ty="str_ascii_iterator"∨ty="str_iterator"):
  Turn P w K tg (Its x) [it] it (fun i h=>h.IsStrIter it ty x t i) where
 mem:=by simp
 obj:=fun i h st b hb=>by
  have e:b=it:=by simpa using hb
  subst e
  obtain ⟨o,e,c,d⟩:=st
  exact ⟨o,e,fun v z=>by rw [d] at z;cases z⟩
 keep:=fun i h h' st k=>by
  obtain ⟨o,ho,r⟩:=st
  exact ⟨o,k it (by simp) o ho,r⟩
 item:=by
  intro X hP hw hK hc i pins s σ H E I hf st hg
  subst hP hw hK
  obtain ⟨f0,f1,f2,f3,f4,f5⟩:=hf it (by simp)
  have hi:i<x.cps.size:=hg
  have hx:x.cps[i]?=some x.cps[i]:=by simp [hi]
  have fin:∀ h':Heap,h'.IsStrIter it ty x t (i + 1)→Heap.SameBut it s.heap h'→∃ u,some (Value.str ⟨#[x.cps[i]]⟩ s.toks)=some u ∧
    wpAny (model X.prog X.w) X.A (letOwnedTupleGo tg (.ref it) u) (fun _ s2=>∃ y H',Inv X pins σ H' s2∧RelV y u∧(Its x).yld i H y H'∧s2.heap.IsStrIter it ty x t (i + 1)∧∀ b∈[it],H' b=none) E { s with heap:=h',toks:=s.toks + 1 }:=fun h' st' sb=>by
   have I1:Inv X pins σ H { s with heap:=h',toks:=s.toks + 1 }:=I.turned (fun b o hb e=>(sb.2 b hb).trans e) f0 f1 f3 f4 f5
   obtain ⟨o,e,c,d⟩:=id st'
   refine ⟨_,rfl,go_of (s:={ s with heap:=h',toks:=s.toks + 1 }) e c d ?_ ⟨.str ⟨#[x.cps[i]]⟩,H,I1,⟨_,rfl⟩,⟨rfl,_,hx,rfl⟩,st',fun b hb=>(hf b hb).1⟩⟩
   rcases hty with rfl | rfl <;> decide
  rcases hty with rfl | rfl
  ·exact wpAny_pyNext_ascii_item st hx fun h' st' sb=>fin h' st' sb
  ·exact wpAny_pyNext_wide_item st hx fun h' st' sb=>fin h' st' sb
 done:=by
  intro X hP hw hK hc i pins s σ H E I hf st hg
  subst hP hw hK
  obtain ⟨f0,f1,f2,f3,f4,f5⟩:=hf it (by simp)
  have hi:x.cps.size≤i:=hg
  have hx:x.cps[i]?=none:=by simp [hi]
  rcases hty with rfl | rfl
  ·exact wpAny_pyNext_ascii_end (I.ok.hd hc) st hx fun h' eb=>⟨rfl,I.turned (t':=s.toks) (fun b o hb e=>eb b o hb e) f0 f1 f3 f4 f5⟩
  ·exact wpAny_pyNext_wide_end (I.ok.hd hc) st hx fun h' eb=>⟨rfl,I.turned (t':=s.toks) (fun b o hb e=>eb b o hb e) f0 f1 f3 f4 f5⟩
 self:=fun _ _ _ _ _ st h=>by
  rcases hty with rfl | rfl
  ·exact wpAny_pyIter_striter_ascii st h
  ·exact wpAny_pyIter_striter_wide st h
section
variable {X:Cx} {tg:Expr}
def iStr (tl:TE):TI:=fun σ H R=>tl σ H fun x H1=>∃ z,x=.str z∧R (Its z) H1
def pi_str {l:Expr}{tl:TE}(hl:PE X l tl):PI X tg l (iStr tl):=by
 intro pins s σ H R I h
 refine thn (hl pins s σ H _ I h) fun v s1 ⟨x,H1,I1,r1,q1⟩=>?_
 obtain ⟨z,e,q⟩:=q1
 subst e
 obtain ⟨t,rfl⟩:=r1
 have fp:∀ b∈[s1.heap.objs.size],FpOk X pins H1 b:=fun b hb=>by
  have e:b=s1.heap.objs.size:=by simpa using hb
  subst e
  exact I1.fpOk (Nat.le_refl _) (I1.hok.fresh (Nat.le_refl _))
 cases ha:z.cps.all (·<128) with
 | false =>
  refine wpAny_pyIter_wide ha ?_
  exact ⟨s1.heap.objs.size,[s1.heap.objs.size],_,_,H1,rfl,I1.kept (t':=s1.toks) fun b o e=>Heap.get?_push_of_some _ e,turn_str z t _ "str_iterator" (.inr rfl),⟨_,Heap.get?_push_size _ rfl,rfl,rfl⟩,fp,q⟩
 | true =>
  refine wpAny_pyIter_ascii ha ?_
  exact ⟨s1.heap.objs.size,[s1.heap.objs.size],_,_,H1,rfl,I1.kept (t':=s1.toks) fun b o e=>Heap.get?_push_of_some _ e,turn_str z t _ "str_ascii_iterator" (.inl rfl),⟨_,Heap.get?_push_size _ rfl,rfl,rfl⟩,fp,q⟩
end
def clOf (env:Env):List (Str×NameKind)→List (Str×Addr)→List (Str×Addr)
 | [],acc=>acc
 | (n,k):: r,acc=>if (k == NameKind.free)=true then clOf env r ((n,(env.cells.lookup n).getD 0):: acc) else clOf env r acc
def cellOf_some {env:Env}{n:Str}{c:Addr}(h:env.cells.lookup n=some c):cellOf env n=pure c:=by
 unfold cellOf
 rw [h]
def closureFor_of {scope:Scope}{env:Env}(h:∀ y∈scope.names,y.2=.free→∃ c,env.cells.lookup y.1=some c):closureFor scope env=pure (clOf env scope.names []):=by
 have key:∀ (l:List (Str×NameKind)) (acc:List (Str×Addr)),(∀ y∈l,y.2=.free→∃ c,env.cells.lookup y.1=some c) →
   (forIn l acc fun (x:Str×NameKind) (r:List (Str×Addr))=>(match x with
    | (name,kind)=>if (kind == NameKind.free)=true then (do let a ← cellOf env name;pure (ForInStep.yield ((name,a):: r))) else pure (ForInStep.yield r):Sem (ForInStep (List (Str×Addr)))))=pure (clOf env l acc):=by
  intro l
  induction l with
  | nil=>intro acc _;rfl
  | cons y r ih =>
   intro acc hy
   obtain ⟨n,k⟩:=y
   have ih':=fun acc=>ih acc fun z hz=>hy z (List.mem_cons_of_mem _ hz)
   rw [List.forIn_cons]
   by_cases hk:(k == NameKind.free)=true
   ·obtain ⟨c,hc⟩:=hy (n,k) List.mem_cons_self (by simpa using hk)
    have hc:env.cells.lookup n=some c:=hc
    simp only [hk,if_true,cellOf_some hc]
    unfold clOf
    rw [if_pos hk,hc]
    exact ih' _
   ·simp only [hk]
    unfold clOf
    rw [if_neg hk]
    exact ih' _
 unfold closureFor
 have q:=key scope.names [] h
 show ((forIn scope.names [] _:Sem (List (Str×Addr)))>>=fun r=>pure r)=_
 first
  | (rw [show (forIn scope.names [] _:Sem (List (Str×Addr)))=_ from q];rfl)
  | (refine (congrArg (fun m=>m>>=fun r=>pure r) q).trans ?_;rfl)
theorem clOf_lookup {env:Env}:∀ (l:List (Str×NameKind)) (acc:List (Str×Addr)) (x:Str) (c:Addr),(∀ y∈l,y.2=.free→∃ c,env.cells.lookup y.1=some c) →
  (∀ x c,acc.lookup x=some c→env.cells.lookup x=some c)→(clOf env l acc).lookup x=some c→env.cells.lookup x=some c
 | [],acc,x,c,_,ha,h=>ha x c h
 | (n,k):: r,acc,x,c,hy,ha,h=>by
  have hr:∀ y∈r,y.2=.free→∃ c,env.cells.lookup y.1=some c:=fun y hy'=>hy y (List.mem_cons_of_mem _ hy')
  unfold clOf at h
  by_cases hk:(k == NameKind.free)=true
  ·rw [if_pos hk] at h
   refine clOf_lookup r _ x c hr (fun z d hz=>?_) h
   obtain ⟨c',hc'⟩:=hy (n,k) List.mem_cons_self (by simpa using hk)
   have hc':env.cells.lookup n=some c':=hc'
   rw [List.lookup_cons] at hz
   by_cases e:(z == n)=true
   ·simp only [e] at hz
    have e':z=n:=by simpa using e
    rw [e',hc']
    rw [hc'] at hz
    exact hz
   ·have e':(z == n)=false:=by simpa using e
    simp only [e'] at hz
    exact ha z d hz
  ·rw [if_neg hk] at h
   exact clOf_lookup r acc x c hr ha h
theorem clOf_keeps {env:Env}:∀ (l:List (Str×NameKind)) (acc:List (Str×Addr)) (x:Str),(acc.lookup x).isSome=true→((clOf env l acc).lookup x).isSome=true
 | [],acc,x,h=>h
 | (n,k):: r,acc,x,h=>by
  unfold clOf
  by_cases hk:(k == NameKind.free)=true
  ·rw [if_pos hk]
   refine clOf_keeps r _ x ?_
   rw [List.lookup_cons]
   cases e:(x == n) with
   | true=>rfl
   | false=>exact h
  ·rw [if_neg hk]
   exact clOf_keeps r acc x h
theorem clOf_has {env:Env}:∀ (l:List (Str×NameKind)) (acc:List (Str×Addr)) (x:Str),(x,NameKind.free)∈l→((clOf env l acc).lookup x).isSome=true
 | [],acc,x,h=>nomatch h
 | (n,k):: r,acc,x,h=>by
  unfold clOf
  rcases List.mem_cons.mp h with e | h
  ·injection e with e1 e2
   subst e1
   subst e2
   rw [if_pos (by decide)]
   refine clOf_keeps r _ x ?_
   rw [List.lookup_cons]
   simp
  ·by_cases hk:(k == NameKind.free)=true
   ·rw [if_pos hk]
    exact clOf_has r _ x h
   ·rw [if_neg hk]
    exact clOf_has r _ x h
theorem lookup_relabel_free {env:Env}:∀ {names:List (Str×NameKind)}{x:Str},names.lookup x=some .free →
  (names.map fun (n,k)=>if (k == NameKind.free&&env.scope.kind == .function&&env.kindOf n == some .cell) then (n,NameKind.cell) else (n,k)).lookup x=some .cell ∨
  (names.map fun (n,k)=>if (k == NameKind.free&&env.scope.kind == .function&&env.kindOf n == some .cell) then (n,NameKind.cell) else (n,k)).lookup x=some .free
 | [],_,h=>by simp at h
 | (n,k):: r,x,h=>by
  have ih:=@lookup_relabel_free env r x
  rw [List.map_cons]
  show List.lookup x ((if (k == NameKind.free&&env.scope.kind == .function&&env.kindOf n == some .cell)=true then (n,NameKind.cell) else (n,k)):: _)=_∨List.lookup x ((if (k == NameKind.free&&env.scope.kind == .function&&env.kindOf n == some .cell)=true then (n,NameKind.cell) else (n,k)):: _)=_
  cases hx:x == n with
  | true =>
   simp only [List.lookup_cons,hx] at h
   cases h
   by_cases hc:(NameKind.free == NameKind.free&&env.scope.kind == .function&&env.kindOf n == some .cell)=true
   ·rw [if_pos hc];simp only [List.lookup_cons,hx];exact .inl trivial
   ·rw [if_neg hc];simp only [List.lookup_cons,hx];exact .inr trivial
  | false =>
   simp only [List.lookup_cons,hx] at h
   by_cases hc:(k == NameKind.free&&env.scope.kind == .function&&env.kindOf n == some .cell)=true
   ·rw [if_pos hc];simp only [List.lookup_cons,hx];exact ih h
   ·rw [if_neg hc];simp only [List.lookup_cons,hx];exact ih h
theorem lookup_relabel_inv {env:Env}:∀ {names:List (Str×NameKind)}{x:Str},
  ((names.map fun (n,k)=>if (k == NameKind.free&&env.scope.kind == .function&&env.kindOf n == some .cell) then (n,NameKind.cell) else (n,k)).lookup x=some .cell ∨
  (names.map fun (n,k)=>if (k == NameKind.free&&env.scope.kind == .function&&env.kindOf n == some .cell) then (n,NameKind.cell) else (n,k)).lookup x=some .free) →
  names.lookup x=some .free∨names.lookup x=some .cell
 | [],_,h=>by simp at h
 | (n,k):: r,x,h=>by
  have ih:=@lookup_relabel_inv env r x
  rw [List.map_cons] at h
  change List.lookup x ((if (k == NameKind.free&&env.scope.kind == .function&&env.kindOf n == some .cell)=true then (n,NameKind.cell) else (n,k)):: _)=_∨List.lookup x ((if (k == NameKind.free&&env.scope.kind == .function&&env.kindOf n == some .cell)=true then (n,NameKind.cell) else (n,k)):: _)=_ at h
  cases hx:x == n with
  | true =>
   simp only [List.lookup_cons,hx]
   by_cases hc:(k == NameKind.free&&env.scope.kind == .function&&env.kindOf n == some .cell)=true
   ·left
    have:(k == NameKind.free)=true:=by
     cases hk:(k == NameKind.free) with
     | true=>rfl
     | false=>rw [hk] at hc;simp at hc
    have:k=NameKind.free:=by simpa using this
    rw [this]
   ·rw [if_neg hc] at h
    simp only [List.lookup_cons,hx] at h
    rcases h with h | h
    ·exact .inr h
    ·exact .inl h
  | false =>
   simp only [List.lookup_cons,hx]
   apply ih
   by_cases hc:(k == NameKind.free&&env.scope.kind == .function&&env.kindOf n == some .cell)=true
   ·rw [if_pos hc] at h;simp only [List.lookup_cons,hx] at h;exact h
   ·rw [if_neg hc] at h;simp only [List.lookup_cons,hx] at h;exact h
abbrev cxComp (X:Cx) (scope:Scope) (N:LS) (C:Addr) (s:Shared) (H:Hp) (fp:List Addr):Cx :=
 { X with N:=N,s₀:=s,H₀:=H,env:=compEnvC scope (clOf X.env scope.names []) C X.env,outer:=X.stack,ex:=fp,fn:=fun _=>false,pn:=[],xe:=fun _ _=>False }
def sgC (n:Nat) (js:List Nat) (σ:St):St:=List.replicate n none++js.map fun j=>(σ[j]?).join
def sgC_len (n:Nat) (js:List Nat) (σ:St):(sgC n js σ).length=n + js.length:=by unfold sgC;simp
structure CompOk (X:Cx) (scope:Scope) (own frees:LS) (js:List Nat):Prop where
 calm:X.calm=true
 kind:scope.kind=.function
 nocell:∀ y∈scope.names,y.2≠.cell
 locals:∀ y∈scope.names,y.2=.local→scope.names.lookup y.1=some .local
 fr:∀ y∈scope.names,y.2=.free→X.env.scope.names.lookup y.1=some .cell∨X.env.scope.names.lookup y.1=some .free
 fre:∀ x∈frees,scope.names.lookup x=some .free
 slots:js.map (fun j=>X.N[j]?)=frees.map some
def PTs (X:Cx) (ifs:List Expr) (t:TT):Prop :=
 ∀ (pins:List (Addr×Obj)) (s:Shared) (σ:St) (H:Hp) (Q:Bool→Hp→Prop),Inv X pins σ H s→t σ H Q →
  wpAny (model X.prog X.w) X.A (forIn ifs true fun c r=>if r=true then do let ok ← isTrue c X.env (eval c X.env);pure (ForInStep.yield ok) else pure (ForInStep.yield r)) (TP X pins σ Q) X.xe s
def tTrue:TT:=fun _ H Q=>Q true H
def pts_nil {X:Cx}:PTs X [] tTrue:=fun _ _ _ H _ I h=>wpAny_tests_nil ⟨H,I,h⟩
def pts_one {X:Cx}{c:Expr}{t:TT}(h:PT X c t):PTs X [c] t:=fun pins s σ H Q I q=>wpAny_tests_one (h pins s σ H Q I q)
def compBody (n:Nat) (js:List Nat) (g:TG) (tt:TT) (te:TE) (σ:St) (Q:VK) (J:It) (H1:Hp):Prop:=∀ D,H1 D=none →
 ∃ W:Nat→Nat→List V→St→Hp→Prop,(∃ m,W 0 m [] (sgC n js σ) (upd H1 D (.lst [])))∧∀ i m ys σ' H',W i m ys σ' H' →
  (J.stop i H'∧Q (.ref D) H') ∨
  (J.go i H'∧ys.length<sizeLine∧∃ N:List V→St→Hp→Prop,(∀ ys3 σ3 H3,N ys3 σ3 H3→∃ m',m'<m∧W (i + 1) m' ys3 σ3 H3)∧∀ x H2,J.yld i H' x H2→g x σ' H2 fun σ3 H3=>tt σ3 H3 fun b H4 =>
   if b=true then te σ3 H4 fun v H5=>H5 D=some (.lst ys)∧N (ys++[v]) σ3 (upd H5 D (.lst (ys++[v])))
   else N ys σ3 H4)
section
variable {prog:Program} {w:World} {A:Around} {E:Value→Shared→Prop} {R:Result→Shared→Prop} {s:Shared}
def compLoop_any {elt target iter:Expr}{ifs:List Expr}{scope:Scope}{pos:Pos}{it acc:Value}{env:Env}(I:Nat→Shared→Prop)
  (turn:∀ n s,I n s→∀ E:Value→Shared→Prop,wpAny (model prog w) A (pyNext it) (fun r s₁=>match r with
   | none=>R (.ok .next) s₁
   | some v=>wpAny (model prog w) A (letOwnedTupleGo target it v) (fun _ s₁'=>wpAny (model prog w) A (assign target env v) (fun _ s₂ =>
     wpAny (model prog w) A (forIn ifs true fun c r=>if r=true then do let ok ← isTrue c env (eval c env);pure (ForInStep.yield ok) else pure (ForInStep.yield r)) (fun ok s₃ =>
      if ok=true then wpAny (model prog w) A (eval elt env) (fun x s₄ =>
       wpAny (model prog w) A (call (.builtin "list.append") [acc,x]) (fun _ s₅=>∃ m,m<n∧I m s₅) E s₄) E s₃
      else ∃ m,m<n∧I m s₃) E s₂) E s₁') E s₁) E s)
  (n:Nat) (h:I n s):
  codeAny (model prog w) A (.compLoop (.ListComp elt [⟨target,iter,ifs,0⟩] scope pos) 0 it acc env) R s:=by
 refine codeAny_loop rfl I (fun n s hI=>?_) n h
 show wpAny _ A ((compTurn (.ListComp elt [⟨target,iter,ifs,0⟩] scope pos) 0 it acc env).onRaise (fun x=>do noteFrame x env;theTreesLotGoes x)) _ _ s
 refine wpAny_noted ?_
 rw [compTurn_list]
 refine wpAny_bind (wpAny_standAt (wpAny_bind (wpAny_mono (turn n s hI _) (fun r s₁ h₁=>?_) fun _ _ h'=>h')))
 cases r with
 | none=>exact wpAny_pure h₁
 | some v =>
  refine wpAny_bind (wpAny_mono h₁ (fun _ s₁' h₁'=>?_) fun _ _ h'=>h')
  refine wpAny_bind (wpAny_mono h₁' (fun _ s₂ h₂=>wpAny_bind (wpAny_mono h₂ (fun ok s₃ h₃=>?_) fun _ _ h'=>h')) fun _ _ h'=>h')
  cases ok with
  | false=>exact wpAny_pure ⟨rfl,h₃⟩
  | true =>
   exact wpAny_bind (wpAny_bind (wpAny_mono h₃ (fun x s₄ h₄=>wpAny_bind (wpAny_mono h₄ (fun _ s₅ h₅=>wpAny_pure (wpAny_pure ⟨rfl,h₅⟩)) fun _ _ h'=>h')) fun _ _ h'=>h'))
end
section
variable {X:Cx} {pins:List (Addr×Obj)} {σ:St} {scope:Scope} {own frees:LS} {js:List Nat}
theorem CompOk.cells (c:CompOk X scope own frees js) (ok:X.Ok):∀ y∈scope.names,y.2=.free→∃ a,X.env.cells.lookup y.1=some a:=fun y hy e=>by
 rcases c.fr y hy e with h | h
 ·exact ok.has y.1 (.inl h)
 ·exact ok.has y.1 (.inr h)
def CompOk.cl (c:CompOk X scope own frees js) (ok:X.Ok) {x:Str}{a:Addr}(h:(clOf X.env scope.names []).lookup x=some a):X.env.cells.lookup x=some a :=
 clOf_lookup scope.names [] x a (c.cells ok) (fun _ _ z=>by simp at z) h
def CompOk.has (c:CompOk X scope own frees js) {x:Str}(h:scope.names.lookup x=some .free):∃ a,(clOf X.env scope.names []).lookup x=some a :=
 Option.isSome_iff_exists.mp (clOf_has scope.names [] x (PySem.mem_of_lookup h))
theorem CompOk.ok {s2:Shared}{H2:Hp}{fp:List Addr}{C:Addr}(c:CompOk X scope own frees js) (I:Inv X pins σ H2 s2) (f2:∀ b∈fp,FpOk X pins H2 b) (hlt:∀ b∈fp,b<s2.heap.objs.size) (hC:s2.heap.objs.size≤C) (N:LS):
  (cxComp X scope N C s2 H2 fp).Ok where
 mod:=I.ok.mod
 kind:=c.kind
 glob:=I.ok.glob
 blt:=I.ok.blt
 above:=hC
 inj:=fun x y a h1 h2=>I.ok.inj x y a (c.cl I.ok h1) (c.cl I.ok h2)
 has:=fun x h=>by
  have h':scope.names.lookup x=some .free∨scope.names.lookup x=some .cell:=lookup_relabel_inv (env:=X.env) h
  rcases h' with h' | h'
  ·exact c.has h'
  ·exact absurd rfl (c.nocell _ (PySem.mem_of_lookup h'))
 cab:=fun x a h=>absurd (show false=true from h) Bool.false_ne_true
 hd:=fun h=>I.ok.hd h
 frames:=I.ok.frames
 stk:=.inl rfl
 exf:=fun b hb=>⟨Nat.ne_of_lt (Nat.lt_of_lt_of_le (hlt b hb) hC),fun x a h=>(f2 b hb).2.2.2.2.1 x a (c.cl I.ok h)⟩
 bs:=I.bs
 bsz:=Nat.le_trans I.ok.bsz I.sz
 noex:=fun b o e hb=>by
  rcases (f2 b hb).2.2.2.1 with z | z
  ·exact I.ok.noex b o e z
  ·exact absurd (Nat.lt_of_lt_of_le (Heap.lt_size e) (Nat.le_trans I.ok.bsz z)) (Nat.lt_irrefl _)
 exfs:=fun b hb z=>by
  rcases List.mem_cons.mp (I.stkSub b z) with e | e
  ·exact (f2 b hb).2.1 e
  ·exact (f2 b hb).2.2.1 e
 funs:=I.stack
 frf:=I.stkFree
def comp_block {s2:Shared}{tg iter elt:Expr}{ifs:List Expr}{pos:Pos}{g:TG}{tt:TT}{te:TE}{Q:VK}{RR:Value→Addr→Result→Shared→Prop}{itv:Value}{E:Value→Shared→Prop}
  (c:CompOk X scope own frees js)
  (hg:∀ C s H fp,PG (cxComp X scope (own++frees) C s H fp) tg g) (ht:∀ C s H fp,PTs (cxComp X scope (own++frees) C s H fp) ifs tt) (he:∀ C s H fp,PE (cxComp X scope (own++frees) C s H fp) elt te)
  (h:PIE X pins σ tg (compBody own.length js g tt te σ Q) itv s2)
  (hR:∀ D C H' s',Inv X pins σ H' s'→FpOk X pins H' C→(∃ m,s'.heap.Ns C m)→Q (.ref D) H'→RR (.ref D) C (.ok .next) s'):
  wpAny (model X.prog X.w) X.A (newList []) (fun acc s₃=>wpAny (model X.prog X.w) X.A (newFunctionEnv scope X.env.globals (clOf X.env scope.names []) [] X.env.qual none .none (some X.env)) (fun cenv s₄ =>
   codeAny (model X.prog X.w) X.A (.compStart (.ListComp elt [⟨tg,iter,ifs,0⟩] scope pos) 0 itv acc { cenv with scope:=relabel scope X.env }) (RR acc cenv.locals) s₄) E s₃) E s2:=by
 obtain ⟨it,fp,tn,J,H2,e,I2,T,st2,f2,hq⟩:=h
 subst e
 refine wpAny_newObj_type (wpAny_newFunctionEnv c.nocell (by intro y hy;simp at hy) (fun h₁ hns₁ hsb₁=>?_) c.kind)
 dsimp only at hns₁ hsb₁ ⊢
 generalize hH2:s2.heap.push { cls:=.type "list",dict:=none,data:=.seq ([]:List Value).toArray }=G2 at hns₁ hsb₁ ⊢
 have hC:G2.objs.size=s2.heap.objs.size + 1:=by rw [← hH2,Heap.size_push]
 have hDC:s2.heap.objs.size≠G2.objs.size:=by rw [hC];exact Nat.ne_of_lt (Nat.lt_succ_self _)
 have hCle:s2.heap.objs.size≤G2.objs.size:=by rw [hC];exact Nat.le_succ _
 have old:∀ b o,s2.heap.get? b=some o→h₁.get? b=some o:=fun b o e=>by
  have hb:=Heap.lt_size e
  exact hsb₁.extBut b o (by rw [hC];exact Nat.ne_of_lt (Nat.lt_succ_of_lt hb)) (Heap.get?_push_of_some _ (hH2 ▸ Heap.get?_push_of_some _ e))
 have hD:H2 s2.heap.objs.size=none:=I2.hok.fresh (Nat.le_refl _)
 have hlt:∀ b∈fp,b<s2.heap.objs.size:=fun b hb=>by
  obtain ⟨o,e,_⟩:=T.obj _ _ st2 b hb
  exact Heap.lt_size e
 have hacc:h₁.get? s2.heap.objs.size=some { cls:=.type "list",data:=.seq ([]:List Value).toArray }:=hsb₁.extBut _ _ hDC (Heap.get?_push_of_some _ (hH2 ▸ Heap.get?_push_size _ rfl))
 obtain ⟨W,⟨m0,w0⟩,turn⟩:=hq _ hD
 have I0:∀ tk,Inv (cxComp X scope (own++frees) G2.objs.size s2 H2 fp) [] (sgC own.length js σ) (upd H2 s2.heap.objs.size (.lst [])) { s2 with heap:=h₁,toks:=tk }:=fun tk=>by
  refine ⟨c.ok I2 f2 hlt hCle _,rfl,I2.bare,Un.laid old (Nat.le_refl _) hD,⟨_,hns₁,fun i x v h1 h2 h3=>?_⟩,fun x a h=>?_,?_,fun x a h=>?_,fun p hp=>absurd (show p∈([]:List (Addr×Obj)) from hp) (by simp),I2.hok.laid old (Nat.le_refl _) ⟨Nat.zero_le _,[],0,.nil,hacc⟩,?_⟩
  ·have hi:own.length≤i:=by
    by_cases hi:i<own.length
    ·unfold sgC at h2
     rw [List.getElem?_append_left (by simpa using hi),List.getElem?_replicate] at h2
     rw [if_pos hi] at h2
     cases h2
    ·omega
   have hx:frees[i - own.length]?=some x:=by
    have h1':(own++frees)[i]?=some x:=h1
    rwa [List.getElem?_append_right hi] at h1'
   have h2':(js.map fun j=>(σ[j]?).join)[i - own.length]?=some (some v):=by
    unfold sgC at h2
    rw [List.getElem?_append_right (by simpa using hi)] at h2
    simpa using h2
   rw [List.getElem?_map] at h2'
   obtain ⟨j,hj,hjv⟩:=Option.map_eq_some_iff.mp h2'
   have hs:=congrArg (fun l=>l[i - own.length]?) c.slots
   rw [List.getElem?_map,List.getElem?_map,hj,hx] at hs
   have hNj:X.N[j]?=some x:=Option.some.inj hs
   have hσ:σ[j]?=some (some v):=by
    cases q:σ[j]? with
    | none=>rw [q] at hjv;cases hjv
    | some o =>
     rw [q] at hjv
     have:o=some v:=hjv
     rw [this]
   have hfree:=c.fre x (List.mem_of_getElem? hx)
   have hXk:=c.fr (x,.free) (PySem.mem_of_lookup hfree) rfl
   obtain ⟨m,hn,hl⟩:=I2.loc
   have vis:Vis X.env.scope x:=by rcases hXk with k | k;exact .inr (.inl k);exact .inr (.inr k)
   obtain ⟨u,r,l⟩:=hl j x v hNj hσ vis
   refine ⟨u,r,.inr ⟨lookup_relabel_free (env:=X.env) hfree,?_⟩⟩
   rcases l with ⟨hk,_⟩ | ⟨_,a,ha,hcell⟩
   ·rcases hXk with k | k
    ·have hk:X.env.scope.names.lookup x=some .local:=hk
     rw [show X.env.scope.names.lookup x=some .cell from k] at hk;cases hk
    ·have hk:X.env.scope.names.lookup x=some .local:=hk
     rw [show X.env.scope.names.lookup x=some .free from k] at hk;cases hk
   ·obtain ⟨a',ha'⟩:=c.has hfree
    have e:=c.cl I2.ok ha'
    rw [ha] at e
    cases e
    obtain ⟨o,ho,hd⟩:=hcell
    exact ⟨a,ha',o,old a o ho,hd⟩
  ·obtain ⟨v,o,ho,hd⟩:=I2.cell x a (c.cl I2.ok h)
   exact ⟨v,o,old a o ho,hd⟩
  ·show upd H2 s2.heap.objs.size (.lst []) G2.objs.size=none
   rw [upd_ne (Ne.symm hDC)]
   exact I2.hok.fresh hCle
  ·obtain ⟨v,o,ho,hd⟩:=I2.cell x a (c.cl I2.ok h)
   rw [upd_ne (Nat.ne_of_lt (Heap.lt_size ho))]
   exact I2.freeC x a (c.cl I2.ok h)
  ·rw [sgC_len,List.length_append]
   have:=congrArg List.length c.slots
   rw [List.length_map,List.length_map] at this
   omega
 have stat:∀ {H':Hp},(∀ b∈fp,H' b=none)→∀ b∈fp,FpOk (cxComp X scope (own++frees) G2.objs.size s2 H2 fp) [] H' b:=fun {H'} hn b hb=>by
  obtain ⟨f0,f1,f3,f4,f5,f6⟩:=f2 b hb
  refine ⟨hn b hb,Nat.ne_of_lt (Nat.lt_of_lt_of_le (hlt b hb) hCle),fun z=>?_,.inl hb,fun x a h=>f5 x a (c.cl I2.ok h),fun p hp=>absurd (show p∈([]:List (Addr×Obj)) from hp) (by simp)⟩
  rcases List.mem_cons.mp (I2.stkSub b z) with e | e
  ·exact f1 e
  ·exact f3 e
 have loop:∀ s₃:Shared,s₃={ s2 with heap:=h₁,toks:=s2.toks + ([]:List (Str×Value)).length } →
   codeAny (model X.prog X.w) X.A (.compLoop (.ListComp elt [⟨tg,iter,ifs,0⟩] scope pos) 0 (.ref it) (.ref s2.heap.objs.size) (compEnvC scope (clOf X.env scope.names []) G2.objs.size X.env))
    (RR (.ref s2.heap.objs.size) G2.objs.size) s₃:=by
  rintro s₃ rfl
  refine compLoop_any (fun n s'=>∃ i ys σ' H',Inv (cxComp X scope (own++frees) G2.objs.size s2 H2 fp) [] σ' H' s'∧tn i s'.heap∧(∀ b∈fp,H' b=none)∧W i n ys σ' H') ?_ m0
   ⟨0,[],_,_,I0 _,T.keep _ _ _ st2 fun b _ o e=>old b o e,fun b hb=>by rw [upd_ne (Nat.ne_of_lt (hlt b hb))];exact (f2 b hb).1,w0⟩
  rintro n s3 ⟨i,ys,σ3,H3,I3,st3,fr3,w3⟩ E'
  rcases turn i n ys σ3 H3 w3 with ⟨stop,qn⟩ | ⟨go,hz,N,hN,step⟩
  ·refine thn (T.done (cxComp X scope (own++frees) G2.objs.size s2 H2 fp) rfl rfl rfl c.calm i [] s3 σ3 H3 E' I3 (stat fr3) st3 stop) fun r s4 ⟨hr,I4⟩=>?_
   subst hr
   have back:Inv X pins σ H3 s4:=I2.call' (ch:=fp) I4.os I4.base I4.hok I4.bare fun b hb=>⟨(f2 b hb).2.2.2.1,(f2 b hb).2.1,(f2 b hb).2.2.2.2.1,(f2 b hb).2.2.2.2.2⟩
   exact hR _ _ H3 s4 back (I2.fpOk hCle I4.free) ⟨_,I4.loc.choose_spec.1⟩ qn
  ·refine thn (T.item (cxComp X scope (own++frees) G2.objs.size s2 H2 fp) rfl rfl rfl c.calm i [] s3 σ3 H3 E' I3 (stat fr3) st3 go) fun r s4 ⟨u,hr,h4⟩=>?_
   subst hr
   refine thn h4 fun _ s5 ⟨x,H5,I5,r5,y5,st5,fr5⟩=>?_
   have I5':=I5.pinned (stat fr5) (T.obj _ _ st5)
   have nof:∀ (e:Value) (s':Shared),(cxComp X scope (own++frees) G2.objs.size s2 H2 fp).xe e s'→E' e s':=fun _ _ z=>False.elim z
   refine wpAny_mono (hg _ _ _ _ _ s5 σ3 H5 x u _ I5' r5 (step x H5 y5)) (fun _ s6 ⟨σ6,H6,I6,q6⟩=>?_) nof
   refine wpAny_mono (ht _ _ _ _ _ s6 σ6 H6 _ I6 q6) (fun b s7 ⟨H7,I7,q7⟩=>?_) nof
   have again:∀ {σ7:St} {H7:Hp} {s7:Shared} {ys':List V},Inv (cxComp X scope (own++frees) G2.objs.size s2 H2 fp) ([]++pinsAt fp s5.heap) σ7 H7 s7→N ys' σ7 H7 →
     ∃ m,m<n∧∃ i ys σ' H',Inv (cxComp X scope (own++frees) G2.objs.size s2 H2 fp) [] σ' H' s7∧tn i s7.heap∧(∀ b∈fp,H' b=none)∧W i m ys σ' H':=fun {σ7 H7 s7 ys'} I7 n7=>by
    obtain ⟨m',hm,w7⟩:=hN _ _ _ n7
    refine ⟨m',hm,i + 1,ys',σ7,H7,I7.unpinned,T.keep _ _ _ st5 fun b hb o e=>(I7.pin (b,o) (List.mem_append_right _ (List.mem_append_right _ (mem_pinsAt hb e)))).1,fun b hb=>?_,w7⟩
    obtain ⟨o,e,d⟩:=T.obj _ _ st5 b hb
    exact (I7.pin (b,o) (List.mem_append_right _ (List.mem_append_right _ (mem_pinsAt hb e)))).2.1
   cases b with
   | false =>
    rw [if_neg Bool.false_ne_true] at q7 ⊢
    exact again I7 q7
   | true =>
    rw [if_pos rfl] at q7 ⊢
    refine wpAny_mono (he _ _ _ _ _ s7 σ6 H7 _ I7 q7) (fun v s8 ⟨y,H8,I8,r8,hD8,w8⟩=>?_) nof
    refine wpAny_mono (mt_append (X:=cxComp X scope (own++frees) G2.objs.size s2 H2 fp) _ s8 σ6 H8 (.ref s2.heap.objs.size) [y] (.ref s2.heap.objs.size) [v] (fun _ H9=>H9=upd H8 s2.heap.objs.size (.lst (ys++[y]))) I8 rfl (.cons r8 .nil) ⟨_,ys,y,rfl,rfl,hD8,hz,rfl⟩) (fun z s9 ⟨_,H9,I9,_,e9⟩=>?_) nof
    subst e9
    exact again I9 w8
 exact codeAny_compStart_list (loop _ rfl) (T.self X.A 0 _ _ _ (T.keep _ _ _ st2 fun b _ o e=>old b o e) (loop _ rfl))
end
section
variable {X:Cx} {scope:Scope} {own frees:LS} {js:List Nat} {tg iter elt:Expr} {ifs:List Expr} {wi:TI} {g:TG} {tt:TT} {te:TE} {pos:Pos}
def tComp (n:Nat) (js:List Nat) (wi:TI) (g:TG) (tt:TT) (te:TE):TE:=fun σ H Q=>wi σ H (compBody n js g tt te σ Q)
def pe_comp (own frees:LS) (js:List Nat) (hc:X.Ok→CompOk X scope own frees js) (hi:PI X tg iter wi)
  (hg:∀ C s H fp,PG (cxComp X scope (own++frees) C s H fp) tg g) (ht:∀ C s H fp,PTs (cxComp X scope (own++frees) C s H fp) ifs tt) (he:∀ C s H fp,PE (cxComp X scope (own++frees) C s H fp) elt te)
  (hs:∀ x,foldedSetIterable iter X.env x=pure x:=by intro _;rfl):
  PE X (.ListComp elt [⟨tg,iter,ifs,0⟩] scope pos) (tComp own.length js wi g tt te):=by
 intro pins s σ H Q I h
 have c:=hc I.ok
 rw [eval_ListComp]
 refine wpAny_comprehension_free (use:=none) rfl hs (closureFor_of (c.cells I.ok)) c.kind c.locals (thn (hi pins s σ H _ I h) fun xv s₁ h₁=>thn h₁ fun it s₂ h₂=>?_)
 refine comp_block (RR:=fun acc C=>compPost (model X.prog X.w) X.A X.xe none (EP X pins σ Q) acc C) c hg ht he h₂ fun D C H' s' J F n q=>?_
 obtain ⟨m,hn⟩:=n
 obtain ⟨f0,f1,f2,f3,f4,f5⟩:=F
 exact ⟨m,hn,fun h' hs'=>⟨.ref D,H',J.turned (t':=s'.toks) (fun b o hb e=>hs'.extBut b o hb e) f0 f1 f3 f4 f5,rfl,q⟩⟩
def tSetComp (k n:Nat) (js:List Nat) (wi:TI) (g:TG) (tt:TT) (te:TE):TS:=fun D σ H=>wi σ H (compBody n js g tt te σ fun v H1=>D.nx (σ.set k (some v)) H1)
def ps_setComp {k:Nat}{y:Str}{py spos:Pos} (own frees:LS) (js:List Nat) (hN:X.N.Nodup) (hk:X.N[k]?=some y) (hy:X.env.scope.names.lookup y=some .local) (hc:X.Ok→CompOk X scope own frees js) (hi:PI X tg iter wi)
  (hg:∀ C s H fp,PG (cxComp X scope (own++frees) C s H fp) tg g) (ht:∀ C s H fp,PTs (cxComp X scope (own++frees) C s H fp) ifs tt) (he:∀ C s H fp,PE (cxComp X scope (own++frees) C s H fp) elt te)
  (hsw:swapsWith (.ListComp elt [⟨tg,iter,ifs,0⟩] scope pos) (some (.Name y py)) spos.line X.env=pure true:=by rfl)
  (hs:∀ x,foldedSetIterable iter X.env x=pure x:=by intro _;rfl):
  PS X (.Assign [.Name y py] (.ListComp elt [⟨tg,iter,ifs,0⟩] scope pos) spos) (tSetComp k own.length js wi g tt te):=by
 intro pins s σ H D I h
 have c:=hc I.ok
 rw [exec_Assign_Name_used _ _ _ _ hsw]
 refine wpAny_bind (wpAny_standAt (wpAny_bind ?_))
 show wpAny _ X.A (do let _ ← comprehension (.ListComp elt [⟨tg,iter,ifs,0⟩] scope pos) scope X.env _ (newList []) false (eval iter X.env) (some (assign (.Name y py) X.env))) _ _ s
 refine wpAny_bind (wpAny_mono (wpAny_comprehension_free (use:=some (assign (.Name y py) X.env)) (Q:=fun _ s'=>SP X pins D .next s') rfl hs (closureFor_of (c.cells I.ok)) c.kind c.locals
  (thn (hi pins s σ H _ I h) fun xv s₁ h₁=>thn h₁ fun it s₂ h₂=>?_)) (fun _ s' hq=>wpAny_pure (wpAny_pure hq)) fun _ _ e=>e)
 refine comp_block (RR:=fun acc C=>compPost (model X.prog X.w) X.A X.xe (some (assign (.Name y py) X.env)) (fun _ s'=>SP X pins D .next s') acc C) c hg ht he h₂ fun A' C H' s' J F n q=>?_
 obtain ⟨m,hn⟩:=n
 obtain ⟨f0,f1,f2,f3,f4,f5⟩:=F
 show wpAny _ X.A (assign (.Name y py) X.env (.ref A')) _ _ _
 refine wpAny_assign_Name (store_ok2 J hN hk (.inl hy) (v:=.ref A') rfl (fun s'' J' ⟨a,sb,ha⟩=>?_) (.inr hy))
 have hne:a≠C:=by
  rcases ha with e | e
  ·rw [e];exact Ne.symm f1
  ·exact f4 y a e
 refine ⟨m,hn.sameBut sb (Ne.symm hne),fun h' hs'=>⟨_,H',J'.turned (t':=s''.toks) (fun b o hb e=>hs'.extBut b o hb e) f0 f1 f3 f4 f5,q⟩⟩
end
def comp_runs {J:It}{xs:List V}{Ok:Hp→Prop}(R:Runs J xs Ok) {n:Nat}{js:List Nat}{g:TG}{tt:TT}{te:TE}{σ:St}{Q:VK}{H1:Hp}(hz:xs.length≤sizeLine)
  (Pv:Addr→Nat→List V→St→Hp→Prop) (h0:∀ D,H1 D=none→Pv D 0 [] (sgC n js σ) (upd H1 D (.lst [])))
  (hok:∀ D i ys σ' H,i≤xs.length→Pv D i ys σ' H→Ok H∧ys.length≤i)
  (hs:∀ D i x ys σ' H,H1 D=none→xs[i]?=some x→Pv D i ys σ' H→g x σ' H fun σ3 H3=>tt σ3 H3 fun b H4 =>
   if b=true then te σ3 H4 fun v H5=>H5 D=some (.lst ys)∧Pv D (i + 1) (ys++[v]) σ3 (upd H5 D (.lst (ys++[v]))) else Pv D (i + 1) ys σ3 H4)
  (hd:∀ D ys σ' H,H1 D=none→Pv D xs.length ys σ' H→Q (.ref D) H):
  compBody n js g tt te σ Q J H1:=by
 intro D hD
 refine ⟨fun i m ys σ' H=>m=xs.length - i∧i≤xs.length∧Pv D i ys σ' H,⟨xs.length,by simp,Nat.zero_le _,h0 D hD⟩,?_⟩
 rintro i m ys σ' H ⟨rfl,hi,p⟩
 obtain ⟨q,hy⟩:=hok D i ys σ' H hi p
 by_cases hlt:i<xs.length
 ·have hx:xs[i]?=some xs[i]:=by simp [hlt]
  refine .inr ⟨R.go i _ H q hx,by omega,Pv D (i + 1),fun ys3 σ3 H3 p3=>⟨xs.length - (i + 1),by omega,rfl,hlt,p3⟩,fun x H' y=>?_⟩
  obtain ⟨e1,e2⟩:=R.yld i _ H x H' q hx y
  rw [e2]
  exact hs D i x ys σ' H hD (by rw [e1];exact hx) p
 ·have e:i=xs.length:=by omega
  subst e
  exact .inl ⟨R.stop H q,hd D ys σ' H hD p⟩
def comp_pure {J:It}{xs:List V}{Ok:Hp→Prop}(R:Runs J xs Ok) {js:List Nat}{tt:TT}{te:TE}{σ:St}{Q:VK}{H1:Hp}(hz:xs.length≤sizeLine) (p:V→Bool) (f:V→V)
  (hok:∀ D ys,H1 D=none→Ok (upd H1 D (.lst ys)))
  (ht:∀ D ys x (R:Bool→Hp→Prop),H1 D=none→x∈xs→R (p x) (upd H1 D (.lst ys))→tt (some x :: js.map fun j=>(σ[j]?).join) (upd H1 D (.lst ys)) R)
  (he:∀ D ys x (R:V→Hp→Prop),H1 D=none→x∈xs→p x=true→R (f x) (upd H1 D (.lst ys))→te (some x :: js.map fun j=>(σ[j]?).join) (upd H1 D (.lst ys)) R)
  (hd:∀ D,H1 D=none→Q (.ref D) (upd H1 D (.lst ((xs.filter p).map f)))):
  compBody 1 js (gName 0) tt te σ Q J H1:=by
 refine comp_runs R hz (fun D i ys σ' H=>H1 D=none∧ys=((xs.take i).filter p).map f∧(∃ o,σ'=o :: js.map fun j=>(σ[j]?).join)∧H=upd H1 D (.lst ys)) ?_ ?_ ?_ ?_
 ·intro D hD
  exact ⟨hD,by simp,⟨none,rfl⟩,rfl⟩
 ·rintro D i ys σ' H hi ⟨hD,e,_,rfl⟩
  refine ⟨hok D ys hD,?_⟩
  rw [e,List.length_map]
  exact Nat.le_trans (List.length_filter_le _ _) (by rw [List.length_take];omega)
 ·rintro D i x ys σ' H hD hx ⟨_,e,⟨o,rfl⟩,rfl⟩
  show tt (some x :: js.map fun j=>(σ[j]?).join) (upd H1 D (.lst ys)) _
  have hm:x∈xs:=List.mem_of_getElem? hx
  refine ht D ys x _ hD hm ?_
  cases hp:p x with
  | true =>
   rw [if_pos rfl]
   refine he D ys x _ hD hm hp ⟨uS,hD,?_,⟨_,rfl⟩,upd_upd⟩
   rw [take_succ_filter p xs i x hx,hp,List.map_append,e]
   rfl
  | false =>
   rw [if_neg Bool.false_ne_true]
   refine ⟨hD,?_,⟨_,rfl⟩,rfl⟩
   rw [take_succ_filter p xs i x hx,hp,List.map_append,e]
   simp
 ·rintro D ys σ' H hD ⟨_,e,_,rfl⟩
  rw [List.take_length] at e
  rw [e]
  exact hd D hD
section
variable {X:Cx}
def bools_get {bs:List Bool}{its:List Value}(r:Vals (bs.map V.bl) its):∀ (i:Nat) (v:Value),its[i]?=some v→v=Value.bool (bs.getD i false):=fun i v h=>by
 have hl:=r.length
 rw [List.length_map] at hl
 have hi:i<its.length:=(List.getElem?_eq_some_iff.mp h).1
 have hb:(bs.map V.bl)[i]?=some (V.bl (bs.getD i false)):=by
  rw [List.getElem?_map,List.getD_eq_getElem?_getD]
  have:i<bs.length:=by omega
  simp [this]
 obtain ⟨u,hu,ru⟩:=r.get hb
 rw [h] at hu
 cases hu
 exact ru
def range_all {bs:List Bool}:(List.range bs.length).all (fun i=>bs.getD i false)=bs.all id:=by
 rw [Bool.eq_iff_iff]
 simp only [List.all_eq_true,List.mem_range,id]
 constructor
 ·intro h b hb
  obtain ⟨i,hi,e⟩:=List.mem_iff_getElem.mp hb
  have:=h i hi
  rw [List.getD_eq_getElem?_getD] at this
  simpa [hi,e] using this
 ·intro h i hi
  rw [List.getD_eq_getElem?_getD]
  simp only [List.getElem?_eq_getElem hi,Option.getD_some]
  exact h _ (List.getElem_mem hi)
def range_any {bs:List Bool}:(List.range bs.length).any (fun i=>bs.getD i false)=bs.any id:=by
 rw [Bool.eq_iff_iff]
 simp only [List.any_eq_true,List.mem_range,id]
 constructor
 ·rintro ⟨i,hi,e⟩
  rw [List.getD_eq_getElem?_getD] at e
  simp only [List.getElem?_eq_getElem hi,Option.getD_some] at e
  exact ⟨_,List.getElem_mem hi,e⟩
 ·rintro ⟨b,hb,e⟩
  obtain ⟨i,hi,e'⟩:=List.mem_iff_getElem.mp hb
  refine ⟨i,hi,?_⟩
  rw [List.getD_eq_getElem?_getD]
  simp only [List.getElem?_eq_getElem hi,Option.getD_some]
  rw [e',e]
def rAll (K:Fg) (f:List Bool→Bool):List V→Hp→VK→Prop:=fun xs H Q=>∃ a bs,xs=[.ref a]∧SqL K H a (bs.map V.bl)∧Q (.bl (f bs)) H
def call_all (hc:X.calm=true):CallR X (.builtin "all") (rAll X.K fun bs=>bs.all id):=by
 intro pins s σ H xs us Q I r h
 obtain ⟨a,bs,rfl,ha,q⟩:=h
 obtain ⟨u,rfl,ru⟩:=vals1 r
 cases ru
 obtain ⟨its,rv,p,hz⟩:=I.list ha
 have hl:=rv.length
 rw [List.length_map] at hl
 refine call_all_walk (wpAny_pyIter_list p.isList ?_)
 have hne:a≠s.heap.objs.size:=by
  obtain ⟨o,ho,_⟩:=p.isList
  exact Nat.ne_of_lt (Heap.lt_size ho)
 refine ⟨s.heap.objs.size,_,_,_,_,_,fun i=>bs.getD i false,rfl,Walks.list (A:=X.A.in1) (I.ok.hd hc) s.heap.objs.size a hne its.toArray,⟨⟨_,Heap.get?_push_size _ rfl,rfl,rfl⟩,?_⟩,?_,?_⟩
 ·obtain ⟨o,ho,r'⟩:=p.isList
  exact ⟨o,Heap.get?_push_of_some _ ho,r'⟩
 ·intro i v s' Q' E' hv hq
  have e:=bools_get rv i v (by simpa using hv)
  subst e
  exact wpAny_truthy_bool hq
 ·intro h' tk hk
  refine ⟨.bl (bs.all id),H,I.kept fun b o e=>hk b o ?_ (Heap.get?_push_of_some _ e),?_,q⟩
  ·have hb:=Heap.lt_size e
   intro z
   have z':b=s.heap.objs.size:=by simpa using z
   exact Nat.ne_of_lt hb z'
  ·have:its.toArray.size=bs.length:=by simp [hl]
   rw [this,range_all]
   rfl
def call_any (hc:X.calm=true):CallR X (.builtin "any") (rAll X.K fun bs=>bs.any id):=by
 intro pins s σ H xs us Q I r h
 obtain ⟨a,bs,rfl,ha,q⟩:=h
 obtain ⟨u,rfl,ru⟩:=vals1 r
 cases ru
 obtain ⟨its,rv,p,hz⟩:=I.list ha
 have hl:=rv.length
 rw [List.length_map] at hl
 refine call_any_walk (wpAny_pyIter_list p.isList ?_)
 have hne:a≠s.heap.objs.size:=by
  obtain ⟨o,ho,_⟩:=p.isList
  exact Nat.ne_of_lt (Heap.lt_size ho)
 refine ⟨s.heap.objs.size,_,_,_,_,_,fun i=>bs.getD i false,rfl,Walks.list (A:=X.A.in1) (I.ok.hd hc) s.heap.objs.size a hne its.toArray,⟨⟨_,Heap.get?_push_size _ rfl,rfl,rfl⟩,?_⟩,?_,?_⟩
 ·obtain ⟨o,ho,r'⟩:=p.isList
  exact ⟨o,Heap.get?_push_of_some _ ho,r'⟩
 ·intro i v s' Q' E' hv hq
  have e:=bools_get rv i v (by simpa using hv)
  subst e
  exact wpAny_truthy_bool hq
 ·intro h' tk hk
  refine ⟨.bl (bs.any id),H,I.kept fun b o e=>hk b o ?_ (Heap.get?_push_of_some _ e),?_,q⟩
  ·have hb:=Heap.lt_size e
   intro z
   have z':b=s.heap.objs.size:=by simpa using z
   exact Nat.ne_of_lt hb z'
  ·have:its.toArray.size=bs.length:=by simp [hl]
   rw [this,range_any]
   rfl
def CMulB (i j:Int):Prop:=Builtin.Int.intBits i≤2 ^ 20∧Builtin.Int.intBits j≤2 ^ 20
def op_mulB:OpR X (binaryOp .Mult) (rI CMulB fun i j=>.int (i * j)):=opI fun _ _ _ _ _ _ _ hc q=>mul_int q (IntMulOk.of_bits hc.1 hc.2)
def CDivB (i j:Int):Prop:=0<j∧j<4611686018427387904
def op_fdivB:OpR X (binaryOp .FloorDiv) (rI CDivB fun i j=>.int (i / j)):=opI fun i j _ _ _ _ _ hc q=>by
 have h1:(0:Int)<j:=hc.1
 have h2:j<4611686018427387904:=hc.2
 refine floordiv_int (by omega) (by rw [Int.fdiv_eq_ediv_of_nonneg i (by omega)];exact q) (.inl (PyProof.noPylong_of_log2 ?_))
 have h3:j.natAbs.log2<62:=(Nat.log2_lt (by omega)).mpr (by omega)
 omega
def rSlS:V→Option Int→Option Int→Hp→VK→Prop:=fun x lo hi H Q=>∃ z,x=.str z∧z.length≤sizeLine∧Q (.str (Txt.slice z lo hi)) H
def sl_str:SlR X rSlS:=by
 intro pins s σ H x v vl vu lo hi sl Q I rx hs pl pu h
 obtain ⟨z,rfl,hz,q⟩:=h
 obtain ⟨t,rfl⟩:=rx
 refine ⟨"str",_,F.slot_str_getitem.lookup,typeIs_str _ _ _,?_⟩
 have fin:∀ t' k,EP X pins σ Q (.str (Txt.slice z lo hi) t') { s with toks:=k }:=fun t' k=>⟨.str _,H,I.tok _,⟨_,rfl⟩,q⟩
 have hsz:=Nat.le_trans (Txt.slice_le z lo hi) hz
 obtain ⟨o,h1,h2,h3⟩:=hs
 cases pl with
 | none =>
  cases pu with
  | none=>exact wpAny_getItem_str_slice (l:=none) (u:=none) (st:=none) ⟨o,h1,h2,h3⟩ rfl (post_val_or_str ⟨hsz,fin⟩)
  | int j uj=>exact wpAny_getItem_str_slice (l:=none) (u:=some (j,uj)) (st:=none) ⟨o,h1,h2,h3⟩ rfl (post_val_or_str ⟨hsz,fin⟩)
 | int i ui =>
  cases pu with
  | none=>exact wpAny_getItem_str_slice (l:=some (i,ui)) (u:=none) (st:=none) ⟨o,h1,h2,h3⟩ rfl (post_val_or_str ⟨hsz,fin⟩)
  | int j uj=>exact wpAny_getItem_str_slice (l:=some (i,ui)) (u:=some (j,uj)) (st:=none) ⟨o,h1,h2,h3⟩ rfl (post_val_or_str ⟨hsz,fin⟩)
end
def compT (osc:Scope) (on:LS) (scope:Scope) (frees:LS) (js:List Nat):Bool :=
 (scope.kind == .function)&&scope.names.all (fun y=>y.2 != .cell)&&scope.names.all (fun y=>y.2 != .local || scope.names.lookup y.1 == some .local) &&
 scope.names.all (fun y=>y.2 != .free || (osc.names.lookup y.1 == some .cell || osc.names.lookup y.1 == some .free))&&frees.all (fun x=>scope.names.lookup x == some .free)&&decide (js.map (fun j=>on[j]?)=frees.map some)
def compT_ok {X:Cx}{osc scope:Scope}{on own frees:LS}{js:List Nat}(h:compT osc on scope frees js=true) (h1:X.env.scope=osc) (h2:X.N=on) (h3:X.calm=true):CompOk X scope own frees js:=by
 subst h1
 subst h2
 unfold compT at h
 simp only [Bool.and_eq_true,List.all_eq_true,decide_eq_true_eq,Bool.or_eq_true,bne_iff_ne,beq_iff_eq,ne_eq] at h
 obtain ⟨⟨⟨⟨⟨a,b⟩,c⟩,d⟩,e⟩,f⟩:=h
 exact ⟨h3,a,b,fun y hy z=>(c y hy).resolve_left (fun q=>q z),fun y hy z=>(d y hy).resolve_left (fun q=>q z),e,f⟩
def tCut (t u:TS):TS:=fun D σ H=>∃ M:St→Hp→Prop,t { D with nx:=M } σ H∧∀ σ' H',M σ' H'→u D σ' H'
def pss_cut {X:Cx}{st:Stmt}{rest:List Stmt}{t u:TS} (h1:PS X st t) (h2:PSs X rest u):PSs X (st :: rest) (tCut t u):=by
 intro pins s σ H D I h
 obtain ⟨M,h,hM⟩:=h
 refine wpAny_execs_cons (thn (h1 pins s σ H { D with nx:=M } I h) fun f s1 q=>?_)
 cases f with
 | next =>
  obtain ⟨σ',H',I',q⟩:=q
  exact h2 pins s1 σ' H' D I' (hM _ _ q)
 | ret v=>exact q
 | brk=>exact q
 | cont=>exact q
structure Def (K:Fg) (mg:Str→Option Value) (x:Str) (st:Stmt) (ps:LS) (f:Addr) (fd:FuncData):Prop where
 fn:Fun K x x st f fd
 b:Binds K fd ps []
 m:mg x=some (.ref f)
def pe_callD {X:Cx}{k:Nat}{ps:LS}{sp:Sp}{x:Str}{st:Stmt}{p pos:Pos}{e:Expr}{es:List Expr}{t:TA}(d:Def X.K X.mg x st ps f fd) (F:FnOk X.prog X.w X.K X.mg X.base CX0 k f fd ps sp) (hr:Room k X.A)
  (ha:PA X (e :: es) t) (hg:Gl X x:=by rfl) (hdb:(x == ("__debug__":Str))=false:=by decide) (he:starEach (e :: es) X.env=(false,eval e X.env):: starEach es X.env:=by rfl) (hpl:(backTo pos (starEach es X.env)).any (·.1)=false:=by rfl):
  PE X (.Call (.Name x p) (e :: es) [] pos) (tCall sp [] E0 t):=pe_call F hr hg d.m d.fn.kp d.b .nil pass0 ha hdb he hpl
def sL {n:Nat}(h:n≤100000):n≤sizeLine:=by rw [sizeLine_eq];omega
end L2
namespace L2
open PySem PySem.Spec PyProof.Rows PySem.W
mutual
inductive Rep (K:Fg) (H:Hp):V→Dat→Prop
 | none:Rep K H .non .none
 | bool (b:Bool):Rep K H (.bl b) (.bool b)
 | int (i:Int):Rep K H (.int i) (.int i)
 | str (x:Str):Rep K H (.str x) (.str x)
 | tuple {a:Addr} {xs:List V} {ds:List Dat}:SqT K H a xs→Reps K H xs ds→Rep K H (.ref a) (.tuple ds)
 | list {a:Addr} {xs:List V} {ds:List Dat}:SqL K H a xs→Reps K H xs ds→Rep K H (.ref a) (.list ds)
inductive Reps (K:Fg) (H:Hp):List V→List Dat→Prop
 | nil:Reps K H [] []
 | cons {v:V} {vs:List V} {d:Dat} {ds:List Dat}:Rep K H v d→Reps K H vs ds→Reps K H (v :: vs) (d :: ds)
end
def Same.tup {K:Fg}{H H':Hp}{a:Addr}{xs:List V}(e:Same H H') (h:SqT K H a xs):SqT K H' a xs:=by
 rcases h with (h | ⟨o,h⟩) | h
 ·exact .inl (.inl (e _ _ h))
 ·exact .inl (.inr ⟨o,e _ _ h⟩)
 ·exact .inr h
mutual
theorem Rep.mono {K:Fg}{H H':Hp}(e:Same H H'):∀ {v:V}{d:Dat},Rep K H v d→Rep K H' v d
 | _,_,.none=>.none
 | _,_,.bool b=>.bool b
 | _,_,.int i=>.int i
 | _,_,.str x=>.str x
 | _,_,.tuple h r=>.tuple (e.tup h) (Reps.mono e r)
 | _,_,.list h r=>.list (e.seq h) (Reps.mono e r)
theorem Reps.mono {K:Fg}{H H':Hp}(e:Same H H'):∀ {vs:List V}{ds:List Dat},Reps K H vs ds→Reps K H' vs ds
 | _,_,.nil=>.nil
 | _,_,.cons h r=>.cons (Rep.mono e h) (Reps.mono e r)
end
section
variable {X:Cx} {pins:List (Addr×Obj)} {σ:St} {H:Hp} {s:Shared}
mutual
theorem Rep.reads (I:Inv X pins σ H s):∀ {v:V}{d:Dat}{u:Value},Rep X.K H v d→RelV v u→∃ as,Reads s.heap u (kqdP d) as
 | _,_,_,.none,r=>by cases (show _=Value.none from r);rw [kqdP];exact ⟨_,Reads.none⟩
 | _,_,_,.bool b,r=>by cases (show _=Value.bool b from r);rw [kqdP];exact ⟨_,Reads.bool b⟩
 | _,_,_,.int i,r=>by obtain ⟨t,e⟩:=(show ∃ t,_=Value.int i t from r);cases e;rw [kqdP];exact ⟨_,Reads.int i t⟩
 | _,_,_,.str x,r=>by obtain ⟨t,e⟩:=(show ∃ t,_=Value.str x t from r);cases e;rw [kqdP];exact ⟨_,Reads.str x t⟩
 | _,_,_,.tuple (a:=a) h q,r=>by
  cases (show _=Value.ref a from r)
  obtain ⟨its,rv,⟨o,e,c,n,d⟩,_⟩:=I.tuple h
  obtain ⟨as,p⟩:=Reps.reads I q rv
  rw [kqdP]
  exact ⟨as,reads_tuple_at e c d (by simpa using p)⟩
 | _,_,_,.list (a:=a) h q,r=>by
  cases (show _=Value.ref a from r)
  obtain ⟨its,rv,⟨o,n,e,c,_,d⟩,_⟩:=I.list h
  obtain ⟨as,p⟩:=Reps.reads I q rv
  rw [kqdP]
  exact ⟨_,reads_list_at e c d (by simpa using p)⟩
theorem Reps.reads (I:Inv X pins σ H s):∀ {vs:List V}{ds:List Dat}{us:List Value},Reps X.K H vs ds→Vals vs us→∃ as,ReadsAll s.heap us (kqdPs ds) as
 | _,_,_,.nil,r=>by cases r;rw [kqdPs];exact ⟨_,ReadsAll.nil⟩
 | _,_,_,.cons h q,r=>by
  cases r with
  | cons r1 r2 =>
   obtain ⟨as,p⟩:=Rep.reads I h r1
   obtain ⟨bs,t⟩:=Reps.reads I q r2
   rw [kqdPs]
   exact ⟨_,ReadsAll.cons p t⟩
end
end
def dEq (d e:Dat):Bool:=@decide (d=e) (Classical.propDecidable _)
def dEq_self (d:Dat):dEq d d=true:=by unfold dEq;exact @decide_eq_true _ (Classical.propDecidable _) rfl
def dEq_pos {d e:Dat}(h:d=e):dEq d e=true:=by rw [h];exact dEq_self e
def dEq_neg {d e:Dat}(h:d≠e):dEq d e=false:=by unfold dEq;exact @decide_eq_false _ (Classical.propDecidable _) h
def eqv_dEq {d e:Dat}{n k:Nat} (h1:kqdOk n d=true) (h2:kqdOk k e=true):PyData.eqv (kqdP d) (kqdP e)=dEq d e:=by
 have q:=kqd_eqv n d e k h1 h2
 by_cases h:d=e
 ·rw [dEq_pos h];exact q.mpr h
 ·rw [dEq_neg h];exact Bool.eq_false_iff.mpr fun x=>h (q.mp x)
def shaped_of {d:Dat}(h:kqdOk 9 d=true):SeqAt.shaped (kqdP d)=true:=by
 have l:=kqd_lay 9 d h
 unfold SeqAt.shaped
 rw [l.1,Bool.true_and]
 exact decide_eq_true (Nat.le_trans l.2 (by decide))
section
variable {X:Cx}
def rEqD (K:Fg) (f:Bool→Bool):R2:=fun x y H Q=>∃ d e,Rep K H x d∧Rep K H y e∧kqdOk 9 d=true∧kqdOk 9 e=true∧Q (.bl (f (dEq d e))) H
def op_eqD (hu:X.A.units + 64<cLine):OpR X (compareOp .Eq) (rEqD X.K id):=by
 intro pins s σ H x y v u Q I rx ry h
 obtain ⟨d,e,h1,h2,k1,k2,q⟩:=h
 obtain ⟨as,ra⟩:=h1.reads I rx
 obtain ⟨bs,rb⟩:=h2.reads I ry
 exact eq_dataH ra rb (shaped_of k1) (shaped_of k2) hu (fin_bl I q (by rw [eqv_dEq k1 k2];rfl))
def op_neD (hu:X.A.units + 64<cLine):OpR X (compareOp .NotEq) (rEqD X.K Bool.not):=by
 intro pins s σ H x y v u Q I rx ry h
 obtain ⟨d,e,h1,h2,k1,k2,q⟩:=h
 obtain ⟨as,ra⟩:=h1.reads I rx
 obtain ⟨bs,rb⟩:=h2.reads I ry
 exact ne_dataH ra rb (shaped_of k1) (shaped_of k2) hu (fin_bl I q (by rw [eqv_dEq k1 k2]))
end
end L2
namespace L2
open PySem PySem.Spec PyProof.Rows
section
variable {X:Cx} {pins:List (Addr×Obj)} {σ:St} {H H':Hp} {s:Shared} {a:Addr} {kvs:List (Key×V)} {o:Obj}
def Inv.reH (I:Inv X pins σ H s) (base:Un X.fs X.ex X.H₀ H' X.s₀.heap s.heap) (hn:∀ b,H b=none→H' b=none) (hok:HOk X.prog X.w H' s.heap):Inv X pins σ H' s :=
 ⟨I.ok,I.os,I.bare,base,I.loc,I.cell,hn _ I.free,fun x c e=>hn _ (I.freeC x c e),fun p hp=>by
  obtain ⟨e,n,r⟩:=I.pin p hp
  exact ⟨e,hn _ n,r⟩,hok,I.len⟩
def Inv.reAt {u u':HO}(I:Inv X pins σ H s) (h:H a=some u) (nt:∀ xs,u≠.tup xs) (no:∀ y,u≠.own y) (nb:∀ ps,u≠.tbl ps) (nf:∀ o v,X.H₀ a≠some (.frz o v))
  (ok:ObjOk X.prog X.w H s.heap a u→ObjOk X.prog X.w (upd H a u') s.heap a u'):Inv X pins σ (upd H a u') s:=by
 have hn:∀ b,H b=none→upd H a u' b=none:=fun b e=>by
  rw [upd_ne]
  ·exact e
  ·rintro rfl;rw [h] at e;cases e
 refine I.reH ⟨I.base.keep,I.base.slot,fun b ob e n hx=>hn b (I.base.free b ob e n hx),I.base.there,fun b xs e=>?_,fun b ob v e=>?_,fun b ps e=>?_⟩ hn ?_
 ·have q:=I.base.tups b xs e
  rw [upd_ne]
  ·exact q
  ·rintro rfl;rw [h] at q;exact nt xs (Option.some.inj q)
 ·have q:=I.base.frzs b ob v e
  rw [upd_ne]
  ·exact q
  ·rintro rfl;exact nf ob v e
 ·obtain ⟨m,q⟩:=I.base.tbls b ps e
  refine ⟨m,?_⟩
  rw [upd_ne]
  ·exact q
  ·rintro rfl;rw [h] at q;exact nb _ (Option.some.inj q)
 ·intro b v e
  by_cases hb:b=a
  ·subst hb
   rw [uS] at e
   cases e
   exact ok (I.hok b u h)
  ·rw [upd_ne hb] at e
   refine (I.hok b v e).stay (fun _ _ _ q=>q) (fun c q=>?_) fun c xs q=>?_
   ·rw [upd_ne]
    ·exact q
    ·rintro rfl;rw [h] at q;exact no _ (Option.some.inj q)
   ·rw [upd_ne]
    ·exact q
    ·rintro rfl;rw [h] at q;exact nt _ (Option.some.inj q)
def Inv.freeze (I:Inv X pins σ H s) (h:H a=some (.dK kvs)) (ho:s.heap.get? a=some o):Inv X pins σ (upd H a (.frz o (.dK kvs))) s∧∀ o' v,X.H₀ a≠some (.frz o' v):=by
 have nf:∀ o' v,X.H₀ a≠some (.frz o' v):=fun o' v e=>by
  have q:=I.base.frzs a o' v e
  rw [h] at q
  cases q
 refine ⟨I.reAt h (fun _ z=>nomatch z) (fun _ z=>nomatch z) (fun _ z=>nomatch z) nf fun k=>⟨ho,k.stay (fun _ _ _ q=>q) (fun c q=>?_) fun c xs q=>?_⟩,nf⟩
 ·rw [upd_ne]
  ·exact q
  ·rintro rfl;rw [h] at q;cases q
 ·rw [upd_ne]
  ·exact q
  ·rintro rfl;rw [h] at q;cases q
def relKey {P:Program}{w:World}{k:Key}{u:Value}(h:(mixKind P w).is k u=true):RelV (kV k) u:=by
 rcases keyIs_shape (show keyIs k u=true from h) with ⟨i,t,rfl,rfl⟩ | ⟨x,t,rfl,rfl⟩
 ·exact ⟨t,rfl⟩
 ·exact ⟨t,rfl⟩
end
def Itk (a:Addr) (o:Obj) (kvs:List (Key×V)):It :=
 ⟨fun i H=>i<kvs.length∧H a=some (.frz o (.dK kvs)),fun i H v H'=>H'=H∧∃ p,kvs[i]?=some p∧v=kV p.1,fun i H=>kvs.length≤i∧H a=some (.frz o (.dK kvs))⟩
def Itv (a:Addr) (o:Obj) (kvs:List (Key×V)):It :=
 ⟨fun i H=>i<kvs.length∧H a=some (.frz o (.dK kvs)),fun i H v H'=>H'=H∧∃ p,kvs[i]?=some p∧v=p.2,fun i H=>kvs.length≤i∧H a=some (.frz o (.dK kvs))⟩
theorem KV.get {κ:Type}:∀ {kvs:List (κ×V)}{vs:List (κ×Value)},KV kvs vs→∀ {i:Nat}{p:κ×V},kvs[i]?=some p→∃ u,vs[i]?=some (p.1,u)∧RelV p.2 u
 | _,_,.nil,i,p,h=>by simp at h
 | _,_,.cons r t,0,p,h=>by
  simp at h
  subst h
  exact ⟨_,by simp [r.1],r.2⟩
 | _,_,.cons r t,i + 1,p,h=>by
  obtain ⟨u,h1,h2⟩:=KV.get t (i:=i) (p:=p) (by simpa using h)
  exact ⟨u,by simpa using h1,h2⟩
def frz_dict {P:Program}{w:World}{H:Hp}{h:Heap}{a:Addr}{o:Obj}{kvs:List (Key×V)}{es:Array DictEntry}{ep:Nat}(ok:ObjOk P w H h a (.frz o (.dK kvs))) (hd:o.data=.dict es ep):
  (a == sysModules)=false∧∃ vs,KV kvs vs∧h.DictAt (mixKind P w) a vs ep:=by
 obtain ⟨ho,z,hs,vs,r,o',es',ep',h1,h2,h3,h4,h5,h6⟩:=ok
 rw [ho] at h1
 cases h1
 rw [hd] at h3
 cases h3
 exact ⟨hs,vs,r,o,es,ho,h2,hd,h4,h5,h6⟩
def turn_keys {P:Program}{w:World}{K:Fg}{tg:Expr} (a it:Addr) (o:Obj) (kvs:List (Key×V)) (es:Array DictEntry) (ep:Nat) (hd:o.data=.dict es ep):
  Turn P w K tg (Itk a o kvs) [it] it (fun i h=>h.IsKeyIter it a i kvs.length ep) where
 mem:=by simp
 obj:=fun i h st b hb=>by
  have e:b=it:=by simpa using hb
  subst e
  obtain ⟨o,e,c,d⟩:=st
  exact ⟨o,e,fun v z=>by rw [d] at z;cases z⟩
 keep:=fun i h h' st k=>by
  obtain ⟨o,ho,r⟩:=st
  exact ⟨o,k it (by simp) o ho,r⟩
 item:=by
  intro X hP hw hK hc i pins s σ H E I hf st hg
  subst hP hw hK
  obtain ⟨f0,f1,f2,f3,f4,f5⟩:=hf it (by simp)
  obtain ⟨hi,ha⟩:=hg
  obtain ⟨_,vs,r,dd⟩:=frz_dict (I.hok a _ ha) hd
  obtain ⟨p,hp⟩:∃ p,kvs[i]?=some p:=⟨kvs[i],by simp [hi]⟩
  obtain ⟨u,hu,ru⟩:=r.get hp
  have hl:kvs.length=vs.length:=Paired.length r
  rw [hl] at st
  refine wpAny_pyNext_dict_item st dd hu fun key h' hk st' sb=>?_
  have I1:Inv X pins σ H { s with heap:=h' }:=I.turned (t':=s.toks) (fun b o hb e=>(sb.2 b hb).trans e) f0 f1 f3 f4 f5
  obtain ⟨o',e,c,d⟩:=id st'
  rw [← hl] at st'
  exact ⟨key,rfl,go_of (s:={ s with heap:=h' }) e c d (by decide) ⟨kV p.1,H,I1,relKey hk,⟨rfl,p,hp,rfl⟩,st',fun b hb=>(hf b hb).1⟩⟩
 done:=by
  intro X hP hw hK hc i pins s σ H E I hf st hg
  subst hP hw hK
  obtain ⟨f0,f1,f2,f3,f4,f5⟩:=hf it (by simp)
  obtain ⟨hi,ha⟩:=hg
  obtain ⟨_,vs,r,dd⟩:=frz_dict (I.hok a _ ha) hd
  have hl:kvs.length=vs.length:=Paired.length r
  rw [hl] at st
  exact wpAny_pyNext_dict_end (I.ok.hd hc) st dd (by simp;omega) fun h' eb=>⟨rfl,I.turned (t':=s.toks) (fun b o hb e=>eb b o hb e) f0 f1 f3 f4 f5⟩
 self:=fun _ _ _ _ _ st h=>wpAny_pyIter_keyiter st h
def turn_vals {P:Program}{w:World}{K:Fg}{tg:Expr} (a it:Addr) (o:Obj) (kvs:List (Key×V)) (es:Array DictEntry) (ep:Nat) (hd:o.data=.dict es ep):
  Turn P w K tg (Itv a o kvs) [it] it (fun i h=>h.IsValIter it a i kvs.length ep) where
 mem:=by simp
 obj:=fun i h st b hb=>by
  have e:b=it:=by simpa using hb
  subst e
  obtain ⟨o,e,c,d⟩:=st
  exact ⟨o,e,fun v z=>by rw [d] at z;cases z⟩
 keep:=fun i h h' st k=>by
  obtain ⟨o,ho,r⟩:=st
  exact ⟨o,k it (by simp) o ho,r⟩
 item:=by
  intro X hP hw hK hc i pins s σ H E I hf st hg
  subst hP hw hK
  obtain ⟨f0,f1,f2,f3,f4,f5⟩:=hf it (by simp)
  obtain ⟨hi,ha⟩:=hg
  obtain ⟨_,vs,r,dd⟩:=frz_dict (I.hok a _ ha) hd
  obtain ⟨p,hp⟩:∃ p,kvs[i]?=some p:=⟨kvs[i],by simp [hi]⟩
  obtain ⟨u,hu,ru⟩:=r.get hp
  have hl:kvs.length=vs.length:=Paired.length r
  rw [hl] at st
  refine wpAny_pyNext_values_item st dd hu fun h' st' sb=>?_
  have I1:Inv X pins σ H { s with heap:=h' }:=I.turned (t':=s.toks) (fun b o hb e=>(sb.2 b hb).trans e) f0 f1 f3 f4 f5
  obtain ⟨o',e,c,d⟩:=id st'
  rw [← hl] at st'
  exact ⟨u,rfl,go_of (s:={ s with heap:=h' }) e c d (by decide) ⟨p.2,H,I1,ru,⟨rfl,p,hp,rfl⟩,st',fun b hb=>(hf b hb).1⟩⟩
 done:=by
  intro X hP hw hK hc i pins s σ H E I hf st hg
  subst hP hw hK
  obtain ⟨f0,f1,f2,f3,f4,f5⟩:=hf it (by simp)
  obtain ⟨hi,ha⟩:=hg
  obtain ⟨_,vs,r,dd⟩:=frz_dict (I.hok a _ ha) hd
  have hl:kvs.length=vs.length:=Paired.length r
  rw [hl] at st
  exact wpAny_pyNext_values_end (I.ok.hd hc) st dd (by simp;omega) fun h' eb=>⟨rfl,I.turned (t':=s.toks) (fun b o hb e=>eb b o hb e) f0 f1 f3 f4 f5⟩
 self:=fun _ _ _ _ _ st h=>wpAny_pyIter_valiter st h
def tFrz (t:TS):TS:=fun D σ H=>∃ a kvs,H a=some (.dK kvs)∧∀ o,t D σ (upd H a (.frz o (.dK kvs)))
def pss_frz {X:Cx}{sts:List Stmt}{t:TS}(h:PSs X sts t):PSs X sts (tFrz t):=by
 intro pins s σ H D I q
 obtain ⟨a,kvs,ha,q⟩:=q
 obtain ⟨o,ho⟩:∃ o,s.heap.get? a=some o:=by
  obtain ⟨_,_,vs,_,o,_,_,e,_⟩:=I.hok a _ ha
  exact ⟨o,e⟩
 exact h pins s σ _ D (I.freeze ha ho).1 (q o)
def frz_data {P:Program}{w:World}{H:Hp}{h:Heap}{a:Addr}{o:Obj}{kvs:List (Key×V)}(ok:ObjOk P w H h a (.frz o (.dK kvs))):∃ es ep,o.data=.dict es ep:=by
 obtain ⟨ho,z,hs,vs,r,o',es',ep',h1,h2,h3,_⟩:=ok
 rw [ho] at h1
 cases h1
 exact ⟨es',ep',h3⟩
def runs_keys {a:Addr}{o:Obj}{kvs:List (Key×V)}:Runs (Itk a o kvs) (kvs.map fun p=>kV p.1) (fun H=>H a=some (.frz o (.dK kvs))) where
 go:=fun i x H ok hx=>by
  have:=(List.getElem?_eq_some_iff.mp hx).1
  rw [List.length_map] at this
  exact ⟨this,ok⟩
 yld:=fun i x H y H' ok hx h=>by
  obtain ⟨e,p,hp,hy⟩:=h
  rw [List.getElem?_map,hp] at hx
  exact ⟨hy.trans (Option.some.inj hx),e⟩
 stop:=fun H ok=>⟨by rw [List.length_map];exact Nat.le_refl _,ok⟩
def runs_vals {a:Addr}{o:Obj}{kvs:List (Key×V)}:Runs (Itv a o kvs) (kvs.map fun p=>p.2) (fun H=>H a=some (.frz o (.dK kvs))) where
 go:=fun i x H ok hx=>by
  have:=(List.getElem?_eq_some_iff.mp hx).1
  rw [List.length_map] at this
  exact ⟨this,ok⟩
 yld:=fun i x H y H' ok hx h=>by
  obtain ⟨e,p,hp,hy⟩:=h
  rw [List.getElem?_map,hp] at hx
  exact ⟨hy.trans (Option.some.inj hx),e⟩
 stop:=fun H ok=>⟨by rw [List.length_map];exact Nat.le_refl _,ok⟩
section
variable {X:Cx} {tg:Expr}
def iKeys (tl:TE):TI:=fun σ H R=>tl σ H fun x H1=>∃ a o kvs,x=.ref a∧H1 a=some (.frz o (.dK kvs))∧R (Itk a o kvs) H1
def pi_keys {l:Expr}{tl:TE}(hl:PE X l tl):PI X tg l (iKeys tl):=by
 intro pins s σ H R I h
 refine thn (hl pins s σ H _ I h) fun v s1 ⟨x,H1,I1,r1,q1⟩=>?_
 obtain ⟨a,o,kvs,e,ha,q⟩:=q1
 subst e
 cases r1
 obtain ⟨es,ep,hd⟩:=frz_data (I1.hok a _ ha)
 obtain ⟨hs,vs,r,dd⟩:=frz_dict (I1.hok a _ ha) hd
 have hl:kvs.length=vs.length:=Paired.length r
 refine wpAny_pyIter_dict hs dd ?_
 refine ⟨s1.heap.objs.size,[s1.heap.objs.size],_,_,H1,rfl,I1.kept (t':=s1.toks) fun b o e=>Heap.get?_push_of_some _ e,turn_keys a _ o kvs es ep hd,⟨_,Heap.get?_push_size _ rfl,rfl,by rw [hl];rfl⟩,fun b hb=>?_,q⟩
 have e:b=s1.heap.objs.size:=by simpa using hb
 subst e
 exact I1.fpOk (Nat.le_refl _) (I1.hok.fresh (Nat.le_refl _))
end
def small_line' {n:Nat}(h:n≤10000000):n≤sizeLine:=by rw [sizeLine_eq];omega
theorem vals_of:∀ {xs:List V}{us:List Value},xs.length=us.length→(∀ (i:Nat) (v:V) (u:Value),xs[i]?=some v→us[i]?=some u→RelV v u)→Vals xs us
 | [],[],_,_=>.nil
 | [],_ :: _,h,_=>by simp at h
 | _ :: _,[],h,_=>by simp at h
 | x :: xs,u :: us,h,k=>.cons (k 0 x u rfl rfl) (vals_of (by simpa using h) fun i v w hv hw=>k (i + 1) v w (by simpa using hv) (by simpa using hw))
def comp_rel {J:It}{xs:List V}{Ok:Hp→Prop}(R:Runs J xs Ok) {js:List Nat}{tt:TT}{te:TE}{σ:St}{Q:VK}{H1:Hp}(hz:xs.length≤sizeLine) (p:V→Bool) (F:Addr→V→V→Hp→Prop)
  (hF:∀ D x v H H',(∀ b o,b≠D→H b=some o→H' b=some o)→F D x v H→F D x v H')
  (hok:∀ H,Same H1 H→Ok H)
  (ht:∀ x H (R:Bool→Hp→Prop),Same H1 H→x∈xs→(∀ H',Same H H'→R (p x) H')→tt (some x :: js.map fun j=>(σ[j]?).join) H R)
  (he:∀ D x H (R:V→Hp→Prop),Same H1 H→(∃ ys,H D=some (.lst ys))→H1 D=none→x∈xs→p x=true→(∀ v H',Same H H'→F D x v H'→R v H')→te (some x :: js.map fun j=>(σ[j]?).join) H R)
  (hd:∀ D H' ys,H1 D=none→Same H1 H'→H' D=some (.lst ys)→Paired (fun x v=>F D x v H') (xs.filter p) ys→Q (.ref D) H'):
  compBody 1 js (gName 0) tt te σ Q J H1:=by
 refine comp_runs R hz (fun D i ys σ' H=>H1 D=none∧Same H1 H∧H D=some (.lst ys)∧Paired (fun x v=>F D x v H) ((xs.take i).filter p) ys∧∃ o,σ'=o :: js.map fun j=>(σ[j]?).join) ?_ ?_ ?_ ?_
 ·intro D hD
  exact ⟨hD,fun b o e=>by rw [upd_ne (nNo e hD)];exact e,uS,by simpa using Paired.nil,none,rfl⟩
 ·rintro D i ys σ' H hi ⟨hD,hs,hl,hp,_⟩
  refine ⟨hok H hs,?_⟩
  rw [← hp.length]
  exact Nat.le_trans (List.length_filter_le _ _) (by rw [List.length_take];omega)
 ·rintro D i x ys σ' H hD hx ⟨_,hs,hl,hp,o,rfl⟩
  show tt (some x :: js.map fun j=>(σ[j]?).join) H _
  have hm:x∈xs:=List.mem_of_getElem? hx
  refine ht x H _ hs hm fun H4 s4=>?_
  have hs4:Same H1 H4:=hs.trans s4
  have mono:∀ {H H':Hp},(∀ b o,b≠D→H b=some o→H' b=some o)→Paired (fun x v=>F D x v H) ((xs.take i).filter p) ys→Paired (fun x v=>F D x v H') ((xs.take i).filter p) ys:=fun h q=>Paired.mapP q fun a b z=>hF D a b _ _ h z
  cases hpx:p x with
  | true =>
   rw [if_pos rfl]
   refine he D x H4 _ hs4 ⟨_,s4 _ _ hl⟩ hD hm hpx fun v H5 s5 f5=>⟨s5 _ _ (s4 _ _ hl),hD,fun b o e=>?_,uS,?_,_,rfl⟩
   ·rw [upd_ne (nNo e hD)]
    exact s5 _ _ (hs4 _ _ e)
   ·rw [take_succ_filter p xs i x hx,hpx,if_pos rfl]
    refine Paired.snoc (mono (fun b o hb e=>by rw [upd_ne hb];exact s5 _ _ (s4 _ _ e)) hp) (hF D _ _ _ _ (fun b o hb e=>by rw [upd_ne hb];exact e) f5)
  | false =>
   rw [if_neg Bool.false_ne_true]
   refine ⟨hD,hs4,s4 _ _ hl,?_,_,rfl⟩
   rw [take_succ_filter p xs i x hx,hpx,if_neg Bool.false_ne_true,List.append_nil]
   exact mono (fun b o _ e=>s4 _ _ e) hp
 ·rintro D ys σ' H hD ⟨_,hs,hl,hp,_⟩
  rw [List.take_length] at hp
  exact hd D H ys hD hs hl hp
section
variable {X:Cx}
def rInsert:V→List V→Hp→VK→Prop:=fun x vs H Q=>∃ l xs i y,x=.ref l∧vs=[.int i,y]∧H l=some (.lst xs)∧0≤i∧i≤xs.length∧xs.length<sizeLine∧Q .non (upd H l (.lst (xs.take i.toNat++y :: xs.drop i.toNat)))
def mt_insert:MtM X "list.insert" rInsert:=by
 intro pins s σ H x vs v us Q I rx rv h
 obtain ⟨l,xs,i,y,rfl,rfl,hH,h0,h1,hz,q⟩:=h
 cases rx
 obtain ⟨u,w',rfl,⟨t,rfl⟩,ru⟩:=vals2 rv
 obtain ⟨z,its,n,r,hl,e⟩:=I.lstM hH
 have hs:sizeLine=16777216:=sizeLine_eq
 have hc:¬ (!Builtin.List.listFitsIndex i)=true:=by
  have:Builtin.List.listFitsIndex i=true:=by
   unfold Builtin.List.listFitsIndex
   simp
   omega
  rw [this]
  decide
 refine call_meets F.slot_list_insert ⟨_,e,rfl⟩ F.entry_list_insert (F.args_list_insert_3 _ _ _) (PySem.AutoSeq1.list_insert_list_int_val_1 l its.toArray n i t w' hc (by rw [List.size_toArray];omega)) ⟨e,?_⟩
 have hk:(if i<0 then (i + (its.toArray.size:Int)).toNat else min i.toNat its.toArray.size)=i.toNat:=by
  rw [if_neg (by omega),List.size_toArray]
  omega
 refine ⟨.non,_,I.lset (its':=its.take i.toNat++w' :: its.drop i.toNat) hH e ?_ ?_ ?_,rfl,q⟩
 ·show (its.toArray.extract 0 (if i<0 then (i + (its.toArray.size:Int)).toNat else min i.toNat its.toArray.size)).push w'++its.toArray.extract (if i<0 then (i + (its.toArray.size:Int)).toNat else min i.toNat its.toArray.size)=_
  rw [hk]
  apply Array.ext'
  simp
  exact List.take_of_length_le (by rw [List.length_drop];exact Nat.le_refl _)
 ·exact (r.take _).append (.cons ru (r.drop _))
 ·rw [List.length_append,List.length_cons,List.length_take,List.length_drop]
  omega
def pe_listRange {a:Expr}{ta:TE}{p1 p2 pos1 pos2:Pos}(hc:X.calm=true) (ha:PE X a ta) (hg1:Gl X "list") (hm1:X.mg "list"=none) (hg2:Gl X "range") (hm2:X.mg "range"=none)
  (hs:starEach [a] X.env=[(false,eval a X.env)]:=by rfl)
  (hs2:starEach [.Call (.Name "range" p2) [a] [] pos2] X.env=[(false,eval (.Call (.Name "range" p2) [a] [] pos2) X.env)]:=by rfl):
  PE X (.Call (.Name "list" p1) [.Call (.Name "range" p2) [a] [] pos2] [] pos1) (fun σ H Q=>tCons ta tNil σ H fun vs H1=>∃ j:Int,vs=[.int j]∧0≤j∧j≤1000000∧∀ l,H1 l=none→Q (.ref l) (upd H1 l (.lst (rangeV 0 j.toNat)))):=by
 intro pins s σ H Q I h
 refine wpAny_Call_Name_kw (ld_blt I hg1 hm1 PyProof.Rows.boot_list ?_ (by decide) (by decide))
 refine PyProof.Rows.callWith_type1 ?_ hs2 rfl
 refine Calls.spliced_cons ?_
 refine wpAny_Call_Name_kw (ld_blt I hg2 hm2 boot_range ?_ (by decide) (by decide))
 refine PyProof.Rows.callWith_type1 ?_ hs rfl
 have pa:PA X [a] (tCons ta tNil):=pC ha pa_nil hs
 refine thn (pa pos2 pins s σ H (fun vs H1=>∃ j:Int,vs=[.int j]∧0≤j∧j≤1000000∧∀ l,H1 l=none→Q (.ref l) (upd H1 l (.lst (rangeV 0 j.toNat)))) I h) fun us s1 ⟨vs,H1,I1,r1,q1⟩=>?_
 obtain ⟨j,e,h0,h1,q⟩:=q1
 subst e
 obtain ⟨u,rfl,t,rfl⟩:=vals1 r1
 refine call_range_1 (Calls.spliced_nil ?_)
 have I2:Inv X pins σ H1 { s1 with heap:=s1.heap.push { cls:=.type "range",data:=.fields #[.int 0 s1.toks,.int j t,.int 1 (s1.toks + 1)] },toks:=s1.toks + 1 + 1 }:=I1.kept fun b o e=>Heap.get?_push_of_some _ e
 refine call_list_range (n:=j.toNat) (I1.ok.hd hc) (IsRange.new ..) (small_one (by decide) (by decide) (by omega) (by omega)) (by rw [rangeSize_one];split <;> omega) (by omega) fun h' tk acc' c' hk hS' hacc=>?_
 obtain ⟨a1,a2⟩:=hacc
 have hnew:H1 (s1.heap.push { cls:=.type "range",data:=.fields #[.int 0 s1.toks,.int j t,.int 1 (s1.toks + 1)] }).objs.size=none:=I2.hok.fresh (Nat.le_refl _)
 refine ⟨.ref _,_,I2.laid (o:=.lst (rangeV 0 j.toNat)) hk (Nat.le_refl _) ⟨?_,acc'.toList,c',?_,by simpa using hS'⟩,rfl,q _ hnew⟩
 ·rw [rangeV_len]
  exact small_line' (by omega)
 ·have len:(rangeV 0 j.toNat).length=acc'.toList.length:=by rw [rangeV_len,Array.length_toList,a1]
  exact vals_of len fun i v u hv hu=>by
   obtain ⟨hi,e⟩:=rangeV_get hv
   obtain ⟨t',e'⟩:=a2 i u (by rw [← Array.getElem?_toList];exact hu)
   rw [e,e']
   exact ⟨t',by rw [Int.mul_one]⟩
end
end L2
namespace Graph
variable {α:Type} [DecidableEq α]
inductive Reach (ups:α→List α):α→α→Prop
 | refl (a:α):Reach ups a a
 | step {a b c:α}:b∈ups a→Reach ups b c→Reach ups a c
def Reach.trans {ups:α→List α}{a b c:α}(h:Reach ups a b) (k:Reach ups b c):Reach ups a c:=by
 induction h with
 | refl=>exact k
 | step m _ ih=>exact .step m (ih k)
def Reach.one {ups:α→List α}{a b:α}(h:b∈ups a):Reach ups a b:=.step h (.refl b)
def Reach.snoc {ups:α→List α}{a b c:α}(h:Reach ups a b) (k:c∈ups b):Reach ups a c:=h.trans (.one k)
def kept (ups:α→List α) (left:List α):List α:=left.filter fun w=>(ups w).any fun u=>decide (u∈left)
def kept_sub {ups:α→List α}{left:List α}{w:α}(h:w∈kept ups left):w∈left:=(List.mem_filter.mp h).1
def kept_le (ups:α→List α) (left:List α):(kept ups left).length≤left.length:=List.length_filter_le _ _
theorem filter_all {p:α→Bool}:∀ {l:List α},(l.filter p).length=l.length→l.filter p=l
 | [],_=>rfl
 | a :: r,h=>by
  have hle:=List.length_filter_le p r
  rw [List.filter_cons] at h ⊢
  cases hp:p a with
  | true =>
   rw [hp,if_pos rfl,List.length_cons,List.length_cons] at h
   rw [if_pos rfl,filter_all (by omega)]
  | false =>
   rw [hp,if_neg Bool.false_ne_true,List.length_cons] at h
   omega
theorem min_rank (rk:α→Nat):∀ (l:List α),l≠[]→∃ m,m∈l∧∀ x∈l,rk m≤rk x
 | [],h=>absurd rfl h
 | a :: r,_=>by
  by_cases hr:r=[]
  ·subst hr
   exact ⟨a,by simp,fun x hx=>by simp at hx;subst hx;exact Nat.le_refl _⟩
  ·obtain ⟨m,hm,hx⟩:=min_rank rk r hr
   by_cases hc:rk a≤rk m
   ·refine ⟨a,by simp,fun x hx'=>?_⟩
    rcases List.mem_cons.mp hx' with e | e
    ·subst e;exact Nat.le_refl _
    ·exact Nat.le_trans hc (hx x e)
   ·refine ⟨m,List.mem_cons_of_mem _ hm,fun x hx'=>?_⟩
    rcases List.mem_cons.mp hx' with e | e
    ·subst e;omega
    ·exact hx x e
def kept_nil {ups:α→List α}{left:List α}{rk:α→Nat}(hr:∀ a∈left,∀ b∈ups a,rk b<rk a) (h:(kept ups left).length=left.length):left=[]:=by
 refine Classical.byContradiction fun hne=>?_
 obtain ⟨m,hm,hx⟩:=min_rank rk left hne
 have e:kept ups left=left:=filter_all h
 rw [← e] at hm
 obtain ⟨h1,h2⟩:=List.mem_filter.mp hm
 obtain ⟨u,hu,hd⟩:=List.any_eq_true.mp h2
 have hl:u∈left:=of_decide_eq_true hd
 have a:=hr m h1 u hu
 have b:=hx u hl
 omega
theorem nodup_le:∀ {l k:List α},l.Nodup→(∀ x∈l,x∈k)→l.length≤k.length
 | [],k,_,_=>Nat.zero_le _
 | a :: r,k,hn,hs=>by
  obtain ⟨h1,h2⟩:=List.nodup_cons.mp hn
  have ha:a∈k:=hs a (by simp)
  have:=nodup_le (k:=k.erase a) h2 fun x hx=>(List.mem_erase_of_ne (fun (e:x=a)=>h1 (by rw [← e];exact hx))).mpr (hs x (List.mem_cons_of_mem _ hx))
  rw [List.length_erase_of_mem ha] at this
  have hpos:0<k.length:=List.length_pos_of_mem ha
  rw [List.length_cons]
  omega
def closed_reach {ups:α→List α}{S:α→Prop}(hc:∀ x,S x→∀ y∈ups x,S y) {a b:α}(h:Reach ups a b) (ha:S a):S b:=by
 induction h with
 | refl=>exact ha
 | step m _ ih=>exact ih (hc _ ha _ m)
end Graph
namespace Md
open PySem L2
abbrev letters:Str:="abcdefghijklmnopqrstuvwxyz"
def isLow (c:Nat):Bool:=decide (97≤c∧c≤122)
def isWord (x:Str):Bool:=decide (1≤x.length∧x.length≤8)&&x.cps.toList.all isLow
def letters_eq:letters.cps.toList=[97,98,99,100,101,102,103,104,105,106,107,108,109,110,111,112,113,114,115,116,117,118,119,120,121,122]:=by decide +kernel
def letters_at {i:Nat}(h:i<26):letters.cps.toList[i]?=some (97 + i):=by
 rw [letters_eq]
 have:∀ i:_root_.Fin 26,([97,98,99,100,101,102,103,104,105,106,107,108,109,110,111,112,113,114,115,116,117,118,119,120,121,122]:List Nat)[i.1]?=some (97 + i.1):=by decide
 exact this ⟨i,h⟩
def letters_rng:letters.cps.toList=(List.range 26).map (97 + ·):=by rw [letters_eq];rfl
def low_in (c:Nat):(!(Builtin.Str.occurrences letters ⟨#[c]⟩ 0 letters.length 1).isEmpty)=isLow c:=by
 rw [StrLaws.found_one,letters_rng]
 unfold isLow
 rw [decide_eq_decide,List.mem_map]
 constructor
 ·rintro ⟨a,ha,rfl⟩
  have:=List.mem_range.mp ha
  omega
 ·intro h
  exact ⟨c - 97,List.mem_range.mpr (by omega),by omega⟩
def str_len (x:Str):x.cps.toList.length=x.length:=by simp [Str.length]
def len_one (c:Nat):(⟨#[c]⟩:Str).length=1:=rfl
def len_app (x y:Str):(x++y).length=x.length + y.length:=by
 show (x.cps++y.cps).size=_
 rw [Array.size_append]
 rfl
def app_list (x y:Str):(x++y).cps.toList=x.cps.toList++y.cps.toList:=by
 show (x.cps++y.cps).toList=_
 rw [Array.toList_append]
def str_ext {x y:Str}(h:x.cps.toList=y.cps.toList):x=y:=by
 cases x;cases y
 congr 1
 exact Array.ext' h
def inLet:V→V
 | .str y=>.bl (!(Builtin.Str.occurrences letters y 0 letters.length 1).isEmpty)
 | _=>.non
def signs_low (x:Str):((signsV x).filter fun _=>true).map inLet=(x.cps.toList.map isLow).map V.bl:=by
 rw [List.filter_eq_self.mpr fun _ _=>rfl]
 unfold signsV
 rw [List.map_map,List.map_map]
 refine List.map_congr_left fun c _=>?_
 show V.bl _=V.bl _
 rw [low_in]
def isWord_iff (x:Str):isWord x=true↔(1≤x.cps.toList.length∧x.cps.toList.length≤8)∧∀ c∈x.cps.toList,isLow c=true:=by
 unfold isWord
 rw [Bool.and_eq_true,decide_eq_true_eq,List.all_eq_true,str_len]
def word_len {x:Str}(h:isWord x=true):1≤x.length∧x.length≤8:=by
 have:=((isWord_iff x).mp h).1
 rwa [str_len] at this
def word_ok {x:Str}(h:isWord x=true):PyData.strOk x=true:=by
 unfold PyData.strOk
 rw [Array.all_eq_true']
 intro c hc
 have:=((isWord_iff x).mp h).2 c (by simpa using hc)
 have:=of_decide_eq_true this
 exact decide_eq_true (by omega)
def lettersF (n:Nat):List Nat:=(97 + n % 26):: (if h:n / 26=0 then [] else lettersF (n / 26))
termination_by n
decreasing_by omega
def lettersF_eq (n:Nat):lettersF n=(97 + n % 26):: (if n / 26=0 then [] else lettersF (n / 26)):=by
 rw [lettersF]
 by_cases h:n / 26=0
 ·rw [dif_pos h,if_pos h]
 ·rw [dif_neg h,if_neg h]
theorem lettersF_len:∀ (k n:Nat),n<26 ^ (k + 1)→(lettersF n).length≤k + 1
 | 0,n,h=>by
  rw [lettersF_eq,if_pos (by have:n<26:=h;omega)]
  exact Nat.le_refl _
 | k + 1,n,h=>by
  rw [lettersF_eq]
  by_cases h0:n / 26=0
  ·rw [if_pos h0];simp
  ·rw [if_neg h0,List.length_cons]
   have:=lettersF_len k (n / 26) (Nat.div_lt_of_lt_mul (by rw [Nat.pow_succ] at h;omega))
   omega
def lettersF_low (n:Nat):∀ c∈lettersF n,isLow c=true:=by
 induction n using Nat.strongRecOn with
 | ind n ih =>
  rw [lettersF_eq]
  intro c hc
  rcases List.mem_cons.mp hc with e | hc
  ·rw [e]
   exact decide_eq_true (by omega)
  ·by_cases h0:n / 26=0
   ·rw [if_pos h0] at hc;cases hc
   ·rw [if_neg h0] at hc
    exact ih (n / 26) (by omega) c hc
def valF:List Nat→Nat
 | []=>0
 | c :: r=>(c - 97) + 26 * valF r
def lettersF_val (n:Nat):valF (lettersF n)=n:=by
 induction n using Nat.strongRecOn with
 | ind n ih =>
  rw [lettersF_eq]
  unfold valF
  by_cases h0:n / 26=0
  ·rw [if_pos h0]
   unfold valF
   omega
  ·rw [if_neg h0,ih (n / 26) (by omega)]
   omega
def lettersS (n:Nat):Str:=⟨(lettersF n).toArray⟩
def lettersS_list (n:Nat):(lettersS n).cps.toList=lettersF n:=by simp [lettersS]
def lettersS_inj {a b:Nat}(h:lettersS a=lettersS b):a=b:=by
 have:=congrArg (fun s:Str=>valF s.cps.toList) h
 simpa [lettersS_list,lettersF_val] using this
def lettersF_pos (n:Nat):1≤(lettersF n).length:=by rw [lettersF_eq];simp
def lettersS_word {n:Nat}(h:n<26 ^ 8):isWord (lettersS n)=true:=by
 rw [isWord_iff,lettersS_list]
 exact ⟨⟨lettersF_pos n,lettersF_len 7 n h⟩,lettersF_low n⟩
def idx_take (j:Int) (n:Nat) (h:0≤j):Builtin.Str.strSliceIndices none (some j) 1 n=List.range (min j.toNat n):=by
 unfold Builtin.Str.strSliceIndices sliceRange
 have h1:¬ j<0:=by omega
 simp only [show (1:Int) > 0 by decide,if_true,if_neg h1]
 have e:(max (0:Int) (min j (n:Int)))=((min j.toNat n:Nat):Int):=by omega
 rw [e]
 have e2:(if (0:Int)<((min j.toNat n:Nat):Int) then (((min j.toNat n:Nat):Int) - 0 + 1 - 1) / 1 else 0)=((min j.toNat n:Nat):Int):=by
  split
  ·rw [Int.ediv_one];omega
  ·omega
 rw [e2,Int.toNat_natCast]
 have:∀ l:List Nat,l.map (fun (k:Nat)=>((0:Int) + 1 * (k:Int)).toNat)=l:=fun l=>by
  conv=>rhs;rw [← List.map_id l]
  refine List.map_congr_left fun k _=>?_
  show _=k
  omega
 exact this _
theorem filter_range (l:List Nat):∀ m,m≤l.length→(List.range m).filterMap (fun i=>l.toArray[i]?)=l.take m
 | 0,_=>by simp
 | m + 1,h=>by
  rw [List.range_succ,List.filterMap_append,filter_range l m (by omega),List.take_add_one]
  have:m<l.length:=h
  simp [this]
def slice_take (x:Str) (j:Int) (h:0≤j):(Txt.slice x none (some j)).cps.toList=x.cps.toList.take j.toNat:=by
 unfold Txt.slice
 rw [idx_take j x.length h]
 have hl:=str_len x
 split
 ·rename_i hc
  have:min j.toNat x.length=x.length:=by simpa using hc
  rw [List.take_of_length_le (by omega)]
 ·have q:=filter_range x.cps.toList (min j.toNat x.length) (by omega)
  have e:x.cps.toList.toArray=x.cps:=by simp
  rw [e] at q
  show ((List.range (min j.toNat x.length)).filterMap (x.cps[·]?)).toArray.toList=_
  rw [List.toList_toArray,q]
  by_cases hj:j.toNat≤x.length
  ·rw [Nat.min_eq_left hj]
  ·rw [Nat.min_eq_right (by omega),List.take_of_length_le (by omega),List.take_of_length_le (by omega)]
def PotO (o:HO):Prop:=∃ r b:Int,o=.lst [.int r,.int b]∧0≤r∧r<10 ^ 256∧0≤b∧b<2147483647
structure Drawn (p:Addr) (H H':Hp):Prop where
 keep:∀ b o,b≠p→H b=some o→H' b=some o
 pot:∃ o,H' p=some o∧PotO o
def Drawn.refl {p:Addr}{H:Hp}(h:∃ o,H p=some o∧PotO o):Drawn p H H:=⟨fun _ _ _ e=>e,h⟩
def Drawn.trans {p:Addr}{H H1 H2:Hp}(a:Drawn p H H1) (b:Drawn p H1 H2):Drawn p H H2:=⟨fun c o hc e=>b.keep c o hc (a.keep c o hc e),b.pot⟩
theorem Drawn.upd {p:Addr}{H:Hp}{o:HO}(h:PotO o):Drawn p H (L2.upd H p o):=⟨fun b u hb e=>by rw [upd_ne hb];exact e,_,uS,h⟩
def Drawn.new {p q:Addr}{H H':Hp}{o:HO}(d:Drawn p H H') (hq:H' q=none):Drawn p H (L2.upd H' q o):=
 ⟨fun b u hb e=>by rw [upd_ne (nNo (d.keep b u hb e) hq)];exact d.keep b u hb e,by
  obtain ⟨u,h1,h2⟩:=d.pot
  exact ⟨u,by rw [upd_ne (nNo h1 hq)];exact h1,h2⟩⟩
def Drawn.same {p:Addr}{H H1 H2:Hp}(d:Drawn p H H1) (s:Same H1 H2):Drawn p H H2 :=
 ⟨fun b u hb e=>s _ _ (d.keep b u hb e),by obtain ⟨u,h1,h2⟩:=d.pot;exact ⟨u,s _ _ h1,h2⟩⟩
def Drawn.sub {p q:Addr}{H H1 H2:Hp}{o':HO}(d:Drawn p H H1) (k:∀ b o,b≠q→H1 b=some o→H2 b=some o) (hq:H q=none) (hp:p≠q):Drawn p H H2 :=
 ⟨fun b u hb e=>k _ _ (nNo e hq) (d.keep b u hb e),by obtain ⟨u,h1,h2⟩:=d.pot;exact ⟨u,k _ _ hp h1,h2⟩⟩
def _root_.L2.SqL.mono_new {K:Fg}{H:Hp}{a q:Addr}{xs:List V}{o:HO}(h:SqL K H a xs) (hq:H q=none):SqL K (L2.upd H q o) a xs :=
 Same.seq (fun b u e=>by rw [upd_ne (nNo e hq)];exact e) h
def small_lt {n:Nat}(h:n≤100000):n<sizeLine:=by rw [sizeLine_eq];omega
def strsOf:List Expr→Option (LS)
 | []=>some []
 | .Constant (.str x) _ _ :: r=>(strsOf r).map (x :: ·)
 | _=>none
def pa_strsOf {X:Cx}:∀ {es:List Expr}{ws:LS},strsOf es=some ws→PA X es (fun _ H Q=>Q (ws.map V.str) H):=by
 intro es
 induction es with
 | nil =>
  intro ws h
  have e:ws=[]:=(Option.some.inj h).symm
  subst e
  exact pa_nil
 | cons e r ih =>
  intro ws h
  cases e with
  | Constant c j p =>
   cases c with
   | str x =>
    have h':(strsOf r).map (x :: ·)=some ws:=h
    obtain ⟨vs,h1,h2⟩:=Option.map_eq_some_iff.mp h'
    subst h2
    exact pC pe_str (ih h1) rfl
   | _=>exact nomatch (show (none:Option (LS))=some ws from h)
  | _=>exact nomatch (show (none:Option (LS))=some ws from h)
theorem in_strs (x:Str):∀ ws:LS,inV (.str x) (ws.map V.str)=decide (x∈ws)
 | []=>rfl
 | w :: r=>by
  have ih:=in_strs x r
  unfold inV at ih ⊢
  rw [List.map_cons,List.any_cons,ih]
  show ((w == x) || decide (x∈r))=decide (x∈w :: r)
  rw [Bool.eq_iff_iff]
  simp only [Bool.or_eq_true,beq_iff_eq,decide_eq_true_eq,List.mem_cons]
  constructor
  ·rintro (h | h)
   ·exact .inl h.symm
   ·exact .inr h
  ·rintro (h | h)
   ·exact .inl h.symm
   ·exact .inr h
def flat_strs (ws:LS):(ws.map V.str).all flatV=true:=by
 rw [List.all_eq_true]
 intro v hv
 obtain ⟨w,_,e⟩:=List.mem_map.mp hv
 rw [← e]
 rfl
theorem reps_strs {K:Fg}{H:Hp}:∀ ws:LS,Reps K H (ws.map V.str) (ws.map W.Dat.str)
 | []=>.nil
 | w :: r=>.cons (.str w) (reps_strs r)
def RowV (H:Hp) (r:Str×LS) (v:V):Prop:=∃ t u,v=.ref t∧H t=some (.tup [.str r.1,.ref u])∧H u=some (.tup (r.2.map V.str))
def RowsAt (H:Hp) (l:Addr) (rows:RS):Prop:=∃ vs,H l=some (.lst vs)∧Paired (RowV H) rows vs
structure Good (rows:RS):Prop where
 ne:1≤rows.length
 le:rows.length≤24
 word:∀ r∈rows,isWord r.1=true
 nd:(rows.map (·.1)).Nodup
 few:∀ r∈rows,r.2.length≤8
 known:∀ r∈rows,∀ u∈r.2,u∈rows.map (·.1)
 upnd:∀ r∈rows,r.2.Nodup
 rank:∃ rk:Str→Nat,∀ r∈rows,∀ u∈r.2,rk u<rk r.1
def rowsOf (ws:LS) (uf:List (List Nat)) (os:List Nat):RS:=os.map fun j=>(ws.getD j "",(uf.getD j []).map fun i=>ws.getD i "")
def good_of {ws:LS}{uf:List (List Nat)}{os:List Nat}{m:Nat} (hm0:1≤m) (hm:m≤24) (hw:∀ x∈ws,isWord x=true) (hn:ws.Nodup) (hl:ws.length=m) (hu:∀ (k:Nat) (js:List Nat),uf[k]?=some js→(∀ j∈js,j<k)∧js.Nodup∧js.length≤8) (hul:uf.length=m)
  (on:os.Nodup) (om:∀ j,j∈os↔j<m) (ol:os.length=m):Good (rowsOf ws uf os):=by
 have at_:∀ {j:Nat},j<m→ws.getD j ""∈ws∧ws[j]?=some (ws.getD j ""):=fun {j} h=>by
  have hj:j<ws.length:=by omega
  rw [List.getD_eq_getElem?_getD,List.getElem?_eq_getElem hj]
  exact ⟨List.getElem_mem hj,rfl⟩
 have inj:∀ {i j:Nat},i<m→j<m→ws.getD i ""=ws.getD j ""→i=j:=fun {i j} hi hj e=>by
  have a:=(at_ hi).2
  have b:=(at_ hj).2
  rw [e] at a
  exact nodup_ix hn a b
 have ups:∀ {j:Nat},j<m→∃ js,uf.getD j []=js∧(∀ i∈js,i<j)∧js.Nodup∧js.length≤8:=fun {j} h=>by
  have hj:j<uf.length:=by omega
  have e:uf[j]?=some (uf.getD j []):=by rw [List.getD_eq_getElem?_getD,List.getElem?_eq_getElem hj];rfl
  exact ⟨_,rfl,hu j _ e⟩
 have mem:∀ {r:Str×LS},r∈rowsOf ws uf os→∃ j,j<m∧r=(ws.getD j "",(uf.getD j []).map fun i=>ws.getD i ""):=fun {r} h=>by
  obtain ⟨j,hj,e⟩:=List.mem_map.mp h
  exact ⟨j,(om j).mp hj,e.symm⟩
 have words:(rowsOf ws uf os).map (·.1)=os.map fun j=>ws.getD j "":=by
  unfold rowsOf
  rw [List.map_map]
  rfl
 refine ⟨by unfold rowsOf;rw [List.length_map];omega,by unfold rowsOf;rw [List.length_map];omega,fun r hr=>?_,?_,fun r hr=>?_,fun r hr u hu'=>?_,fun r hr=>?_,fun x=>ws.idxOf x,fun r hr u hu'=>?_⟩
 ·obtain ⟨j,hj,rfl⟩:=mem hr
  exact hw _ (at_ hj).1
 ·rw [words,List.nodup_iff_pairwise_ne,List.pairwise_map]
  refine (List.nodup_iff_pairwise_ne.mp on).imp_of_mem fun {a b} ha hb h e=>h (inj ((om a).mp ha) ((om b).mp hb) e)
 ·obtain ⟨j,hj,rfl⟩:=mem hr
  obtain ⟨js,e,_,_,h8⟩:=ups hj
  show ((uf.getD j []).map fun i=>ws.getD i "").length≤8
  rw [List.length_map,e]
  exact h8
 ·obtain ⟨j,hj,rfl⟩:=mem hr
  obtain ⟨i,hi,e⟩:=List.mem_map.mp hu'
  obtain ⟨js,e',hb,_⟩:=ups hj
  rw [e'] at hi
  have hij:=hb i hi
  rw [words]
  exact List.mem_map.mpr ⟨i,(om i).mpr (by omega),e⟩
 ·obtain ⟨j,hj,rfl⟩:=mem hr
  obtain ⟨js,e',hb,hnd,_⟩:=ups hj
  show ((uf.getD j []).map fun i=>ws.getD i "").Nodup
  rw [e',List.nodup_iff_pairwise_ne,List.pairwise_map]
  refine (List.nodup_iff_pairwise_ne.mp hnd).imp_of_mem fun {a b} ha hb' h e=>h (inj (by have:=hb a ha;omega) (by have:=hb b hb';omega) e)
 ·obtain ⟨j,hj,rfl⟩:=mem hr
  obtain ⟨i,hi,e⟩:=List.mem_map.mp hu'
  obtain ⟨js,e',hb,_⟩:=ups hj
  rw [e'] at hi
  have hij:=hb i hi
  have ix:∀ {j:Nat},j<m→ws.idxOf (ws.getD j "")=j:=fun {j} h=>by
   have a:=(at_ h).1
   have lt:ws.idxOf (ws.getD j "")<ws.length:=List.idxOf_lt_length_iff.mpr a
   have g:ws[ws.idxOf (ws.getD j "")]?=some (ws.getD j ""):=by rw [List.getElem?_eq_getElem lt,List.getElem_idxOf lt]
   exact nodup_ix hn g (at_ h).2
  show ws.idxOf u<ws.idxOf (ws.getD j "")
  rw [← e,ix hj,ix (by omega)]
  exact hij
end Md
namespace L2
open PySem PySem.Spec PyProof.Rows
section
variable {X:Cx} {tg:Expr}
def SqB (K:Fg) (b:Bool) (H:Hp) (a:Addr) (xs:List V):Prop:=if b=true then SqL K H a xs else SqT K H a xs
def SqB.mono {K:Fg}{b:Bool}{H H':Hp}{a:Addr}{xs:List V}(h:SqB K b H a xs) (s:Same H H'):SqB K b H' a xs:=by
 cases b with
 | true=>exact s.seq (show SqL K H a xs from h)
 | false=>exact s.tup (show SqT K H a xs from h)
def Itq (K:Fg) (b:Bool) (a:Addr) (xs:List V):It:=⟨fun i H=>i<xs.length∧SqB K b H a xs,fun i H x H'=>H'=H∧xs[i]?=some x,fun i H=>xs.length≤i∧SqB K b H a xs⟩
def runs_seq {K:Fg}{b:Bool}{a:Addr}{xs:List V}:Runs (Itq K b a xs) xs (fun H=>SqB K b H a xs) where
 go:=fun i x H ok hx=>⟨(List.getElem?_eq_some_iff.mp hx).1,ok⟩
 yld:=fun i x H y H' ok hx h=>by
  obtain ⟨e,h⟩:=h
  rw [hx] at h
  exact ⟨(Option.some.inj h).symm,e⟩
 stop:=fun H ok=>⟨Nat.le_refl _,ok⟩
def Turn.imp {P:Program}{w:World}{K:Fg}{tg:Expr}{J J':It}{fp:List Addr}{it:Addr}{tn:Nat→Heap→Prop}(T:Turn P w K tg J fp it tn) (hgo:∀ i H,J'.go i H→J.go i H)
  (hy:∀ i H x H',J'.go i H→J.yld i H x H'→J'.yld i H x H') (hs:∀ i H,J'.stop i H→J.stop i H):Turn P w K tg J' fp it tn where
 mem:=T.mem
 obj:=T.obj
 keep:=T.keep
 item:=fun X h1 h2 h3 h4 i pins s σ H E I hf st g=>thn (T.item X h1 h2 h3 h4 i pins s σ H E I hf st (hgo i H g)) fun r s1 ⟨u,e,h⟩=>⟨u,e,thn h fun _ s2 ⟨x,H',I',r',y,t,f⟩=>⟨x,H',I',r',hy i H x H' g y,t,f⟩⟩
 done:=fun X h1 h2 h3 h4 i pins s σ H E I hf st g=>T.done X h1 h2 h3 h4 i pins s σ H E I hf st (hs i H g)
 self:=T.self
def iSeq (K:Fg) (tl:TE):TI:=fun σ H R=>tl σ H fun x H1=>∃ b a xs,x=.ref a∧SqB K b H1 a xs∧R (Itq K b a xs) H1
def pi_seq {l:Expr}{tl:TE}(hl:PE X l tl):PI X tg l (iSeq X.K tl):=by
 intro pins s σ H R I h
 refine thn (hl pins s σ H _ I h) fun v s1 ⟨x,H1,I1,r1,q1⟩=>?_
 obtain ⟨b,a,xs,e,hq,q⟩:=q1
 subst e
 cases r1
 have fp:∀ b∈[s1.heap.objs.size],FpOk X pins H1 b:=fun b hb=>by
  have e:b=s1.heap.objs.size:=by simpa using hb
  subst e
  exact I1.fpOk (Nat.le_refl _) (I1.hok.fresh (Nat.le_refl _))
 have get:∀ {i:Nat} {ys:List V},i<ys.length→∃ y,ys[i]?=some y:=fun {i ys} h=>⟨ys[i],by simp [h]⟩
 cases b with
 | true =>
  have hq:SqL X.K H1 a xs:=hq
  obtain ⟨its,rv,p,hz⟩:=I1.list hq
  refine wpAny_pyIter_list p.isList ?_
  refine ⟨s1.heap.objs.size,[s1.heap.objs.size],_,Itq X.K true a xs,H1,rfl,I1.kept (t':=s1.toks) fun b o e=>Heap.get?_push_of_some _ e,(turn_list a _).imp (fun i H g=>?_) (fun i H x H' g y=>⟨y.1,y.2 xs g.2⟩) (fun i H g=>⟨xs,g.2,g.1⟩),⟨_,Heap.get?_push_size _ rfl,rfl,rfl⟩,fp,q⟩
  obtain ⟨y,hy⟩:=get g.1
  exact ⟨xs,y,g.2,hy⟩
 | false =>
  have hq:SqT X.K H1 a xs:=hq
  obtain ⟨its,rv,p,hz⟩:=I1.tuple hq
  refine wpAny_pyIter_tuple (show s1.heap.IsTuple a its.toArray from p) ?_
  refine ⟨s1.heap.objs.size,[s1.heap.objs.size],_,Itq X.K false a xs,H1,rfl,I1.kept (t':=s1.toks) fun b o e=>Heap.get?_push_of_some _ e,(turn_tuple a _).imp (fun i H g=>?_) (fun i H x H' g y=>⟨y.1,y.2 xs g.2⟩) (fun i H g=>⟨xs,g.2,g.1⟩),⟨_,Heap.get?_push_size _ rfl,rfl,rfl⟩,fp,q⟩
  obtain ⟨y,hy⟩:=get g.1
  exact ⟨xs,y,g.2,hy⟩
def iVals (to:TE):TI:=fun σ H R=>to σ H fun x H1=>∃ a ob kvs,x=.ref a∧H1 a=some (.frz ob (.dK kvs))∧R (Itv a ob kvs) H1
def pi_vals {o:Expr}{to:TE}{apos cpos:Pos}(ho:PE X o to) (hbase:attributeBase o "values" X.env (eval o X.env)=eval o X.env:=by rfl) (hline:(apos.endLine == cpos.line)=true:=by rfl):
  PI X tg (.Call (.Attribute o "values" apos) [] [] cpos) (iVals to):=by
 intro pins s σ H R I h
 refine wpAny_Call_method0_late hbase hline (thn (ho pins s σ H _ I h) fun v s1 ⟨x,H1,I1,r1,q1⟩=>?_)
 obtain ⟨a,ob,kvs,e,ha,q⟩:=q1
 subst e
 obtain rfl:v=Value.ref a:=r1
 obtain ⟨t1,t2,t3⟩:=isD_at I1 (.inl ⟨kvs,.inr ⟨ob,ha⟩⟩)
 obtain ⟨es,ep,hd⟩:=frz_data (I1.hok a _ ha)
 obtain ⟨hs,vs,r,dd⟩:=frz_dict (I1.hok a _ ha) hd
 have hl:kvs.length=vs.length:=Paired.length r
 refine ⟨"dict","dict.values",PySem.F.plainAttrs_dict,PySem.F.slot_dict_values,PySem.F.type_dict_values,t1,t2,Calls.callWith_builtin rfl (PySem.evalArgs_none ?_)⟩
 refine call_meetsIn PySem.F.slot_dict_values t1 PySem.F.entry_dict_values (PySem.F.args_dict_values_1 _) (meets_dict_values (mixKind X.prog X.w) a t3) ⟨⟨vs,dd.dictOf⟩,?_⟩
 have I2:Inv X pins σ H1 { s1 with heap:=s1.heap.push { cls:=.type "dict_values",data:=.fields #[.ref a] } }:=I1.kept (t':=s1.toks) fun b o e=>Heap.get?_push_of_some _ e
 refine wpAny_pyIter_values (kvs:=vs) (ep:=ep) (knd:=mixKind X.prog X.w) ⟨_,Heap.get?_push_size _ rfl,rfl,rfl⟩ (dd.at' fun o e=>Heap.get?_push_of_some _ e) ?_
 refine ⟨_,[_],_,_,H1,rfl,I2.kept (t':=s1.toks) fun b o e=>Heap.get?_push_of_some _ e,turn_vals a _ ob kvs es ep hd,⟨_,Heap.get?_push_size _ rfl,rfl,by rw [hl];rfl⟩,fun b hb=>?_,q⟩
 have e:b=_:=List.mem_singleton.mp hb
 subst e
 exact I2.fpOk (Nat.le_refl _) (I2.hok.fresh (Nat.le_refl _))
def call_list_keys (hc:X.calm=true):CallR X (.type "list") (fun xs H Q=>∃ a kvs,xs=[.ref a]∧Rd H a (.dK kvs)∧∀ l,H l=none→Q (.ref l) (upd H l (.lst (kvs.map fun p=>kV p.1)))):=by
 intro pins s σ H xs us Q I r h
 obtain ⟨a,kvs,rfl,ha,q⟩:=h
 obtain ⟨u,rfl,ru⟩:=vals1 r
 cases ru
 obtain ⟨hz,hs,vs,rv,o,es,ep,h1,h2,h3,h4,h5,h6⟩:=dk_rd I.hok ha
 have hl:kvs.length=vs.length:=Paired.length rv
 have dd:s.heap.DictAt (mixKind X.prog X.w) a vs ep:=⟨o,es,h1,h2,h3,h4,h5,h6⟩
 refine W.kdl_call (W.kdl_dict (knd:=mixKind X.prog X.w) (kvs:=vs) (ep:=ep) hs) (I.ok.hd hc) dd (by rw [← hl];exact hz) fun h' tk acc' c' hk hS' hacc=>?_
 obtain ⟨a1,a2⟩:=hacc
 refine ⟨.ref _,_,I.laid (o:=.lst (kvs.map fun p=>kV p.1)) hk (Nat.le_refl _) ⟨by rw [List.length_map];exact hz,acc'.toList,c',?_,by simpa using hS'⟩,rfl,q _ (I.hok.fresh (Nat.le_refl _))⟩
 refine vals_of (by have z:acc'.toList.length=acc'.size:=Array.length_toList;rw [List.length_map];omega) fun i v u hv hu=>?_
 rw [List.getElem?_map] at hv
 obtain ⟨p,hp,e⟩:=Option.map_eq_some_iff.mp hv
 obtain ⟨w',hw,_⟩:=rv.get hp
 obtain ⟨k,x,hk1,hk2⟩:=a2 i u (by rw [← Array.getElem?_toList];exact hu)
 rw [hw] at hk1
 injection hk1 with hk1
 injection hk1 with hk1 _
 rw [← e,hk1]
 exact relKey hk2
def DGet.f {H:Hp}{a:Addr}{o:Obj}{kvs:List (Key×V)}{k:Key}(e:H a=some (.frz o (.dK kvs))):DGet H a (kV k) (valV kvs k):=.inl ⟨kvs,k,.inr ⟨o,e⟩,rfl,rfl⟩
end
end L2
namespace Md
open PySem L2
def UpsG (K:Fg) (H:Hp) (u:Addr) (us:LS):Prop:=H u=some (.tup (us.map V.str))∨SqL K H u (us.map V.str)
def UpsG.sq {K:Fg}{H:Hp}{u:Addr}{us:LS}(h:UpsG K H u us):∃ b,SqB K b H u (us.map V.str):=by
 rcases h with h | h
 ·exact ⟨false,SqT.of h⟩
 ·exact ⟨true,h⟩
def RowG (K:Fg) (H:Hp) (r:Str×LS) (v:V):Prop:=∃ t u,v=.ref t∧SqT K H t [.str r.1,.ref u]∧UpsG K H u r.2
def RowsG (K:Fg) (H:Hp) (l:Addr) (rows:RS):Prop:=∃ b vs,SqB K b H l vs∧Paired (RowG K H) rows vs
def RowsAt.g {K:Fg}{H:Hp}{l:Addr}{rows:RS}(h:RowsAt H l rows):RowsG K H l rows:=by
 obtain ⟨vs,a,p⟩:=h
 refine ⟨true,vs,SqL.of a,Paired.mapP p fun r v z=>?_⟩
 obtain ⟨t,u,e,h1,h2⟩:=z
 exact ⟨t,u,e,SqT.of h1,.inl h2⟩
theorem paired_at {α β:Type}{F:α→β→Prop}:∀ {l:List α}{k:List β},Paired F l k→∀ {i:Nat}{b:β},k[i]?=some b→∃ a,l[i]?=some a∧F a b
 | _,_,.nil,i,b,h=>by simp at h
 | _,_,.cons r t,0,b,h=>by simp at h;subst h;exact ⟨_,rfl,r⟩
 | _,_,.cons r t,i + 1,b,h=>by
  obtain ⟨a,h1,h2⟩:=paired_at t (i:=i) (b:=b) (by simpa using h)
  exact ⟨a,by simpa using h1,h2⟩
def valV_none {kvs:List (Key×V)}{k:Key}(h:k∉kvs.map (·.1)):valV kvs k=none:=by
 cases e:valV kvs k with
 | none=>rfl
 | some v=>exact absurd (valV_in e) h
def putK_keys {kvs:List (Key×V)}{k:Key}{v:V}(h:k∉kvs.map (·.1)):(putK kvs k v).map (·.1)=kvs.map (·.1)++[k]:=by
 rw [putK_new v (valV_none h),List.map_append]
 rfl
def taken_not {rows:RS}{i:Nat}{r:Str×LS}(nd:(rows.map (·.1)).Nodup) (h:rows[i]?=some r):(Sum.inr r.1:Key)∉(rows.take i).map fun r=>(Sum.inr r.1:Key):=by
 intro m
 obtain ⟨q,hq,e⟩:=List.mem_map.mp m
 have e:q.1=r.1:=by injection e
 obtain ⟨j,hj,ej⟩:=List.mem_iff_getElem.mp hq
 rw [List.length_take] at hj
 have hj2:rows[j]?=some q:=by
  rw [List.getElem_take] at ej
  rw [List.getElem?_eq_getElem (by omega),ej]
 have a:(rows.map (·.1))[j]?=some r.1:=by rw [List.getElem?_map,hj2,← e];rfl
 have b:(rows.map (·.1))[i]?=some r.1:=by rw [List.getElem?_map,h];rfl
 have:=nodup_ix nd a b
 omega
def UpsD (H:Hp) (rows:RS) (kvs:List (Key×V)):Prop:=Paired (fun r (p:Key×V)=>p.1=Sum.inr r.1∧∃ t,p.2=.ref t∧H t=some (.tup (r.2.map V.str))) rows kvs
def UpsD.mono {H H':Hp}{rows:RS}{kvs:List (Key×V)}(h:UpsD H rows kvs) (s:∀ b xs,H b=some (.tup xs)→H' b=some (.tup xs)):UpsD H' rows kvs :=
 Paired.mapP h fun _ _ z=>⟨z.1,let ⟨t,e,x⟩:=z.2;⟨t,e,s _ _ x⟩⟩
theorem UpsD.keys:∀ {H:Hp}{rows:RS}{kvs:List (Key×V)},UpsD H rows kvs→kvs.map (·.1)=rows.map fun r=>(Sum.inr r.1:Key)
 | _,_,_,.nil=>rfl
 | _,_,_,.cons r t=>by rw [List.map_cons,List.map_cons,r.1,UpsD.keys t]
def upsOf (rows:RS) (x:Str):LS:=(rows.lookup x).getD []
def upsOf_at {rows:RS}(nd:(rows.map (·.1)).Nodup) {r:Str×LS}(h:r∈rows):upsOf rows r.1=r.2:=by
 unfold upsOf
 induction rows with
 | nil=>cases h
 | cons q rs ih =>
  have nd':(q.1 :: rs.map (·.1)).Nodup:=nd
  obtain ⟨n1,n2⟩:=List.nodup_cons.mp nd'
  obtain ⟨a,b⟩:=q
  rw [List.lookup_cons]
  rcases List.mem_cons.mp h with e | h
  ·subst e
   simp
  ·have ne:(r.1 == a)=false:=by
    rw [beq_eq_false_iff_ne]
    intro e
    exact n1 (List.mem_map.mpr ⟨r,h,e⟩)
   rw [ne]
   exact ih n2 h
theorem UpsD.val:∀ {H:Hp}{rows:RS}{kvs:List (Key×V)},UpsD H rows kvs→(rows.map (·.1)).Nodup→∀ {r:Str×LS},r∈rows→∃ t,valV kvs (Sum.inr r.1)=some (.ref t)∧H t=some (.tup (r.2.map V.str))
 | _,_,_,.nil,_,r,h=>nomatch h
 | _,q :: rs,p :: ps,.cons z t,nd,r,h=>by
  have nd':(q.1 :: rs.map (·.1)).Nodup:=nd
  obtain ⟨n1,n2⟩:=List.nodup_cons.mp nd'
  obtain ⟨z1,u,z2,z3⟩:=z
  rcases List.mem_cons.mp h with e | h
  ·subst e
   exact ⟨u,by rw [valV_pos z1,z2],z3⟩
  ·have ne:¬ p.1=(Sum.inr r.1:Key):=fun e=>n1 (by
    rw [z1] at e
    have e':q.1=r.1:=by injection e
    rw [e']
    exact List.mem_map.mpr ⟨r,h,rfl⟩)
   obtain ⟨u',h1,h2⟩:=UpsD.val t n2 h
   exact ⟨u',by rw [valV_neg ne];exact h1,h2⟩
def keysV {H:Hp}{rows:RS}{kvs:List (Key×V)}(h:UpsD H rows kvs):(kvs.map fun p=>kV p.1)=(rows.map (·.1)).map V.str:=by
 have e:(kvs.map fun p=>kV p.1)=(kvs.map (·.1)).map kV:=by rw [List.map_map];rfl
 rw [e,h.keys,List.map_map,List.map_map]
 rfl
end Md
namespace L2
open PySem PySem.Spec PyProof.Rows
section
variable {X:Cx} {pins:List (Addr×Obj)} {σ:St} {H H':Hp} {s:Shared} {h':Heap}
end
section
variable {X:Cx}
end
section
variable {X:Cx} {pins:List (Addr×Obj)} {σ:St} {H:Hp} {s:Shared} {h':Heap}
end
section
variable {X:Cx}
end
section
variable {X:Cx}
end
section
variable {prog:Program} {w:World} {A:Around} {E:Value→Shared→Prop} {s:Shared}
def nextTup_some {p t:Addr}{k:Nat}{us:Array Value}{u:Value}{Q:Value→Shared→Prop}(hp:s.heap.IsTupleIter p t k) (ht:s.heap.IsTuple t us) (hu:us[k]?=some u)
  (q:∀ g,g.IsTupleIter p t (k + 1)→Heap.SameBut p s.heap g→Q u { s with heap:=g }):wpAny (model prog w) A (Builtin.SmallTypes.nextOf (.ref p)) Q E s:=by
 obtain ⟨ob,h1,h2,h3⟩:=id hp
 obtain ⟨ot,h4,_,nt,h5⟩:=ht
 unfold Builtin.SmallTypes.nextOf
 refine wpAny_bind (wpAny_callSpecial?_slot (name:=Str.ofString "__next__") hp.typeIs PySem.F.slot_tuple_iterator_next (wpAny_call_entry PySem.F.slot_tuple_iterator_next hp.typeIs PySem.F.entry_tuple_iterator_next ?_ (PySem.F.args_tuple_iterator_next_1 _)))
 show wpAny _ _ (field (.ref p) 0>>=_) _ _ s
 refine wpAny_bind (wpAny_field h1 h3 (x:=.ref t) rfl ?_)
 show wpAny _ _ (if (Value.ref t == Value.none)=true then _ else _) _ _ s
 rw [if_neg (show ¬ ((Value.ref t == Value.none)=true) from Bool.false_ne_true)]
 show wpAny _ _ (field (.ref p) 1>>=_) _ _ s
 refine wpAny_bind (wpAny_field h1 h3 (x:=.int k 0) rfl ?_)
 show wpAny _ _ (seqItems? (.ref t)>>=_) _ _ s
 refine wpAny_bind (wpAny_seqItems h4 h5 ?_)
 simp only [Int.toNat_natCast,hu]
 refine wpAny_bind (wpAny_setField h1 h3 (by simp) (wpAny_pure ⟨u,rfl,wpAny_pure (q _ ?_ (Heap.SameBut.update ..))⟩))
 exact ⟨_,Heap.get?_update_self _ h1 (Obj.isFreed_of_fields (Obj.data_mapFields h3 _)),(Obj.cls_mapFields ..).trans h2,by rw [Obj.data_mapFields h3];simp [rawInt]⟩
def nextTup_none {p t:Addr}{k:Nat}{us:Array Value}{Q:Value→Shared→Prop}(hh:A.handled=none) (hp:s.heap.IsTupleIter p t k) (ht:s.heap.IsTuple t us) (hu:us[k]?=none)
  (q:∀ g e,Heap.ExtBut p s.heap g→(∃ o,g.get? e=some o∧o.cls=.type "StopIteration")→E (.ref e) { s with heap:=g }):wpAny (model prog w) A (Builtin.SmallTypes.nextOf (.ref p)) Q E s:=by
 obtain ⟨ob,h1,h2,h3⟩:=id hp
 obtain ⟨ot,h4,_,nt,h5⟩:=ht
 unfold Builtin.SmallTypes.nextOf
 refine wpAny_bind (wpAny_callSpecial?_slot (name:=Str.ofString "__next__") hp.typeIs PySem.F.slot_tuple_iterator_next (wpAny_call_entry PySem.F.slot_tuple_iterator_next hp.typeIs PySem.F.entry_tuple_iterator_next ?_ (PySem.F.args_tuple_iterator_next_1 _)))
 show wpAny _ _ (field (.ref p) 0>>=_) _ _ s
 refine wpAny_bind (wpAny_field h1 h3 (x:=.ref t) rfl ?_)
 show wpAny _ _ (if (Value.ref t == Value.none)=true then _ else _) _ _ s
 rw [if_neg (show ¬ ((Value.ref t == Value.none)=true) from Bool.false_ne_true)]
 show wpAny _ _ (field (.ref p) 1>>=_) _ _ s
 refine wpAny_bind (wpAny_field h1 h3 (x:=.int k 0) rfl ?_)
 show wpAny _ _ (seqItems? (.ref t)>>=_) _ _ s
 refine wpAny_bind (wpAny_seqItems h4 h5 ?_)
 simp only [Int.toNat_natCast,hu]
 refine wpAny_bind (wpAny_rule (wpAny_bind (wpAny_setField h1 h3 (by simp) ?_)))
 show wpAny _ _ (newExc (.type "StopIteration") []>>=_) _ _ _
 refine wpAny_bind ?_
 simp only [newExc,newTuple]
 refine wpAny_bind (wpAny_newObj_type ?_ (by size_fits))
 refine wpAny_bind (m:=firstArgMember _ _) (wpAny_of_eq (a:=Value.none) (by first | rfl | (simp only [firstArgMember];rfl)) ?_)
 refine wpAny_newObj_type ?_ (by size_fits)
 simp only [raiseNew]
 refine wpAny_bind (wpAny_handled ?_)
 first | rw [show A.in1.handled=none from hh] | rw [hh]
 refine wpAny_bind (wpAny_pure (wpAny_throw ?_))
 exact q _ _ (((Heap.SameBut.update ..).extBut.push _).push _) ⟨_,Heap.get?_push_size _ rfl,rfl⟩
structure ZAt (h:Heap) (z ti to i1 i2 l1 l2:Addr) (k:Nat) (f:Value):Prop where
 z:IsZip h z ti to f
 ti:IsPair h ti (.ref i1) (.ref i2)
 to:∃ a b,IsPair h to a b
 i1:h.IsTupleIter i1 l1 k
 i2:h.IsTupleIter i2 l2 k
end
def Itp (ps:List (V×V)) (Ok:Hp→Prop):It :=
 ⟨fun i H=>i<ps.length∧Ok H,fun i H v H'=>∃ t p,ps[i]?=some p∧H t=none∧v=.ref t∧H'=upd H t (.tup [p.1,p.2]),fun i H=>ps.length≤i∧Ok H⟩
section
variable {prog:Program} {w:World} {A:Around} {E:Value→Shared→Prop} {s:Shared}
abbrev zg1 (h:Heap) (l1:Addr):Heap:=h.push { cls:=.type "tuple_iterator",data:=.fields #[.ref l1,.int 0 0] }
end
def zipV_get {xs ys:List V}{i:Nat}{p:V×V}(h:(xs.zip ys)[i]?=some p):xs[i]?=some p.1∧ys[i]?=some p.2:=by
 rw [List.getElem?_zip_eq_some] at h
 exact h
def Inv.turnedNewL {X:Cx}{pins:List (Addr×Obj)}{σ:St}{H:Hp}{s:Shared}{h':Heap}{t':Nat}{its:List Addr}{a:Addr}{o:HO}(I:Inv X pins σ H s) (k:∀ b u,b∉its→s.heap.get? b=some u→h'.get? b=some u)
  (f:∀ b∈its,FpOk X pins H b) (ha:s.heap.objs.size≤a) (new:ObjOk X.prog X.w (upd H a o) h' a o):Inv X pins σ (upd H a o) { s with heap:=h',toks:=t' }:=by
 have nit:∀ b u,H b=some u→b∉its:=fun b u e z=>by have:=(f b z).1;rw [this] at e;cases e
 have na:∀ b u,H b=some u→b≠a:=fun b u e=>Nat.ne_of_lt (Nat.lt_of_lt_of_le (I.hok.lt e) ha)
 have low:∀ {b u},H b=some u→(upd H a o) b=some u:=fun {b u} e=>by rw [upd_ne (na b u e)];exact e
 refine I.step (g':=s.gens) (d':=s.drawn) (ch:=its) (fun b hb=>?_) (fun b u _ _ hc e _=>k b u hc e) (fun b u _ _ hc e _=>⟨u.slots,k b u hc e⟩)
  (fun b u _ e n=>by rw [upd_ne (Nat.ne_of_lt (Nat.lt_of_lt_of_le (Heap.lt_size e) ha))];exact n)
  (fun b u hc e=>⟨u,k b u hc e⟩) (fun _ _ e=>low e) (fun _ _ _ e=>low e) (fun b ps e=>⟨#[],by rw [low e];simp⟩) (fun m hm=>?_) (fun b u e=>?_) I.bare
 ·obtain ⟨f0,f1,f2,f3,f4,f5⟩:=f b hb
  exact ⟨f3,f1,f4,f5⟩
 ·obtain ⟨o',es,ep,ho,r⟩:=hm
  exact ⟨o',es,ep,k _ o' (fun z=>(f _ z).2.1 rfl) ho,r⟩
 ·by_cases hb:b=a
  ·subst hb
   rw [uS] at e
   cases e
   exact new
  ·rw [upd_ne hb] at e
   refine (I.hok b u e).stay (fun c v hc q=>k c v ?_ q) (fun _ q=>low q) fun _ _ q=>low q
   rcases hc with z | z
   ·rw [z];exact nit b u e
   ·exact nit c _ z
def Inv.turnedL {X:Cx}{pins:List (Addr×Obj)}{σ:St}{H:Hp}{s:Shared}{h':Heap}{t':Nat}{its:List Addr}(I:Inv X pins σ H s) (k:∀ b u,b∉its→s.heap.get? b=some u→h'.get? b=some u)
  (f:∀ b∈its,FpOk X pins H b):Inv X pins σ H { s with heap:=h',toks:=t' }:=by
 have nit:∀ b u,H b=some u→b∉its:=fun b u e z=>by have:=(f b z).1;rw [this] at e;cases e
 refine I.step (g':=s.gens) (d':=s.drawn) (ch:=its) (fun b hb=>?_) (fun b u _ _ hc e _=>k b u hc e) (fun b u _ _ hc e _=>⟨u.slots,k b u hc e⟩)
  (fun b u _ e n=>n) (fun b u hc e=>⟨u,k b u hc e⟩) (fun _ _ e=>e) (fun _ _ _ e=>e) (fun b ps e=>⟨#[],by rw [e];simp⟩) (fun m hm=>?_) (fun b u e=>?_) I.bare
 ·obtain ⟨f0,f1,f2,f3,f4,f5⟩:=f b hb
  exact ⟨f3,f1,f4,f5⟩
 ·obtain ⟨o',es,ep,ho,r⟩:=hm
  exact ⟨o',es,ep,k _ o' (fun z=>(f _ z).2.1 rfl) ho,r⟩
 ·refine (I.hok b u e).stay (fun c v hc q=>k c v ?_ q) (fun _ q=>q) fun _ _ q=>q
  rcases hc with z | z
  ·rw [z];exact nit b u e
  ·exact nit c _ z
section
variable {X:Cx}
end
def draws_tup {prog:Program}{w:World}{A:Around}(hh:A.handled=none) (p t:Addr) (ne:t≠p) (us:Array Value):Draws prog w A p [p,t] us.size (fun i v=>us[i]?=some v) (fun i h=>h.IsTupleIter p t i∧h.IsTuple t us) where
 live:=fun _ _ st=>let ⟨o,ho,_⟩:=st.1;⟨o,ho⟩
 frame:=fun _ _ _ st hk=>⟨st.1.at fun o e=>hk p (by simp) o e,let ⟨o,ho,r⟩:=st.2;⟨o,hk t (by simp) o ho,r⟩⟩
 item:=fun i s Q E hi st q=>nextTup_some st.1 st.2 (u:=us[i]) (by simp [hi]) fun g st' sb=>q _ g s.toks (by simp [hi]) ⟨st',st.2.extBut sb.extBut ne⟩ sb
 done:=fun s Q E st q=>nextTup_none hh st.1 st.2 (by simp) q
def SIt (b:Bool) (h:Heap) (p a:Addr) (i:Nat):Prop:=if b=true then h.IsListIter p a i else h.IsTupleIter p a i
def SSq (b:Bool) (h:Heap) (a:Addr) (us:Array Value):Prop:=if b=true then h.IsList a us else h.IsTuple a us
theorem SIt.at {b:Bool}{h h':Heap}{p a:Addr}{i:Nat}(x:SIt b h p a i) (e:∀ o,h.get? p=some o→h'.get? p=some o):SIt b h' p a i:=by
 cases b with
 | true=>exact Heap.IsListIter.at (show h.IsListIter p a i from x) e
 | false=>exact Heap.IsTupleIter.at (show h.IsTupleIter p a i from x) e
def SIt.obj {b:Bool}{h:Heap}{p a:Addr}{i:Nat}(x:SIt b h p a i):∃ o,h.get? p=some o∧∀ v,o.data≠.cell v:=by
 cases b with
 | true =>
  obtain ⟨o,e,_,d⟩:=(show h.IsListIter p a i from x)
  exact ⟨o,e,fun v z=>by rw [d] at z;cases z⟩
 | false =>
  obtain ⟨o,e,_,d⟩:=(show h.IsTupleIter p a i from x)
  exact ⟨o,e,fun v z=>by rw [d] at z;cases z⟩
def draws_seq {prog:Program}{w:World}{A:Around}(b:Bool) (hh:A.handled=none) (p t:Addr) (ne:t≠p) (us:Array Value):Draws prog w A p [p,t] us.size (fun i v=>us[i]?=some v) (fun i h=>SIt b h p t i∧SSq b h t us):=by
 cases b with
 | true=>exact Draws.list hh p t ne us
 | false=>exact draws_tup hh p t ne us
def Inv.sseq {X:Cx}{pins:List (Addr×Obj)}{σ:St}{H:Hp}{s:Shared}{b:Bool}{a:Addr}{xs:List V}(I:Inv X pins σ H s) (h:SqB X.K b H a xs):∃ its:List Value,Vals xs its∧SSq b s.heap a its.toArray:=by
 cases b with
 | true =>
  obtain ⟨its,rv,p,_⟩:=I.list (show SqL X.K H a xs from h)
  exact ⟨its,rv,p.isList⟩
 | false =>
  obtain ⟨its,rv,p,_⟩:=I.tuple (show SqT X.K H a xs from h)
  exact ⟨its,rv,p⟩
def enumV (xs:List V):List (V×V):=(rangeV 0 xs.length).zip xs
def enumV_len (xs:List V):(enumV xs).length=xs.length:=by
 unfold enumV
 rw [List.length_zip,rangeV_len,Nat.min_self]
def enumV_get {xs:List V}{i:Nat}{p:V×V}(h:(enumV xs)[i]?=some p):p.1=.int i∧xs[i]?=some p.2:=by
 obtain ⟨h1,h2⟩:=zipV_get h
 obtain ⟨_,e⟩:=rangeV_get h1
 exact ⟨by rw [e,Int.zero_add],h2⟩
section
variable {prog:Program} {w:World} {A:Around} {E:Value→Shared→Prop} {s:Shared}
def meets_enumT (l:Addr) (us:Array Value):Meets (Builtin.«enumerate.__new__» ⟨[.type "enumerate",.ref l],[]⟩) (fun _ R s=>s.heap.IsTuple l us ∧
   R (.ok (.ret (.ref (s.heap.push { cls:=.type "tuple_iterator",data:=.fields #[.ref l,.int 0 0] }).objs.size)))
    { s with heap:=(s.heap.push { cls:=.type "tuple_iterator",data:=.fields #[.ref l,.int 0 0] }).push { cls:=.type "enumerate",data:=.fields #[.none,.bool false,.ref s.heap.objs.size,rawInt 0,.none,.none] } }):=
 .of_wp fun prog w A R s h=>by
  obtain ⟨hp,g,d,tk,os⟩:=s
  obtain ⟨ht,h⟩:=h
  have hsub:=sub_enumerate
  obtain ⟨⟨c,dct,dt,sl⟩,hl,hc,n,hd⟩:=id ht
  replace hc:c=.type "tuple":=hc
  replace hd:dt=.seq us n:=hd
  subst hc hd
  have hT:Heap.IsTuple (Shared.heap ⟨hp,g,d,tk,os⟩) l us:=ht
  wp_walk using AutoSeq1.wpAny_loadPart' hl
  refine wpAny_stack_any fun st=>wpAny_pure ?_
  split
  ·rename_i c _ _ _ _ _
   cases (c == Value.type "enumerate")
   ·wp_walk using AutoSeq1.wpAny_loadPart' hl,wpAny_pyIter_tuple hT
    exact ⟨_,rfl,h⟩
   ·wp_walk using AutoSeq1.wpAny_loadPart' hl,wpAny_pyIter_tuple hT
    exact ⟨_,rfl,h⟩
  ·wp_walk using AutoSeq1.wpAny_loadPart' hl,wpAny_pyIter_tuple hT
   exact ⟨_,rfl,h⟩
def call_enum (b:Bool) {l:Addr}{us:Array Value}{Q:Value→Shared→Prop}(hl:SSq b s.heap l us)
  (q:∀ g,IsEnum g (s.heap.objs.size + 1) s.heap.objs.size 0 .none→SIt b g s.heap.objs.size l 0→(∀ c o,s.heap.get? c=some o→g.get? c=some o)→Q (.ref (s.heap.objs.size + 1)) { s with heap:=g }):
  wpAny (model prog w) A (call (.type "enumerate") [.ref l]) Q E s:=by
 cases b with
 | true=>exact call_enumerate_list (show s.heap.IsList l us from hl) fun g h1 h2 _ h4=>q g h1 h2 h4
 | false =>
  refine callType_new PySem.F.called_enumerate (by decide) (PySem.F.typeCall_enumerate_1 _) (PySem.F.newCall_enumerate_1 _) (fun obj=>PySem.F.args_object_init_2 obj _) PySem.F.entry_enumerate_new (meets_enumT l us) ⟨hl,?_⟩
  have n1:(zg1 s.heap l).objs.size=s.heap.objs.size + 1:=Heap.size_push ..
  show _∧_
  rw [n1]
  have he:IsEnum ((zg1 s.heap l).push { cls:=.type "enumerate",data:=.fields #[.none,.bool false,.ref s.heap.objs.size,rawInt 0,.none,.none] }) (s.heap.objs.size + 1) s.heap.objs.size 0 .none:=by
   have:=Heap.get?_push_size (zg1 s.heap l) (o:={ cls:=.type "enumerate",data:=.fields #[.none,.bool false,.ref s.heap.objs.size,rawInt 0,.none,.none] }) rfl
   rw [n1] at this
   exact this
  exact ⟨⟨_,he,rfl⟩,q _ he ⟨_,Heap.get?_push_of_some _ (Heap.get?_push_size _ rfl),rfl,rfl⟩ fun c o x=>Heap.get?_push_of_some _ (Heap.get?_push_of_some _ x)⟩
end
def enumEnd {prog:Program}{w:World}{A:Around}{E:Value→Shared→Prop}{s:Shared}{e p:Addr}{i:Int}{old:Value}{Q:Option Value→Shared→Prop}(hh:A.handled=none) (he:IsEnum s.heap e p i old)
  (nx:∀ (Q:Value→Shared→Prop) (E:Value→Shared→Prop),(∀ g e,Heap.ExtBut p s.heap g→(∃ o,g.get? e=some o∧o.cls=.type "StopIteration")→E (.ref e) { s with heap:=g })→wpAny (model prog w) A.in1 (Builtin.SmallTypes.nextOf (.ref p)) Q E s)
  (q:∀ g,Heap.ExtBut p s.heap g→Q none { s with heap:=g }):wpAny (model prog w) A (pyNext (.ref e)) Q E s:=by
 have hT:s.TypeIs (.ref e) "enumerate":=⟨_,he,rfl⟩
 unfold pyNext
 refine wpAny_bind (wpAny_attempt (wpAny_callSpecial?_slot (name:=Str.ofString "__next__") hT PySem.F.slot_enumerate_next (wpAny_call_entry PySem.F.slot_enumerate_next hT PySem.F.entry_enumerate_next ?_ (PySem.F.args_enumerate_next_1 _))))
 show wpAny _ _ (field (.ref e) 2>>=_) _ _ _
 refine wpAny_bind (wpAny_field he rfl (x:=.ref p) rfl (wpAny_bind (nx _ _ fun g x eb hx=>?_)))
 obtain ⟨o,ho,hc⟩:=hx
 refine wpAny_bind (wpAny_isInstance (T:="StopIteration") (b:=true) ⟨o,ho,hc⟩ isSubtype_stop ?_)
 exact wpAny_pure (q _ eb)
def turn_enum {P:Program}{w:World}{K:Fg}{elts:List Expr}{x1}{pos:Pos}{xs:List V}(b:Bool) (a e p:Addr) (ep:e≠p) (ea:e≠a) (ap:a≠p):
  Turn P w K (.Tuple elts x1 pos) (Itp (enumV xs) fun H=>SqB K b H a xs) [e,p] e (fun i h=>(∃ old,IsEnum h e p i old)∧SIt b h p a i) where
 mem:=by simp
 obj:=fun i h st c hc=>by
  have hc':c=e∨c=p:=by simpa using hc
  obtain ⟨⟨old,he⟩,si⟩:=st
  rcases hc' with rfl | rfl
  ·exact ⟨_,he,fun v q=>by cases q⟩
  ·exact si.obj
 keep:=fun i h h' st k=>by
  obtain ⟨⟨old,he⟩,si⟩:=st
  exact ⟨⟨old,k e (by simp) _ he⟩,si.at fun o q=>k p (by simp) o q⟩
 item:=by
  intro X hP hw hK hc i pins s σ H E I hf st hg
  subst hP hw hK
  obtain ⟨hi,ha⟩:=hg
  obtain ⟨⟨old,he⟩,si⟩:=st
  obtain ⟨pr,hp⟩:∃ p,(enumV xs)[i]?=some p:=⟨(enumV xs)[i]'hi,List.getElem?_eq_getElem hi⟩
  obtain ⟨e1,hx⟩:=enumV_get hp
  obtain ⟨its,rv,sq⟩:=I.sseq ha
  obtain ⟨u,hu,ru⟩:=rv.get hx
  have hil:i<its.toArray.size:=by rw [enumV_len] at hi;have:=rv.length;simp;omega
  have D:=draws_seq (prog:=X.prog) (w:=X.w) (A:=X.A.in1) b (I.ok.hd hc) p a ap its.toArray
  refine wpAny_pyNext_enum_itemD D he ⟨si,sq⟩ hil ep (by simp;exact ⟨ep,ea⟩) fun x g tk hPx ho hst hT _ hk=>?_
  have exu:x=u:=by
   have h1:its.toArray[i]?=some x:=hPx
   have h2:its.toArray[i]?=some u:=by simpa using hu
   rw [h1] at h2
   exact Option.some.inj h2
  subst exu
  refine ⟨_,rfl,?_⟩
  refine wpAny_letOwnedTupleGo_enum (s:={ s with heap:=g,toks:=tk + 1 }) ho fun g' he' sb=>?_
  have elt:e<s.heap.objs.size:=Heap.lt_size he
  have plt:p<s.heap.objs.size:=let ⟨o,q,_⟩:=si.obj;Heap.lt_size q
  have sb':Heap.ExtBut e g g':=sb.extBut
  have hT':IsPair g' s.heap.objs.size (.int i tk) x:=sb' _ _ (Nat.ne_of_gt elt) hT
  have I1:Inv X pins σ (upd H s.heap.objs.size (.tup [pr.1,pr.2])) { s with heap:=g',toks:=tk + 1 }:=I.turnedNewL (t':=tk + 1) (its:=[e,p]) (fun c o hc q=>sb' c o (fun z=>hc (by simp [z])) (hk c o (fun z=>hc (by simp [z])) (fun z=>hc (by simp [z])) q)) hf (Nat.le_refl _)
   ⟨sL (by show 2≤100000;decide),[.int i tk,x],.cons (by rw [e1];exact ⟨tk,rfl⟩) (.cons ru .nil),⟨_,hT',rfl,_,rfl⟩⟩
  refine ⟨.ref s.heap.objs.size,_,I1,rfl,⟨s.heap.objs.size,pr,hp,I.hok.fresh (Nat.le_refl _),rfl,rfl⟩,⟨⟨x,by simpa using he'⟩,hst.1.at fun o q=>sb' _ o (Ne.symm ep) q⟩,fun c hc=>?_⟩
  have hc':c=e∨c=p:=by simpa using hc
  have ne:c≠s.heap.objs.size:=by
   rcases hc' with rfl | rfl
   ·exact Nat.ne_of_lt elt
   ·exact Nat.ne_of_lt plt
  rw [upd_ne ne]
  exact (hf c hc).1
 done:=by
  intro X hP hw hK hc i pins s σ H E I hf st hg
  subst hP hw hK
  obtain ⟨hi,ha⟩:=hg
  obtain ⟨⟨old,he⟩,si⟩:=st
  obtain ⟨its,rv,sq⟩:=I.sseq ha
  have hl:=rv.length
  rw [enumV_len] at hi
  cases b with
  | true =>
   have si:s.heap.IsListIter p a i:=si
   have sq:s.heap.IsList a its.toArray:=sq
   refine enumEnd (I.ok.hd hc) he (fun Q E hE=>wpAny_nextOf_list_end (I.ok.hd hc) si sq (by simp;omega) hE) fun g eb=>⟨rfl,I.turnedL (t':=s.toks) (its:=[e,p]) (fun c o hc q=>eb c o (fun z=>hc (by simp [z])) q) hf⟩
  | false =>
   have si:s.heap.IsTupleIter p a i:=si
   have sq:s.heap.IsTuple a its.toArray:=sq
   refine enumEnd (I.ok.hd hc) he (fun Q E hE=>nextTup_none (I.ok.hd hc) si sq (by simp;omega) hE) fun g eb=>⟨rfl,I.turnedL (t':=s.toks) (its:=[e,p]) (fun c o hc q=>eb c o (fun z=>hc (by simp [z])) q) hf⟩
 self:=fun A i s Q E st h=>let ⟨⟨_,he⟩,_⟩:=st;wpAny_pyIter_enum he h
section
variable {X:Cx}
def iEnum (K:Fg) (ta:TA):TI:=fun σ H R=>ta σ H fun vs H1=>∃ (b:Bool) (a:Addr) (xs:List V),vs=[.ref a]∧SqB K b H1 a xs∧R (Itp (enumV xs) fun H=>SqB K b H a xs) H1
def pi_enum {elts:List Expr}{x1}{tpos:Pos}{a:Expr}{ta:TA}{p pos:Pos}(hg:Gl X "enumerate") (hm:X.mg "enumerate"=none) (ha:PA X [a] ta) (hs:starEach [a] X.env=[(false,eval a X.env)]:=by rfl):
  PI X (.Tuple elts x1 tpos) (.Call (.Name "enumerate" p) [a] [] pos) (iEnum X.K ta):=by
 intro pins s σ H R I h
 refine Call_ (ld_blt I hg hm boot_enumerate (PyProof.Rows.callWith_type1 (thn (ha pos pins s σ H _ I h) fun us s1 ⟨vs,H1,I1,r1,q1⟩=>?_) hs rfl))
 obtain ⟨b,l,xs,e,t1,q⟩:=q1
 subst e
 cases r1 with
 | cons r rr =>
  cases rr
  obtain rfl:_=Value.ref l:=r
  obtain ⟨its,rv,sq⟩:=I1.sseq t1
  have lt1:l<s1.heap.objs.size:=by
   cases b with
   | true=>obtain ⟨_,e,_⟩:=(show s1.heap.IsList l its.toArray from sq);exact Heap.lt_size e
   | false=>obtain ⟨_,e,_⟩:=(show s1.heap.IsTuple l its.toArray from sq);exact Heap.lt_size e
  refine call_enum b sq fun g he si hk=>wpAny_pyIter_enum (s:={ s1 with heap:=g }) he ?_
  refine ⟨_,[s1.heap.objs.size + 1,s1.heap.objs.size],_,_,H1,rfl,I1.kept (t':=s1.toks) fun b o e=>hk b o e,turn_enum b l _ _ (Nat.succ_ne_self _) (Nat.ne_of_gt (Nat.lt_succ_of_lt lt1)) (Nat.ne_of_lt lt1),⟨⟨_,he⟩,si⟩,fun c hc=>?_,q⟩
  have hc':c=s1.heap.objs.size + 1∨c=s1.heap.objs.size:=by simpa using hc
  have ge:s1.heap.objs.size≤c:=by
   rcases hc' with rfl | rfl
   ·exact Nat.le_add_right _ _
   ·exact Nat.le_refl _
  exact I1.fpOk ge (I1.hok.fresh ge)
end
end L2
namespace L2
open PySem PySem.Spec PyProof.Rows PySem.W
def hu65 {A:Around}{k:Nat}(hr:Room k A):A.units + 65<cLine:=by have:=hr.un;omega
def valV_noneG {κ:Type} [DecidableEq κ] {kvs:List (κ×V)}{k:κ}(h:k∉kvs.map (·.1)):valV kvs k=none:=by
 cases e:valV kvs k with
 | none=>rfl
 | some v=>exact absurd (valV_in e) h
def putK_keysG {κ:Type} [DecidableEq κ] {kvs:List (κ×V)}{k:κ}{v:V}(h:k∉kvs.map (·.1)):(putK kvs k v).map (·.1)=kvs.map (·.1)++[k]:=by
 rw [putK_new v (valV_noneG h),List.map_append]
 rfl
def not_taken {α:Type}{l:List α}(nd:l.Nodup) {i:Nat}{x:α}(h:l[i]?=some x):x∉l.take i:=by
 intro m
 have hi:=(List.getElem?_eq_some_iff.mp h).1
 have e:=(List.getElem?_eq_some_iff.mp h).2
 have sp:l=l.take i++l.drop i:=(List.take_append_drop i l).symm
 rw [sp] at nd
 have q:=(List.nodup_append.mp nd).2.2 x m
 refine q x ?_ rfl
 rw [List.drop_eq_getElem_cons hi,e]
 exact List.mem_cons_self
def for_pairs {ps:List (V×V)}{Ok:Hp→Prop}{g:TG}{tb:TS}{D:Ends}{σ:St}{H:Hp}(Pv:Nat→St→Hp→Prop) (h0:Pv 0 σ H) (hl:∀ i σ H,i≤ps.length→Pv i σ H→Ok H)
  (hs:∀ i p t σ H,ps[i]?=some p→Pv i σ H→H t=none→g (.ref t) σ (upd H t (.tup [p.1,p.2])) fun σ2 H2=>tb { D with nx:=Pv (i + 1),ct:=Pv (i + 1),bk:=D.nx } σ2 H2) (hd:∀ σ H,Pv ps.length σ H→D.nx σ H):
  ∃ W:Nat→Nat→St→Hp→Prop,(∃ m,W 0 m σ H)∧∀ i m σ H,W i m σ H →
   ((Itp ps Ok).stop i H∧D.nx σ H)∨((Itp ps Ok).go i H∧∃ N:St→Hp→Prop,(∀ σ' H',N σ' H'→∃ m',m'<m∧W (i + 1) m' σ' H')∧∀ x H',(Itp ps Ok).yld i H x H'→g x σ H' fun σ2 H2=>tb { D with nx:=N,ct:=N,bk:=D.nx } σ2 H2):=by
 refine ⟨fun i m σ H=>m=ps.length - i∧i≤ps.length∧Pv i σ H,⟨ps.length,by simp,Nat.zero_le _,h0⟩,?_⟩
 rintro i m σ H ⟨rfl,hi,p⟩
 have q:=hl i σ H hi p
 by_cases hlt:i<ps.length
 ·refine .inr ⟨⟨hlt,q⟩,Pv (i + 1),fun σ' H' p'=>⟨ps.length - (i + 1),by omega,rfl,hlt,p'⟩,fun x H' y=>?_⟩
  obtain ⟨t,pr,hp,ht,rfl,rfl⟩:=y
  exact hs i pr t σ H hp p ht
 ·have e:i=ps.length:=by omega
  subst e
  exact .inl ⟨⟨Nat.le_refl _,q⟩,hd σ H p⟩
abbrev g2 (K:Fg) (i j:Nat):TG:=gTup K 2 (gCons (gName i) (gCons (gName j) gNil))
def g2_at {K:Fg}{i j:Nat}{t:Addr}{x y:V}{σ:St}{H:Hp}{R:St→Hp→Prop}(h:SqT K H t [x,y]) (q:R ((σ.set i (some x)).set j (some y)) H):g2 K i j (.ref t) σ H R :=
 ⟨t,[x,y],rfl,h,rfl,x,[y],rfl,y,[],rfl,rfl,q⟩
def g2_new {K:Fg}{i j:Nat}{t:Addr}{x y:V}{σ:St}{H:Hp}{R:St→Hp→Prop}(q:R ((σ.set i (some x)).set j (some y)) (upd H t (.tup [x,y]))):g2 K i j (.ref t) σ (upd H t (.tup [x,y])) R :=
 g2_at (SqT.of uS) q
def pg_two {X:Cx}{K:Fg}{i j:Nat}{x y:Str}{p q pos:Pos}{c:Nat}(hK:X.K=K) (hc:X.calm=true) (hN:X.N.Nodup) (hi:X.N[i]?=some x) (hj:X.N[j]?=some y) (hx:Loc X.env.scope x) (hy:Loc X.env.scope y)
  (fx:X.fn x=true∨X.env.scope.names.lookup x=some .local) (fy:X.fn y=true∨X.env.scope.names.lookup y=some .local):PG X (.Tuple [.Name x p,.Name y q] c pos) (g2 K i j):=by
 subst hK
 exact pg_tup hc (gC (pg_name (i:=i) hN hi hx fx) (gC (pg_name (i:=j) hN hj hy fy) pgs_nil))
def snew {H:Hp}{t:Addr}{o:HO}(h:H t=none):Same H (upd H t o):=fun b u e=>by rw [upd_ne (nNo e h)];exact e
def take_filter {α:Type}(p:α→Bool):∀ (xs:List α) (i:Nat) (x:α),xs[i]?=some x→(xs.take (i + 1)).filter p=(xs.take i).filter p++if p x=true then [x] else []:=by
 intro xs i x h
 rw [List.take_add_one,h,List.filter_append]
 congr 1
 cases e:p x <;> simp [List.filter,e]
theorem paired_eq {α:Type}{f:α→V}:∀ {xs:List α}{ys:List V},Paired (fun x v=>v=f x) xs ys→ys=xs.map f
 | _,_,.nil=>rfl
 | _,_,.cons r t=>by rw [List.map_cons,r,paired_eq t]
def comp_val {J:It}{xs:List V}{Ok:Hp→Prop}(R:Runs J xs Ok) {js:List Nat}{tt:TT}{te:TE}{σ:St}{Q:VK}{H1:Hp}(hz:xs.length≤sizeLine) (p:V→Bool) (f:V→V)
  (hok:∀ H,Same H1 H→Ok H)
  (ht:∀ x H (R:Bool→Hp→Prop),Same H1 H→x∈xs→(∀ H',Same H H'→R (p x) H')→tt (some x :: js.map fun j=>(σ[j]?).join) H R)
  (he:∀ x H (R:V→Hp→Prop),Same H1 H→x∈xs→p x=true→(∀ H',Same H H'→R (f x) H')→te (some x :: js.map fun j=>(σ[j]?).join) H R)
  (hd:∀ D H',H1 D=none→Same H1 H'→H' D=some (.lst ((xs.filter p).map f))→Q (.ref D) H'):
  compBody 1 js (gName 0) tt te σ Q J H1 :=
 comp_rel R hz p (fun _ x v _=>v=f x) (fun _ _ _ _ _ _ z=>z) hok ht (fun D x H R hs _ _ hx hp k=>he x H R hs hx hp fun H' s'=>k _ _ s' rfl)
  fun D H' ys hD hs hl hp=>hd D H' hD hs (by rw [hl,paired_eq hp])
section
variable {X:Cx}
theorem any_dEq {d:Dat}{n:Nat} (h2:kqdOk n d=true):∀ {ds:List Dat},ds.all (kqdOk 8)=true→((kqdPs ds).any fun y=>PyData.eqv y (kqdP d))=ds.any fun e=>dEq e d
 | [],_=>by rw [kqdPs];rfl
 | e :: ds,h=>by
  rw [List.all_cons,Bool.and_eq_true] at h
  rw [kqdPs,List.any_cons,List.any_cons,eqv_dEq h.1 h2,any_dEq h2 h.2]
def rInD (K:Fg) (f:Bool→Bool):R2:=fun x y H Q=>∃ d ds,Rep K H x d∧Rep K H y (.list ds)∧kqdOk 9 d=true∧ds.all (kqdOk 8)=true∧Q (.bl (f (ds.any fun e=>dEq e d))) H
def shaped_l {ds:List Dat}(h:ds.all (kqdOk 8)=true):SeqAt.shaped (PyData.list (kqdPs ds))=true:=by
 have:=shaped_of (d:=.list ds) (by rw [kqdOk];exact h)
 rw [kqdP] at this
 exact this
def op_inD (hu:X.A.units + 65<cLine):OpR X (compareOp .In) (rInD X.K id):=by
 intro pins s σ H x y v u Q I rx ry h
 obtain ⟨d,ds,h1,h2,k1,k2,q⟩:=h
 obtain ⟨as,ra⟩:=h1.reads I rx
 obtain ⟨bs,rb⟩:=h2.reads I ry
 rw [kqdP] at rb
 exact SeqAt.in_list_reads rb ra (SeqAt.canLay_of_shaped (shaped_l k2)) (SeqAt.canLay_of_shaped (shaped_of k1)) (room_in_shaped (shaped_of k1) hu) (fin_bl I q (by rw [any_dEq k1 k2];rfl))
def op_notInD (hu:X.A.units + 65<cLine):OpR X (compareOp .NotIn) (rInD X.K Bool.not):=by
 intro pins s σ H x y v u Q I rx ry h
 obtain ⟨d,ds,h1,h2,k1,k2,q⟩:=h
 obtain ⟨as,ra⟩:=h1.reads I rx
 obtain ⟨bs,rb⟩:=h2.reads I ry
 rw [kqdP] at rb
 exact SeqAt.notIn_list_reads rb ra (SeqAt.canLay_of_shaped (shaped_l k2)) (SeqAt.canLay_of_shaped (shaped_of k1)) (room_in_shaped (shaped_of k1) hu) (fin_bl I q (by rw [any_dEq k1 k2]))
end
end L2
namespace L2
open PySem PySem.Spec PyProof.Rows
section
variable {X:Cx}
end
end L2
namespace L2
open PySem PySem.W PySem.Spec PyProof.Rows
section
variable {X:Cx}
end
end L2
namespace L2
open PySem PySem.Spec PyProof.Rows
section
variable {prog:Program} {w:World} {A:Around} {E:Value→Shared→Prop} {s:Shared} {d it:Addr} {es:Array DictEntry} {ep i:Nat}
end
section
variable {X:Cx} {pins:List (Addr×Obj)} {σ:St} {H H':Hp} {s:Shared} {a:Addr} {kvs:List (List Key×V)} {o:Obj}
end
section
variable {X:Cx} {tg:Expr}
end
def comp_relT {K:Fg}{J:It}{xs:List V}{Ok:Hp→Prop}(R:Runs J xs Ok) {js:List Nat}{tt:TT}{te:TE}{σ:St}{Q:VK}{H1:Hp}(hz:xs.length≤sizeLine) (p:V→Bool) (F:Addr→V→V→Hp→Prop) (l r:V→V)
  (hF:∀ D x v H H',(∀ b o,b≠D→H b=some o→H' b=some o)→F D x v H→F D x v H')
  (hok:∀ H,Same H1 H→Ok H) (hp:∀ x∈xs,∃ t,x=.ref t∧H1 t=some (.tup [l x,r x]))
  (ht:∀ x H (R:Bool→Hp→Prop),Same H1 H→x∈xs→(∀ H',Same H H'→R (p x) H')→tt (some (l x):: some (r x):: js.map fun j=>(σ[j]?).join) H R)
  (he:∀ D x H (R:V→Hp→Prop),Same H1 H→(∃ ys,H D=some (.lst ys))→H1 D=none→x∈xs→p x=true→(∀ v H',Same H H'→F D x v H'→R v H')→te (some (l x):: some (r x):: js.map fun j=>(σ[j]?).join) H R)
  (hd:∀ D H' ys,H1 D=none→Same H1 H'→H' D=some (.lst ys)→Paired (fun x v=>F D x v H') (xs.filter p) ys→Q (.ref D) H'):
  compBody 2 js (g2 K 0 1) tt te σ Q J H1:=by
 refine comp_runs R hz (fun D i ys σ' H=>H1 D=none∧Same H1 H∧H D=some (.lst ys)∧Paired (fun x v=>F D x v H) ((xs.take i).filter p) ys∧∃ o u,σ'=o :: u :: js.map fun j=>(σ[j]?).join) ?_ ?_ ?_ ?_
 ·intro D hD
  exact ⟨hD,snew hD,uS,by simpa using Paired.nil,none,none,rfl⟩
 ·rintro D i ys σ' H hi ⟨hD,hs,hl,q,_⟩
  refine ⟨hok H hs,?_⟩
  rw [← q.length]
  exact Nat.le_trans (List.length_filter_le _ _) (by rw [List.length_take];omega)
 ·rintro D i x ys σ' H hD hx ⟨_,hs,hl,q,o,u,rfl⟩
  have mono:∀ {H H':Hp},(∀ b o,b≠D→H b=some o→H' b=some o)→Paired (fun x v=>F D x v H) ((xs.take i).filter p) ys→Paired (fun x v=>F D x v H') ((xs.take i).filter p) ys:=fun h q=>Paired.mapP q fun a b z=>hF D a b _ _ h z
  have hm:x∈xs:=List.mem_of_getElem? hx
  obtain ⟨t,rfl,hxt⟩:=hp x hm
  refine g2_at (SqT.of (hs _ _ hxt)) ?_
  show tt (some (l (.ref t)):: some (r (.ref t)):: js.map fun j=>(σ[j]?).join) H _
  refine ht (.ref t) H _ hs hm fun H4 s4=>?_
  have hs4:=hs.trans s4
  cases hpx:p (.ref t) with
  | true =>
   rw [if_pos rfl]
   refine he D (.ref t) H4 _ hs4 ⟨_,s4 _ _ hl⟩ hD hm hpx fun v H5 s5 f5=>⟨s5 _ _ (s4 _ _ hl),hD,fun b o e=>?_,uS,?_,_,_,rfl⟩
   ·rw [upd_ne (nNo e hD)]
    exact s5 _ _ (hs4 _ _ e)
   ·rw [take_filter p xs i _ hx,hpx,if_pos rfl]
    exact Paired.snoc (mono (fun b o hb e=>by rw [upd_ne hb];exact s5 _ _ (s4 _ _ e)) q) (hF D _ _ _ _ (fun b o hb e=>by rw [upd_ne hb];exact e) f5)
  | false =>
   rw [if_neg Bool.false_ne_true]
   refine ⟨hD,hs4,s4 _ _ hl,?_,_,_,rfl⟩
   rw [take_filter p xs i _ hx,hpx,if_neg Bool.false_ne_true,List.append_nil]
   exact mono (fun b o _ e=>s4 _ _ e) q
 ·rintro D ys σ' H hD ⟨_,hs,hl,q,_⟩
  rw [List.take_length] at q
  exact hd D H ys hD hs hl q
structure Air (h:Heap) (e T:Addr) (cls:Value) (dx:Option Addr) (fl:Value):Prop where
 ne:T≠e
 obj:∃ oe vs,h.get? e=some oe∧oe.cls=cls∧oe.dict=dx∧oe.data=.fields vs∧vs[1]?=some (.ref T)
 tb:∃ oT ts,h.get? T=some oT∧oT.data=.fields ts∧ts[3]?=some fl
structure Chg (S R:List Addr) (h h':Heap):Prop where
 sz:h.objs.size≤h'.objs.size
 keep:∀ b o,h.get? b=some o→b∉S→b∉R→h'.get? b=some o
 slot:∀ b o,h.get? b=some o→b∉R→∃ sl,h'.get? b=some { o with slots:=sl }
 there:∀ b o,h.get? b=some o→∃ o',h'.get? b=some o'
def Chg.mono {S S' R R':List Addr}{h h':Heap}(c:Chg S R h h') (hs:∀ b∈S,b∈S') (hr:∀ b∈R,b∈R'):Chg S' R' h h' :=
 ⟨c.sz,fun b o e n1 n2=>c.keep b o e (fun z=>n1 (hs b z)) fun z=>n2 (hr b z),fun b o e n=>c.slot b o e fun z=>n (hr b z),c.there⟩
def Chg.trans {S R:List Addr}{h h1 h2:Heap}(a:Chg S R h h1) (b:Chg S R h1 h2):Chg S R h h2 :=
 ⟨Nat.le_trans a.sz b.sz,fun c o e n1 n2=>b.keep c o (a.keep c o e n1 n2) n1 n2,fun c o e n=>by
  obtain ⟨sl,e1⟩:=a.slot c o e n
  obtain ⟨sl',e2⟩:=b.slot c _ e1 n
  exact ⟨sl',e2⟩,fun c o e=>by
  obtain ⟨o1,e1⟩:=a.there c o e
  exact b.there c o1 e1⟩
def Chg.drop {S R:List Addr}{h h':Heap}{t:Addr}(c:Chg S (t :: R) h h') (ht:h.objs.size≤t):Chg S R h h' :=
 ⟨c.sz,fun b o e n1 n2=>c.keep b o e n1 fun z=>(List.mem_cons.mp z).elim (fun q=>absurd (Heap.lt_size e) (by rw [q];exact Nat.not_lt.mpr ht)) n2,
  fun b o e n=>c.slot b o e fun z=>(List.mem_cons.mp z).elim (fun q=>absurd (Heap.lt_size e) (by rw [q];exact Nat.not_lt.mpr ht)) n,c.there⟩
def dict_mapFields (f:Array Value→Array Value) (o:Obj):(Obj.mapFields f o).dict=o.dict:=by
 obtain ⟨c,d,dt,sl⟩:=o
 cases dt <;> rfl
def Chg.setF {h:Heap}{T:Addr}{oT:Obj}{ts:Array Value}{f:Array Value→Array Value}(hT:h.get? T=some oT) (hd:oT.data=.fields ts):Chg [] [T] h (h.update T (Obj.mapFields f)):=by
 have other:∀ b,b≠T→(h.update T (Obj.mapFields f)).get? b=h.get? b:=fun b hb=>Heap.get?_update_other _ _ (Ne.symm hb)
 refine ⟨Nat.le_of_eq (Heap.size_after_update ..).symm,fun b o e _ n=>(other b fun z=>n (by simp [z])).trans e,fun b o e n=>⟨o.slots,(other b fun z=>n (by simp [z])).trans e⟩,fun b o e=>?_⟩
 by_cases hb:b=T
 ·subst hb
  exact ⟨_,Heap.get?_update_self _ hT (Obj.isFreed_of_fields (Obj.data_mapFields hd _))⟩
 ·exact ⟨o,(other b hb).trans e⟩
def Chg.entry {S:List Addr}{h g:Heap}{e:Addr}{oe nb:Obj}{vs ts:Array Value}{fl:Value}(sl:Heap.SlotsOnly S h g) (ns:e∉S) (he:h.get? e=some oe) (hd:oe.data=.fields vs) (hsz:1<vs.size) (hnb:nb.data=.fields ts) (h3:ts[3]?=some fl):
  Air ((g.push nb).update e (Obj.mapFields fun r=>r.setIfInBounds 1 (.ref g.objs.size))) e g.objs.size oe.cls oe.dict fl∧Chg S [e] h ((g.push nb).update e (Obj.mapFields fun r=>r.setIfInBounds 1 (.ref g.objs.size))):=by
 have ge:g.get? e=some oe:=(sl.2.1 e ns).trans he
 have apart:g.objs.size≠e:=Nat.ne_of_gt (Heap.lt_size ge)
 have pe:(g.push nb).get? e=some oe:=Heap.get?_push_of_some nb ge
 have data:=Obj.data_mapFields hd fun r=>r.setIfInBounds 1 (Value.ref g.objs.size)
 have self:=Heap.get?_update_self (Obj.mapFields fun r=>r.setIfInBounds 1 (Value.ref g.objs.size)) pe (Obj.isFreed_of_fields data)
 have rest:∀ b o,b≠e→g.get? b=some o→((g.push nb).update e (Obj.mapFields fun r=>r.setIfInBounds 1 (.ref g.objs.size))).get? b=some o:=fun b o n q =>
  (Heap.get?_update_other _ _ fun z=>n z.symm).trans (Heap.get?_push_of_some nb q)
 have tnew:(g.push nb).get? g.objs.size=some nb:=Heap.get?_push_size g (Obj.isFreed_of_fields hnb)
 refine ⟨⟨apart,⟨_,_,self,Obj.cls_mapFields _ _,dict_mapFields _ _,data,by simp [hsz]⟩,⟨nb,ts,(Heap.get?_update_other _ _ fun z=>apart z.symm).trans tnew,hnb,h3⟩⟩,⟨?_,fun b o q n1 n2=>?_,fun b o q n=>?_,fun b o q=>?_⟩⟩
 ·rw [Heap.size_after_update,Heap.size_push,sl.1]
  omega
 ·exact rest b o (fun z=>n2 (z ▸ List.mem_cons_self)) ((sl.2.1 b n1).trans q)
 ·obtain ⟨k,r⟩:=sl.2.2 b o q
  exact ⟨k,rest b _ (fun z=>n (z ▸ List.mem_cons_self)) r⟩
 ·obtain ⟨k,r⟩:=sl.2.2 b o q
  by_cases z:b=e
  ·subst z;exact ⟨_,self⟩
  ·exact ⟨_,rest b _ z r⟩
section
variable {M:Model} {A:Around} {E:Value→Shared→Prop} {s:Shared}
def note_new {base:Heap}{env:Env}{outer:List Env}{L e:Addr}{oe:Obj}{vs:Array Value}{head:Value}{hadNext:Bool}{Q:Unit→Shared→Prop}
  (hfr:A.frames=some (env :: outer)) (hl:s.heap.FunFrames base (env :: outer)) (hf:env.frame=some L) (he:s.heap.get? e=some oe) (hd:oe.data=.fields vs) (hsz:1<vs.size)
  (h:∀ h' T,s.heap.objs.size≤T→Air h' e T oe.cls oe.dict (rawInt L)→Chg (frs (env :: outer)) [e] s.heap h'→Q () { s with heap:=h' }):
  wpAny M A (frameOf env>>=fun a=>entryPlaceOf L hadNext>>=fun pl=>EntryCells.newEntry head a .none (rawInt L) .none pl>>=fun b=>setField (.ref e) 1 b) Q E s:=by
 have nf:e∉frs (env :: outer):=fun m=>by
  have q:=(hl.mem m).2
  rw [he] at q
  obtain ⟨_,r1,r2⟩:=q
  cases r1
  exact r2 vs hd
 apply wpAny_bind
 refine wpAny_frameOf_fun hfr hl hf fun g1 sl1=>wpAny_bind (wpAny_entryPlaceOf fun pl place=>wpAny_bind ?_)
 have three:∀ xs:List Value,IsPlace xs→([head,Value.ref L,.none,rawInt L,.none]++(if xs.isEmpty then List.replicate 6 Value.none else xs)).toArray[3]?=some (rawInt L):=fun xs _=>by simp
 have laid:=Chg.entry (nb:={ cls:=.type "traceback",data:=.fields ([head,.ref L,.none,rawInt L,.none]++(if pl.isEmpty then List.replicate 6 Value.none else pl)).toArray }) sl1 nf he hd hsz rfl (three pl place)
 refine wpAny_newObj_type (wpAny_setField (Heap.get?_push_of_some _ ((sl1.2.1 e nf).trans he)) hd hsz ?_) (place.sizeOk5 _ _ _ _ _)
 exact h _ _ (Nat.le_of_eq sl1.1.symm) laid.1 laid.2
def air_lands {e T:Addr}{cls fl:Value}{dx:Option Addr}{Q:Unit→Shared→Prop}(a:Air s.heap e T cls dx fl)
  (h:∀ h',Air h' e T cls dx .none→Chg [] [T] s.heap h'→Q () { s with heap:=h' }):wpAny M A (setFlight (.ref e) none) Q E s:=by
 obtain ⟨ne,⟨oe,vs,he,hc,hdx,hd,h1⟩,⟨oT,ts,hT,hdT,h3⟩⟩:=a
 obtain ⟨hsz3,_⟩:=Array.getElem?_eq_some_iff.mp h3
 have some_:(Value.ref T != Value.none)=true:=by simp
 unfold setFlight
 apply wpAny_bind
 apply wpAny_field he hd h1
 rw [if_pos some_]
 refine wpAny_setField hT hdT hsz3 (h _ ⟨ne,⟨oe,vs,(Heap.get?_update_other _ _ ne).trans he,hc,hdx,hd,h1⟩,⟨_,_,Heap.get?_update_self _ hT (Obj.isFreed_of_fields (Obj.data_mapFields hdT _)),Obj.data_mapFields hdT _,by simp [hsz3]⟩⟩ (Chg.setF hT hdT))
def air_notes {base:Heap}{env:Env}{outer:List Env}{L e T:Addr}{cls:Value}{dx:Option Addr}{Q:Unit→Shared→Prop}
  (hfr:A.frames=some (env :: outer)) (hl:s.heap.FunFrames base (env :: outer)) (hf:env.frame=some L) (a:Air s.heap e T cls dx .none)
  (h:∀ h' T',s.heap.objs.size≤T'→Air h' e T' cls dx (rawInt L)→Chg (frs (env :: outer)) [e,T] s.heap h'→Q () { s with heap:=h' }):wpAny M A (noteFrame (.ref e) env) Q E s:=by
 obtain ⟨ne,⟨oe,vs,he,hc,hdx,hd,h1⟩,⟨oT,ts,hT,hdT,h3⟩⟩:=a
 subst hc hdx
 have some_:(Value.ref T != Value.none)=true:=by simp
 have apart:¬ (Value.none == rawInt L)=true:=by simp [rawInt]
 have c1:Chg [] [T] s.heap (s.heap.update T (Obj.mapFields fun r=>r.setIfInBounds 3 Value.none)):=Chg.setF hT hdT
 have kept:∀ b o,s.heap.get? b=some o→b≠T→(s.heap.update T (Obj.mapFields fun r=>r.setIfInBounds 3 Value.none)).get? b=some o:=fun b o q n=>c1.keep b o q (fun z=>nomatch z) fun z=>n (List.mem_singleton.mp z)
 unfold noteFrame
 simp only [hf]
 apply wpAny_bind
 apply wpAny_field he hd h1
 rw [if_pos some_]
 apply wpAny_bind
 apply wpAny_field hT hdT h3
 rw [if_neg apart]
 apply wpAny_bind
 refine wpAny_setField hT hdT (Array.getElem?_eq_some_iff.mp h3).1 ?_
 refine note_new hfr (hl.of_keeps fun b o q nf=>⟨o,kept b o q fun z=>by subst z;rw [hT] at q;cases q;exact nf ts hdT,rfl⟩) hf (kept e oe he fun z=>ne z.symm) hd (Array.getElem?_eq_some_iff.mp h1).1 fun h' T' hT' a' c'=>?_
 exact h h' T' (Nat.le_trans c1.sz hT') a' ((c1.mono (fun b z=>nomatch z) fun b z=>by simp at z;simp [z]).trans (c'.mono (fun b z=>z) fun b z=>by simp at z;simp [z]))
def air_first {base:Heap}{env:Env}{outer:List Env}{L e:Addr}{oe:Obj}{vs:Array Value}{Q:Unit→Shared→Prop}
  (hfr:A.frames=some (env :: outer)) (hl:s.heap.FunFrames base (env :: outer)) (hf:env.frame=some L) (he:s.heap.get? e=some oe) (hd:oe.data=.fields vs) (h1:vs[1]?=some .none)
  (h:∀ h' T,s.heap.objs.size≤T→Air h' e T oe.cls oe.dict .none→Chg (frs (env :: outer)) [e] s.heap h'→Q () { s with heap:=h' }):wpAny M A (leaving env (.ref e)) Q E s:=by
 unfold leaving noteFrame
 simp only [hf]
 apply wpAny_bind
 apply wpAny_bind
 apply wpAny_field he hd h1
 rw [if_neg (by decide)]
 refine note_new hfr hl hf he hd (Array.getElem?_eq_some_iff.mp h1).1 fun h' T hT a c=>?_
 refine air_lands a fun h2 a2 c2=>h h2 T hT a2 ?_
 have c3:Chg (frs (env :: outer)) [T,e] s.heap h2:=(c.mono (fun b z=>z) fun b z=>by simp at z;simp [z]).trans (c2.mono (fun b z=>nomatch z) fun b z=>by simp at z;simp [z])
 exact c3.drop hT
def air_next {base:Heap}{env:Env}{outer:List Env}{L e T:Addr}{cls:Value}{dx:Option Addr}{Q:Unit→Shared→Prop}
  (hfr:A.frames=some (env :: outer)) (hl:s.heap.FunFrames base (env :: outer)) (hf:env.frame=some L) (a:Air s.heap e T cls dx .none)
  (h:∀ h' T',s.heap.objs.size≤T'→Air h' e T' cls dx .none→Chg (frs (env :: outer)) [e,T] s.heap h'→Q () { s with heap:=h' }):wpAny M A (leaving env (.ref e)) Q E s:=by
 unfold leaving
 refine wpAny_bind (air_notes hfr hl hf a fun h' T' hT a' c=>?_)
 refine air_lands a' fun h2 a2 c2=>h h2 T' hT a2 ?_
 have c3:Chg (frs (env :: outer)) [T',e,T] s.heap h2:=(c.mono (fun b z=>z) fun b z=>by simp at z;rcases z with z | z <;> simp [z]).trans (c2.mono (fun b z=>nomatch z) fun b z=>by simp at z;simp [z])
 exact c3.drop hT
end
def HOk.chg {P:Program}{w:World}{H:Hp}{h h':Heap}{S R:List Addr}(x:HOk P w H h) (c:Chg S R h h') (hS:∀ b∈S,H b=none) (hR:∀ b∈R,H b=none):HOk P w H h':=fun a o e =>
 (x a o e).stay (fun b u hb q=>by
  have hn:H b≠none:=by
   rcases hb with z | z
   ·rw [z,e];simp
   ·rw [z];simp
  exact c.keep b u q (fun z=>hn (hS b z)) fun z=>hn (hR b z)) (fun _ q=>q) fun _ _ q=>q
def Un.chg {fs ex S R:List Addr}{H:Hp}{h h':Heap}(c:Chg S R h h') (hS:∀ b∈S,b∈fs) (hR:∀ b∈R,b∈ex):Un fs ex H H h h' :=
 ⟨fun b o e n hb hx=>c.keep b o e (fun z=>hb (hS b z)) fun z=>hx (hR b z),fun b o e n hb hx=>c.slot b o e fun z=>hx (hR b z),fun _ _ _ n _=>n,fun b o e _=>c.there b o e,fun _ _ q=>q,fun _ _ _ q=>q,fun _ ps q=>⟨#[],by rw [q];simp⟩⟩
def CX1 (P:Program) (w:World):CXT:=fun outer H s E ev s'=>∃ (e T:Addr) (cls:Value) (dx:Option Addr) (H':Hp),ev=.ref e∧s'.os=s.os∧AllBare s'.gens∧Un (frs outer) [] H H' s.heap s'.heap∧HOk P w H' s'.heap ∧
 H' e=none∧H' T=none∧s.heap.objs.size≤e∧s.heap.objs.size≤T∧Air s'.heap e T cls dx .none∧E cls dx H'
structure Fns (X:Cx) (E:XK):Prop where
 xe:X.xe=fun e s'=>wpAny (model X.prog X.w) X.A (leaving X.env e) (fun _ s''=>CX1 X.prog X.w X.outer X.H₀ X.s₀ E e s'') (fun e' s''=>CX1 X.prog X.w X.outer X.H₀ X.s₀ E e' s'') s'
 stk:X.stack=X.env :: X.outer
 fr:X.env.frame=some X.env.locals
 ex:X.ex=[]
def Fns.of {P:Program}{w:World}{K:Fg}{mg:Str→Option Value}{base:Heap}{N:LS}{qual:Str}{scope:Scope}{f:Addr}{cd:Value}{A:Around}{outer:List Env}{s:Shared}{H:Hp}{E:XK} :
  Fns (cxOf (CX1 P w) P w K mg base N qual scope f cd A outer s H E) E:=⟨rfl,rfl,rfl,rfl⟩
section
variable {X:Cx} {pins:List (Addr×Obj)} {σ:St} {H:Hp} {s:Shared} {E:XK} {e T:Addr} {cls:Value} {dx:Option Addr}
def Fns.old (F:Fns X E) (f:FpOk X pins H e):X.s₀.heap.objs.size≤e:=by
 rcases f.2.2.2.1 with z | z
 ·rw [F.ex] at z;cases z
 ·exact z
def Fns.un {h':Heap}{R:List Addr}(F:Fns X E) (I:Inv X pins σ H s) (c:Chg (frs X.stack) R s.heap h') (hR:∀ b∈R,X.s₀.heap.objs.size≤b):Un X.fs [] X.H₀ H X.s₀.heap h':=by
 have B:=I.base
 have hx:∀ b,b∉X.ex:=fun b z=>by rw [F.ex] at z;cases z
 have ns:∀ b o,X.s₀.heap.get? b=some o→b∉X.fs→b∉frs X.stack:=fun b o q n z=>by
  rcases List.mem_cons.mp (I.stkSub b z) with r | r
  ·exact absurd (Nat.lt_of_lt_of_le (Heap.lt_size q) (by rw [r];exact I.ok.above)) (Nat.lt_irrefl _)
  ·exact n r
 have nr:∀ b o,X.s₀.heap.get? b=some o→b∉R:=fun b o q z=>absurd (Nat.lt_of_lt_of_le (Heap.lt_size q) (hR b z)) (Nat.lt_irrefl _)
 refine ⟨fun b o q n hb _=>c.keep b o (B.keep b o q n hb (hx b)) (ns b o q hb) (nr b o q),fun b o q n hb _=>?_,fun b o q n _=>B.free b o q n (hx b),fun b o q _=>?_,B.tups,B.frzs,B.tbls⟩
 ·obtain ⟨sl,e1⟩:=B.slot b o q n hb (hx b)
  obtain ⟨sl',e2⟩:=c.slot b _ e1 (nr b o q)
  exact ⟨sl',e2⟩
 ·obtain ⟨o1,e1⟩:=B.there b o q (hx b)
  exact c.there b o1 e1
def Fns.leave (F:Fns X E) (I:Inv X pins σ H s) (fe:FpOk X pins H e) (fT:FpOk X pins H T) (a:Air s.heap e T cls dx .none) (h:E cls dx H):X.xe (.ref e) s:=by
 rw [F.xe]
 have hfr:X.A.frames=some (X.env :: X.outer):=by rw [← F.stk];exact I.ok.frames
 have hl:s.heap.FunFrames X.base (X.env :: X.outer):=by rw [← F.stk];exact I.stack
 refine air_next hfr hl F.fr a fun h' T' hT' a' c=>?_
 rw [← F.stk] at c
 exact ⟨e,T',cls,dx,H,rfl,I.os,I.bare,F.un I c fun b z=>by simp at z;rcases z with z | z <;> rw [z];exact F.old fe;exact F.old fT,
  I.hok.chg c I.stkFree (fun b z=>by simp at z;rcases z with z | z <;> rw [z];exact fe.1;exact fT.1),fe.1,I.hok.fresh hT',F.old fe,Nat.le_trans I.sz hT',a',h⟩
def Fns.raised {oe:Obj}{vs:Array Value}(F:Fns X E) (I:Inv X pins σ H s) (fe:FpOk X pins H e) (he:s.heap.get? e=some oe) (hd:oe.data=.fields vs) (h1:vs[1]?=some .none) (h:E oe.cls oe.dict H):X.xe (.ref e) s:=by
 rw [F.xe]
 have hfr:X.A.frames=some (X.env :: X.outer):=by rw [← F.stk];exact I.ok.frames
 have hl:s.heap.FunFrames X.base (X.env :: X.outer):=by rw [← F.stk];exact I.stack
 refine air_first hfr hl F.fr he hd h1 fun h' T' hT' a' c=>?_
 rw [← F.stk] at c
 exact ⟨e,T',oe.cls,oe.dict,H,rfl,I.os,I.bare,F.un I c fun b z=>by simp at z;rw [z];exact F.old fe,
  I.hok.chg c I.stkFree (fun b z=>by simp at z;rw [z];exact fe.1),fe.1,I.hok.fresh hT',F.old fe,Nat.le_trans I.sz hT',a',h⟩
def pass1 (F:Fns X E):Passes (CX1 X.prog X.w) X E:=by
 rintro pins σ H s ev s' I ⟨e,T,cls,dx,H',rfl,os,bare,un,hok,he,hT,se,sT,a,h⟩
 have I':Inv X pins σ H' s':=I.call' (ch:=[]) os un hok bare fun b z=>nomatch z
 exact F.leave I' (I.fpOk se he) (I.fpOk sT hT) a h
end
def FnOk.any {P:Program}{w:World}{K:Fg}{mg:Str→Option Value}{base:Heap}{CX:CXT}{k:Nat}{ps:LS}{sp:Sp}(F:FnOk P w K mg base CX0 k f fd ps sp):FnOk P w K mg base CX k f fd ps sp :=
 ⟨F.len,fun A outer s H args us vs Q E hr he hb hv hs=>codeAny_mono (F.run A outer s H args us vs Q E hr he hb hv hs) fun r s' hq=>by
  cases r with
  | error e=>exact False.elim hq
  | ok fl=>cases fl <;> exact hq⟩
def Fun.ok1 {P:Program}{w:World}{K:Fg}{mg:Str→Option Value}{base:Heap}{x qual:Str}{st:Stmt}{N ps:LS}{k:Nat}{sp:Sp}(F:Fun K x qual st f fd) (S:FnScope N ps (defScope st)) (len:∀ vs H Q E,sp vs H Q E→vs.length=ps.length)
  (hbody:∀ (cdv:Value) (A:Around) (outer:List Env) (s:Shared) (H:Hp) (vs:List V) (Q:VK) (E:XK),Room k (A.deeper (envOfC qual (defScope st) s.heap.objs.size f cdv))→sp vs H Q E →
   ∃ t,PSs (cxOf (CX1 P w) P w K mg base N qual (defScope st) f cdv A outer s H E) (defBody st) t∧t { nx:=fun _ H'=>Q .non H',rt:=Q } (start N vs) H):FnOk P w K mg base (CX1 P w) (k + 1) f fd ps sp:=by
 obtain ⟨oc,od,kV,doc,pm,an,cdv,ct,osl,rfl,lk,hcd⟩:=F.ex
 refine fn_of lk hcd S len fun A outer s H vs Q E hr hsp=>?_
 exact hbody cdv A outer s H vs Q E hr hsp
end L2
namespace L2
open PySem PySem.Spec
structure ExC (K:Fg) (C:Addr):Prop where
 obj:∃ nm q N bs bm hdct sn sub ab col dd k0 k1 k2 k3 k5,K.lookup C=some (excClassObj nm q C N bs bm hdct sn sub ab col dd k0 k1 k2 k3 k5 "ValueError.__new__")
 val:W.subIn K (.ref C) (.type "ValueError")=some true
 bas:W.subIn K (.ref C) (.type "BaseException")=some true
 att:W.subIn K (.ref C) (.type "AttributeError")=some false
 nam:W.subIn K (.ref C) (.type "NameError")=some false
 kp:W.keepIn K (.ref C)=true
abbrev excObj (C t:Addr):Obj:={ cls:=.ref C,data:=.fields #[.ref t,.none,.none,.none,.bool false,.none] }
abbrev tupObj (us:List Value):Obj:={ cls:=.type "tuple",data:=.seq us.toArray }
section
variable {K:Fg} {prog:Program} {w:World} {A:Around} {E:Value→Shared→Prop} {h:Heap} {g:Array GenState} {d:Drawn} {t:Nat} {os:OsState} {C:Addr}
def sub_has {nm q:Str}{N:Addr}{bs bm:List Value}{hdct:Bool}{sn:LS}{sub:List Value}{ab:Bool}{col:Option Bool}{dd:Option Addr}{k0 k1 k2 k3 k5:Option Value}{nid:String}{x:Value}{b:Bool}
  (l:K.lookup C=some (excClassObj nm q C N bs bm hdct sn sub ab col dd k0 k1 k2 k3 k5 nid)) (e:W.subIn K (.ref C) x=some b):(Value.ref C :: bm).contains x=b:=by
 have e2:((W.clsIn K C).bind fun cd=>if cd.mro.isEmpty=true then none else some (cd.mro.contains x))=some b:=e
 have e3:W.clsIn K C=some { name:=nm,bases:=bs,mro:=.ref C :: bm,ns:=N,qualname:=q,hasDict:=hdct,slotNames:=sn,subclasses:=sub,abstract:=ab,collection:=col,hasDel:=false }:=by
  unfold W.clsIn
  rw [l]
 rw [e3] at e2
 exact Option.some.inj e2
def exc_new {rest:List Value}{R:Result→Shared→Prop}(X:K.In h) (c:ExC K C) (hrest:rest.length≤sizeLine)
  (hq:R (.ok (.ret (.ref (h.objs.size + 1)))) ⟨(h.push (tupObj rest)).push (excObj C h.objs.size),g,d,t,os⟩):
  codeAny (model prog w) A (.builtin "ValueError.__new__" ⟨.ref C :: rest,[]⟩) R ⟨h,g,d,t,os⟩:=by
 obtain ⟨nm,q,N,bs,bm,hdct,sn,sub,ab,col,dd,k0,k1,k2,k3,k5,lk⟩:=c.obj
 have Fv:=PySem.F.excBase_ValueError
 have cV:=sub_has lk c.val
 have cA:=sub_has lk c.att
 have cN:=sub_has lk c.nam
 have hC:=X _ _ lk
 have hends:=Fv.ends
 refine codeAny_builtinAt Fv.entry ?_
 unfold Builtin.«BaseException.__new__»
 apply PySem.wpAt_bind
 show PySem.wpAt _ _ _ (stack>>=_) _ _ _
 apply PySem.wpAt_bind
 refine PySem.wpAt_stack fun p below=>PySem.wpAt_of_wpAny ?_
 wp_walk
 apply PySem.wpAt_of_wpAny
 rw [Fv.owner]
 repeat (first | with_reducible refine wpAny_madeHere_exc Fv.canon hC ?_ | with_reducible refine wpAny_loadPart_at hC ?_ | (with_reducible refine wpAny_isSubtype_exc hC ?_;first | rw [cV] | rw [cA] | rw [cN]) | wp_step)
 show R _ _
 rw [Heap.size_push]
 exact hq
def exc_call {rest:List Value}{i:Value}{Q:Value→Shared→Prop}(X:K.In h) (c:ExC K C) (hi:W.findIn K (.ref C) "__init__"=some (some i))
  (hb:∀ self,W.Looks (model prog w) ((h.push (tupObj rest)).push (excObj C h.objs.size)) (bindSpecial i self) (i,[self])) (hrest:rest.length≤sizeLine)
  (hq:codeAny (model prog w) (A.under (.builtin "type.__call__" ⟨.ref C :: rest,[]⟩)) (.call i ⟨.ref (h.objs.size + 1):: rest,[]⟩)
   (fun r s'=>match r with | .ok (.ret v)=>v=.none∧Q (.ref (h.objs.size + 1)) s' | .ok _=>False | .error e=>E e s') ⟨(h.push (tupObj rest)).push (excObj C h.objs.size),g,d,t,os⟩):
  wpAny (model prog w) A (call (.ref C) rest) Q E ⟨h,g,d,t,os⟩:=by
 obtain ⟨nm,q,N,bs,bm,hdct,sn,sub,ab,col,dd,k0,k1,k2,k3,k5,lk⟩:=c.obj
 have Fv:=PySem.F.excBase_ValueError
 have cV:=sub_has lk c.val
 have cS:(Value.ref C :: bm).contains (.ref C)=true:=by simp
 have hC:=X _ _ lk
 have up:∀ b o,h.get? b=some o→((h.push (tupObj rest)).push (excObj C h.objs.size)).get? b=some o:=fun b o e=>Heap.get?_push_of_some _ (Heap.get?_push_of_some _ e)
 have X1:K.In ((h.push (tupObj rest)).push (excObj C h.objs.size)):=X.keeps up
 have hC1:=X1 _ _ lk
 have got:((h.push (tupObj rest)).push (excObj C h.objs.size)).get? (h.objs.size + 1)=some (excObj C h.objs.size):=Heap.get?_push_at (by rw [Heap.size_push]) rfl
 have f1:=tc_lookup
 have f2:=tc_bind (.ref C)
 have hT:(⟨h,g,d,t,os⟩:Shared).TypeIs (.ref C) "type":=⟨_,hC,rfl⟩
 have hstar:=Fv.noStar
 apply wpAny_call
 apply codeAny_of_tree
 show wpAny _ _ (callAny (.ref C) _) _ _ _
 repeat (any_goals (first | assumption | with_reducible refine wpAny_loadPart_at hC ?_ | wp_step))
 constructor
 ·rfl
 apply codeAny_call_builtin_at (Code.quiet_builtin _ (by decide +kernel)) entry_typeCall
 apply wpAny_check_type_call_sub hC
 repeat (first | with_reducible refine wpAny_loadPart_at hC ?_ | with_reducible refine wpAny_madeBy_exc hC ?_ | wp_step)
 apply codeAny_call_builtin_code (Code.quiet_builtin _ Fv.quiet)
 simp only [checkBuiltinCall,Fv.newKind,Fv.newSplit,Fv.newRow]
 repeat (first | refine wpAny_loadPart_at hC ?_ | (refine wpAny_isSubtype_exc hC ?_;rw [cV]) | refine wpAny_staticBase_exc hC ?_ | refine wpAny_madeBy_exc hC ?_ | simp only [bne_self_eq_false,Bool.false_eq_true,if_false] | wp_step)
 apply exc_new X c hrest
 show wpAny _ _ _ _ _ _
 apply wpAny_bind
 unfold isInstance
 repeat (first | with_reducible refine wpAny_loadPart_at got ?_ | (with_reducible refine wpAny_isSubtype_exc hC1 ?_;rw [cS]) | wp_step)
 refine (W.looks_findIn (M:=model prog w) X1 hi).here ?_
 apply wpAny_holding
 apply wpAny_bind
 refine (hb (.ref (h.objs.size + 1))).here ?_
 apply wpAny_bind
 apply wpAny_call
 refine codeAny_mono hq fun r s' q=>?_
 cases r with
 | error e=>exact q
 | ok f =>
  cases f with
  | ret v =>
   obtain ⟨rfl,q⟩:=q
   apply wpAny_pure
   show wpAny _ _ (ret (.ref (h.objs.size + 1))) _ _ _
   exact wpAny_pure q
  | next=>exact q.elim
  | brk=>exact q.elim
  | cont=>exact q.elim
def exc_init0 {rest:List Value}{R:Result→Shared→Prop}{e t0:Addr}(X:K.In h) (c:ExC K C) (he:h.get? e=some (excObj C t0)) (hrest:rest.length≤sizeLine)
  (hq:R (.ok (.ret .none)) ⟨(h.push (tupObj rest)).update e (Obj.mapFields (·.setIfInBounds 0 (.ref h.objs.size))),g,d,t,os⟩):
  codeAny (model prog w) A (.call (.builtin "ValueError.__init__") ⟨.ref e :: rest,[]⟩) R ⟨h,g,d,t,os⟩:=by
 obtain ⟨nm,q,N,bs,bm,hdct,sn,sub,ab,col,dd,k0,k1,k2,k3,k5,lk⟩:=c.obj
 have Fv:=PySem.F.excBase_ValueError
 have cV:=sub_has lk c.val
 have hC:=X _ _ lk
 have hshort:=Fv.noStar
 have chk:∀ (a b:String) (n:Nat),Bind.check ⟨.positional,"*","ValueError",.self,[⟨"args",.varPos,false⟩]⟩ a b n (List.map (fun x=>x.fst) ({ pos:=Value.ref e :: rest }:Args).kw)=pure ():=fun a b n=>check_star_args _ _ _ _ _ _
 have he1:(h.push (tupObj rest)).get? e=some (excObj C t0):=Heap.get?_push_of_some _ he
 apply codeAny_call_builtin Fv.init.plain Fv.initEntry
 simp only [checkBuiltinCall,Fv.initKind,Fv.initSplit,Fv.initRow]
 repeat (first | with_reducible refine wpAny_loadPart_at he ?_ | with_reducible refine wpAny_loadPart_at hC ?_ | (with_reducible refine wpAny_isSubtype_exc hC ?_;rw [cV]) | wp_step)
 apply wpAny_onRaise
 rw [chk]
 apply wpAny_pure
 wp_walk
 exact hq
def raise_made {env:Env}{x:Str}{np cpos pos:Pos}{args:List Expr}{s:Shared}{Q:Flow→Shared→Prop}(c:ExC K C) (hh:A.handled=none)
  (h1:wpAny (model prog w) A (eval (.Call (.Name x np) args [] cpos) env) (fun v s₁=>∃ e t0 dx sl,v=.ref e∧K.In s₁.heap ∧
   s₁.heap.get? e=some ⟨.ref C,dx,.fields #[.ref t0,.none,.none,.none,.bool false,.none],sl⟩∧E (.ref e) s₁) E s):
  wpAny (model prog w) A (exec (.Raise (some (.Call (.Name x np) args [] cpos)) none pos) env) Q E s:=by
 obtain ⟨nm,q,N,bs,bm,hdct,sn,sub,ab,col,dd,k0,k1,k2,k3,k5,lk⟩:=c.obj
 have cB:=sub_has lk c.bas
 rw [arm_exec_Raise]
 apply wpAny_bind
 apply wpAny_standAt
 unfold raiseStmt
 apply wpAny_bind
 show wpAny _ _ (do let v ← eval (.Call (.Name x np) args [] cpos) env;standAt pos;pure v) _ _ _
 apply wpAny_bind
 refine wpAny_mono h1 (fun v s₁ h₁=>?_) fun _ _ z=>z
 apply wpAny_bind
 apply wpAny_standAt
 apply wpAny_pure
 obtain ⟨e,t0,dx,sl,rfl,X,he,hE⟩:=h₁
 obtain ⟨hp,g,d,tk,os⟩:=s₁
 have hC:=X _ _ lk
 repeat (first | with_reducible refine wpAny_loadPart_at he ?_ | with_reducible refine wpAny_loadPart_at hC ?_ | (with_reducible refine wpAny_isSubtype_exc hC ?_;rw [cB]) | wp_step)
 exact wpAny_raiseNew_none hh hE
end
end L2
namespace L2
open PySem PySem.Spec PySem.Builtin PySem.Builtin.ObjectAttr PySem.W
structure ExA (K:Fg) (C:Addr):Prop extends ExC K C where
 ga:W.findIn K (.ref C) "__getattribute__"=some (some (.builtin "BaseException.__getattribute__"))
 gt:W.findIn K (.ref C) "__getattr__"=some none
 ca:W.findIn K (.ref C) "__class__"=some (some (.builtin "object.__class__"))
 cg:W.specialIn K (.builtin "object.__class__") "__get__"=some (some (.builtin "getset_descriptor.__get__"))
 ct:W.takesIn K (.builtin "object.__class__")=some true
 ob:W.mroIn K C (.type "object")=some true
section
variable {K:Fg} {prog:Program} {w:World} {A:Around} {E:Value→Shared→Prop} {h:Heap} {g:Array GenState} {d:Drawn} {t:Nat} {os:OsState} {x C:Addr} {ox:Obj} {od:Option Obj} {name:Str}
def exc_check {nameV:Value}{M:Model}{Q:Unit→Shared→Prop}(X:K.In h) (c:ExC K C) (I:W.InstAt h x ox C od) (hq:Q () ⟨h,g,d,t,os⟩):
  wpAny M A (checkBuiltinCall "BaseException.__getattribute__" ⟨[.ref x,nameV],[]⟩) Q E ⟨h,g,d,t,os⟩:=by
 have hk:builtinKind "BaseException.__getattribute__"=some .slot:=by decide +kernel
 have hs:splitId "BaseException.__getattribute__"=some ("BaseException","__getattribute__"):=by decide +kernel
 have ha:=PySem.F.args_bexc_ga (.ref x) nameV
 have hi:W.Looks M h (isInstance (.ref x) (.type "BaseException")) true:=I.type.andThen (W.looks_subIn X c.bas)
 simp only [checkBuiltinCall,hk,hs]
 apply wpAny_bind
 apply hi.at
 simp only [Bool.not_true,Bool.false_eq_true,if_false]
 exact wpAny_of_eq ha hq
def exc_entry {tk:Tok}{Q:Fin→Shared→Prop}{f:Found}(X:K.In h) (I:W.InstAt h x ox C od) (hf:W.Looks (model prog w) h (find (.ref x) (.ref C) name) f)
  (hq:wpAny (model prog w) A (match f with | .value v=>ret v | .bind g a=>bindTo g a (.ref x) (.ref C) | .missing=>unsupported "") Q E ⟨h,g,d,t,os⟩) (hm:f≠.missing):
  wpAny (model prog w) A (Builtin.«object.__getattribute__» ⟨[.ref x,.str name tk],[]⟩) Q E ⟨h,g,d,t,os⟩:=by
 have L0:=I.type (M:=model prog w)
 unfold Builtin.«object.__getattribute__»
 apply wpAny_bind
 apply wpAny_pure
 apply wpAny_bind
 apply wpAny_pure
 apply wpAny_bind
 apply L0.at
 apply wpAny_bind
 apply hf.at
 cases f with
 | value v=>exact hq
 | bind a b=>exact hq
 | missing=>exact absurd rfl hm
def exc_by {tk:Tok}{fill expr:Bool}{Q:Value→Shared→Prop}{f:Found}{v:Value}(X:K.In h) (c:ExA K C) (I:W.InstAt h x ox C od) (hf:W.Looks (model prog w) h (find (.ref x) (.ref C) name) f) (hm:f≠.missing)
  (hq:∀ {A:Around} {E:Value→Shared→Prop} {Q:Fin→Shared→Prop},Q (.done (.ret v)) ⟨h,g,d,t,os⟩→wpAny (model prog w) A (match f with | .value v=>ret v | .bind g a=>bindTo g a (.ref x) (.ref C) | .missing=>unsupported "") Q E ⟨h,g,d,t,os⟩)
  (hh:handedIn v=true) (hv:Q v ⟨h,g,d,t,os⟩):wpAny (model prog w) A (getAttrBy (.ref x) (.str name tk) fill expr) Q E ⟨h,g,d,t,os⟩:=by
 have L0:=I.type (M:=model prog w)
 have L1:=looks_findIn (M:=model prog w) X c.ga
 have L2:=looks_findIn (M:=model prog w) X c.gt
 have hx0:(expr&&onTheHeap (Value.builtin "BaseException.__getattribute__"))=false:=by cases expr <;> rfl
 have apart:(onTheHeap (Value.ref C)&&Value.builtin "BaseException.__getattribute__" == Value.builtin "object.__getattribute__")=false:=by
  rw [show (Value.builtin "BaseException.__getattribute__" == Value.builtin "object.__getattribute__")=false from by decide +kernel];rfl
 have f3:=PySem.F.attrBase_ValueError.ga.bind (.ref x)
 have body:∀ {A:Around} {R:Result→Shared→Prop},R (.ok (.ret v)) ⟨h,g,d,t,os⟩→codeAny (model prog w) A (.call (.builtin "BaseException.__getattribute__") ⟨[.ref x,.str name tk],[]⟩) R ⟨h,g,d,t,os⟩:=fun {A R} r =>
  codeAny_call_builtin PySem.F.attrBase_ValueError.ga.plain PySem.F.entry_bexc_ga (exc_check X c.toExC I (exc_entry X I hf (hq r) hm))
 unfold getAttrBy
 apply wpAny_holding
 apply wpAny_bind
 apply L0.at
 apply wpAny_bind
 apply L1.at
 show wpAny _ _ (if (onTheHeap (Value.ref C)&&Value.builtin "BaseException.__getattribute__" == Value.builtin "object.__getattribute__")=true then _ else getAttrByItsOwn (.ref x) (.str name tk) (.ref C) (.builtin "BaseException.__getattribute__") fill expr) _ _ _
 rw [if_neg (by rw [apart];exact Bool.false_ne_true)]
 unfold getAttrByItsOwn
 apply wpAny_bind
 show wpAny _ _ (typeLookup (.ref C) "__getattr__") _ _ _
 apply L2.at
 apply wpAny_bind
 apply wpAny_attempt
 apply wpAny_holding
 unfold callGetattribute
 rw [if_neg (by rw [hx0];exact Bool.false_ne_true)]
 unfold boundAndCalled
 apply wpAny_bind
 refine wpAny_of_eq f3 ?_
 refine wpAny_call (body ?_)
 show wpAny _ _ (handedOut v) _ _ _
 rw [handedOut_of hh]
 exact wpAny_pure hv
def exc_kit (c:ExA K C):KitX K (.ref x) (.ref C) (fun h=>InstAt h x ox C od) where
 ty:=fun _ _ _ I=>I.type
 it:=fun _ _ X _=>by
  obtain ⟨nm,q,N,bs,bm,hdct,sn,sub,ab,col,dd,k0,k1,k2,k3,k5,lk⟩:=c.obj
  intro A' Q' E' s' k q
  unfold isType loadHead
  apply wpAny_bind
  apply wpAny_loadPart (k _ _ (X _ _ lk))
  exact wpAny_pure q
 ne:=fun h tp dd its n sl X e=>by
  obtain ⟨nm,q,N,bs,bm,hdct,sn,sub,ab,col,dd,k0,k1,k2,k3,k5,lk⟩:=c.obj
  have hC:=X _ _ lk
  refine Bool.eq_false_iff.mpr fun z=>?_
  have z:C=tp:=Value.ref.inj (beq_iff_eq.mp z)
  rw [z,e] at hC
  have q1:Value.type "tuple"=Value.type "type":=congrArg (fun o=>Option.elim o Value.none Obj.cls) hC
  exact absurd q1 (by decide)
 ca:=fun {prog w A E Q s} X I q=>by
  obtain ⟨hh,g,d,t,os⟩:=s
  have hcls:∃ cd,clsIn K C=some cd:=by
   obtain ⟨nm,q,N,bs,bm,hdct,sn,sub,ab,col,dd,k0,k1,k2,k3,k5,lk⟩:=c.obj
   unfold clsIn
   rw [lk]
   exact ⟨_,rfl⟩
  obtain ⟨cd,hcd⟩:=hcls
  have hf:findObj K C od "__class__"=some (.bind (.builtin "getset_descriptor.__get__") (.builtin "object.__class__")):=by
   unfold findObj
   rw [hcd,c.ca]
   dsimp only [Option.bind]
   rw [c.cg]
   dsimp only
   rw [c.ct]
  unfold getAttr? getAttrBy?
  apply wpAny_bind
  apply wpAny_mkText
  apply wpAny_bind
  apply wpAny_attempt
  refine exc_by X c I (looks_find X I hf) (fun z=>nomatch z) (fun {A E Q} r=>?_) rfl (wpAny_pure q)
  show wpAny _ _ (bindTo (.builtin "getset_descriptor.__get__") (.builtin "object.__class__") (.ref x) (.ref C)) _ _ _
  unfold bindTo
  show wpAny _ _ (holding [.builtin "object.__class__"] (call (.builtin "getset_descriptor.__get__") [.builtin "object.__class__",.ref x,.ref C])>>=ret) _ _ _
  apply wpAny_bind
  apply wpAny_holding
  exact wpAny_call (class_get (ox:=ox) (od:=od) X I c.ob (wpAny_pure r))
end
end L2
namespace L2
open PySem PySem.Spec PyProof.Rows
def XO (e C:Addr) (dx:Option Addr):HO:=.ext fun h=>∃ o,h.get? e=some o∧o.cls=.ref C∧o.dict=dx∧W.notCls o=true
abbrev TF:=St→Hp→(Hp→Prop)→Prop
def PF (X:Cx) (e:Expr) (t:TF):Prop:=∀ (pins:List (Addr×Obj)) (s:Shared) (σ:St) (H:Hp) (Q:Hp→Prop),Inv X pins σ H s→t σ H Q →
 wpAny (model X.prog X.w) X.A (eval e X.env) (fun u s'=>∃ y tk H',u=.str y tk∧y.length≤100000∧Inv X pins σ H' s'∧Q H') X.xe s
def PFs (X:Cx) (es:List Expr) (t:TF):Prop:=∀ (pins:List (Addr×Obj)) (s:Shared) (σ:St) (H:Hp) (Q:Hp→Prop) (acc:Str) (j:Nat),Inv X pins σ H s→acc.length≤100000 * j→j + es.length≤100→t σ H Q →
 Joins (model X.prog X.w) X.A X.xe (evalEach es X.env) acc (fun out s'=>∃ H',out.length≤10000000∧Inv X pins σ H' s'∧Q H') s
section
variable {X:Cx} {e:Expr} {es:List Expr} {te:TE} {t u:TF} {pos:Pos}
def fCon (x:Str):TF:=fun _ H Q=>x.length≤100000∧Q H
def pf_con {x j}:PF X (.Constant (.str x) j pos) (fCon x):=fun _ _ _ H _ I h=>Calls.Constant_str ⟨x,_,H,rfl,h.1,I.tok _,h.2⟩
def fInt (te:TE):TF:=fun σ H Q=>te σ H fun v H1=>∃ i:Int,v=.int i∧i.natAbs<2 ^ 64∧Q H1
def int_log {i:Int}(h:i.natAbs<2 ^ 64):i.natAbs.log2<1920:=by
 by_cases z:i.natAbs=0
 ·rw [z];decide
 ·exact Nat.lt_trans ((Nat.log2_lt z).mpr h) (by decide)
def int_len {i:Int}(h:i.natAbs<2 ^ 64):(Str.ofString (toString i)).length≤100000:=by
 have e:=PySem.int_text_length_le (k:=1920) (by decide) (int_log h)
 rw [PySem.ofString_length]
 omega
def pf_int (he:PE X e te):PF X (.FormattedValue e (-1) none pos) (fInt te):=by
 intro pins s σ H Q I h
 refine wpAny_FormattedValue_plain (thn (he pins s σ H _ I h) fun v s1 ⟨x,H1,I1,r1,i,ex,hi,q⟩=>?_)
 subst ex
 obtain ⟨t,rfl⟩:=r1
 exact wpAny_formatField_int (int_log hi) ⟨_,_,H1,rfl,int_len hi,I1.tok _,q⟩
def fRepS (te:TE):TF:=fun σ H Q=>te σ H fun v H1=>∃ x:Str,v=.str x∧x.length≤1000∧(∀ c∈x.cps.toList,c<16 ^ 8)∧Q H1
def pf_repS (he:PE X e te):PF X (.FormattedValue e 114 none pos) (fRepS te):=by
 intro pins s σ H Q I h
 refine wpAny_FormattedValue_repr (thn (he pins s σ H _ I h) fun v s1 ⟨x,H1,I1,r1,y,ex,hl,hc,q⟩=>?_)
 subst ex
 obtain ⟨t,rfl⟩:=r1
 have b:=StrLaws.reprText_len y hc
 have b1:(reprText y).length≤100000:=by omega
 have b2:(reprText y).length≤sizeLine:=Nat.le_trans b1 (by decide)
 refine pyReprObj_str (wpAny_formatField_str ?_ ?_ b2) b2
 ·exact ⟨_,_,H1,rfl,b1,I1.tok _,q⟩
 ·exact ⟨_,_,H1,rfl,b1,I1.tok _,q⟩
def fNil:TF:=fun _ H Q=>Q H
def fSeq (t u:TF):TF:=fun σ H Q=>t σ H fun H1=>u σ H1 Q
def pfs_nil:PFs X [] fNil:=fun pins s σ H Q acc j I ha hj h=>⟨H,by simp at hj;exact Nat.le_trans ha (Nat.le_trans (Nat.mul_le_mul_left _ hj) (by decide)),I,h⟩
def pfs_cons (h1:PF X e t) (h2:PFs X es u):PFs X (e :: es) (fSeq t u):=by
 intro pins s σ H Q acc j I ha hj h
 show wpAny _ _ (eval e X.env) _ _ s
 refine thn (h1 pins s σ H _ I h) fun v s1 ⟨y,tk,H1,ev,hy,I1,q⟩=>?_
 have hl:(acc++y).length≤100000 * (j + 1):=by rw [strLen_append];omega
 have hj':j + 1 + es.length≤100:=by simp at hj;omega
 refine ⟨y,tk,ev,Nat.le_trans hl (Nat.le_trans (Nat.mul_le_mul_left _ (show j + 1≤100 by omega)) (by decide)),?_⟩
 exact h2 pins s1 σ H1 Q _ (j + 1) I1 hl hj' q
def tFs (t:TF):TE:=fun σ H Q=>t σ H fun H1=>∀ x:Str,Q (.str x) H1
def pe_fstr {v1 v2:Expr}{rest:List Expr}(h:PFs X (v1 :: v2 :: rest) t) (hl:(v1 :: v2 :: rest).length≤100:=by decide):PE X (.JoinedStr (v1 :: v2 :: rest) pos) (tFs t):=by
 intro pins s σ H Q I hq
 apply wpAny_JoinedStr
 have z:=h pins s σ H _ Str.empty 0 I (Nat.zero_le _) (by simpa using hl) hq
 have mono:∀ (l:List (Sem Value)) (acc:Str) (P P':Str→Shared→Prop) (s:Shared),(∀ o s',P o s'→P' o s')→Joins (model X.prog X.w) X.A X.xe l acc P s→Joins (model X.prog X.w) X.A X.xe l acc P' s:=by
  intro l
  induction l with
  | nil=>intro acc P P' s f q;exact f _ _ q
  | cons a r ih =>
   intro acc P P' s f q
   exact thn (show wpAny _ _ a _ _ s from q) fun v s1 ⟨y,tk,e1,e2,e3⟩=>⟨y,tk,e1,e2,ih _ P P' s1 f e3⟩
 exact mono _ _ _ _ _ (fun o s' ⟨H',l,I',q'⟩=>⟨Nat.le_trans l (by decide),⟨.str o,H',I'.tok _,⟨_,rfl⟩,q' o⟩⟩) z
end
section
variable {X:Cx} {E:XK} {C:Addr} {x:Str} {np cpos pos:Pos} {e:Expr} {es:List Expr} {t:TA}
def tRz (E:XK) (C:Addr) (t:TA):TS:=fun _ σ H=>t σ H fun vs H1=>vs.length≤sizeLine∧E (.ref C) none H1
def exc_made {K:Fg}{prog:Program}{w:World}{A:Around}{E:Value→Shared→Prop}{s:Shared}{us:List Value}{Q:Value→Shared→Prop}(X:K.In s.heap) (c:ExC K C) (hi:W.findIn K (.ref C) "__init__"=some (some (.builtin "ValueError.__init__"))) (hl:us.length≤sizeLine)
  (h:∀ h' t0,(∀ b o,s.heap.get? b=some o→h'.get? b=some o)→h'.get? (s.heap.objs.size + 1)=some (excObj C t0)→Q (.ref (s.heap.objs.size + 1)) { s with heap:=h' }):
  wpAny (model prog w) A (call (.ref C) us) Q E s:=by
 obtain ⟨hp,g,d,tk,os⟩:=s
 dsimp only at X h ⊢
 refine exc_call X c hi (fun self=>W.Looks.of_pure (PySem.F.excBase_ValueError.init.bind self)) hl ?_
 have up:∀ b o,hp.get? b=some o→((hp.push (tupObj us)).push (excObj C hp.objs.size)).get? b=some o:=fun b o q=>Heap.get?_push_of_some _ (Heap.get?_push_of_some _ q)
 have got:((hp.push (tupObj us)).push (excObj C hp.objs.size)).get? (hp.objs.size + 1)=some (excObj C hp.objs.size):=Heap.get?_push_at (by rw [Heap.size_push]) rfl
 refine exc_init0 (t0:=hp.objs.size) (X.keeps up) c got hl ⟨rfl,h _ ((hp.push (tupObj us)).push (excObj C hp.objs.size)).objs.size (fun b o q=>?_) ?_⟩
 ·have nb:b≠hp.objs.size + 1:=Nat.ne_of_lt (Nat.lt_succ_of_lt (Heap.lt_size q))
  rw [Heap.get?_update_other _ _ (Ne.symm nb)]
  exact Heap.get?_push_of_some _ (up b o q)
 ·rw [Heap.get?_update_self _ (Heap.get?_push_of_some _ got) rfl]
  rfl
def ps_raise (F:Fns X E) (hh:X.A.handled=none) (c:ExC X.K C) (hi:W.findIn X.K (.ref C) "__init__"=some (some (.builtin "ValueError.__init__"))) (hg:Gl X x) (hm:X.mg x=some (.ref C)) (ha:PA X (e :: es) t)
  (hdb:(x == ("__debug__":Str))=false:=by decide) (he:starEach (e :: es) X.env=(false,eval e X.env):: starEach es X.env:=by rfl) (hpl:(backTo cpos (starEach es X.env)).any (·.1)=false:=by rfl):
  PS X (.Raise (some (.Call (.Name x np) (e :: es) [] cpos)) none pos) (tRz E C t):=by
 intro pins s σ H D I h
 refine raise_made c hh (wpAny_Call_Name_kw (ld_glob I hg hm ?_ hdb))
 refine W.callWith_K (h₀:=X.base) I.ok.mod.kin c.kp (thn (ha cpos pins s σ H _ I h) fun us s1 ⟨vs,H1,I1,r,hl,q⟩=>⟨I1.kIn,?_⟩) he hpl
 refine exc_made I1.kIn c hi (by rw [List.nil_append,← r.length];exact hl) fun h' t0 k got=>?_
 have I2:Inv X pins σ H1 { s1 with heap:=h' }:=I1.kept (t':=s1.toks) k
 refine ⟨_,t0,none,#[],rfl,I2.kIn,got,?_⟩
 exact F.raised I2 (I1.fpOk (Nat.le_succ _) (I1.hok.fresh (Nat.le_succ _))) got rfl rfl q
end
section
variable {X:Cx} {pins:List (Addr×Obj)} {σ:St} {H:Hp} {s:Shared} {A:Around} {E:Value→Shared→Prop} {Q:Value→Shared→Prop} {e C:Addr} {dx:Option Addr} {cv:Value} {b:Bool}
def XDict (H:Hp) (dx:Option Addr):Prop:=dx=none∨∃ a fs,dx=some a∧H a=some (.xd fs)
def xo_inst (I:Inv X pins σ H s) (hx:H e=some (XO e C dx)) (hd:XDict H dx):∃ ox od,W.InstAt s.heap e ox C od:=by
 have q:ObjOk X.prog X.w H s.heap e (XO e C dx):=I.hok e _ hx
 obtain ⟨⟨o,h1,h2,h3,h4⟩,_⟩:=q
 rcases hd with hd | ⟨a,fs,hd,ha⟩
 ·exact ⟨o,none,⟨h1,h2,h4,by rw [h3,hd];trivial⟩⟩
 ·have q:ObjOk X.prog X.w H s.heap a (.xd fs):=I.hok a _ ha
  obtain ⟨mA,⟨oa,es,ep,e1,_⟩,_⟩:=q
  exact ⟨o,some oa,⟨h1,h2,h4,by rw [h3,hd];exact e1⟩⟩
def isinstX_ok (I:Inv X pins σ H s) (hx:H e=some (XO e C dx)) (hd:XDict H dx) (c:ExA X.K C) (k:W.kitOne X.K (.ref C) cv=some b) (h:∀ tk,Q (.bool b) { s with toks:=tk }):
  wpAny (model X.prog X.w) A (call (.builtin "isinstance") [.ref e,cv]) Q E s:=by
 obtain ⟨ox,od,J⟩:=xo_inst I hx hd
 exact W.kia_one (exc_kit (ox:=ox) (od:=od) c) I.kIn J k (fun z=>nomatch z) h
end
abbrev XKs:=Value→Option Addr→St→Hp→Prop
abbrev TSx:=Ends→XKs→St→Hp→Prop
abbrev TEx:=St→Hp→VK→XK→Prop
def XP (X:Cx) (pins:List (Addr×Obj)) (E:XKs) (ev:Value) (s':Shared):Prop:=∃ (e T:Addr) (cls:Value) (dx:Option Addr) (σ':St) (H':Hp),ev=.ref e∧Inv X pins σ' H' s'∧FpOk X pins H' e∧FpOk X pins H' T∧Air s'.heap e T cls dx .none∧E cls dx σ' H'
def PEx (X:Cx) (e:Expr) (t:TEx):Prop:=∀ (pins:List (Addr×Obj)) (s:Shared) (σ:St) (H:Hp) (Q:VK) (E:XK),Inv X pins σ H s→t σ H Q E →
 wpAny (model X.prog X.w) X.A (eval e X.env) (EP X pins σ Q) (XP X pins fun c d σ' H'=>σ'=σ∧E c d H') s
def PSx (X:Cx) (st:Stmt) (t:TSx):Prop:=∀ (pins:List (Addr×Obj)) (s:Shared) (σ:St) (H:Hp) (D:Ends) (E:XKs),Inv X pins σ H s→t D E σ H→wpAny (model X.prog X.w) X.A (exec st X.env) (SP X pins D) (XP X pins E) s
def PSsx (X:Cx) (st:List Stmt) (t:TSx):Prop:=∀ (pins:List (Addr×Obj)) (s:Shared) (σ:St) (H:Hp) (D:Ends) (E:XKs),Inv X pins σ H s→t D E σ H→wpAny (model X.prog X.w) X.A (execs st X.env) (SP X pins D) (XP X pins E) s
section
variable {X:Cx} {st:Stmt} {rest:List Stmt} {t u:TSx} {e:Expr} {te:TEx} {pos:Pos}
def pssx_one (h1:PSx X st t):PSsx X [st] t:=by
 intro pins s σ H D E I h
 refine wpAny_execs_cons (thn (h1 pins s σ H D E I h) fun f s1 q=>?_)
 cases f with
 | next=>exact wpAny_execs_nil q
 | ret v=>exact q
 | brk=>exact q
 | cont=>exact q
def xp_mono {pins:List (Addr×Obj)}{E E':XKs}(f:∀ c d σ H,E c d σ H→E' c d σ H) {ev:Value}{s':Shared}(h:XP X pins E ev s'):XP X pins E' ev s':=by
 obtain ⟨e,T,cls,dx,σ',H',r,I,fe,fT,a,q⟩:=h
 exact ⟨e,T,cls,dx,σ',H',r,I,fe,fT,a,f _ _ _ _ q⟩
def xSet (i:Nat) (te:TEx):TSx:=fun D E σ H=>te σ H (fun v H1=>D.nx (σ.set i (some v)) H1) fun c d H1=>E c d σ H1
def psx_set {i:Nat}{x:Str}{pos':Pos}(hN:X.N.Nodup) (hi:X.N[i]?=some x) (hx:Loc X.env.scope x) (he:PEx X e te) (hs:swapsWith e (some (.Name x pos')) pos.line X.env=pure false:=by rfl)
  (hf:X.fn x=true∨X.env.scope.names.lookup x=some .local:=by first | exact .inl rfl | exact .inr rfl | assumption):PSx X (.Assign [.Name x pos'] e pos) (xSet i te):=by
 intro pins s σ H D E I h
 refine wpAny_Assign_Name (wpAny_mono (he pins s σ H _ _ I h) (fun v s1 ⟨y,H1,I1,r1,q1⟩=>?_) fun ev s1 z=>xp_mono (fun c d σ' H' q=>?_) z) hs
 ·exact store_ok I1 hN hi hx r1 (fun s2 I2=>⟨_,H1,I2,q1⟩) hf
 ·obtain ⟨rfl,q⟩:=q
  exact q
end
section
variable {X:Cx} {k:Nat} {f C:Addr} {fd:FuncData} {ps:LS} {sp:Sp} {dvs:List V} {ds:List Value} {x m:Str} {p pos apos:Pos} {e o:Expr} {es:List Expr} {ta:TE} {t:TA}
def pa_wish {pins:List (Addr×Obj)}{s:Shared}{σ:St}{H:Hp}{Q:List V→Hp→Prop}{E:Value→Shared→Prop}(ha:PA X.nox es t) (I:Inv X pins σ H s) (h:t σ H Q):
  wpAny (model X.prog X.w) X.A (spliced (backTo pos (starEach es X.env))) (AP X pins σ Q) E s :=
 wpAny_mono (ha pos pins s σ H Q (I.wish _) h) (fun _ _ ⟨vs,H',I',r,q⟩=>⟨vs,H',I'.unwish,r,q⟩) fun _ _ z=>False.elim z
end
section
variable {K:Fg} {M:Model} {A:Around} {E:Value→Shared→Prop} {h:Heap} {g:Array GenState} {d:Drawn} {t:Nat} {os:OsState} {e C D:Addr}
def exc_matches {oe:Obj}{Q:Bool→Shared→Prop}(X:K.In h) (cD:ExC K D) (he:h.get? e=some oe) (hcls:oe.cls=.ref C) (cC:ExC K C) (hs:W.subIn K (.ref C) (.ref D)=some true) (hq:Q true ⟨h,g,d,t,os⟩):
  wpAny M A (excMatches (.ref e) (.ref D)) Q E ⟨h,g,d,t,os⟩:=by
 obtain ⟨nm,q,N,bs,bm,hdct,sn,sub,ab,col,dd,k0,k1,k2,k3,k5,lk⟩:=cD.obj
 obtain ⟨nm',q',N',bs',bm',hdct',sn',sub',ab',col',dd',k0',k1',k2',k3',k5',lk'⟩:=cC.obj
 have cB:=sub_has lk cD.bas
 have cS:=sub_has lk' hs
 have hD:=X _ _ lk
 have hC:=X _ _ lk'
 have f:=tc_notTuple
 unfold excMatches
 repeat (first | (with_reducible refine wpAny_loadPart_at he ?_;rw [hcls]) | with_reducible refine wpAny_loadPart_at hD ?_ | (with_reducible refine wpAny_isSubtype_exc hD ?_;rw [cB]) | (with_reducible refine wpAny_isSubtype_exc hC ?_;rw [cS]) | wp_step)
 exact hq
end
section
variable {X:Cx} {pins:List (Addr×Obj)} {σ:St} {H:Hp} {s:Shared}
def Inv.track {a:Addr}{o:HO}(I:Inv X pins σ H s) (f:FpOk X pins H a) (ok:ObjOk X.prog X.w (upd H a o) s.heap a o):Inv X pins σ (upd H a o) s:=by
 obtain ⟨f0,f1,f2,f3,f4,f5⟩:=f
 have ne:∀ b u,H b=some u→b≠a:=fun b u q z=>by rw [z,f0] at q;cases q
 have old:∀ b u,X.s₀.heap.get? b=some u→b∉X.ex→b≠a:=fun b u q n z=>by
  rcases f3 with r | r
  ·rw [z] at n;exact n r
  ·exact absurd (Nat.lt_of_lt_of_le (Heap.lt_size q) (by rw [z];exact r)) (Nat.lt_irrefl _)
 refine ⟨I.ok,I.os,I.bare,⟨I.base.keep,I.base.slot,fun b u q n hx=>by rw [upd_ne (old b u q hx)];exact I.base.free b u q n hx,I.base.there,fun b xs q=>by have z:=I.base.tups b xs q;rw [upd_ne (ne b _ z)];exact z,
  fun b u xs q=>by have z:=I.base.frzs b u xs q;rw [upd_ne (ne b _ z)];exact z,fun b ps q=>by obtain ⟨m,z⟩:=I.base.tbls b ps q;exact ⟨m,by rw [upd_ne (ne b _ z)];exact z⟩⟩,
  I.loc,I.cell,by rw [upd_ne (Ne.symm f1)];exact I.free,fun x c q=>by rw [upd_ne (f4 x c q)];exact I.freeC x c q,fun p hp=>?_,fun b u q=>?_,I.len⟩
 ·obtain ⟨p1,p2,p3,p4,p5⟩:=I.pin p hp
  exact ⟨p1,by rw [upd_ne (f5 p hp)];exact p2,p3,p4,p5⟩
 ·by_cases hb:b=a
  ·subst hb;rw [uS] at q;cases q;exact ok
  ·rw [upd_ne hb] at q
   exact (I.hok b u q).stay (fun _ _ _ z=>z) (fun c z=>by rw [upd_ne (ne c _ z)];exact z) fun c xs z=>by rw [upd_ne (ne c _ z)];exact z
def Inv.gone {i:Nat}{x:Str}{m:Str→Option Value}{v:Option Value}{h':Heap}{tk:Nat}(I:Inv X pins σ H s) (hN:X.N.Nodup) (hi:X.N[i]?=some x) (hx:X.env.scope.names.lookup x=some .local)
  (hm:s.heap.Ns X.env.locals m) (hn:h'.Ns X.env.locals fun y=>if y=x then v else m y) (hs:Heap.SameBut X.env.locals s.heap h'):Inv X pins (σ.set i none) H { s with heap:=h',toks:=tk }:=by
 obtain ⟨m0,hm0,hl⟩:=id I.loc
 have hmm:m0=m:=by
  obtain ⟨o1,es1,ep1,a1,a2,_,a3⟩:=hm0
  obtain ⟨o2,es2,ep2,b1,b2,_,b3⟩:=hm
  rw [a1] at b1
  cases b1
  rw [a2] at b2
  cases b2
  funext y
  rw [← a3,← b3]
 subst hmm
 have cne:=I.cne
 obtain ⟨oL,_,_,hoL,_⟩:=id hm
 refine ⟨I.ok,I.os,I.bare,⟨fun b o e n hb hx=>?_,fun b o e n hb hx=>?_,I.base.free,fun b o e hx=>?_,I.base.tups,I.base.frzs,I.base.tbls⟩,⟨_,hn,fun j y v' e1 e2 e3=>?_⟩,fun y c e=>?_,I.free,I.freeC,fun p hp=>?_,fun b ob e=>?_,by simpa using I.len⟩
 ·exact (hs.2 b (Nat.ne_of_lt (Nat.lt_of_lt_of_le (Heap.lt_size e) I.ok.above))).trans (I.base.keep b o e n hb hx)
 ·obtain ⟨sl,e1⟩:=I.base.slot b o e n hb hx
  exact ⟨sl,(hs.2 b (Nat.ne_of_lt (Nat.lt_of_lt_of_le (Heap.lt_size e) I.ok.above))).trans e1⟩
 ·obtain ⟨o',e1⟩:=I.base.there b o e hx
  exact ⟨o',(hs.2 b (Nat.ne_of_lt (Nat.lt_of_lt_of_le (Heap.lt_size e) I.ok.above))).trans e1⟩
 ·have hj:j≠i:=fun z=>by
   subst z
   by_cases hb:j<σ.length
   ·rw [List.getElem?_set_self hb] at e2;cases e2
   ·rw [List.getElem?_eq_none (by simpa using hb)] at e2;cases e2
  rw [List.getElem?_set_ne (Ne.symm hj)] at e2
  obtain ⟨u',r',q⟩:=hl j y v' e1 e2 e3
  refine ⟨u',r',?_⟩
  rcases q with ⟨k,e⟩ | ⟨k,c,e,z⟩
  ·refine .inl ⟨k,?_⟩
   have:y≠x:=fun e=>hj (nodup_ix hN e1 (e ▸ hi))
   simp [this,e]
  ·exact .inr ⟨k,c,e,z.sameBut hs (cne y c e)⟩
 ·obtain ⟨w',z⟩:=I.cell y c e
  exact ⟨w',z.sameBut hs (cne y c e)⟩
 ·obtain ⟨e,n,ne,nf,d⟩:=I.pin p hp
  exact ⟨(hs.2 p.1 ne).trans e,n,ne,nf,d⟩
 ·refine (I.hok b ob e).stay (fun c w' hc q=>(hs.2 c ?_).trans q) (fun _ q=>q) fun _ _ q=>q
  rintro rfl
  rcases hc with rfl | hc
  ·rw [I.free] at e;cases e
  ·rw [I.free] at hc;cases hc
abbrev Cx.marked (X:Cx) (v:Value):Cx:={ X with A:=X.A.mark (some v),calm:=false,xe:=fun _ _=>False }
def Inv.mark (I:Inv X pins σ H s) (v:Value):Inv (X.marked v) pins σ H s :=
 ⟨⟨I.ok.mod,I.ok.kind,I.ok.glob,I.ok.blt,I.ok.above,I.ok.inj,I.ok.has,I.ok.cab,fun z=>absurd z Bool.false_ne_true,I.ok.frames,I.ok.stk,I.ok.exf,I.ok.bs,I.ok.bsz,I.ok.noex,I.ok.exfs,I.ok.funs,I.ok.frf⟩,
  I.os,I.bare,I.base,I.loc,I.cell,I.free,I.freeC,I.pin,I.hok,I.len⟩
def Inv.unmark {v:Value}(J:Inv (X.marked v) pins σ H s) (ok:X.Ok):Inv X pins σ H s :=
 ⟨ok,J.os,J.bare,J.base,J.loc,J.cell,J.free,J.freeC,J.pin,J.hok,J.len⟩
end
section
variable {X:Cx} {D:Addr} {body:List Stmt} {t:TSx} {x n dn:Str} {np xp ep ap hp pos:Pos} {i j:Nat}
def tTry (K:Fg) (D:Addr) (i j:Nat) (t:TSx):TS:=fun B σ H=>t B (fun cls dx σ' H'=>∃ C,cls=.ref C∧ExC K C∧W.subIn K (.ref C) (.ref D)=some true ∧
 ∀ e,H' e=none→B.nx (((σ'.set j (some (.ref e))).set i (some (.ref e))).set j none) (upd H' e (XO e C dx))) σ H
def ps_try (hst:X.stack=X.env :: X.outer) (hf:X.env.frame=some X.env.locals) (cD:ExC X.K D) (hN:X.N.Nodup) (hg:Gl X dn) (hm:X.mg dn=some (.ref D)) (hi:X.N[i]?=some x) (hx:Loc X.env.scope x) (hj:X.N[j]?=some n)
  (hn:X.env.scope.names.lookup n=some .local) (hb:PSsx X body t) (hfx:X.fn x=true∨X.env.scope.names.lookup x=some .local:=by first | exact .inl rfl | exact .inr rfl | assumption) (hdb:(dn == ("__debug__":Str))=false:=by decide)
  (hd2:(n == ("__debug__":Str))=false:=by decide) (hd3:(n == ("__classdict__":Str))=false:=by decide) (hs:∀ v,swapsWith (.Name n ep) (some (.Name x xp)) ap.line (X.marked v).env=pure false:=by intro;rfl):
  PS X (.Try body [.ExceptHandler (some (.Name dn np)) (some n) [.Assign [.Name x xp] (.Name n ep) ap] hp] [] [] pos) (tTry X.K D i j t):=by
 intro pins s σ H B I h
 refine wpAny_Try_except (wpAny_mono (hb pins s σ H B _ I h) (fun f s1 q=>?_) fun ev s1 z=>?_)
 ·cases f with
  | next=>exact wpAny_execs_nil q
  | ret v=>exact q
  | brk=>exact q
  | cont=>exact q
 ·obtain ⟨e,T,cls,dx,σ',H',rfl,I1,fe,fT,a,C,rfl,cC,csub,q⟩:=z
  have hfr:X.A.frames=some (X.env :: X.outer):=by rw [← hst];exact I1.ok.frames
  have hl:s1.heap.FunFrames X.base (X.env :: X.outer):=by rw [← hst];exact I1.stack
  refine air_notes hfr hl hf a fun h1 T1 hT1 a1 c1=>?_
  refine air_lands a1 fun h2 a2 c2=>?_
  rw [← hst] at c1
  have c3:Chg (frs X.stack) [T1,e,T] s1.heap h2:=(c1.mono (fun b z=>z) fun b z=>by simp at z;rcases z with z | z <;> simp [z]).trans (c2.mono (fun b z=>nomatch z) fun b z=>by simp at z;simp [z])
  have I2:Inv X pins σ' H' { s1 with heap:=h2 }:=I1.call (ch:=[e,T]) (t':=s1.toks) (d':=s1.drawn) (g':=s1.gens) (Un.chg (c3.drop hT1) (fun b z=>z) fun b z=>z) (I1.hok.chg (c3.drop hT1) I1.stkFree fun b z=>by
   simp at z;rcases z with z | z <;> rw [z];exact fe.1;exact fT.1) I1.bare fun b z=>by
   simp at z;rcases z with z | z <;> rw [z];exact ⟨fe.2.2.2.1,fe.2.1,fe.2.2.2.2.1,fe.2.2.2.2.2⟩;exact ⟨fT.2.2.2.1,fT.2.1,fT.2.2.2.2.1,fT.2.2.2.2.2⟩
  have fT1:FpOk X pins H' T1:=I1.fpOk hT1 (I1.hok.fresh hT1)
  have M2:=I2.mark (.ref e)
  refine wpAny_handleBy_cons (codeAny_handlers_test (ld_glob (X:=X.marked (.ref e)) M2 hg hm ?_ hdb)) (by intro q;cases q)
  obtain ⟨oe,vs,he,hc,hdx,hd,hv1⟩:=a2.obj
  refine exc_matches I2.kIn cD he hc cC csub (codeAny_handlers_suite_as ?_)
  refine air_lands a2 fun h3 a3 c4=>?_
  have c5:Chg (frs X.stack) [T1] h2 h3:=c4.mono (fun b z=>nomatch z) fun b z=>z
  have I3:Inv X pins σ' H' { s1 with heap:=h3 }:=I2.call (s:={ s1 with heap:=h2 }) (h':=h3) (ch:=[T1]) (t':=s1.toks) (d':=s1.drawn) (g':=s1.gens) (Un.chg c5 (fun b z=>z) fun b z=>z) (I2.hok.chg c4 (fun b z=>(nomatch z:H' b=none)) fun b z=>by simp at z;rw [z];exact fT1.1) I2.bare fun b z=>by
   simp at z;rw [z];exact ⟨fT1.2.2.2.1,fT1.2.1,fT1.2.2.2.2.1,fT1.2.2.2.2.2⟩
  obtain ⟨oe3,vs3,he3,hc3,hdx3,hd3',hv3⟩:=a3.obj
  have I4:Inv X pins σ' (upd H' e (XO e C dx)) { s1 with heap:=h3 }:=I3.track fe ⟨⟨oe3,he3,hc3,hdx3,by unfold W.notCls;rw [hd3']⟩,⟨oe3,he3⟩,fun h1 h2 ⟨o,q1,q2⟩ k=>⟨o,k o q1,q2⟩⟩
  have M4:=I4.mark (.ref e)
  refine store_ok (X:=X.marked (.ref e)) (i:=j) M4 hN hj (.inl hn) (v:=.ref e) rfl (fun s5 M5=>?_) (.inr hn)
  have L5:(σ'.set j (some (.ref e)))[j]?=some (some (.ref e)):=by
   have:j<σ'.length:=by rw [I3.len];exact (List.getElem?_eq_some_iff.mp hj).1
   rw [List.getElem?_set_self this]
  have R:=(pss_one (ps_set (X:=X.marked (.ref e)) (i:=i) (pos:=ap) (pos':=xp) hN hi hx (pe_var (X:=X.marked (.ref e)) (pos:=ep) hj (.inl hn) hd2 hd3) (hs _) hfx)) pins s5 _ _
   { nx:=fun σ6 H6=>σ6=(σ'.set j (some (.ref e))).set i (some (.ref e))∧H6=upd H' e (XO e C dx),rt:=fun _ _=>False } M5 ⟨_,L5,rfl,rfl⟩
  refine wpAny_mono R (fun f s6 q6=>?_) fun _ _ z=>False.elim z
  cases f with
  | ret v=>obtain ⟨_,_,_,_,_,z⟩:=q6;exact z.elim
  | brk=>obtain ⟨_,_,_,z⟩:=q6;exact z.elim
  | cont=>obtain ⟨_,_,_,z⟩:=q6;exact z.elim
  | next =>
   obtain ⟨σ6,H6,M6,rfl,rfl⟩:=q6
   have I6:=M6.unmark I.ok
   obtain ⟨m,hm6,_⟩:=id I6.loc
   refine wpAny_nameGoes_keeps hn hm6 (by rw [I.ok.kind];rfl) fun h7 v hn7 hs7=>?_
   exact ⟨_,_,I6.gone hN hj hn hm6 hn7 hs7,q e fe.1⟩
end
section
variable {X:Cx} {k:Nat} {f C:Addr} {fd:FuncData} {ps:LS} {sp:Sp} {x m:Str} {p pos apos:Pos} {e o:Expr} {es:List Expr} {ta:TE} {t:TA}
def xMake (C:Addr) (sp:Sp) (t:TA):TEx:=fun σ H Q E=>t σ H fun vs H1=>∀ x dx,H1 x=none→H1 dx=none→dx≠x→sp (.ref x :: vs) (upd (upd H1 dx (.own x)) x (.ins C dx [])) (fun v H2=>v=.non∧Q (.ref x) H2) E
def pex_make (M:Mk X.K C f) (F:FnOk X.prog X.w X.K X.mg X.base (CX1 X.prog X.w) k f fd ps sp) (hr:Room (k + 1) X.A) (hg:Gl X x) (hm:X.mg x=some (.ref C)) (hb:Binds X.K fd ps []) (ha:PA X.nox (e :: es) t)
  (hdb:(x == ("__debug__":Str))=false:=by decide) (he:starEach (e :: es) X.env=(false,eval e X.env):: starEach es X.env:=by rfl) (hpl:(backTo pos (starEach es X.env)).any (·.1)=false:=by rfl):
  PEx X (.Call (.Name x p) (e :: es) [] pos) (xMake C sp t):=by
 intro pins s σ H Q E I h
 refine wpAny_Call_Name_kw (ld_glob I hg hm ?_ hdb)
 refine W.callWith_K (h₀:=X.base) I.ok.mod.kin M.kp (thn (pa_wish ha I h) fun us s1 ⟨vs,H1,I1,r,q⟩=>⟨I1.kIn,?_⟩) he hpl
 rw [List.nil_append]
 have hq:=q (s1.heap.objs.size + 1) s1.heap.objs.size (I1.hok.fresh (Nat.le_succ _)) (I1.hok.fresh (Nat.le_refl _)) (Nat.ne_of_lt (Nat.lt_succ_self _))
 have I2:=Inv.made (C:=C) I1
 have r2:Vals (V.ref (s1.heap.objs.size + 1):: vs) (Value.ref (s1.heap.objs.size + 1):: us):=.cons rfl r
 have hl:(Value.ref (s1.heap.objs.size + 1):: us++[]).length=ps.length:=by rw [List.append_nil,← r2.length];exact F.len _ _ _ _ hq
 have b:=hb _ (Value.ref (s1.heap.objs.size + 1):: us) I2.kIn hl
 rw [List.append_nil] at b
 refine wpAny_call (make_map (f:=f) I1.kIn M.makes M.init (beq_iff_eq.mp M.fn) (codeAny_mono (F.run _ X.stack _ _ ⟨Value.ref (s1.heap.objs.size + 1):: us,[]⟩ (Value.ref (s1.heap.objs.size + 1):: us) _ _ E (hr.make C us [])
  (I2.env0.make C us []) b r2 hq) fun r s' hq'=>?_))
 cases r with
 | error ev =>
  obtain ⟨e,T,cls,dx,H',rfl,os,bare,un,hok,he,hT,se,sT,a,q⟩:=hq'
  exact ⟨e,T,cls,dx,σ,H',rfl,I2.call' (ch:=[]) os un hok bare (fun b z=>nomatch z),I2.fpOk se he,I2.fpOk sT hT,a,rfl,q⟩
 | ok fl =>
  cases fl with
  | ret u =>
   obtain ⟨v,H',I3,rv,ev,q3⟩:=I2.after hq'
   subst ev
   exact ⟨rv,⟨V.ref (s1.heap.objs.size + 1),H',I3,rfl,q3⟩⟩
  | next=>exact False.elim hq'
  | brk=>exact False.elim hq'
  | cont=>exact False.elim hq'
end
def kit_cls1 {K:Fg}{C D:Addr}{b:Bool} (h1:W.isClsIn K D=true) (h2:W.typeIn K (.ref D)=some (.type "type")) (c:ExC K C) (h:W.subIn K (.ref C) (.ref D)=some b):W.kitOne K (.ref C) (.ref D)=some b:=by
 unfold W.kitOne
 by_cases z:C=D
 ·subst z
  obtain ⟨nm,q,N,bs,bm,hdct,sn,sub,ab,col,dd,k0,k1,k2,k3,k5,lk⟩:=c.obj
  have:=sub_has lk h
  rw [if_pos (by simp)]
  rw [← this]
  simp
 ·rw [if_neg (by simpa using z)]
  unfold W.kitCls
  have h1':(W.clsIn K D).isSome=true:=h1
  show (if ((W.clsIn K D).isSome&&W.typeIn K (.ref D) == some (.type "type"))=true then W.subIn K (.ref C) (.ref D) else none)=some b
  rw [if_pos (by rw [h1',h2];rfl)]
  exact h
def kit_value {K:Fg}{C:Addr}(c:ExC K C):W.kitOne K (.ref C) (.type "ValueError")=some true:=by
 unfold W.kitOne
 rw [if_neg (by simp)]
 unfold W.kitCls
 show (if W.kitMeta "ValueError"=true then W.subIn K (.ref C) (.type "ValueError") else none)=some true
 rw [if_pos (by decide +kernel)]
 exact c.val
def rIsiX (K:Fg):List V→Hp→VK→Prop:=fun xs H Q=>∃ (e C:Addr) (dx:Option Addr) (y:V) (cv:Value) (b:Bool),xs=[.ref e,y]∧RelV y cv∧(∀ u,RelV y u→u=cv)∧H e=some (XO e C dx)∧XDict H dx∧ExA K C∧W.kitOne K (.ref C) cv=some b∧Q (.bl b) H
def call_isiX {X:Cx}:CallR X (.builtin "isinstance") (rIsiX X.K):=by
 intro pins s σ H xs us Q I r h
 obtain ⟨e,C,dx,y,cv,b,rfl,ry,hy,hx,hd,c,k,q⟩:=h
 obtain ⟨u,w',rfl,r1,r2⟩:=vals2 r
 cases r1
 rw [hy w' r2]
 exact isinstX_ok I hx hd c k fun tk=>⟨.bl b,H,I.tok _,rfl,q⟩
def Same.xdict {H H':Hp}{dx:Option Addr}(h:XDict H dx) (s:Same H H'):XDict H' dx:=h.elim .inl fun ⟨a,fs,e,x⟩=>.inr ⟨a,fs,e,s _ _ x⟩
section
variable {X:Cx}
end
end L2
namespace L2
open PySem PySem.W PySem.Spec PyProof.Rows
section
variable {X:Cx} {e:Expr} {te:TE} {pos:Pos} {k:Nat}
def Shows (x:Str):Prop:=x.length≤50∧∀ c∈x.cps.toList,c<16 ^ 8
end
def FnOk.or {P:Program}{w:World}{K:Fg}{mg:Str→Option Value}{base:Heap}{CX:CXT}{k:Nat}{ps:LS}{sp sp':Sp}(F:FnOk P w K mg base CX k f fd ps sp) (G:FnOk P w K mg base CX k f fd ps sp'):
  FnOk P w K mg base CX k f fd ps (fun vs H Q E=>sp vs H Q E∨sp' vs H Q E):=
 ⟨fun vs H Q E h=>h.elim (F.len vs H Q E) (G.len vs H Q E),fun A outer s H args us vs Q E hr he hb hv hs=>hs.elim (F.run A outer s H args us vs Q E hr he hb hv) (G.run A outer s H args us vs Q E hr he hb hv)⟩
end L2
namespace L2
open PySem PySem.Spec PyProof.Rows HT
section
variable {prog:Program} {w:World} {A:Around} {E:Value→Shared→Prop} {s:Shared}
def getItem_tuple_all {t sl:Addr}{items:Array Value}{vl vu:Value}{lo hi:Option Int}{Q:Value→Shared→Prop}(ht:IsTup s.heap t items) (hs:s.heap.IsSliceOf sl vl vu .none) (pl:IsPart vl lo) (pu:IsPart vu hi)
  (hw:sIx items.size 0 lo=0∧sIx items.size items.size hi=items.size) (h:Q (.ref t) s):wpAny (model prog w) A (getItem (.ref t) (.ref sl)) Q E s:=by
 obtain ⟨os,hos,hcs,hds⟩:=id hs
 have hTs:s.TypeIs (.ref sl) "slice":=⟨os,hos,hcs⟩
 unfold getItem
 try with_reducible refine wpAny_holding ?_
 first | refine wpAny_bind (wpAny_pure ?_) | skip
 refine wpAny_bind (wpAny_sequenceKey ht.typeIs (by decide) ?_)
 refine wpAny_bind (wpAny_callSpecial?_slot (name:=Str.ofString "__getitem__") ht.typeIs PyProof.Rows.slot_tuple_getitem
  (wpAny_call_entry PyProof.Rows.slot_tuple_getitem ht.typeIs entry_tuple_getitem ?_ (args_tuple_getitem _ _)))
 show wpAny _ _ (Builtin.Tuple.tupleItemsOf (.ref t)>>=_) _ _ s
 refine wpAny_bind (tupleItemsOf_ ht ?_)
 refine wpAny_bind (wpAny_typeOf hTs ?_)
 rw [if_pos (by decide)]
 refine wpAny_bind (sliceApplied_gen hs pl pu ?_)
 have yes:(((sIx items.size 0 lo:Nat):Int) == 0&&(1:Int) == 1&&(sIx items.size items.size hi - sIx items.size 0 lo) == items.size)=true:=by
  rw [hw.1,hw.2]
  simp
 show wpAny _ _ (if (((sIx items.size 0 lo:Nat):Int) == 0&&(1:Int) == 1&&(sIx items.size items.size hi - sIx items.size 0 lo) == items.size)=true then _ else _) _ _ s
 rw [if_pos yes]
 apply wpAny_bind
 unfold Builtin.Tuple.tupleIsExact
 refine wpAny_bind (wpAny_typeOf ht.typeIs ?_)
 apply wpAny_pure
 rw [if_pos (by decide)]
 refine wpAny_bind (wpAny_rule ?_)
 refine wpAny_pure ?_
 exact ⟨_,rfl,wpAny_pure h⟩
end
def rSlA (K:Fg):V→Option Int→Option Int→Hp→VK→Prop:=fun x lo hi H Q=>∃ a xs,x=.ref a∧SqT K H a xs ∧
 ((sIx xs.length 0 lo=0∧sIx xs.length xs.length hi=xs.length)→Q (.ref a) H)∧(¬ (sIx xs.length 0 lo=0∧sIx xs.length xs.length hi=xs.length)→∀ p,H p=none→Q (.ref p) (upd H p (.tup (cutV xs lo hi))))
def sl_tupA {X:Cx}:SlR X (rSlA X.K):=by
 intro pins s σ H x v vl vu lo hi sl Q I rx hs pl pu h
 obtain ⟨a,xs,ex,hx,q1,q2⟩:=h
 by_cases hw:sIx xs.length 0 lo=0∧sIx xs.length xs.length hi=xs.length
 ·subst ex
  cases rx
  obtain ⟨its,r,ht,hz⟩:=I.tuple hx
  have hlen:its.toArray.size=xs.length:=by rw [List.size_toArray];exact r.length.symm
  refine ⟨"tuple",_,PyProof.Rows.slot_tuple_getitem.lookup,ht.typeIs,?_⟩
  exact getItem_tuple_all ht hs pl pu (by rw [hlen];exact hw) ⟨.ref a,H,I,rfl,q1 hw⟩
 ·exact sl_tup pins s σ H x v vl vu lo hi sl Q I rx hs pl pu ⟨a,xs,ex,hx,hw,q2 hw⟩
def cut_all {xs:List V}{lo hi:Option Int}(h:sIx xs.length 0 lo=0∧sIx xs.length xs.length hi=xs.length):cutV xs lo hi=xs:=by
 unfold cutV
 rw [h.1,h.2,List.drop_zero,Nat.sub_zero,List.take_length]
end L2
namespace L2
open PySem PySem.Spec PyProof.Rows
def textE:Expr→Option Str
 | .Constant (.str x) _ _=>some x
 | _=>none
def textsE:List Expr→Option (LS)
 | []=>some []
 | e :: r=>match textE e,textsE r with
  | some p,some l=>some (p :: l)
  | _,_=>none
def strsE:Expr→Option (LS)
 | .Tuple es _ _=>textsE es
 | _=>none
def tStrs (l:LS):TE:=fun _ H Q=>∀ p,H p=none→Q (.ref p) (upd H p (.tup (l.map V.str)))
section
variable {X:Cx}
def textE_shape {e:Expr}{x:Str}(h:textE e=some x):∃ k pos,e=.Constant (.str x) k pos:=by
 unfold textE at h
 split at h
 ·cases h
  exact ⟨_,_,rfl⟩
 ·cases h
theorem pa_textsE:∀ {es:List Expr}{l:LS},textsE es=some l→PA X es (fun _ H Q=>Q (l.map V.str) H)
 | [],l,h=>by
  cases h
  exact pa_nil
 | e :: r,l,h=>by
  unfold textsE at h
  split at h
  ·rename_i p l' h1 h2
   cases h
   obtain ⟨k,pos,rfl⟩:=textE_shape h1
   exact pC pe_str (pa_textsE h2)
  ·cases h
def pe_strsE {e:Expr}(l:LS) (h:strsE e=some l) (hl:l.length≤100000):PE X e (tStrs l):=by
 unfold strsE at h
 split at h
 ·intro pins s σ H Q I q
  exact pe_tup (pa_textsE h) pins s σ H Q I ⟨sL (by rw [List.length_map];exact hl),q⟩
 ·cases h
end
end L2
namespace L2
open PySem PySem.Spec PySem.Builtin PySem.Builtin.ObjectAttr PySem.W
structure ExI (K:Fg) (C D:Addr) (a:Str):Prop extends ExA K C where
 lk:∃ nm q N bs sn sub ab col dd k0 k1 k2 k3 k5,K.lookup C=some (excClassObj nm q C N bs [.ref D,.type "ValueError",.type "Exception",.type "BaseException",.type "object"] true sn sub ab col dd k0 k1 k2 k3 k5 "ValueError.__new__")
 sa:W.findIn K (.ref C) "__setattr__"=some (some (.builtin "object.__setattr__"))
 na:W.findIn K (.ref C) a=some none
abbrev excObjD (C t:Addr) (dx:Option Addr):Obj:={ cls:=.ref C,dict:=dx,data:=.fields #[.ref t,.none,.none,.none,.bool false,.none] }
section
variable {K:Fg} {prog:Program} {w:World} {A:Around} {E:Value→Shared→Prop} {s:Shared} {C D e t0:Addr} {a:Str} {v:Value}
def exc_osa {tk:Tok}{R:Result→Shared→Prop}(X:K.In s.heap) (c:ExI K C D a) (he:s.heap.get? e=some (excObj C t0))
  (h:∀ h' dx,s.heap.objs.size≤dx→h'.get? e=some (excObjD C t0 (some dx))→h'.Ns1 dx (fun y=>if y=a then some v else none)→(∀ b o,b≠e→s.heap.get? b=some o→h'.get? b=some o)→R (.ok (.ret .none)) { s with heap:=h',toks:=s.toks + 1 }):
  codeAny (model prog w) A (.call (.builtin "object.__setattr__") ⟨[.ref e,.str a tk,v],[]⟩) R s:=by
 obtain ⟨nm,q,N,bs,sn,sub,ab,col,dd,k0,k1,k2,k3,k5,lk⟩:=c.lk
 have SF:=PySem.F.store_object
 have I:InstAt s.heap e (excObj C t0) C none:=⟨he,rfl,rfl,trivial⟩
 have hcd:clsIn K C=some { name:=nm,bases:=bs,mro:=.ref C :: [.ref D,.type "ValueError",.type "Exception",.type "BaseException",.type "object"],ns:=N,qualname:=q,hasDict:=true,slotNames:=sn,subclasses:=sub,abstract:=ab,collection:=col,hasDel:=false }:=by
  unfold W.clsIn
  rw [lk]
 have sb:Looks (model prog w) s.heap (isInstance (.ref e) (.type "object")) true:=I.type.andThen (looks_mroIn X c.ob)
 refine codeAny_call_builtin SF.slot.plain SF.entry (@check_slot (model prog w) _ _ s "object.__setattr__" "object" "__setattr__" (.ref e) [.str a tk,v] [] _ SF.kind SF.split sb (SF.args (.ref e) (.str a tk) v) ?_)
 have hm:Looks (model prog w) s.heap (mroOf (.ref C)) (.ref C :: [.ref D,.type "ValueError",.type "Exception",.type "BaseException",.type "object"]):=(looks_clsIn X hcd).andThen .now
 rw [osa_eq,refuse_eq]
 refine wpAny_bind (wpAny_bind (I.type.here (wpAny_bind (hm.here ?_))))
 rw [refuseLoop_ref,refuseLoop_ref,PySem.F.store_ValueError.passes]
 refine wpAny_pure (wpAny_bind (I.type.here (wpAny_bind ((looks_findIn X c.na).here (wpAny_bind (wpAny_pure ?_))))))
 show wpAny _ _ (storeInOwnDict (.ref e) (.ref C) (.str a tk) a v false) _ _ _
 refine wpAny_bind (wpAny_pure (wpAny_bind (wpAny_bind (wpAny_loadPart he (wpAny_bind ((looks_clsIn X hcd).here ?_))))))
 have hes:e≠s.heap.objs.size:=Nat.ne_of_lt (Heap.lt_size he)
 have he1:(s.heap.push { cls:=.type "dict",data:=.dict #[] }).get? e=some (excObj C t0):=Heap.get?_push_of_some _ he
 obtain ⟨hh,g,d,t,os⟩:=s
 dsimp only at he he1 hes h ⊢
 refine wpAny_bind (wpAny_alloc' (wpAny_bind (wpAny_update' he1 (wpAny_pure ?_))))
 have hgd:((hh.push { cls:=.type "dict",data:=.dict #[] }).update e fun o=>{ cls:=o.cls,dict:=some hh.objs.size,data:=o.data,slots:=o.slots }).get? hh.objs.size=some { cls:=.type "dict",data:=.dict #[] } :=
  (Heap.get?_update_ne _ _ _ _ hes.symm).trans (Heap.get?_push_at rfl rfl)
 have hnd:((hh.push { cls:=.type "dict",data:=.dict #[] }).update e fun o=>{ cls:=o.cls,dict:=some hh.objs.size,data:=o.data,slots:=o.slots }).Ns hh.objs.size (fun _=>none):=
  ⟨_,#[],_,hgd,rfl,fun e he=>absurd he (by simp),fun _=>rfl⟩
 show wpAny _ _ (storeInDict hh.objs.size (.str a tk) a v) _ _ _
 unfold storeInDict newKeyGuard
 refine wpAny_bind (wpAny_pure (wpAny_bind (wpAny_nsSet1 (Heap.Ns1.of_empty hnd) fun h' hn' hs=>?_)))
 obtain ⟨oD,esD,epD,hoD,hdD,hcD⟩:=hn'.count (Within.cons a v Within.nil)
 refine wpAny_bind (wpAny_lookBehind hoD (by rw [hdD];exact pastItsLine_dict (Nat.le_trans hcD (by rw [List.length_cons,List.length_nil,sizeLine_eq];omega))) ?_)
 refine wpAny_pure (h h' hh.objs.size (Nat.le_refl _) ?_ hn' fun b o hb q=>?_)
 ·exact (hs.2 e hes).trans (Heap.get?_update_self _ he1 rfl)
 ·exact (hs.2 b (Nat.ne_of_lt (Heap.lt_size q))).trans ((Heap.get?_update_ne _ _ _ _ hb).trans (Heap.get?_push_of_some _ q))
def exc_set {Q:Unit→Shared→Prop}(X:K.In s.heap) (c:ExI K C D a) (he:s.heap.get? e=some (excObj C t0))
  (h:∀ h' dx,s.heap.objs.size≤dx→h'.get? e=some (excObjD C t0 (some dx))→h'.Ns1 dx (fun y=>if y=a then some v else none)→(∀ b o,b≠e→s.heap.get? b=some o→h'.get? b=some o)→Q () { s with heap:=h',toks:=s.toks + 2 }):
  wpAny (model prog w) A (setAttr (.ref e) a v) Q E s :=
 set_plain X (⟨he,rfl,rfl,trivial⟩:InstAt s.heap e (excObj C t0) C none) c.sa (exc_osa (s:={ s with toks:=s.toks + 1 }) X c he fun h' dx a1 a2 a3 a4=>h h' dx a1 a2 a3 a4)
def exc_get {ox od:Obj}{Q:Value→Shared→Prop}{expr:Bool}(X:K.In s.heap) (c:ExI K C D a) (I:InstAt s.heap e ox C (some od)) (hl:lookIn a od=some (some v)) (hv:handedIn v=true) (h:Q v { s with toks:=s.toks + 1 }):
  wpAny (model prog w) A (getAttr (.ref e) a expr) Q E s:=by
 obtain ⟨nm,q,N,bs,sn,sub,ab,col,dd,k0,k1,k2,k3,k5,lk⟩:=c.lk
 have hd:hasDictIn K C=true:=by
  unfold hasDictIn clsIn
  rw [lk]
  rfl
 obtain ⟨hh,g,d,t,os⟩:=s
 unfold getAttr
 refine wpAny_bind (wpAny_mkText ?_)
 exact exc_by X c.toExA I (looks_find X I (findObj_own hd c.na rfl hl)) (fun z=>nomatch z) (fun {A E Q} r=>wpAny_pure r) hv h
end
end L2
namespace L2
open PySem PySem.Spec PyProof.Rows
def XN (e C:Addr):HO:=.ext fun h=>∃ t0,h.get? e=some (excObj C t0)
def XM (e C dx:Addr):HO:=.ext fun h=>∃ t0,h.get? e=some (excObjD C t0 (some dx))
def del (H:Hp) (a:Addr):Hp:=fun b=>if b=a then none else H b
def del_same {H:Hp}{a:Addr}:del H a a=none:=by unfold del;rw [if_pos rfl]
def del_ne {H:Hp}{a b:Addr}(h:b≠a):del H a b=H b:=by unfold del;rw [if_neg h]
structure DIn (K:Fg) (D:Addr):Prop where
 ga:W.specialIn K (.ref D) "__getattribute__"=some (some (.builtin "type.__getattribute__"))
 rd:W.readsIn K D (.type "type")=true
 fi:W.findCls K (.ref D) (.type "type") "__init__"=some (.val (.builtin "ValueError.__init__"))
section
variable {X:Cx} {pins:List (Addr×Obj)} {σ:St} {H:Hp} {s:Shared} {a:Addr} {φ:Heap→Prop}
def Inv.untrack (I:Inv X pins σ H s) (ha:H a=some (.ext φ)) (f:X.s₀.heap.objs.size≤a):Inv X pins σ (del H a) s:=by
 have ne:∀ b u,H b=some u→(∀ ψ,u≠.ext ψ)→b≠a:=fun b u q n z=>by rw [z,ha] at q;cases q;exact n _ rfl
 have none':∀ b,H b=none→del H a b=none:=fun b q=>by
  unfold del
  split
  ·rfl
  ·exact q
 refine ⟨I.ok,I.os,I.bare,⟨I.base.keep,I.base.slot,fun b u q n hx=>none' b (I.base.free b u q n hx),I.base.there,fun b xs q=>?_,fun b u xs q=>?_,fun b ps q=>?_⟩,
  I.loc,I.cell,none' _ I.free,fun x c q=>none' _ (I.freeC x c q),fun p hp=>?_,fun b u q=>?_,I.len⟩
 ·have z:=I.base.tups b xs q;rw [del_ne (ne b _ z fun _ q=>nomatch q)];exact z
 ·have z:=I.base.frzs b u xs q;rw [del_ne (ne b _ z fun _ q=>nomatch q)];exact z
 ·obtain ⟨m,z⟩:=I.base.tbls b ps q;exact ⟨m,by rw [del_ne (ne b _ z fun _ q=>nomatch q)];exact z⟩
 ·obtain ⟨p1,p2,p3,p4,p5⟩:=I.pin p hp
  exact ⟨p1,none' _ p2,p3,p4,p5⟩
 ·have hb:b≠a:=fun z=>by rw [z,del_same] at q;cases q
  rw [del_ne hb] at q
  exact (I.hok b u q).stay (fun _ _ _ z=>z) (fun c z=>by rw [del_ne (ne c _ z fun _ q=>nomatch q)];exact z) fun c xs z=>by rw [del_ne (ne c _ z fun _ q=>nomatch q)];exact z
end
section
variable {X:Cx} {C D f:Addr} {fd:FuncData} {k:Nat} {x dn a:Str} {np cpos pos apos pos':Pos} {e o value:Expr} {es:List Expr} {t:TA} {ta tv:TE} {ps:LS}
def tDI (K:Fg) (t:TA):TE:=fun σ H Q=>t σ H fun vs H1=>∃ x C ws,vs=.ref x :: ws∧ws.length≤100∧ExC K C∧H1 x=some (XN x C)∧Q .non H1
def pe_dinit {pl:Sem Bool}(d:DIn X.K D) (hg:Gl X dn) (hm:X.mg dn=some (.ref D)) (ha:PA X (e :: es) t) (hdb:(dn == ("__debug__":Str))=false:=by decide)
  (hst:starEach (e :: es) X.env=(false,eval e X.env):: starEach es X.env:=by rfl) (hpl:(backTo cpos (starEach es X.env)).any (·.1)=false:=by rfl)
  (ht:eval (.Call (.Attribute (.Name dn np) "__init__" apos) (e :: es) [] cpos) X.env=(eval (.Name dn np) X.env>>=fun ov=>standAt apos.atName>>=fun _=>holding [ov] (getMethod ov "__init__" pl)>>=fun r=>callWith cpos r.1 r.2 (backTo cpos (starEach (e :: es) X.env)) (backToKw cpos (keywordEach [] X.env))):=by rfl):
  PE X (.Call (.Attribute (.Name dn np) "__init__" apos) (e :: es) [] cpos) (tDI X.K t):=by
 intro pins s σ H Q I h
 refine W.methodCall_KW (pl:=pl) (ld_glob I hg hm ?_ hdb) ht
 refine W.method_cls I.kIn d.ga (W.cls_value I.kIn d.rd d.fi rfl ?_)
 have I0:Inv X pins σ H { s with toks:=s.toks + 1 }:=I.tok _
 refine PyProof.Rows.callWith_builtin1 (thn (ha cpos pins _ σ H _ I0 h) fun us s1 ⟨vs,H1,I1,r,x,C,ws,ev,hl,c,hx,q⟩=>?_) hst hpl
 subst ev
 obtain ⟨u,us',eu,r1,r2⟩:∃ u us',us=u :: us'∧RelV (.ref x) u∧Vals ws us':=by cases r with | cons a b=>exact ⟨_,_,rfl,a,b⟩
 subst eu
 obtain rfl:u=Value.ref x:=r1
 ·skip
  have ok:ObjOk X.prog X.w H1 s1.heap x (XN x C):=I1.hok x _ hx
  obtain ⟨⟨t0,he⟩,_,_⟩:=ok
  obtain ⟨hp,g,dr,tk,os⟩:=s1
  dsimp only at he
  refine wpAny_call (exc_init0 (t0:=t0) I1.kIn c he (by rw [← r2.length,sizeLine_eq];omega) ?_)
  refine ⟨.non,H1,?_,rfl,q⟩
  have hs:x≠hp.objs.size:=Nat.ne_of_lt (Heap.lt_size he)
  have he1:(hp.push (tupObj us')).get? x=some (excObj C t0):=Heap.get?_push_of_some _ he
  have up:upd H1 x (XN x C)=H1:=by
   funext b
   unfold upd
   split
   ·rename_i z;rw [z];exact hx.symm
   ·rfl
  have W:=I1.write (x:=x) (e:=x) (o:=XN x C) (t':=tk) (h':=(hp.push (tupObj us')).update x (Obj.mapFields (·.setIfInBounds 0 (.ref hp.objs.size)))) (by rw [hx];exact True.intro) (.inl rfl)
   (fun b u hb z=>(Heap.get?_update_other _ _ (Ne.symm hb)).trans (Heap.get?_push_of_some _ z)) ⟨_,Heap.get?_update_self _ he1 rfl⟩
   ⟨⟨hp.objs.size,Heap.get?_update_self _ he1 rfl⟩,⟨_,Heap.get?_update_self _ he1 rfl⟩,fun h1 h2 ⟨t1,q1⟩ k=>⟨t1,k _ q1⟩⟩
  rw [up] at W
  exact W
def sXF (K:Fg) (D:Addr) (ta tv:TE) (a:Str):TS:=fun B σ H=>tv σ H fun y H1=>ta σ H1 fun x H2=>∃ e C,x=.ref e∧H2 e=some (XN e C)∧ExI K C D a ∧
 ∀ dx,H2 dx=none→B.nx σ (upd (upd H2 e (XM e C dx)) dx (.xd [(a,y)]))
def ps_xfld (ha:PE X o ta) (hv:PE X value tv) (hs:swapsWith value (some (.Attribute o a pos')) pos.line X.env=pure false:=by rfl):PS X (.Assign [.Attribute o a pos'] value pos) (sXF X.K D ta tv a):=by
 intro pins s σ H B I h
 refine plainObj_wpAny_Assign_Attribute (thn (hv pins s σ H _ I h) fun u s1 ⟨y,H1,I1,ry,q⟩=>thn (ha pins s1 σ H1 _ I1 q) fun ov s2 ⟨x,H2,I2,rx,e,C,ex,hx,c,q2⟩=>?_) hs
 subst ex
 obtain rfl:ov=Value.ref e:=rx
 have ok:ObjOk X.prog X.w H2 s2.heap e (XN e C):=I2.hok e _ hx
 obtain ⟨⟨t0,he⟩,_,_⟩:=ok
 refine exc_set I2.kIn c he fun h' dx hdx he' hn k=>?_
 have hd0:H2 dx=none:=I2.hok.fresh hdx
 have hde:dx≠e:=Nat.ne_of_gt (Nat.lt_of_lt_of_le (Heap.lt_size he) hdx)
 refine ⟨σ,_,?_,q2 dx hd0⟩
 have W:=I2.write (x:=e) (e:=e) (o:=XM e C dx) (t':=s2.toks + 2) (h':=h') (by rw [hx];exact True.intro) (.inl rfl) (fun b u hb z=>k b u hb z) ⟨_,he'⟩ ⟨⟨t0,he'⟩,⟨_,he'⟩,fun h1 h2 ⟨t1,q1⟩ k=>⟨t1,k _ q1⟩⟩
 refine W.track ?_ ⟨_,hn,fun f=>?_⟩
 ·refine I2.fpOk hdx ?_
  rw [upd_ne hde];exact hd0
 ·by_cases q:f=a
  ·subst q
   simp only [List.lookup,beq_self_eq_true,if_true]
   exact ry
  ·have hb:(f == a)=false:=beq_eq_false_iff_ne.mpr q
   simp only [List.lookup,hb,if_neg q]
   exact True.intro
def spXI (C:Addr) (a:Str) (ok:V→Hp→Prop):Sp:=fun vs H Q _=>∃ x y,vs=[.ref x,y]∧ok y H∧H x=some (XN x C)∧∀ dx,H dx=none→Q .non (upd (upd H x (XM x C dx)) dx (.xd [(a,y)]))
def tRzI (E:XK) (C:Addr) (a:Str) (ok:V→Hp→Prop) (t:TA):TS:=fun _ σ H=>t σ H fun vs H1=>∃ y,vs=[y]∧(∀ x,H1 x=none→ok y (upd H1 x (XN x C)))∧∀ dx,H1 dx=none→E (.ref C) (some dx) (upd H1 dx (.xd [(a,y)]))
def ps_raiseI {E:XK}{ok:V→Hp→Prop}(Fx:Fns X E) (hh:X.A.handled=none) (c:ExC X.K C) (hi:W.findIn X.K (.ref C) "__init__"=some (some (.ref f))) (hf:W.typeIn X.K (.ref f)=some (.type "function"))
  (F:FnOk X.prog X.w X.K X.mg X.base CX0 k f fd ps (spXI C a ok)) (hr:Room (k + 1) X.A) (hb:Binds X.K fd ps []) (hg:Gl X x) (hm:X.mg x=some (.ref C)) (ha:PA X (e :: es) t)
  (hdb:(x == ("__debug__":Str))=false:=by decide) (he:starEach (e :: es) X.env=(false,eval e X.env):: starEach es X.env:=by rfl) (hpl:(backTo cpos (starEach es X.env)).any (·.1)=false:=by rfl):
  PS X (.Raise (some (.Call (.Name x np) (e :: es) [] cpos)) none pos) (tRzI E C a ok t):=by
 intro pins s σ H B I h
 refine raise_made c hh (wpAny_Call_Name_kw (ld_glob I hg hm ?_ hdb))
 refine W.callWith_K (h₀:=X.base) I.ok.mod.kin c.kp (thn (ha cpos pins s σ H _ I h) fun us s1 ⟨vs,H1,I1,r,y,ev,hy,q⟩=>⟨I1.kIn,?_⟩) he hpl
 subst ev
 rw [List.nil_append]
 have rl:us.length=1:=r.length.symm
 obtain ⟨hp,g,dr,tk,os⟩:=s1
 refine exc_call I1.kIn c hi (fun self=>W.bind_fn (I1.kIn.keeps fun b o q=>Heap.get?_push_of_some _ (Heap.get?_push_of_some _ q)) self hf) (by rw [rl,sizeLine_eq];decide) ?_
 have got:((hp.push (tupObj us)).push (excObj C hp.objs.size)).get? (hp.objs.size + 1)=some (excObj C hp.objs.size):=Heap.get?_push_at (by rw [Heap.size_push]) rfl
 have n0:H1 (hp.objs.size + 1)=none:=I1.hok.fresh (Nat.le_succ _)
 have I2:Inv X pins σ (upd H1 (hp.objs.size + 1) (XN (hp.objs.size + 1) C)) ⟨(hp.push (tupObj us)).push (excObj C hp.objs.size),g,dr,tk,os⟩ :=
  I1.laid (t':=tk) (fun b u q=>Heap.get?_push_of_some _ (Heap.get?_push_of_some _ q)) (Nat.le_succ _) ⟨⟨_,got⟩,⟨_,got⟩,fun h1 h2 ⟨t1,q1⟩ k=>⟨t1,k _ q1⟩⟩
 have r2:Vals [V.ref (hp.objs.size + 1),y] (Value.ref (hp.objs.size + 1):: us):=.cons rfl r
 have hq:spXI C a ok [V.ref (hp.objs.size + 1),y] (upd H1 (hp.objs.size + 1) (XN (hp.objs.size + 1) C)) (fun v H2=>v=.non∧∃ dx,H1 dx=none∧dx≠hp.objs.size + 1∧H2=upd (upd (upd H1 (hp.objs.size + 1) (XN (hp.objs.size + 1) C)) (hp.objs.size + 1) (XM (hp.objs.size + 1) C dx)) dx (.xd [(a,y)])) (fun _ _ _=>False):=by
  refine ⟨_,y,rfl,hy _ n0,uS,fun dx hd=>⟨rfl,dx,?_,?_,rfl⟩⟩
  ·by_cases z:dx=hp.objs.size + 1
   ·rw [z];exact n0
   ·rw [upd_ne z] at hd;exact hd
  ·intro z;rw [z,uS] at hd;cases hd
 have hl:(Value.ref (hp.objs.size + 1):: us++[]).length=ps.length:=by rw [List.append_nil,← r2.length];exact F.len _ _ _ _ hq
 have b:=hb _ (Value.ref (hp.objs.size + 1):: us) I2.kIn hl
 rw [List.append_nil] at b
 refine codeAny_mono (F.run _ X.stack _ _ ⟨Value.ref (hp.objs.size + 1):: us,[]⟩ (Value.ref (hp.objs.size + 1):: us) _ _ (fun _ _ _=>False) (hr.make C us []) (I2.env0.make C us []) b r2 hq) fun r s' hq'=>?_
 cases r with
 | error ev=>exact False.elim hq'
 | ok fl =>
  cases fl with
  | ret u =>
   obtain ⟨v,H',I3,rv,ev,dx,d1,d2,eH⟩:=I2.after hq'
   subst ev
   have hx:H' (hp.objs.size + 1)=some (XM (hp.objs.size + 1) C dx):=by rw [eH,upd_ne (Ne.symm d2),uS]
   have ok3:ObjOk X.prog X.w H' s'.heap _ (XM (hp.objs.size + 1) C dx):=I3.hok _ _ hx
   obtain ⟨⟨t0,g0⟩,_,_⟩:=ok3
   have eq:del H' (hp.objs.size + 1)=upd H1 dx (.xd [(a,y)]):=by
    funext b
    by_cases z:b=hp.objs.size + 1
    ·rw [z,del_same,upd_ne (Ne.symm d2),n0]
    ·rw [del_ne z,eH]
     by_cases z':b=dx
     ·rw [z',uS,uS]
     ·rw [upd_ne z',upd_ne z',upd_ne z,upd_ne z]
   have I4:=I3.untrack hx (Nat.le_trans I1.sz (Nat.le_succ _))
   refine ⟨rv,hp.objs.size + 1,t0,some dx,#[],rfl,I4.kIn,g0,?_⟩
   exact Fx.raised I4 (I1.fpOk (Nat.le_succ _) del_same) g0 rfl rfl (by rw [eq];exact q dx d1)
  | next=>exact False.elim hq'
  | brk=>exact False.elim hq'
  | cont=>exact False.elim hq'
def tXF (K:Fg) (D:Addr) (ta:TE) (a:Str):TE:=fun σ H Q=>ta σ H fun x H1=>∃ e C dx fs v,x=.ref e∧H1 e=some (XO e C (some dx))∧H1 dx=some (.xd fs)∧ExI K C D a∧fs.lookup a=some v∧Q v H1
def pe_xfld (ha:PE X o ta) (hb:attributeBase o a X.env (eval o X.env)=eval o X.env:=by rfl):PE X (.Attribute o a pos) (tXF X.K D ta a):=by
 intro pins s σ H Q I h
 refine attr_of hb (thn (ha pins s σ H _ I h) fun u s1 ⟨x,H1,I1,rx,e,C,dx,fs,v,ex,hx,hd,c,l,q⟩=>?_)
 subst ex
 obtain rfl:u=Value.ref e:=rx
 have ok:ObjOk X.prog X.w H1 s1.heap e (XO e C (some dx)):=I1.hok e _ hx
 obtain ⟨⟨oe,h1,h2,h3,h4⟩,_,_⟩:=ok
 have okd:ObjOk X.prog X.w H1 s1.heap dx (.xd fs):=I1.hok dx _ hd
 obtain ⟨mA,n,r⟩:=okd
 obtain ⟨od,ho,hl⟩:=lookIn_ns n
 obtain ⟨u,hu,ru⟩:=RelO.some_of (v:=v) (o:=mA a) (by rw [← l];exact r a)
 exact exc_get (ox:=oe) (od:=od) I1.kIn c ⟨h1,h2,h4,by rw [h3];exact ho⟩ (by rw [hl,hu]) (handed_of ru) ⟨v,H1,I1.tok _,ru,q⟩
end
structure CompOkC (X:Cx) (scope:Scope) (own frees:LS) (js:List Nat):Prop where
 calm:X.calm=true
 kind:scope.kind=.function
 cells:∀ y∈scope.names,y.2=.cell→scope.names.lookup y.1=some .cell
 locals:∀ y∈scope.names,y.2=.local→scope.names.lookup y.1=some .local
 fr:∀ y∈scope.names,y.2=.free→X.env.scope.names.lookup y.1=some .cell∨X.env.scope.names.lookup y.1=some .free
 fre:∀ x∈frees,scope.names.lookup x=some .free
 slots:js.map (fun j=>X.N[j]?)=frees.map some
section
variable {X:Cx} {pins:List (Addr×Obj)} {σ:St} {scope:Scope} {own frees:LS} {js:List Nat}
end
section
variable {X:Cx} {scope:Scope} {own frees:LS} {js:List Nat} {tg iter elt:Expr} {ifs:List Expr} {wi:TI} {g:TG} {tt:TT} {te:TE} {pos:Pos}
end
section
variable {prog:Program} {w:World} {A:Around} {E:Value→Shared→Prop} {s:Shared} {r:Addr}
end
section
variable {X:Cx}
end
structure IsCls (K:Fg) (D:Addr):Prop where
 ha:W.findIn K (.ref D) "__class__"=some (some (.builtin "object.__class__"))
 hn:W.specialIn K (.builtin "object.__class__") "__get__"=some (some (.builtin "getset_descriptor.__get__"))
 ht:W.takesIn K (.builtin "object.__class__")=some true
 hm:W.mroIn K D (.type "object")=some true
 ki:W.kitOne K (.ref D) (.ref D)=some true
section
variable {prog:Program} {w:World} {A:Around}
end
section
variable {X:Cx}
end
section
variable {X:Cx} {pins:List (Addr×Obj)} {σ:St} {H:Hp} {s:Shared} {a:Addr} {o:Obj} {kvs:List (List Key×V)}
end
end L2
namespace L2
open PySem PySem.Spec PySem.Builtin
section
variable {X:Cx}
end
end L2
namespace L2
open PySem PySem.Spec PyProof.Rows
section
variable {X:Cx} {C D f:Addr} {fd:FuncData} {k:Nat} {x dn a:Str} {np cpos pos apos pos':Pos} {e o value:Expr} {es:List Expr} {t:TA} {ta tv:TE} {ps:LS}
end
end L2
namespace L2
open PySem PySem.Spec PySem.Builtin
section
variable {X:Cx}
end
section
variable {X:Cx}
end
end L2
namespace L2
open PySem PySem.Spec PyProof.Rows
structure ZLt (h:Heap) (z ti to i1 i2 l1 l2:Addr) (k:Nat) (f:Value):Prop where
 z:IsZip h z ti to f
 ti:IsPair h ti (.ref i1) (.ref i2)
 to:∃ a b,IsPair h to a b
 i1:h.IsListIter i1 l1 k
 i2:h.IsListIter i2 l2 k
section
variable {prog:Program} {w:World} {A:Around} {E:Value→Shared→Prop} {s:Shared}
end
section
variable {X:Cx}
end
structure Tp (K:Fg) (x:Str) (st:Stmt) (f:Addr) (fd:FuncData):Prop where
 a:W.nsIn K mainGlobals x=some (some (.ref f))
 fn:Fun K x x st f fd
structure Mp (K:Fg) (C:Addr) (x q:Str) (st:Stmt) (f:Addr) (fd:FuncData):Prop where
 a:W.findIn K (.ref C) x=some (some (.ref f))
 i:W.isFn K (.ref f)=true
 fn:Fun K x q st f fd
structure Cp (K:Fg) (x:Str) (C:Addr):Prop where
 a:W.nsIn K mainGlobals x=some (some (.ref C))
 pg:W.plainGet K C Str.empty=true
 hd:W.hasDictIn K C=true
 po:W.plainOver K C=true
 sa:W.findIn K (.ref C) "__setattr__"=some (some (.builtin "object.__setattr__"))
 mx:W.makesIn K C=true
 kc:W.keepIn K (.ref C)=true
section
variable {K:Fg} {x q:Str} {st:Stmt} {f C:Addr} {oc:Value} {od an:Option Addr} {osl:Array (Option Value)} {kV doc pm cdv ct:Value}
def tp (a:W.nsIn K mainGlobals x=some (some (.ref f))) (l:K.lookup f=some ⟨oc,od,.func (W.fnOf x x (defArgs st) (defBody st) (defScope st) .none kV doc pm an cdv ct),osl⟩) (c:W.codeIn K cdv x=true) (k:W.keepIn K (.ref f)=true):
  Tp K x st f (W.fnOf x x (defArgs st) (defBody st) (defScope st) .none kV doc pm an cdv ct):=⟨a,fun_mk l c k⟩
def mp (a:W.findIn K (.ref C) x=some (some (.ref f))) (i:W.isFn K (.ref f)=true) (l:K.lookup f=some ⟨oc,od,.func (W.fnOf x q (defArgs st) (defBody st) (defScope st) .none kV doc pm an cdv ct),osl⟩) (c:W.codeIn K cdv q=true) (k:W.keepIn K (.ref f)=true):
  Mp K C x q st f (W.fnOf x q (defArgs st) (defBody st) (defScope st) .none kV doc pm an cdv ct):=⟨a,i,fun_mk l c k⟩
end
section
variable {K:Fg} {mg:Str→Option Value} {x q:Str} {st:Stmt} {f:Addr} {fd:FuncData} {h:Heap}
def ln1 {us:List Value}(h:us.length=1):∃ a,us=[a]:=List.length_eq_one_iff.mp h
def ln2 {us:List Value}(h:us.length=2):∃ a b,us=[a,b]:=by
 cases us with
 | nil=>cases h
 | cons a r=>obtain ⟨_,rfl⟩:=ln1 (Nat.succ.inj h);exact ⟨_,_,rfl⟩
def ln3 {us:List Value}(h:us.length=3):∃ a b c,us=[a,b,c]:=by
 cases us with
 | nil=>cases h
 | cons a r=>obtain ⟨_,_,rfl⟩:=ln2 (Nat.succ.inj h);exact ⟨_,_,_,rfl⟩
def ln4 {us:List Value}(h:us.length=4):∃ a b c d,us=[a,b,c,d]:=by
 cases us with
 | nil=>cases h
 | cons a r=>obtain ⟨_,_,_,rfl⟩:=ln3 (Nat.succ.inj h);exact ⟨_,_,_,_,rfl⟩
def ln5 {us:List Value}(h:us.length=5):∃ a b c d e,us=[a,b,c,d,e]:=by
 cases us with
 | nil=>cases h
 | cons a r=>obtain ⟨_,_,_,_,rfl⟩:=ln4 (Nat.succ.inj h);exact ⟨_,_,_,_,_,rfl⟩
def ln6 {us:List Value}(h:us.length=6):∃ a b c d e f,us=[a,b,c,d,e,f]:=by
 cases us with
 | nil=>cases h
 | cons a r=>obtain ⟨_,_,_,_,_,rfl⟩:=ln5 (Nat.succ.inj h);exact ⟨_,_,_,_,_,_,rfl⟩
def ln7 {us:List Value}(h:us.length=7):∃ a b c d e f g,us=[a,b,c,d,e,f,g]:=by
 cases us with
 | nil=>cases h
 | cons a r=>obtain ⟨_,_,_,_,_,_,rfl⟩:=ln6 (Nat.succ.inj h);exact ⟨_,_,_,_,_,_,_,rfl⟩
def bn1 (a:Str) (F:Fun K x q st f fd) (e:∀ (kV doc pm:Value) (an:Option Addr) (cdv ct u:Value),bindArgs (W.fnOf x q (defArgs st) (defBody st) (defScope st) .none kV doc pm an cdv ct) ⟨[u],[]⟩=pure ([a].zip [u]):=by intros;rfl):Binds K fd [a] [] :=
 F.binds fun _ _ _ _ _ _ us hl=>by
 obtain ⟨_,rfl⟩:=ln1 hl
 exact e ..
def bn2 (a b:Str) (F:Fun K x q st f fd) (e:∀ (kV doc pm:Value) (an:Option Addr) (cdv ct u v:Value),bindArgs (W.fnOf x q (defArgs st) (defBody st) (defScope st) .none kV doc pm an cdv ct) ⟨[u,v],[]⟩=pure ([a,b].zip [u,v]):=by intros;rfl):Binds K fd [a,b] [] :=
 F.binds fun _ _ _ _ _ _ us hl=>by
 obtain ⟨_,_,rfl⟩:=ln2 hl
 exact e ..
def bn3 (a b c:Str) (F:Fun K x q st f fd) (e:∀ (kV doc pm:Value) (an:Option Addr) (cdv ct u v w:Value),bindArgs (W.fnOf x q (defArgs st) (defBody st) (defScope st) .none kV doc pm an cdv ct) ⟨[u,v,w],[]⟩=pure ([a,b,c].zip [u,v,w]):=by intros;rfl):Binds K fd [a,b,c] [] :=
 F.binds fun _ _ _ _ _ _ us hl=>by
 obtain ⟨_,_,_,rfl⟩:=ln3 hl
 exact e ..
def bn4 (a b c d:Str) (F:Fun K x q st f fd) (e:∀ (kV doc pm:Value) (an:Option Addr) (cdv ct u v w y:Value),bindArgs (W.fnOf x q (defArgs st) (defBody st) (defScope st) .none kV doc pm an cdv ct) ⟨[u,v,w,y],[]⟩=pure ([a,b,c,d].zip [u,v,w,y]):=by intros;rfl):Binds K fd [a,b,c,d] [] :=
 F.binds fun _ _ _ _ _ _ us hl=>by
 obtain ⟨_,_,_,_,rfl⟩:=ln4 hl
 exact e ..
def bn5 (a b c d g:Str) (F:Fun K x q st f fd) (e:∀ (kV doc pm:Value) (an:Option Addr) (cdv ct u v w y z:Value),bindArgs (W.fnOf x q (defArgs st) (defBody st) (defScope st) .none kV doc pm an cdv ct) ⟨[u,v,w,y,z],[]⟩=pure ([a,b,c,d,g].zip [u,v,w,y,z]):=by intros;rfl):Binds K fd [a,b,c,d,g] [] :=
 F.binds fun _ _ _ _ _ _ us hl=>by
 obtain ⟨_,_,_,_,_,rfl⟩:=ln5 hl
 exact e ..
def bn7 (a b c d g i j:Str) (F:Fun K x q st f fd) (e:∀ (kV doc pm:Value) (an:Option Addr) (cdv ct u v w y z r s:Value),bindArgs (W.fnOf x q (defArgs st) (defBody st) (defScope st) .none kV doc pm an cdv ct) ⟨[u,v,w,y,z,r,s],[]⟩=pure ([a,b,c,d,g,i,j].zip [u,v,w,y,z,r,s]):=by intros;rfl):Binds K fd [a,b,c,d,g,i,j] [] :=
 F.binds fun _ _ _ _ _ _ us hl=>by
 obtain ⟨_,_,_,_,_,_,_,rfl⟩:=ln7 hl
 exact e ..
def df {ps:LS}(X:K.In h) (G:h.Ns mainGlobals mg) (T:Tp K x st f fd) (b:Binds K fd ps []):Def K mg x st ps f fd:=⟨T.fn,b,W.mg_of X G T.a⟩
theorem Tp.ex {x q:Str}(F:Fun K x q st f fd):∃ (kV doc pm:Value) (an:Option Addr) (cdv ct:Value),fd=W.fnOf x q (defArgs st) (defBody st) (defScope st) .none kV doc pm an cdv ct:=by
 obtain ⟨oc,od,kV,doc,pm,an,cdv,ct,osl,e,_⟩:=F.ex
 exact ⟨kV,doc,pm,an,cdv,ct,e⟩
end
end L2
namespace PySem
open Builtin AutoSeq1
end PySem
namespace L2
open PySem PySem.Spec PyProof.Rows
section
variable {X:Cx}
end
end L2
namespace L2
open PySem PySem.Spec PyProof.Rows PySem.W
section
variable {X:Cx}
end
end L2
namespace K62
open PySem L2
variable {P:Program} {w:World} {K:Fg} {mg:Str→Option Value} {base:Heap}
def top (i:Nat):Stmt:=PySem.Challenge.pw_manydeeds_k62_books_refused.main.body.getD i (.Pass ⟨0,0,0,0⟩)
abbrev s_NoKind___init__:Stmt:=inClass (top 3) 0
abbrev s_Twice___init__:Stmt:=inClass (top 4) 0
abbrev s_NoName___init__:Stmt:=inClass (top 5) 0
abbrev s_NoDeed___init__:Stmt:=inClass (top 7) 0
abbrev s_Same___init__:Stmt:=inClass (top 8) 0
abbrev s_is_call:Stmt:=top 22
abbrev s_check_deeds:Stmt:=top 24
abbrev s_Board___init__:Stmt:=inClass (top 25) 0
abbrev s_is_word:Stmt:=top 31
abbrev s_check_rows:Stmt:=top 32
abbrev s_check_ups:Stmt:=top 33
abbrev s_first_among:Stmt:=top 34
abbrev s_endless:Stmt:=top 35
abbrev s_find_ring:Stmt:=top 36
abbrev s_all_above:Stmt:=top 37
abbrev s_Kinds___init__:Stmt:=inClass (top 38) 0
abbrev s_Kinds_has:Stmt:=inClass (top 38) 1
abbrev s_check_makes:Stmt:=top 41
abbrev s_Book___init__:Stmt:=inClass (top 42) 0
abbrev s_Book_words:Stmt:=inClass (top 42) 3
abbrev s__law_pot:Stmt:=top 44
abbrev s__law_take:Stmt:=top 45
abbrev s__law_letters:Stmt:=top 46
abbrev s__law_word:Stmt:=top 47
abbrev s__law_words:Stmt:=top 48
abbrev s__law_ups:Stmt:=top 49
abbrev s__law_rows:Stmt:=top 50
abbrev s__law_above:Stmt:=top 51
abbrev s__law_deeds:Stmt:=top 52
abbrev s__law_places:Stmt:=top 54
abbrev s__law_chain:Stmt:=top 55
abbrev s__law_pairs:Stmt:=top 56
abbrev s__law_names:Stmt:=top 57
abbrev s__law_classes:Stmt:=top 58
abbrev s__law_refusal:Stmt:=top 59
abbrev s__law_is_word:Stmt:=top 60
abbrev s__law_no_word:Stmt:=top 61
abbrev s__law_book_due:Stmt:=top 62
abbrev s__law_book_heard:Stmt:=top 63
abbrev s__law_strange:Stmt:=top 64
abbrev s__law_bent:Stmt:=top 65
abbrev s_law:Stmt:=top 66
end K62
namespace K62
open PySem L2 Md
variable {P:Program} {w:World} {K:Fg} {mg:Str→Option Value} {base:Heap}
def spPot (K:Fg):Sp:=fun vs H Q _=>∃ (a:Addr) (k:Int) (ns:List Int),vs=[.ref a,.int k]∧SqL K H a (ns.map V.int)∧ns.length≤100∧0≤k∧k≤1000∧∀ p o,H p=none→PotO o→Q (.ref p) (upd H p o)
def spTake:Sp:=fun vs H Q _=>∃ (p:Addr) (m:Int) (o:HO),vs=[.ref p,.int m]∧H p=some o∧PotO o∧0<m∧m<4611686018427387904∧∀ (v:Int) o',0≤v→v<m→PotO o'→Q (.int v) (upd H p o')
def spLetters:Sp:=fun vs H Q _=>∃ n:Nat,vs=[.int n]∧n<26 ^ 9∧Q (.str (lettersS n)) H
def scPot:FnScope ["script","k","cell","rest"] ["script","k"] (defScope s__law_pot):=by nofun
def big_eq:(10:Int) ^ (64:Int).toNat * 10 ^ (64:Int).toNat * 10 ^ (64:Int).toNat * 10 ^ (64:Int).toNat=10 ^ 256:=by decide +kernel
def ok_pot(F:Def K mg "_law_pot" s__law_pot ["script","k"] f fd) (len:mg "len"=none):⋯ 1 f fd ["script","k"] (spPot K):=by
 nomatch F.fn.ok scPot
 ·obtain ⟨a,k,ns,rfl,_⟩:=h
  rfl
 ·obtain ⟨a,k,ns,rfl,hS,hl,hk0,hk1,q⟩:=h
  refine ⟨_,pS (ps_set (i:=2) scPot.nd rfl (Or.inl rfl) pe_int)
   (pss_cut (ps_if (pt_cmpR op_lt (pv 1) (pe_callB call_len (by rfl) len PySem.boot_len (pC (pv 0) pa_nil)) (nomark _))
    (pss_one (ps_set (i:=2) scPot.nd rfl (Or.inl rfl) (pe_op op_mod (pe_ix ix_list (pv 0) (pv 1) (fun _ _=>rfl))
     (pe_op op_mulB (pe_op op_mulB (pe_op op_mulB (pe_op op_pow pe_int pe_int) (pe_op op_pow pe_int pe_int)) (pe_op op_pow pe_int pe_int)) (pe_op op_pow pe_int pe_int))))) pss_nil)
   (pS (ps_set (i:=3) scPot.nd rfl (Or.inl rfl) pe_int)
   (pss_cut (ps_if (pt_cmpR op_ge (pv 2) (pe_op op_pow pe_int pe_int) (nomark _)) (pss_one (ps_set (i:=3) scPot.nd rfl (Or.inl rfl) (pv 2))) pss_nil)
   (pss_one (ps_ret (pe_lst (pC (pv 3) (pC (pe_op op_mod (pe_op op_mul (pe_op op_add (pe_op op_add (pe_op op_mod (pv 2) pe_int) (pe_op op_mul pe_int (pv 1))) pe_int) pe_int) pe_int) pa_nil)))))))),?_⟩
  refine ⟨fun σ' H'=>H'=H∧∃ c:Int,0≤c∧c<10 ^ 256∧σ'=[some (.ref a),some (.int k),some (.int c),none],?_,?_⟩
  ·refine ⟨_,rfl,_,rfl,_,_,rfl,.inl ⟨_,hS,rfl⟩,_,_,rfl,rfl,_,rfl,?_⟩
   refine ite2 (fun h1=>?_) (fun h1=>?_)
   ·have h1:k<((ns.map V.int).length:Int):=of_decide_eq_true h1
    rw [List.length_map] at h1
    have hi:k.toNat<ns.length:=by omega
    have hat:atI (ns.map V.int) k=some (V.int ns[k.toNat]):=by
     have e:(ns.map V.int)[k.toNat]?=some (V.int ns[k.toNat]):=by rw [List.getElem?_map,List.getElem?_eq_getElem hi];rfl
     have:=atI_nat e
     rwa [Int.toNat_of_nonneg hk0] at this
    refine ⟨_,rfl,_,rfl,_,_,_,_,rfl,rfl,hS,hat,_,_,rfl,rfl,⟨by decide,by decide,by decide +kernel⟩,_,_,rfl,rfl,⟨by decide,by decide,by decide +kernel⟩,_,_,rfl,rfl,⟨by decide +kernel,by decide +kernel⟩,
     _,_,rfl,rfl,⟨by decide,by decide,by decide +kernel⟩,_,_,rfl,rfl,⟨by decide +kernel,by decide +kernel⟩,_,_,rfl,rfl,⟨by decide,by decide,by decide +kernel⟩,_,_,rfl,rfl,⟨by decide +kernel,by decide +kernel⟩,_,_,rfl,rfl,?_,rfl,_,?_,?_,rfl⟩
    ·show (0:Int)<_
     rw [big_eq];decide +kernel
    ·rw [big_eq];exact Int.emod_nonneg _ (by decide +kernel)
    ·rw [big_eq];exact Int.emod_lt_of_pos _ (by decide +kernel)
   ·exact ⟨rfl,0,by decide,by decide +kernel,rfl⟩
  ·rintro σ' H' ⟨rfl,c,hc0,hc1,rfl⟩
   refine ⟨fun σ2 H2=>H2=H'∧∃ r:Int,0≤r∧r<10 ^ 256∧σ2=[some (.ref a),some (.int k),some (.int c),some (.int r)],?_,?_⟩
   ·refine ⟨_,rfl,_,_,rfl,rfl,⟨by decide,by decide,by decide +kernel⟩,_,_,rfl,rfl,_,rfl,?_⟩
    refine ite2 (fun h1=>?_) (fun h1=>?_)
    ·exact ⟨_,rfl,rfl,c,hc0,hc1,rfl⟩
    ·exact ⟨rfl,0,by decide,by decide +kernel,rfl⟩
   ·rintro σ2 H2 ⟨rfl,r,hr0,hr1,rfl⟩
    have m0:=Int.emod_nonneg c (b:=2147483629) (by decide)
    have m1:=Int.emod_lt_of_pos c (b:=2147483629) (by decide)
    refine ⟨_,rfl,_,rfl,_,_,rfl,rfl,(by show (0:Int)<2147483629;decide),_,rfl,_,_,rfl,rfl,.inl ⟨by decide,by decide⟩,_,_,rfl,rfl,_,_,rfl,rfl,_,_,rfl,rfl,.inr ⟨by decide,by decide⟩,_,_,rfl,rfl,(by show (0:Int)<2147483647;decide),sL (by show 2≤100000;decide),fun p hp=>?_⟩
    refine q p _ hp ⟨r,_,rfl,hr0,hr1,Int.emod_nonneg _ (by decide),Int.emod_lt_of_pos _ (by decide)⟩
def scTake:FnScope ["pot","many","found"] ["pot","many"] (defScope s__law_take):=by nofun
def ok_take(F:Def K mg "_law_take" s__law_take ["pot","many"] f fd):⋯ 1 f fd ["pot","many"] spTake:=by
 nomatch F.fn.ok scTake
 ·obtain ⟨p,m,o,rfl,_⟩:=h
  rfl
 ·obtain ⟨p,m,o,rfl,hp,⟨r,b,rfl,hr0,hr1,hb0,hb1⟩,hm0,hm1,q⟩:=h
  refine ⟨_,pS (ps_if (pt_cmpR op_gt (pe_ix ix_list (pv 0) pe_int (fun _ _=>rfl)) pe_int (nomark _))
    (pS (ps_set (i:=2) scTake.nd rfl (Or.inl rfl) (pe_op op_mod (pe_ix ix_list (pv 0) pe_int (fun _ _=>rfl)) (pv 1)))
    (pS (ps_asg (pe_op op_fdivB (pe_ix ix_list (pv 0) pe_int (fun _ _=>rfl)) (pv 1)) (pg_sub (pv 0) pe_int set_list)) (pss_one (ps_ret (pv 2))))) pss_nil)
   (pS (ps_asg (pe_op op_mod (pe_op op_add (pe_op op_mul (pe_ix ix_list (pv 0) pe_int (fun _ _=>rfl)) pe_int) pe_int) pe_int) (pg_sub (pv 0) pe_int set_list))
   (pss_one (ps_ret (pe_op op_mod (pe_op op_fdiv (pe_op op_mod (pe_op op_mul (pe_ix ix_list (pv 0) pe_int (fun _ _=>rfl)) (pe_ix ix_list (pv 0) pe_int (fun _ _=>rfl))) pe_int) pe_int) (pv 1))))),?_⟩
  refine ⟨_,rfl,p,_,_,_,rfl,rfl,SqL.of hp,rfl,_,_,rfl,rfl,_,rfl,?_⟩
  refine ite2 (fun h1=>?_) (fun h1=>?_)
  ·refine ⟨_,rfl,p,_,_,_,rfl,rfl,SqL.of hp,rfl,_,rfl,_,_,rfl,rfl,hm0,?_⟩
   refine ⟨_,rfl,p,_,_,_,rfl,rfl,SqL.of hp,rfl,_,rfl,_,_,rfl,rfl,⟨hm0,hm1⟩,?_⟩
   refine ⟨_,rfl,p,_,_,0,rfl,rfl,hp,rfl,_,rfl,?_⟩
   have h1:0<r:=of_decide_eq_true h1
   exact q _ _ (Int.emod_nonneg _ (by omega)) (Int.emod_lt_of_pos _ hm0) ⟨r / m,b,rfl,Int.ediv_nonneg hr0 (by omega),Int.lt_of_le_of_lt (Int.ediv_le_self _ hr0) hr1,hb0,hb1⟩
  ·refine ⟨_,rfl,p,_,_,_,rfl,rfl,SqL.of hp,rfl,_,_,rfl,rfl,.inr ⟨by decide,by decide⟩,_,_,rfl,rfl,_,_,rfl,rfl,(by show (0:Int)<2147483647;decide),?_⟩
   refine ⟨_,rfl,p,_,_,1,rfl,rfl,hp,rfl,?_⟩
   have m0:=Int.emod_nonneg (b * 69621 + 12345) (b:=2147483647) (by decide)
   have m1:=Int.emod_lt_of_pos (b * 69621 + 12345) (b:=2147483647) (by decide)
   refine ⟨_,rfl,p,_,_,_,rfl,rfl,SqL.of uS,rfl,_,rfl,p,_,_,_,rfl,rfl,SqL.of uS,rfl,_,_,rfl,rfl,.inl ⟨by omega,by omega⟩,_,_,rfl,rfl,(by show (0:Int)<2147483629;decide),_,_,rfl,rfl,⟨by decide,by decide⟩,_,rfl,_,_,rfl,rfl,hm0,?_⟩
   exact q _ _ (Int.emod_nonneg _ (by omega)) (Int.emod_lt_of_pos _ hm0) ⟨r,_,rfl,hr0,hr1,m0,m1⟩
def scLet:FnScope ["number","word"] ["number"] (defScope s__law_letters):=by nofun
def ok_letters(F:Def K mg "_law_letters" s__law_letters ["number"] f fd):⋯ 1 f fd ["number"] spLetters:=by
 nomatch F.fn.ok scLet
 ·obtain ⟨n,rfl,_⟩:=h
  rfl
 ·obtain ⟨n,rfl,hn,q⟩:=h
  have nd:=scLet.nd
  refine ⟨_,pS (ps_set (i:=1) nd rfl (Or.inl rfl) pe_str)
   (pS (ps_while PassesOwn.never (pw_or (pt_cmpR op_eq (pv 1) pe_str (nomark _)) (pw_or1 (pt_cmpR op_gt (pv 0) pe_int (nomark _)))).pt
    (pS (ps_set (i:=1) nd rfl (Or.inl rfl) (pe_op op_add_str (pv 1) (pe_ix ix_str pe_str (pe_op op_mod (pv 0) pe_int) (fun _ _=>rfl))))
    (pss_one (ps_set (i:=0) nd rfl (Or.inl rfl) (pe_op op_fdiv (pv 0) pe_int)))))
   (pss_one (ps_ret (pv 1)))),?_⟩
  have e0:("":Str).cps.toList=[]:=by decide +kernel
  have hlen:(lettersF n).length≤9:=lettersF_len 8 n hn
  refine ⟨fun m σ H2=>H2=H∧∃ (x:Str) (k:Nat),σ=[some (.int k),some (.str x)]∧m=k + (if x.cps.toList=[] then 1 else 0) ∧
   ((x.cps.toList=[]∧k=n)∨(x.cps.toList≠[]∧k=0∧x.cps.toList=lettersF n)∨(x.cps.toList≠[]∧0<k∧x.cps.toList++lettersF k=lettersF n)),⟨_,rfl,_,n,rfl,rfl,.inl ⟨e0,rfl⟩⟩,?_⟩
  rintro m σ H2 ⟨rfl,x,k,rfl,rfl,inv⟩
  have more:(x.cps.toList=[]∨0<k)→∃ N:St→Hp→Prop,(∀ σ' H',N σ' H'→∃ m',m'<k + (if x.cps.toList=[] then 1 else 0)∧(H'=H2∧∃ (y:Str) (j:Nat),σ'=[some (.int j),some (.str y)]∧m'=j + (if y.cps.toList=[] then 1 else 0) ∧
    ((y.cps.toList=[]∧j=n)∨(y.cps.toList≠[]∧j=0∧y.cps.toList=lettersF n)∨(y.cps.toList≠[]∧0<j∧y.cps.toList++lettersF j=lettersF n)))) ∧
    N [some (.int ((k:Int) / 26)),some (.str (x++⟨#[97 + k % 26]⟩))] H2:=fun hk=>by
   refine ⟨fun σ' H'=>σ'=[some (.int ((k:Int) / 26)),some (.str (x++⟨#[97 + k % 26]⟩))]∧H'=H2,?_,rfl,rfl⟩
   rintro σ' H' ⟨rfl,rfl⟩
   have el:(x++⟨#[97 + k % 26]⟩:Str).cps.toList=x.cps.toList++[97 + k % 26]:=app_list _ _
   have ne:(x++⟨#[97 + k % 26]⟩:Str).cps.toList≠[]:=by rw [el];simp
   have kd:((k:Int) / 26)=((k / 26:Nat):Int):=by omega
   have whole:(x.cps.toList++[97 + k % 26])++(if k / 26=0 then [] else lettersF (k / 26))=lettersF n:=by
    rw [List.append_assoc,List.singleton_append,← lettersF_eq]
    rcases inv with ⟨h1,h2⟩ | ⟨h1,h2,_⟩ | ⟨_,_,h3⟩
    ·rw [h1,h2];rfl
    ·rcases hk with z | z
     ·exact absurd z h1
     ·omega
    ·exact h3
   refine ⟨k / 26,?_,rfl,_,k / 26,by rw [kd],by rw [if_neg ne];rfl,?_⟩
   ·rcases hk with z | z
    ·rw [if_pos z];omega
    ·have:k / 26<k:=by omega
     omega
   ·right
    rw [el]
    by_cases z:k / 26=0
    ·rw [if_pos z,List.append_nil] at whole
     exact .inl ⟨by simp,z,whole⟩
    ·rw [if_neg z] at whole
     exact .inr ⟨by simp,by omega,whole⟩
  have xlen:x.length≤9:=by
   rw [← str_len]
   rcases inv with ⟨h1,_⟩ | ⟨_,_,h3⟩ | ⟨_,_,h3⟩
   ·rw [h1];simp
   ·rw [h3];exact hlen
   ·have:=congrArg List.length h3
    rw [List.length_append] at this
    omega
  have at1:atI letters.cps.toList ((k:Int) % 26)=some (97 + k % 26):=by
   have:=atI_nat (letters_at (i:=k % 26) (by omega))
   have e:((k % 26:Nat):Int)=(k:Int) % 26:=by omega
   rwa [e] at this
  refine ⟨_,rfl,rfl,_,rfl,?_⟩
  refine ite2 (fun h1=>?_) (fun h1=>?_)
  ·have hx:x.cps.toList=[]:=by
    have:=of_decide_eq_true h1
    injection this with this
    rw [this];exact e0
   obtain ⟨N,hN,n0⟩:=more (.inl hx)
   refine iteT ⟨N,hN,?_⟩
   exact ⟨_,rfl,_,rfl,_,_,rfl,rfl,(by show (0:Int)<26;decide),_,_,_,rfl,rfl,sL (by rw [← str_len,letters_eq];decide),at1,_,_,rfl,rfl,sL (by rw [len_one];omega),_,rfl,_,_,rfl,rfl,⟨by decide,by decide⟩,n0⟩
  ·have hx:x.cps.toList≠[]:=fun z=>h1 (decide_eq_true (by rw [str_ext (z.trans e0.symm)]))
   refine ⟨_,rfl,_,_,rfl,rfl,_,rfl,?_⟩
   refine ite2 (fun h2=>?_) (fun h2=>?_)
   ·have hk:0<k:=by have:(0:Int)<(k:Int):=of_decide_eq_true h2;omega
    obtain ⟨N,hN,n0⟩:=more (.inr hk)
    refine ⟨N,hN,?_⟩
    exact ⟨_,rfl,_,rfl,_,_,rfl,rfl,(by show (0:Int)<26;decide),_,_,_,rfl,rfl,sL (by rw [← str_len,letters_eq];decide),at1,_,_,rfl,rfl,sL (by rw [len_one];omega),_,rfl,_,_,rfl,rfl,⟨by decide,by decide⟩,n0⟩
   ·have hk:k=0:=by
     have:¬ (0:Int)<(k:Int):=fun z=>h2 (decide_eq_true z)
     omega
    have hf:x=lettersS n:=by
     refine str_ext ?_
     rw [lettersS_list]
     rcases inv with ⟨h1,_⟩ | ⟨_,_,h3⟩ | ⟨_,h2,_⟩
     ·exact absurd h1 hx
     ·exact h3
     ·omega
    rw [hf]
    exact ⟨_,rfl,q⟩
structure WordsOk (ws:LS):Prop where
 word:∀ x∈ws,isWord x=true
 nd:ws.Nodup
def spWord:Sp:=fun vs H Q _=>∃ (p a:Addr) (ws:LS),vs=[.ref p,.ref a]∧p≠a∧(∃ o,H p=some o∧PotO o)∧H a=some (.lst (ws.map V.str))∧WordsOk ws∧ws.length≤24 ∧
 ∀ x H',Drawn p H H'→isWord x=true→x∉ws→Q (.str x) H'
def spWords:Sp:=fun vs H Q _=>∃ (p:Addr) (m:Nat),vs=[.ref p,.int m]∧(∃ o,H p=some o∧PotO o)∧m≤24 ∧
 ∀ l (ws:LS) H',Drawn p H H'→H l=none→H' l=some (.lst (ws.map V.str))→WordsOk ws→ws.length=m→Q (.ref l) H'
def some13:LS:=["kind","under","name","deed","gives","with","none","clash","a","ab","abc","abcdefgh","even"]
def some13_ok:some13.all isWord=true:=by decide +kernel
def at_strs {ws:LS}{v:Int} (h0:0≤v) (h1:v<ws.length):∃ x,x∈ws∧atI (ws.map V.str) v=some (.str x):=by
 have hi:v.toNat<ws.length:=by omega
 have e:(ws.map V.str)[v.toNat]?=some (V.str ws[v.toNat]):=by rw [List.getElem?_map,List.getElem?_eq_getElem hi];rfl
 have:=atI_nat e
 rw [Int.toNat_of_nonneg h0] at this
 exact ⟨_,List.getElem_mem hi,this⟩
def ne_nil_dat (ws:LS):(!dEq (.list (ws.map W.Dat.str)) (.list []))=true↔ws≠[]:=by
 cases ws with
 | nil=>simp [dEq_self]
 | cons w r =>
  rw [dEq_neg (by simp)]
  simp
def ok_dat {ws:LS}(h:∀ x∈ws,isWord x=true):W.kqdOk 9 (.list (ws.map W.Dat.str))=true:=by
 show (ws.map W.Dat.str).all (W.kqdOk 8)=true
 rw [List.all_eq_true]
 intro d hd
 obtain ⟨x,hx,e⟩:=List.mem_map.mp hd
 rw [← e]
 exact word_ok (h x hx)
def scWord:FnScope ["pot","words","some","way","word","number"] ["pot","words"] (defScope s__law_word):=by nofun
def prefix_word {x y:Str}{n:Nat}(hn:1≤n) (h:y.cps.toList=x.cps.toList.take n) (h1:1≤x.length) (h8:x.length≤8∨n≤8) (hl:∀ c∈x.cps.toList,isLow c=true):isWord y=true:=by
 rw [isWord_iff,h,List.length_take,str_len]
 refine ⟨⟨by omega,by omega⟩,fun c hc=>hl c (List.mem_of_mem_take hc)⟩
def tupStrs:Expr→Option (LS)
 | .Tuple es _ _=>strsOf es
 | _=>none
def pe_tupOf {X:Cx}{ws:LS}:∀ {e:Expr},tupStrs e=some ws→PE X e (tTup (fun _ H Q=>Q (ws.map V.str) H)):=by
 intro e h
 cases e with
 | Tuple es x p=>exact pe_tup (pa_strsOf h)
 | _=>cases h
def bodyE:Stmt→Expr
 | .Assign _ e _=>e
 | _=>.Constant (.int 0) 0 ⟨0,0,0,0⟩
def hdS:List Stmt→Stmt
 | s :: _=>s
 | []=>.Pass ⟨0,0,0,0⟩
def e13:tupStrs (bodyE (hdS (defBody s__law_word)))=some some13:=by decide +kernel
def t13:TE:=tTup (fun _ H Q=>Q (some13.map V.str) H)
def pe_13g {X:Cx}{e:Expr}(h:tupStrs e=some some13):PE X e t13:=pe_tupOf h
def isTup:Expr→Bool
 | .Tuple _ _ _=>true
 | _=>false
def sw_tup {e:Expr}{t:Option Expr}{l:Nat}{env:Env}(h:isTup e=true):swapsWith e t l env=pure false:=by
 cases e with
 | Tuple es x p=>rfl
 | _=>cases h
def asgs:Stmt→Option (Str×Expr)
 | .Assign [.Name x _] e _=>some (x,e)
 | _=>none
def ps_asgs {X:Cx}{st:Stmt}{i:Nat}{x:Str}{e:Expr}{te:TE}(h:asgs st=some (x,e)) (he:PE X e te) (ht:isTup e=true) (hN:X.N.Nodup) (hi:X.N[i]?=some x) (hx:Loc X.env.scope x) (hf:X.fn x=true∨X.env.scope.names.lookup x=some .local):PS X st (tAsg te (gName i)):=by
 unfold asgs at h
 split at h
 ·next x' p' e' p =>
  have h1:x'=x:=congrArg Prod.fst (Option.some.inj h)
  have h2:e'=e:=congrArg Prod.snd (Option.some.inj h)
  subst h1
  subst h2
  exact ps_set hN hi hx he (sw_tup ht) hf
 ·cases h
def s13:Stmt:=hdS (defBody s__law_word)
def e13x:Expr:=bodyE s13
def a13:asgs s13=some (("some":Str),e13x):=by rfl
def u13:isTup e13x=true:=by decide +kernel
def p13 {X:Cx}:PE X e13x t13:=@pe_13g X e13x e13
def ps_13 {X:Cx}(hN:X.N.Nodup) (hi:X.N[2]?=some ("some":Str)) (hx:Loc X.env.scope ("some":Str)) (hf:X.fn ("some":Str)=true∨X.env.scope.names.lookup ("some":Str)=some NameKind.local):PS X s13 (tAsg t13 (gName 2)):=
 @ps_asgs X s13 2 ("some":Str) e13x t13 a13 (@p13 X) u13 hN hi hx hf
def tlS:List Stmt→List Stmt
 | _ :: r=>r
 | []=>[]
def pss_hd {X:Cx}{l:List Stmt}{t u:TS} (h0:l.isEmpty=false) (h1:PS X (hdS l) t) (h2:PSs X (tlS l) u):PSs X l (tSeq t u):=by
 cases l with
 | nil=>cases h0
 | cons a r=>exact pS h1 h2
def n13:(defBody s__law_word).isEmpty=false:=by decide +kernel
def pss_13 {X:Cx}{u:TS}(hN:X.N.Nodup) (hi:X.N[2]?=some ("some":Str)) (hx:Loc X.env.scope ("some":Str)) (hf:X.fn ("some":Str)=true∨X.env.scope.names.lookup ("some":Str)=some NameKind.local) (h2:PSs X (tlS (defBody s__law_word)) u):PSs X (defBody s__law_word) (tSeq (tAsg t13 (gName 2)) u):=
 @pss_hd X (defBody s__law_word) (tAsg t13 (gName 2)) u n13 (@ps_13 X hN hi hx hf) h2
def ex_13 {X:Cx}{D:Ends}{σ:St}{H:Hp}(hN:X.N.Nodup) (hi:X.N[2]?=some ("some":Str)) (hx:Loc X.env.scope ("some":Str)) (hf:X.fn ("some":Str)=true∨X.env.scope.names.lookup ("some":Str)=some NameKind.local)
  (h:∃ u,PSs X (tlS (defBody s__law_word)) u∧tSeq (tAsg t13 (gName 2)) u D σ H):∃ t,PSs X (defBody s__law_word) t∧t D σ H:=by
 obtain ⟨u,h1,h2⟩:=h
 exact ⟨tSeq (tAsg t13 (gName 2)) u,@pss_13 X u hN hi hx hf h1,h2⟩
def ok_word(F:Def K mg "_law_word" s__law_word ["pot","words"] f fd) (DT:Def K mg "_law_take" s__law_take ["pot","many"] fT fdT) (DL:Def K mg "_law_letters" s__law_letters ["number"] fL fdL) (len:mg "len"=none):
  ⋯ 2 f fd ["pot","words"] spWord:=by
 have GT:⋯ 1 fT fdT ["pot","many"] spTake:=ok_take DT
 have GL:⋯ 1 fL fdL ["number"] spLetters:=ok_letters DL
 nomatch F.fn.ok scWord
 ·obtain ⟨p,a,ws,rfl,_⟩:=h
  rfl
 ·obtain ⟨p,a,ws,rfl,hpa,hpot,ha,hw,hl24,q⟩:=h
  have nd:=scWord.nd
  have hu:=hr.units
  refine @ex_13 _ _ _ _ nd rfl (Or.inl rfl) (Or.inl rfl) ?_
  refine ⟨_,(pS (ps_set (i:=3) nd rfl (Or.inl rfl) (pe_callD DT GT hr (pC (pv 0) (pC pe_int pa_nil))))
   (pS (ps_set (i:=4) nd rfl (Or.inl rfl) (pe_ix ix_tup (pv 2) (pe_callD DT GT hr (pC (pv 0) (pC pe_int pa_nil))) (fun _ _=>rfl)))
   (pss_cut (ps_if (pt_cmpR op_eq (pv 3) pe_int (nomark _)) (pss_one (ps_set (i:=4) nd rfl (Or.inl rfl) (pe_callD DL GL hr (pC (pe_callD DT GT hr (pC (pv 0) (pC (pe_op op_sub (pe_op op_pow pe_int pe_int) pe_int) pa_nil))) pa_nil)))) pss_nil)
   (pss_cut (ps_if (pw_and (pt_cmpR op_eq (pv 3) pe_int (nomark _)) (pw_and1 (pt_cmpR (op_neD hu) (pv 1) (pe_lst pa_nil) (nomark _)))).pt
    (pS (ps_set (i:=4) nd rfl (Or.inl rfl) (pe_ix ix_list (pv 1) (pe_callD DT GT hr (pC (pv 0) (pC (pe_callB call_len (by rfl) len PySem.boot_len (pC (pv 1) pa_nil)) pa_nil))) (fun _ _=>rfl)))
    (pss_one (ps_set (i:=4) nd rfl (Or.inl rfl) (pe_slice sl_str (pe_op op_add_str (pv 4) (pe_callD DL GL hr (pC (pe_callD DT GT hr (pC (pv 0) (pC pe_int pa_nil))) pa_nil))) po_none (po_some pe_int))))) pss_nil)
   (pss_cut (ps_if (pw_and (pt_cmpR op_eq (pv 3) pe_int (nomark _)) (pw_and1 (pt_cmpR (op_neD hu) (pv 1) (pe_lst pa_nil) (nomark _)))).pt
    (pS (ps_set (i:=4) nd rfl (Or.inl rfl) (pe_ix ix_list (pv 1) (pe_callD DT GT hr (pC (pv 0) (pC (pe_callB call_len (by rfl) len PySem.boot_len (pC (pv 1) pa_nil)) pa_nil))) (fun _ _=>rfl)))
    (pss_one (ps_set (i:=4) nd rfl (Or.inl rfl) (pe_slice sl_str (pv 4) po_none (po_some (pe_op op_add pe_int (pe_callD DT GT hr (pC (pv 0) (pC (pe_callB call_len (by rfl) len PySem.boot_len (pC (pv 4) pa_nil)) pa_nil))))))))) pss_nil)
   (pS (ps_set (i:=5) nd rfl (Or.inl rfl) pe_int)
   (pS (ps_while PassesOwn.never (pt_cmpR op_in_seq (pv 4) (pv 1) (by with_unfolding_all rfl))
    (pS (ps_set (i:=4) nd rfl (Or.inl rfl) (pe_callD DL GL hr (pC (pv 5) pa_nil)))
    (pss_one (ps_set (i:=5) nd rfl (Or.inl rfl) (pe_op op_add (pv 5) pe_int)))))
   (pss_one (ps_ret (pv 4)))))))))),?_⟩
  have hap:a≠p:=Ne.symm hpa
  obtain ⟨o0,hp0,ho0⟩:=hpot
  have wl:∀ {H':Hp},Drawn p H H'→SqL K H' a (ws.map V.str):=fun d=>SqL.of (d.keep _ _ hap ha)
  refine ⟨sL (by show 13≤100000;decide),fun t ht=>?_⟩
  have d1:Drawn p H (upd H t (.tup (some13.map V.str))):=(Drawn.refl ⟨o0,hp0,ho0⟩).new ht
  have tp:t≠p:=fun e=>by rw [e,hp0] at ht;cases ht
  refine ⟨_,rfl,p,4,o0,rfl,(by rw [upd_ne (Ne.symm tp)];exact hp0),ho0,by decide,by decide,fun way o1 hw0 hw1 ho1=>?_⟩
  refine ⟨_,rfl,_,rfl,p,13,o1,rfl,uS,ho1,by decide,by decide,fun v o2 hv0 hv1 ho2=>?_⟩
  obtain ⟨x0,hx0,hat⟩:=at_strs (ws:=some13) hv0 (by show v<13;exact hv1)
  refine ⟨t,some13.map V.str,_,_,rfl,rfl,SqT.of (by rw [upd_ne tp,upd_ne tp];exact uS),hat,?_⟩
  have w0:isWord x0=true:=List.all_eq_true.mp some13_ok x0 hx0
  have d3:Drawn p H (upd (upd (upd H t (.tup (some13.map V.str))) p o1) p o2):=(d1.trans (Drawn.upd ho1)).trans (Drawn.upd ho2)
  refine ⟨fun σ' H'=>∃ x:Str,σ'=[some (.ref p),some (.ref a),some (.ref t),some (.int way),some (.str x),none]∧isWord x=true∧Drawn p H H',?_,?_⟩
  ·refine ⟨_,rfl,rfl,_,rfl,?_⟩
   refine ite2 (fun _=>?_) (fun _=>?_)
   ·obtain ⟨o3,hp3,ho3⟩:=d3.pot
    refine ⟨_,rfl,_,_,rfl,rfl,⟨by decide,by decide,by decide +kernel⟩,_,_,rfl,rfl,p,_,o3,rfl,hp3,ho3,by decide,by decide,fun v o4 hv0 hv1 ho4=>?_⟩
    have hv1:v<208827064550:=hv1
    refine ⟨v.toNat,by rw [Int.toNat_of_nonneg hv0];rfl,by omega,_,rfl,lettersS_word (by omega),d3.trans (Drawn.upd ho4)⟩
   ·exact ⟨x0,rfl,w0,d3⟩
  ·rintro σ' H1 ⟨x1,rfl,w1,d4⟩
   refine ⟨fun σ' H'=>∃ x:Str,σ'=[some (.ref p),some (.ref a),some (.ref t),some (.int way),some (.str x),none]∧isWord x=true∧Drawn p H H',?_,?_⟩
   ·refine ⟨_,rfl,rfl,_,rfl,?_⟩
    refine ite2 (fun _=>?_) (fun _=>iteF ⟨x1,rfl,w1,d4⟩)
    refine ⟨_,rfl,Nat.zero_le _,fun t2 ht2=>⟨.list (ws.map W.Dat.str),.list [],.list ((wl d4).mono_new ht2) (reps_strs ws),.list (SqL.of uS) .nil,ok_dat hw.word,rfl,_,rfl,?_⟩⟩
    have d5:Drawn p H (upd H1 t2 (.lst [])):=d4.new ht2
    refine ite2 (fun hne=>?_) (fun _=>⟨x1,rfl,w1,d5⟩)
    have hne:ws≠[]:=(ne_nil_dat ws).mp hne
    have hpos:0<ws.length:=List.length_pos_iff.mpr hne
    obtain ⟨o5,hp5,ho5⟩:=d5.pot
    refine ⟨_,rfl,_,rfl,_,rfl,_,_,rfl,.inl ⟨_,wl d5,rfl⟩,p,_,o5,rfl,hp5,ho5,by rw [List.length_map];omega,by rw [List.length_map];omega,fun v o6 hv0 hv1 ho6=>?_⟩
    rw [List.length_map] at hv1
    obtain ⟨x2,hx2,hat2⟩:=at_strs (ws:=ws) hv0 hv1
    have d6:Drawn p H (upd (upd H1 t2 (.lst [])) p o6):=d5.trans (Drawn.upd ho6)
    have w2:isWord x2=true:=hw.word x2 hx2
    refine ⟨a,ws.map V.str,_,_,rfl,rfl,wl d6,hat2,?_⟩
    refine ⟨_,rfl,_,rfl,p,26,o6,rfl,uS,ho6,by decide,by decide,fun v o7 hv0 hv1 ho7=>?_⟩
    refine ⟨v.toNat,by rw [Int.toNat_of_nonneg hv0];rfl,by omega,?_⟩
    have wl3:isWord (lettersS v.toNat)=true:=lettersS_word (by omega)
    have l2:=word_len w2
    have l3:=word_len wl3
    refine ⟨_,_,rfl,rfl,sL (by omega),_,rfl,_,rfl,sL (by rw [len_app];omega),?_⟩
    refine ⟨_,rfl,?_,d6.trans (Drawn.upd ho7)⟩
    refine prefix_word (x:=x2++lettersS v.toNat) (n:=8) (by decide) (slice_take _ 8 (by decide)) (by rw [len_app];omega) (.inr (Nat.le_refl _)) fun c hc=>?_
    rw [app_list] at hc
    rcases List.mem_append.mp hc with hc | hc
    ·exact ((isWord_iff x2).mp w2).2 c hc
    ·exact ((isWord_iff _).mp wl3).2 c hc
   ·rintro σ' H2 ⟨x2,rfl,w2,d5⟩
    refine ⟨fun σ' H'=>∃ x:Str,σ'=[some (.ref p),some (.ref a),some (.ref t),some (.int way),some (.str x),none]∧isWord x=true∧Drawn p H H',?_,?_⟩
    ·refine ⟨_,rfl,rfl,_,rfl,?_⟩
     refine ite2 (fun _=>?_) (fun _=>iteF ⟨x2,rfl,w2,d5⟩)
     refine ⟨_,rfl,Nat.zero_le _,fun t2 ht2=>⟨.list (ws.map W.Dat.str),.list [],.list ((wl d5).mono_new ht2) (reps_strs ws),.list (SqL.of uS) .nil,ok_dat hw.word,rfl,_,rfl,?_⟩⟩
     have d6:Drawn p H (upd H2 t2 (.lst [])):=d5.new ht2
     refine ite2 (fun hne=>?_) (fun _=>⟨x2,rfl,w2,d6⟩)
     have hne:ws≠[]:=(ne_nil_dat ws).mp hne
     have hpos:0<ws.length:=List.length_pos_iff.mpr hne
     obtain ⟨o6,hp6,ho6⟩:=d6.pot
     refine ⟨_,rfl,_,rfl,_,rfl,_,_,rfl,.inl ⟨_,wl d6,rfl⟩,p,_,o6,rfl,hp6,ho6,by rw [List.length_map];omega,by rw [List.length_map];omega,fun v o7 hv0 hv1 ho7=>?_⟩
     rw [List.length_map] at hv1
     obtain ⟨x3,hx3,hat3⟩:=at_strs (ws:=ws) hv0 hv1
     have d7:Drawn p H (upd (upd H2 t2 (.lst [])) p o7):=d6.trans (Drawn.upd ho7)
     have w3:isWord x3=true:=hw.word x3 hx3
     have l3:=word_len w3
     refine ⟨a,ws.map V.str,_,_,rfl,rfl,wl d7,hat3,?_⟩
     refine ⟨_,rfl,_,rfl,_,rfl,_,_,rfl,⟨sL (by omega),rfl⟩,p,_,o7,rfl,uS,ho7,by omega,by omega,fun v o8 hv0 hv1 ho8=>?_⟩
     refine ⟨_,_,rfl,rfl,_,rfl,_,rfl,sL (by omega),?_⟩
     refine ⟨_,rfl,?_,d7.trans (Drawn.upd ho8)⟩
     exact prefix_word (x:=x3) (n:=(1 + v).toNat) (by omega) (slice_take _ (1 + v) (by omega)) (by omega) (.inl (by omega)) ((isWord_iff x3).mp w3).2
    ·rintro σ' H3 ⟨x3,rfl,w3,d6⟩
     refine ⟨fun m σ H'=>∃ (x:Str) (n:Nat),σ=[some (.ref p),some (.ref a),some (.ref t),some (.int way),some (.str x),some (.int n)]∧isWord x=true∧Drawn p H H'∧m=ws.length + 1 - n∧n≤ws.length + 1 ∧
      (n=0∨x=lettersS (n - 1))∧∀ j,j + 1<n→lettersS j∈ws,⟨_,x3,0,rfl,w3,d6,rfl,by omega,.inl rfl,fun j hj=>by omega⟩,?_⟩
     rintro m σ H4 ⟨x,n,rfl,wx,dx,rfl,hn,hxn,hall⟩
     refine ⟨_,rfl,_,rfl,a,_,rfl,.inl (wl dx),rfl,flat_strs ws,_,rfl,?_⟩
     show if inV (.str x) (ws.map V.str)=true then _ else _
     rw [in_strs]
     refine ite2 (fun hin=>?_) (fun hin=>?_)
     ·have hin:x∈ws:=of_decide_eq_true hin
      have all:∀ j,j<n→lettersS j∈ws:=fun j hj=>by
       by_cases z:j + 1<n
       ·exact hall j z
       ·rcases hxn with e | e
        ·omega
        ·have:j=n - 1:=by omega
         rw [this,← e];exact hin
      have hle:n≤ws.length:=by
       have:=Graph.nodup_le (l:=(List.range n).map lettersS) (k:=ws) ?_ ?_
       ·simpa using this
       ·rw [List.nodup_iff_pairwise_ne,List.pairwise_map]
        exact (List.nodup_iff_pairwise_ne.mp List.nodup_range).imp fun h e=>h (lettersS_inj e)
       ·intro y hy
        obtain ⟨j,hj,e⟩:=List.mem_map.mp hy
        rw [← e]
        exact all j (List.mem_range.mp hj)
      refine ⟨fun σ' H'=>σ'=[some (.ref p),some (.ref a),some (.ref t),some (.int way),some (.str (lettersS n)),some (.int ((n:Int) + 1))]∧H'=H4,?_,?_⟩
      ·rintro σ' H' ⟨rfl,rfl⟩
       exact ⟨ws.length + 1 - (n + 1),by omega,lettersS n,n + 1,rfl,lettersS_word (by omega),dx,rfl,by omega,.inr rfl,fun j hj=>all j (by omega)⟩
      ·exact ⟨_,rfl,n,rfl,by omega,_,rfl,_,_,rfl,rfl,rfl,rfl⟩
     ·have hin:x∉ws:=fun z=>hin (decide_eq_true z)
      exact ⟨_,rfl,q x H4 dx wx hin⟩
def scWords:FnScope ["pot","many","words","k"] ["pot","many"] (defScope s__law_words):=by nofun
def ok_words(F:Def K mg "_law_words" s__law_words ["pot","many"] f fd) (DW:Def K mg "_law_word" s__law_word ["pot","words"] fW fdW) (DT:Def K mg "_law_take" s__law_take ["pot","many"] fT fdT) (DL:Def K mg "_law_letters" s__law_letters ["number"] fL fdL) (len:mg "len"=none) (range:mg "range"=none):
  ⋯ 3 f fd ["pot","many"] spWords:=by
 have GW:⋯ 2 fW fdW ["pot","words"] spWord:=ok_word DW DT DL len
 nomatch F.fn.ok scWords
 ·obtain ⟨p,m,rfl,_⟩:=h
  rfl
 ·obtain ⟨p,m,rfl,⟨o0,hp0,ho0⟩,hm,q⟩:=h
  have nd:=scWords.nd
  refine ⟨_,pS (ps_set (i:=2) nd rfl (Or.inl rfl) (pe_lst pa_nil))
   (pS (ps_for PassesOwn.never rfl (pi_range1 rfl range (pC (pv 1) pa_nil)) (pg_name (i:=3) nd rfl (Or.inl rfl))
    (pss_one (ps_expr (pe_bm PySem.F.plainAttrs_list PySem.F.slot_list_append PySem.F.type_list_append mt_append (pv 2) (pC (pe_callD DW GW hr (pC (pv 0) (pC (pv 2) pa_nil))) pa_nil)))))
   (pss_one (ps_ret (pv 2)))),?_⟩
  refine ⟨Nat.zero_le _,fun l hl=>?_⟩
  have lp:p≠l:=nNo hp0 hl
  refine ⟨_,rfl,m,rfl,by omega,by omega,for_runs runs_range (fun i σ H'=>∃ (ws:LS) (kv:Option V),σ=[some (.ref p),some (.int m),some (.ref l),kv]∧Drawn p H H'∧H' l=some (.lst (ws.map V.str))∧WordsOk ws∧ws.length=i)
   ⟨[],none,rfl,(Drawn.refl ⟨o0,hp0,ho0⟩).new hl,uS,⟨(fun _ h=>nomatch h),List.nodup_nil⟩,rfl⟩ (fun _ _ _ _ _=>trivial) ?_ ?_⟩
  ·rintro i v σ H' hi ⟨ws,kv,rfl,d,hw,ok,rfl⟩
   obtain ⟨hi,rfl⟩:=rangeV_get hi
   refine ⟨_,rfl,.inl ⟨rfl,_,SqL.of hw⟩,_,rfl,_,rfl,p,l,ws,rfl,lp,d.pot,hw,ok,by omega,fun x H2 d2 wx nx=>?_⟩
   have hw2:H2 l=some (.lst (ws.map V.str)):=d2.keep _ _ (Ne.symm lp) hw
   refine ⟨l,_,_,rfl,rfl,hw2,small_lt (by rw [List.length_map];omega),?_⟩
   refine ⟨ws++[x],_,rfl,?_,by rw [uS,List.map_append];rfl,⟨fun y hy=>?_,?_⟩,by simp⟩
   ·refine (d.trans d2).sub (q:=l) (o':=.lst []) (fun b o hb e=>by rw [upd_ne hb];exact e) hl lp
   ·rcases List.mem_append.mp hy with hy | hy
    ·exact ok.word y hy
    ·rw [List.mem_singleton.mp hy];exact wx
   ·rw [List.nodup_append]
    exact ⟨ok.nd,by simp,fun a ha b hb e=>nx (by rw [← List.mem_singleton.mp hb,← e];exact ha)⟩
  ·rintro σ H' ⟨ws,kv,rfl,d,hw,ok,hlen⟩
   rw [rangeV_len] at hlen
   exact ⟨_,rfl,q l ws H' d hl hw ok (by simpa using hlen)⟩
def intsV (js:List Nat):List V:=js.map fun (j:Nat)=>V.int (j:Int)
structure UpsOk (k:Nat) (js:List Nat):Prop where
 below:∀ j∈js,j<k
 nd:js.Nodup
 few:js.length≤8
def spUps:Sp:=fun vs H Q _=>∃ (p:Addr) (k sh:Nat),vs=[.ref p,.int k,.int sh]∧(∃ o,H p=some o∧PotO o)∧k≤24 ∧
 ∀ l (js:List Nat) H',Drawn p H H'→H' l=some (.lst (intsV js))→UpsOk k js→Q (.ref l) H'
structure TxtU (mg:Str→Option Value):Prop where
 range:mg "range"=none
 int:mg "int"=none
def scUps:FnScope ["pot","k","shape","one","other","bits"] ["pot","k","shape"] (defScope s__law_ups):=by nofun
abbrev nUps:LS:=["pot","k","shape","one","other","bits"]
def nd_j:(["j"]:LS).Nodup:=by decide +kernel
def nd_jb:(["j","bits"]:LS).Nodup:=by decide +kernel
def okJ (v:V):Bool:=match v with | .int i=>decide (0≤i) | _=>false
def eight:List V:=[.int 1,.int 2,.int 4,.int 8,.int 16,.int 32,.int 64,.int 128]
def bitV (bits:Int) (v:V):Bool:=match v with
 | .int j=>decide (j<8)&&(match atI eight j with | some (.int e)=>decide (bits / e % 2=1) | _=>false)
 | _=>false
def eight_at {j:Int} (h0:0≤j) (h1:j<8):∃ e:Int,atI eight j=some (.int e)∧0<e∧e<1000:=by
 have:∀ i:_root_.Fin 8,∃ e:Int,atI eight (i.1:Int)=some (.int e)∧0<e∧e<1000:=by
  intro i
  match i with
  | ⟨0,_⟩=>exact ⟨1,rfl,by decide,by decide⟩
  | ⟨1,_⟩=>exact ⟨2,rfl,by decide,by decide⟩
  | ⟨2,_⟩=>exact ⟨4,rfl,by decide,by decide⟩
  | ⟨3,_⟩=>exact ⟨8,rfl,by decide,by decide⟩
  | ⟨4,_⟩=>exact ⟨16,rfl,by decide,by decide⟩
  | ⟨5,_⟩=>exact ⟨32,rfl,by decide,by decide⟩
  | ⟨6,_⟩=>exact ⟨64,rfl,by decide,by decide⟩
  | ⟨7,_⟩=>exact ⟨128,rfl,by decide,by decide⟩
 have q:=this ⟨j.toNat,by omega⟩
 rwa [Int.toNat_of_nonneg h0] at q
def filt_range (k:Nat) (p:V→Bool):∃ js:List Nat,(rangeV 0 k).filter p=intsV js∧(∀ j∈js,j<k∧p (.int (j:Int))=true)∧js.Nodup:=by
 refine ⟨(List.range k).filter fun j=>p (.int (j:Int)),?_,fun j hj=>?_,List.nodup_range.filter _⟩
 ·unfold rangeV intsV
  rw [List.filter_map]
  have e:((fun (j:Nat)=>V.int (0 + (j:Int))))=fun (j:Nat)=>V.int (j:Int):=by
   funext j
   rw [Int.zero_add]
  rw [e]
  rfl
 ·obtain ⟨h1,h2⟩:=List.mem_filter.mp hj
  exact ⟨List.mem_range.mp h1,h2⟩
theorem paired_self:∀ {xs ys:List V},Paired (fun x v=>v=x) xs ys→ys=xs
 | _,_,.nil=>rfl
 | _,_,.cons h t=>by rw [h,paired_self t]
def ok_ups(F:Def K mg "_law_ups" s__law_ups ["pot","k","shape"] f fd) (DT:Def K mg "_law_take" s__law_take ["pot","many"] fT fdT) (T:TxtU mg):⋯ 2 f fd ["pot","k","shape"] spUps:=by
 have GT:⋯ 1 fT fdT ["pot","many"] spTake:=ok_take DT
 nomatch F.fn.ok scUps
 ·obtain ⟨p,k,sh,rfl,_⟩:=h
  rfl
 ·obtain ⟨p,k,sh,rfl,⟨o0,hp0,ho0⟩,hk,q⟩:=h
  have nd:=scUps.nd
  refine ⟨_,pS (ps_if (pt_cmpR op_eq (pv 1) pe_int (nomark _)) (pss_one (ps_ret (pe_lst pa_nil))) pss_nil)
   (pS (ps_set (i:=3) nd rfl (Or.inl rfl) (pe_callD DT GT hr (pC (pv 0) (pC (pv 1) pa_nil))))
   (pS (ps_set (i:=4) nd rfl (Or.inl rfl) (pe_callD DT GT hr (pC (pv 0) (pC (pv 1) pa_nil))))
   (pS (ps_if (pt_cmpR op_eq (pv 2) pe_int (nomark _)) (pss_one (ps_ret (pe_lst (pC (pv 3) pa_nil)))) pss_nil)
   (pS (ps_if (pt_cmpR op_eq (pv 2) pe_int (nomark _)) (pss_one (ps_ret (pe_slice sl_list
     (pe_comp ["j"] [] [] (fun _=>compT_ok (osc:=defScope s__law_ups) (on:=nUps) (by decide +kernel) rfl rfl rfl) (pi_tup (pe_tup (pC (pv 3) (pC (pv 4) pa_nil)))) (fun C s H fp=>pg_name (i:=0) nd_j rfl (Or.inl rfl) (Or.inr rfl)) (fun C s H fp=>pts_nil) (fun C s H fp=>pv 0))
     po_none (po_some (pe_op op_add pe_int (pe_callTy call_int1 (by rfl) T.int PyProof.Rows.boot_int (pC (pe_cmpR op_ne (pv 3) (pv 4) (nomark _)) pa_nil))))))) pss_nil)
   (pS (ps_if (pt_cmpR op_eq (pv 2) pe_int (nomark _)) (pss_one (ps_ret
     (pe_comp ["j"] [] [] (fun _=>compT_ok (osc:=defScope s__law_ups) (on:=nUps) (by decide +kernel) rfl rfl rfl) (pi_tup (pe_tup (pC (pe_op op_sub (pe_op op_sub (pv 1) pe_int) (pe_op op_mod (pv 1) pe_int)) (pC (pe_op op_sub (pe_op op_sub (pv 1) pe_int) (pe_op op_mod (pv 1) pe_int)) pa_nil)))) (fun C s H fp=>pg_name (i:=0) nd_j rfl (Or.inl rfl) (Or.inr rfl))
      (fun C s H fp=>pts_one (pt_cmpR op_ge (pv 0) pe_int (nomark _))) (fun C s H fp=>pv 0)))) pss_nil)
   (pS (ps_if (pt_cmpR op_eq (pv 2) pe_int (nomark _)) (pss_one (ps_ret (pe_lst (pC (pe_op op_sub (pv 1) pe_int) pa_nil)))) pss_nil)
   (pS (ps_set (i:=5) nd rfl (Or.inr rfl) (pe_callD DT GT hr (pC (pv 0) (pC pe_int pa_nil))))
   (pss_one (ps_ret (pe_comp ["j"] ["bits"] [5] (fun _=>compT_ok (osc:=defScope s__law_ups) (on:=nUps) (by decide +kernel) rfl rfl rfl) (pi_range1 rfl T.range (pC (pv 1) pa_nil)) (fun C s H fp=>pg_name (i:=0) nd_jb rfl (Or.inl rfl) (Or.inr rfl))
    (fun C s H fp=>pts_one (PW.pt (pw_and (pt_cmpR op_lt (pv 0) pe_int (nomark _)) (pw_and1 (pt_cmpR op_eq (pe_op op_mod (pe_op op_fdiv (pv 1) (pe_ix (r:=rIxT K) ix_tup (pe_tup (pC pe_int (pC pe_int (pC pe_int (pC pe_int (pC pe_int (pC pe_int (pC pe_int (pC pe_int pa_nil))))))))) (pv 0) (fun _ _=>rfl))) pe_int) pe_int (nomark _)))))) (fun C s H fp=>pv 0))))))))))),?_⟩
  have dr:Drawn p H H:=Drawn.refl ⟨o0,hp0,ho0⟩
  refine ⟨_,rfl,rfl,_,rfl,?_⟩
  refine ite2 (fun h0=>?_) (fun h0=>?_)
  ·exact ⟨Nat.zero_le _,fun l hl=>q l [] _ (dr.new hl) uS ⟨(fun _ h=>nomatch h),List.nodup_nil,Nat.zero_le _⟩⟩
  have hk0:0<k:=by
   refine Nat.pos_of_ne_zero fun z=>h0 (decide_eq_true ?_)
   rw [z]
   rfl
  refine ⟨_,rfl,_,rfl,p,k,o0,rfl,hp0,ho0,by omega,by omega,fun one o1 h10 h11 ho1=>?_⟩
  refine ⟨_,rfl,_,rfl,p,k,o1,rfl,uS,ho1,by omega,by omega,fun oth o2 h20 h21 ho2=>?_⟩
  rw [upd_upd]
  have d2:Drawn p H (upd H p o2):=Drawn.upd ho2
  refine ⟨_,rfl,rfl,_,rfl,?_⟩
  refine ite2 (fun _=>?_) (fun _=>?_)
  ·refine ⟨_,rfl,sL (by show 1≤100000;decide),fun l hl=>q l [one.toNat] _ (d2.new hl) ?_ ⟨fun j hj=>?_,by simp,by simp⟩⟩
   ·rw [uS]
    show some (HO.lst [V.int one])=some (HO.lst [V.int ((one.toNat:Nat):Int)])
    rw [Int.toNat_of_nonneg h10]
   ·rw [List.mem_singleton.mp hj];omega
  refine ⟨_,rfl,rfl,_,rfl,?_⟩
  refine ite2 (fun _=>?_) (fun _=>?_)
  ·-- [j for j in (one,other)][:1 + int(one != other)]
   refine ⟨_,rfl,_,rfl,sL (by show 2≤100000;decide),fun t ht=>⟨t,rfl,⟨_,SqT.of uS⟩,comp_pure (runs_tup (xs:=[V.int one,V.int oth])) (sL (by show 2≤100000;decide)) (fun _=>true) (fun v=>v) (fun D ys hD=>SqT.of (by rw [upd_ne (nNo uS hD)];exact uS)) ?_ ?_ ?_⟩⟩
   ·intro D ys x R _ _ hR
    exact hR
   ·intro D ys x R _ _ _ hR
    exact ⟨_,rfl,hR⟩
   ·intro D hD
    have e2:([V.int one,V.int oth].filter fun _=>true).map (fun v=>v)=[V.int one,V.int oth]:=rfl
    rw [e2]
    have d4:Drawn p H (upd (upd (upd H p o2) t (.tup [V.int one,V.int oth])) D (.lst [V.int one,V.int oth])):=(d2.new ht).new hD
    refine ⟨_,rfl,_,rfl,rfl,.inr ⟨_,rfl,_,_,rfl,rfl,_,rfl,D,_,rfl,SqL.of uS,fun l hl=>?_⟩⟩
    by_cases he:one=oth
    ·have e3:(!decide (V.int one=V.int oth))=false:=by rw [he];simp
     rw [e3]
     refine q l [one.toNat] _ (d4.new hl) ?_ ⟨fun j hj=>by rw [List.mem_singleton.mp hj];omega,by simp,by simp⟩
     rw [uS]
     show some (HO.lst [V.int one])=some (HO.lst [V.int ((one.toNat:Nat):Int)])
     rw [Int.toNat_of_nonneg h10]
    ·have e3:(!decide (V.int one=V.int oth))=true:=by
      rw [decide_eq_false (fun z=>he (by injection z))]
      rfl
     rw [e3]
     refine q l [one.toNat,oth.toNat] _ (d4.new hl) ?_ ⟨fun j hj=>?_,?_,by simp⟩
     ·rw [uS]
      show some (HO.lst [V.int one,V.int oth])=some (HO.lst [V.int ((one.toNat:Nat):Int),V.int ((oth.toNat:Nat):Int)])
      rw [Int.toNat_of_nonneg h10,Int.toNat_of_nonneg h20]
     ·rcases List.mem_cons.mp hj with e | e
      ·rw [e];omega
      ·rw [List.mem_singleton.mp e];omega
     ·refine List.nodup_cons.mpr ⟨fun z=>he ?_,by simp⟩
      have:=List.mem_singleton.mp z
      omega
  refine ⟨_,rfl,rfl,_,rfl,?_⟩
  refine ite2 (fun _=>?_) (fun _=>?_)
  ·-- diamonds
   have hm0:=Int.emod_nonneg (k:Int) (b:=2) (by decide)
   have hm1:=Int.emod_lt_of_pos (k:Int) (b:=2) (by decide)
   refine ⟨_,rfl,_,_,rfl,rfl,_,rfl,_,_,rfl,rfl,(by show (0:Int)<2;decide),_,_,rfl,rfl,_,rfl,_,_,rfl,rfl,_,rfl,_,_,rfl,rfl,(by show (0:Int)<2;decide),_,_,rfl,rfl,sL (by show 2≤100000;decide),fun t ht=>⟨t,rfl,⟨_,SqT.of uS⟩,
    comp_pure (runs_tup (xs:=[V.int ((k:Int) - 2 - (k:Int) % 2),V.int ((k:Int) - 1 - (k:Int) % 2)])) (sL (by show 2≤100000;decide)) okJ (fun v=>v) (fun D ys hD=>SqT.of (by rw [upd_ne (nNo uS hD)];exact uS)) ?_ ?_ ?_⟩⟩
   ·intro D ys x R _ hx hR
    obtain ⟨i,rfl⟩:∃ i,x=V.int i:=by
     rcases List.mem_cons.mp hx with e | e
     ·exact ⟨_,e⟩
     ·exact ⟨_,List.mem_singleton.mp e⟩
    exact ⟨_,rfl,_,_,rfl,rfl,_,rfl,hR⟩
   ·intro D ys x R _ _ _ hR
    exact ⟨_,rfl,hR⟩
   ·intro D hD
    have d4:=(d2.new (o:=.tup [V.int ((k:Int) - 2 - (k:Int) % 2),V.int ((k:Int) - 1 - (k:Int) % 2)]) ht).new (o:=.lst (([V.int ((k:Int) - 2 - (k:Int) % 2),V.int ((k:Int) - 1 - (k:Int) % 2)].filter okJ).map fun v=>v)) hD
    by_cases h2:2≤(k:Int) - (k:Int) % 2
    ·refine q D [((k:Int) - 2 - (k:Int) % 2).toNat,((k:Int) - 1 - (k:Int) % 2).toNat] _ d4 ?_ ⟨fun j hj=>?_,?_,by simp⟩
     ·rw [uS]
      have a1:okJ (V.int ((k:Int) - 2 - (k:Int) % 2))=true:=decide_eq_true (by omega)
      have a2:okJ (V.int ((k:Int) - 1 - (k:Int) % 2))=true:=decide_eq_true (by omega)
      rw [List.filter_cons,a1,if_pos rfl,List.filter_cons,a2,if_pos rfl]
      show some (HO.lst [V.int _,V.int _])=some (HO.lst [V.int ((Int.toNat _:Nat):Int),V.int ((Int.toNat _:Nat):Int)])
      rw [Int.toNat_of_nonneg (by omega),Int.toNat_of_nonneg (by omega)]
     ·rcases List.mem_cons.mp hj with e | e
      ·rw [e];omega
      ·rw [List.mem_singleton.mp e];omega
     ·refine List.nodup_cons.mpr ⟨fun z=>?_,by simp⟩
      have:=List.mem_singleton.mp z
      omega
    ·refine q D [] _ d4 ?_ ⟨(fun _ h=>nomatch h),List.nodup_nil,Nat.zero_le _⟩
     rw [uS]
     have a1:okJ (V.int ((k:Int) - 2 - (k:Int) % 2))=false:=decide_eq_false (by omega)
     have a2:okJ (V.int ((k:Int) - 1 - (k:Int) % 2))=false:=decide_eq_false (by omega)
     rw [List.filter_cons,a1,if_neg Bool.false_ne_true,List.filter_cons,a2,if_neg Bool.false_ne_true]
     rfl
  refine ⟨_,rfl,rfl,_,rfl,?_⟩
  refine ite2 (fun _=>?_) (fun _=>?_)
  ·refine ⟨_,rfl,_,_,rfl,rfl,sL (by show 1≤100000;decide),fun l hl=>q l [k - 1] _ (d2.new hl) ?_ ⟨fun j hj=>?_,by simp,by simp⟩⟩
   ·rw [uS]
    show some (HO.lst [V.int ((k:Int) - 1)])=some (HO.lst [V.int ((k - 1:Nat):Int)])
    have:((k - 1:Nat):Int)=(k:Int) - 1:=by omega
    rw [this]
   ·rw [List.mem_singleton.mp hj];omega
  refine ⟨_,rfl,p,256,o2,rfl,uS,ho2,by decide,by decide,fun bits o3 hb0 hb1 ho3=>?_⟩
  rw [upd_upd]
  have d3:Drawn p H (upd H p o3):=Drawn.upd ho3
  refine ⟨_,rfl,(k:Int),rfl,by omega,by omega,?_⟩
  rw [show ((k:Int)).toNat=k from rfl]
  refine comp_rel runs_range (sL (by rw [rangeV_len];omega)) (bitV bits) (fun _ x v _=>v=x) (fun _ _ _ _ _ _ h=>h) (fun _ _=>trivial) ?_ ?_ ?_
  ·intro x H2 R hs hx hR
   obtain ⟨i,hi⟩:=List.mem_iff_getElem?.mp hx
   obtain ⟨hik,rfl⟩:=rangeV_get hi
   refine ⟨_,rfl,_,_,rfl,rfl,_,rfl,?_⟩
   refine ite2 (fun h8=>?_) (fun h8=>?_)
   ·have h8:(0:Int) + (i:Int)<8:=of_decide_eq_true h8
    obtain ⟨e,he,he0,he1⟩:=eight_at (j:=(0:Int) + (i:Int)) (by omega) h8
    refine ⟨_,rfl,sL (by show 8≤100000;decide),fun t ht=>⟨_,rfl,t,eight,_,_,rfl,rfl,SqT.of uS,he,_,_,rfl,rfl,⟨he0,by omega⟩,_,_,rfl,rfl,(by show (0:Int)<2;decide),rfl,_,rfl,?_⟩⟩
    have e1:bitV bits (V.int (0 + (i:Int)))=decide (V.int (bits / e % 2)=V.int 1):=by
     show (decide ((0:Int) + (i:Int)<8)&&(match atI eight (0 + (i:Int)) with | some (.int e)=>decide (bits / e % 2=1) | _=>false))=_
     rw [he,decide_eq_true h8,Bool.true_and]
     show decide (bits / e % 2=1)=_
     rw [decide_eq_decide]
     constructor
     ·intro z;rw [z]
     ·intro z;injection z
    have:=hR (upd H2 t (.tup eight)) fun b o e=>by rw [upd_ne (nNo e ht)];exact e
    rw [e1] at this
    exact this
   ·have h8:¬ ((0:Int) + (i:Int)<8):=fun z=>h8 (decide_eq_true z)
    have e1:bitV bits (V.int (0 + (i:Int)))=false:=by
     show (decide ((0:Int) + (i:Int)<8)&&_)=false
     rw [decide_eq_false h8,Bool.false_and]
    have:=hR H2 (Same.refl _)
    rw [e1] at this
    exact this
  ·intro D x H2 R hs _ _ hx _ hR
   exact ⟨_,rfl,hR x H2 (Same.refl _) rfl⟩
  ·intro D H2 ys hD hs hl hp
   have e:=paired_self hp
   subst e
   obtain ⟨js,e,hj,hnd⟩:=filt_range k (bitV bits)
   refine q D js H2 (d3.same hs) (by rw [hl,e]) ⟨fun j h=>(hj j h).1,hnd,?_⟩
   have:=Graph.nodup_le (l:=js) (k:=List.range 8) hnd fun j h=>by
    have h2:(decide ((j:Int)<8)&&_)=true:=(hj j h).2
    have h3:=(Bool.and_eq_true _ _ ▸ h2:_∧_).1
    have h4:(j:Int)<8:=of_decide_eq_true h3
    exact List.mem_range.mpr (by omega)
   simpa using this
def spRowsL:Sp:=fun vs H Q _=>∃ (p:Addr) (m:Nat),vs=[.ref p,.int m]∧(∃ o,H p=some o∧PotO o)∧1≤m∧m≤24 ∧
 ∀ l (rows:RS) H',Drawn p H H'→H l=none→RowsAt H' l rows→Good rows→rows.length≤m→Q (.ref l) H'
def wAt (ws:LS):V→V
 | .int j=>.str (ws.getD j.toNat "")
 | _=>.non
def wAt_ints (ws:LS) (js:List Nat):(intsV js).map (wAt ws)=(js.map fun i=>ws.getD i "").map V.str:=by
 unfold intsV
 rw [List.map_map,List.map_map]
 rfl
def at_word {ws:LS}{j:Nat}(h:j<ws.length):atI (ws.map V.str) (j:Int)=some (.str (ws.getD j "")):=by
 have e:(ws.map V.str)[j]?=some (V.str (ws.getD j "")):=by
  rw [List.getElem?_map,List.getD_eq_getElem?_getD,List.getElem?_eq_getElem h]
  rfl
 exact atI_nat e
def intsV_range (m:Nat):rangeV 0 m=intsV (List.range m):=by
 unfold rangeV intsV
 refine List.map_congr_left fun j _=>?_
 rw [Int.zero_add]
def all_true {α:Type}(l:List α):l.filter (fun _=>true)=l:=List.filter_eq_self.mpr fun _ _=>rfl
def UpV (ws:LS) (H:Hp) (js:List Nat) (v:V):Prop:=∃ t,v=.ref t∧H t=some (.tup ((js.map fun i=>ws.getD i "").map V.str))
def UpV.mono {ws:LS}{H H':Hp}{js:List Nat}{v:V}(h:UpV ws H js v) (k:∀ b xs,H b=some (.tup xs)→H' b=some (.tup xs)):UpV ws H' js v:=by
 obtain ⟨t,e,h⟩:=h
 exact ⟨t,e,k _ _ h⟩
theorem paired_get {α β:Type}{F:α→β→Prop}:∀ {l:List α}{k:List β},Paired F l k→∀ {i:Nat}{a:α},l[i]?=some a→∃ b,k[i]?=some b∧F a b
 | _,_,.nil,i,a,h=>by simp at h
 | _,_,.cons r t,0,a,h=>by simp at h;subst h;exact ⟨_,rfl,r⟩
 | _,_,.cons r t,i + 1,a,h=>by
  obtain ⟨b,h1,h2⟩:=paired_get t (i:=i) (a:=a) (by simpa using h)
  exact ⟨b,by simpa using h1,h2⟩
def keepD_of {H:Hp}{D b:Addr}{o u:HO}(hD:H D=none) (e:H b=some o):(upd H D u) b=some o:=by rw [upd_ne (nNo e hD)];exact e
theorem paired_rows {ws:LS}{uf:List (List Nat)}{D:Addr}{H:Hp}:∀ {os:List Nat}{ys:List V},
  Paired (fun x v=>∃ (j:Nat) (t u:Addr),x=V.int (j:Int)∧v=.ref t∧t≠D∧u≠D∧H t=some (.tup [.str (ws.getD j ""),.ref u])∧H u=some (.tup (((uf.getD j []).map fun i=>ws.getD i "").map V.str))) (intsV os) ys→Paired (RowV H) (rowsOf ws uf os) ys
 | [],_,h=>by cases h;exact .nil
 | j :: os,_,h=>by
  cases h with
  | cons r t =>
   obtain ⟨i,a,u,e,rfl,_,_,h3,h4⟩:=r
   have e':(j:Int)=(i:Int):=by injection e
   have e'':j=i:=by omega
   subst e''
   exact .cons ⟨a,u,rfl,h3,h4⟩ (paired_rows t)
structure Grown (p lw lo lu:Addr) (ws:LS) (H H':Hp) (i:Nat) (os:List Nat) (uf:List (List Nat)) (us:List V):Prop where
 d:Drawn p H H'
 w:H' lw=some (.lst (ws.map V.str))
 o:H' lo=some (.lst (intsV os))
 u:H' lu=some (.lst us)
 pu:Paired (UpV ws H') uf us
 ul:uf.length=i
 uok:∀ (k:Nat) (js:List Nat),uf[k]?=some js→UpsOk k js
 on:os.Nodup
 om:∀ j,j∈os↔j<i
 ol:os.length=i
def nd_jw:(["j","words"]:LS).Nodup:=by decide +kernel
def nd_kwu:(["k","words","ups"]:LS).Nodup:=by decide +kernel
structure TxtR (mg:Str→Option Value):Prop where
 range:mg "range"=none
 int:mg "int"=none
 len:mg "len"=none
 tuple:mg "tuple"=none
 list:mg "list"=none
abbrev nRows:LS:=["pot","most","many","words","shape","order","ups","k"]
def scRows:FnScope nRows ["pot","most"] (defScope s__law_rows):=by nofun
def ok_rowsL(F:Def K mg "_law_rows" s__law_rows ["pot","most"] f fd) (DT:Def K mg "_law_take" s__law_take ["pot","many"] fT fdT) (DU:Def K mg "_law_ups" s__law_ups ["pot","k","shape"] fU fdU)
  (DWs:Def K mg "_law_words" s__law_words ["pot","many"] fWs fdWs) (DW:Def K mg "_law_word" s__law_word ["pot","words"] fW fdW) (DL:Def K mg "_law_letters" s__law_letters ["number"] fL fdL) (T:TxtR mg):⋯ 4 f fd ["pot","most"] spRowsL:=by
 have GT:⋯ 1 fT fdT ["pot","many"] spTake:=ok_take DT
 have GU:⋯ 2 fU fdU ["pot","k","shape"] spUps:=ok_ups DU DT ⟨T.range,T.int⟩
 have GW:⋯ 3 fWs fdWs ["pot","many"] spWords:=ok_words DWs DW DT DL T.len T.range
 nomatch F.fn.ok scRows
 ·obtain ⟨p,m,rfl,_⟩:=h
  rfl
 ·obtain ⟨p,most,rfl,⟨o0,hp0,ho0⟩,hm1,hm24,q⟩:=h
  have nd:=scRows.nd
  have hr1:Room 1 _:=hr.mono (by decide)
  have hr2:Room 2 _:=hr.mono (by decide)
  refine ⟨_,pS (ps_set (i:=2) nd rfl (Or.inl rfl) (pe_op op_add pe_int (pe_callD DT GT hr1 (pC (pv 0) (pC (pv 1) pa_nil)))))
   (pS (ps_set (i:=3) nd rfl (Or.inr rfl) (pe_callD DWs GW hr (pC (pv 0) (pC (pv 2) pa_nil))))
   (pS (ps_set (i:=4) nd rfl (Or.inl rfl) (pe_callD DT GT hr1 (pC (pv 0) (pC pe_int pa_nil))))
   (pS (ps_set (i:=5) nd rfl (Or.inl rfl) (pe_lst pa_nil))
   (pS (ps_set (i:=6) nd rfl (Or.inr rfl) (pe_lst pa_nil))
   (pS (ps_for PassesOwn.never rfl (pi_range1 (by rfl) T.range (pC (pv 2) pa_nil)) (pg_name (i:=7) nd rfl (Or.inl rfl))
    (pS (ps_expr (pe_bm PySem.F.plainAttrs_list PySem.F.slot_list_append PySem.F.type_list_append mt_append (pv 6) (pC (pe_callTy call_tuple_of (by rfl) T.tuple PyProof.Rows.boot_tuple (pC
     (pe_comp ["j"] ["words"] [3] (fun _=>compT_ok (osc:=defScope s__law_rows) (on:=nRows) (by decide +kernel) rfl rfl rfl) (pi_list (pe_callD DU GU hr2 (pC (pv 0) (pC (pv 7) (pC (pv 4) pa_nil))))) (fun C s H fp=>pg_name (i:=0) nd_jw rfl (Or.inl rfl) (Or.inr rfl)) (fun C s H fp=>pts_nil)
      (fun C s H fp=>pe_ix (r:=rIxL K) ix_list (pv 1) (pv 0) (fun _ _=>rfl))) pa_nil)) pa_nil)))
    (pss_one (ps_expr (pe_bm PySem.F.plainAttrs_list PySem.F.slot_list_insert PySem.F.type_list_insert mt_insert (pv 5) (pC (pe_callD DT GT hr1 (pC (pv 0) (pC (pe_op op_add (pv 7) pe_int) pa_nil))) (pC (pv 7) pa_nil)))))))
   (pss_cut (ps_if (pt_cmpR op_eq (pe_callD DT GT hr1 (pC (pv 0) (pC pe_int pa_nil))) pe_int (nomark _)) (pss_one (ps_set (i:=5) nd rfl (Or.inl rfl) (pe_listRange rfl (pv 2) (by rfl) T.list (by rfl) T.range))) pss_nil)
   (pss_one (ps_ret (pe_comp ["k"] ["words","ups"] [3,6] (fun _=>compT_ok (osc:=defScope s__law_rows) (on:=nRows) (by decide +kernel) rfl rfl rfl) (pi_list (pv 5)) (fun C s H fp=>pg_name (i:=0) nd_kwu rfl (Or.inl rfl) (Or.inr rfl)) (fun C s H fp=>pts_nil)
    (fun C s H fp=>pe_tup (pC (pe_ix (r:=rIxL K) ix_list (pv 1) (pv 0) (fun _ _=>rfl)) (pC (pe_ix (r:=rIxL K) ix_list (pv 2) (pv 0) (fun _ _=>rfl)) pa_nil)))))))))))),?_⟩
  refine ⟨_,rfl,_,rfl,p,most,o0,rfl,hp0,ho0,by omega,by omega,fun v o1 hv0 hv1 ho1=>⟨_,_,rfl,rfl,?_⟩⟩
  have hv:(1:Int) + v=((1 + v.toNat:Nat):Int):=by omega
  have d1:Drawn p H (upd H p o1):=Drawn.upd ho1
  refine ⟨_,rfl,_,rfl,p,1 + v.toNat,(by show [V.ref p,V.int (1 + v)]=[V.ref p,V.int ((1 + v.toNat:Nat):Int)];rw [← hv]),d1.pot,by omega,fun lw ws H2 d2 hlw hw ok hwl=>?_⟩
  have hlw0:H lw=none:=by
   cases e:H lw with
   | none=>rfl
   | some o =>
    by_cases z:lw=p
    ·rw [z] at hlw
     rw [uS] at hlw
     cases hlw
    ·rw [d1.keep lw o z e] at hlw
     cases hlw
  have d12:=d1.trans d2
  obtain ⟨o2,hp2,ho2⟩:=d2.pot
  have pw:p≠lw:=ne_of hp2 hw (by
   obtain ⟨r,b,e,_⟩:=ho2
   rw [e]
   intro z
   injection z with z
   have z2:=congrArg (fun l=>l[0]?) z
   cases ws with
   | nil=>simp at z2
   | cons x r=>simp at z2)
  refine ⟨_,rfl,p,5,o2,rfl,hp2,ho2,by decide,by decide,fun sh o3 hs0 hs1 ho3=>?_⟩
  have d3:Drawn p H (upd H2 p o3):=d12.trans (Drawn.upd ho3)
  refine ⟨Nat.zero_le _,fun lo hlo=>⟨Nat.zero_le _,fun lu hlu=>?_⟩⟩
  have d5:Drawn p H (upd (upd (upd H2 p o3) lo (.lst [])) lu (.lst [])):=(d3.new hlo).new hlu
  have w5:(upd (upd (upd H2 p o3) lo (.lst [])) lu (.lst [])) lw=some (.lst (ws.map V.str)):=by
   have a1:(upd H2 p o3) lw=some (.lst (ws.map V.str)):=by rw [upd_ne (Ne.symm pw)];exact hw
   have a2:(upd (upd H2 p o3) lo (.lst [])) lw=some (.lst (ws.map V.str)):=by rw [upd_ne (nNo a1 hlo)];exact a1
   rw [upd_ne (nNo a2 hlu)];exact a2
  have o5:(upd (upd (upd H2 p o3) lo (.lst [])) lu (.lst [])) lo=some (.lst (intsV [])):=by
   rw [upd_ne (nNo uS hlu)];exact uS
  have plo:p≠lo:=nNo (show (upd H2 p o3) p=some o3 from uS) hlo
  have plu:p≠lu:=nNo (show (upd (upd H2 p o3) lo (.lst [])) p=some o3 by rw [upd_ne plo];exact uS) hlu
  have lou:lo≠lu:=nNo uS hlu
  have lwo:lw≠lo:=fun z=>by
   have a1:(upd H2 p o3) lw=some (.lst (ws.map V.str)):=by rw [upd_ne (Ne.symm pw)];exact hw
   rw [z,hlo] at a1;cases a1
  have lwu:lw≠lu:=fun z=>by
   have a1:(upd H2 p o3) lw=some (.lst (ws.map V.str)):=by rw [upd_ne (Ne.symm pw)];exact hw
   have a2:(upd (upd H2 p o3) lo (.lst [])) lw=some (.lst (ws.map V.str)):=by rw [upd_ne lwo];exact a1
   rw [z,hlu] at a2;cases a2
  have hloH:H lo=none:=by
   cases e:H lo with
   | none=>rfl
   | some o=>rw [d3.keep lo o (Ne.symm plo) e] at hlo;cases hlo
  have hluH:H lu=none:=by
   cases e:H lu with
   | none=>rfl
   | some o=>rw [(d3.new (o:=.lst []) hlo).keep lu o (Ne.symm plu) e] at hlu;cases hlu
  refine ⟨_,rfl,(1:Int) + v,rfl,by omega,by omega,?_⟩
  have hmn:((1:Int) + v).toNat=ws.length:=by omega
  rw [hmn]
  refine for_runs runs_range (fun i σ H'=>∃ (os:List Nat) (uf:List (List Nat)) (us:List V) (kv:Option V),σ=[some (.ref p),some (.int most),some (.int (1 + v)),some (.ref lw),some (.int sh),some (.ref lo),some (.ref lu),kv]∧Grown p lw lo lu ws H H' i os uf us)
   ⟨[],[],[],none,rfl,d5,w5,o5,uS,.nil,rfl,fun k js h=>by simp at h,List.nodup_nil,fun j=>by simp,rfl⟩ (fun _ _ _ _ _=>trivial) ?_ ?_
  ·rintro i x σ H' hi ⟨os,uf,us,kv,rfl,g⟩
   obtain ⟨hi,rfl⟩:=rangeV_get hi
   have hul:us.length=i:=by rw [← g.pu.length];exact g.ul
   refine ⟨_,rfl,.inl ⟨rfl,_,SqL.of g.u⟩,_,rfl,_,rfl,_,rfl,p,i,sh.toNat,by rw [Int.zero_add,Int.toNat_of_nonneg hs0];rfl,g.d.pot,by omega,fun l js H6 d6 hl uok=>⟨l,rfl,⟨_,SqL.of hl⟩,?_⟩⟩
   have w6:H6 lw=some (.lst (ws.map V.str)):=d6.keep _ _ (Ne.symm pw) g.w
   refine comp_pure (runs_list (xs:=intsV js)) (sL (by unfold intsV;rw [List.length_map];have:=uok.few;omega)) (fun _=>true) (wAt ws) (fun D ys hD=>SqL.of (by rw [upd_ne (nNo hl hD)];exact hl)) ?_ ?_ ?_
   ·intro D ys y R _ _ hR
    exact hR
   ·intro D ys y R hD hy _ hR
    obtain ⟨j,hj,rfl⟩:=List.mem_map.mp hy
    have hjl:j<ws.length:=by have:=uok.below j hj;omega
    exact ⟨_,rfl,_,rfl,lw,_,_,_,rfl,rfl,SqL.of (by rw [upd_ne (nNo w6 hD)];exact w6),at_word hjl,hR⟩
   ·intro D hD
    rw [all_true,wAt_ints]
    refine ⟨D,_,rfl,.inl ⟨SqL.of uS,fun t ht=>?_⟩⟩
    have keepDt:∀ b o,H6 b=some o→(upd (upd H6 D (.lst ((js.map fun i=>ws.getD i "").map V.str))) t (.tup ((js.map fun i=>ws.getD i "").map V.str))) b=some o:=fun b o e=>by
     have e1:(upd H6 D (.lst ((js.map fun i=>ws.getD i "").map V.str))) b=some o:=by rw [upd_ne (nNo e hD)];exact e
     rw [upd_ne (nNo e1 ht)];exact e1
    have u6:H6 lu=some (.lst us):=d6.keep _ _ (Ne.symm plu) g.u
    have o6:H6 lo=some (.lst (intsV os)):=d6.keep _ _ (Ne.symm plo) g.o
    refine ⟨lu,us,_,rfl,rfl,keepDt _ _ u6,small_lt (by omega),?_⟩
    obtain ⟨o7,hp7,ho7⟩:=d6.pot
    refine ⟨_,rfl,.inl ⟨rfl,_,SqL.of (by rw [upd_ne lou];exact keepDt _ _ o6)⟩,_,rfl,_,rfl,_,_,rfl,rfl,p,_,o7,rfl,(by rw [upd_ne plu];exact keepDt _ _ hp7),ho7,by omega,by omega,fun at_ o8 ha0 ha1 ho8=>?_⟩
    refine ⟨_,rfl,lo,intsV os,at_,_,rfl,rfl,(by rw [upd_ne (Ne.symm plo),upd_ne lou];exact keepDt _ _ o6),ha0,(by unfold intsV;rw [List.length_map,g.ol];omega),small_lt (by unfold intsV;rw [List.length_map,g.ol];omega),?_⟩
    have tlu:t≠lu:=fun z=>by rw [z] at ht;rw [keepD_of hD u6] at ht;cases ht
    have tlo:t≠lo:=fun z=>by rw [z] at ht;rw [keepD_of hD o6] at ht;cases ht
    have tp:t≠p:=fun z=>by rw [z] at ht;rw [keepD_of hD hp7] at ht;cases ht
    have all:∀ b o,b≠p→b≠lu→b≠lo→H6 b=some o→(upd (upd (upd (upd (upd H6 D (.lst ((js.map fun i=>ws.getD i "").map V.str))) t (.tup ((js.map fun i=>ws.getD i "").map V.str))) lu (.lst (us++[.ref t]))) p o8) lo (.lst ((intsV os).take at_.toNat++V.int (0 + (i:Int)):: (intsV os).drop at_.toNat))) b=some o:=fun b o h1 h2 h3 e=>by
     rw [upd_ne h3,upd_ne h1,upd_ne h2];exact keepDt _ _ e
    have tt:(upd (upd (upd (upd (upd H6 D (.lst ((js.map fun i=>ws.getD i "").map V.str))) t (.tup ((js.map fun i=>ws.getD i "").map V.str))) lu (.lst (us++[.ref t]))) p o8) lo (.lst ((intsV os).take at_.toNat++V.int (0 + (i:Int)):: (intsV os).drop at_.toNat))) t=some (.tup ((js.map fun i=>ws.getD i "").map V.str)):=by
     rw [upd_ne tlo,upd_ne tp,upd_ne tlu];exact uS
    have tups:∀ b xs,H' b=some (.tup xs)→(upd (upd (upd (upd (upd H6 D (.lst ((js.map fun i=>ws.getD i "").map V.str))) t (.tup ((js.map fun i=>ws.getD i "").map V.str))) lu (.lst (us++[.ref t]))) p o8) lo (.lst ((intsV os).take at_.toNat++V.int (0 + (i:Int)):: (intsV os).drop at_.toNat))) b=some (.tup xs):=fun b xs e=>by
     obtain ⟨oP,hP,r,b',eP,_⟩:=g.d.pot
     have bp:b≠p:=fun z=>by rw [z,hP,eP] at e;cases e
     have bu:b≠lu:=fun z=>by rw [z,g.u] at e;cases e
     have bo:b≠lo:=fun z=>by rw [z,g.o] at e;cases e
     exact all b _ bp bu bo (d6.keep b _ bp e)
    refine ⟨os.take at_.toNat++i :: os.drop at_.toNat,uf++[js],us++[.ref t],_,rfl,?_⟩
    refine ⟨⟨fun b o hb e=>?_,?_⟩,?_,?_,?_,?_,by rw [List.length_append,g.ul];rfl,?_,?_,?_,?_⟩
    ·have e6:=(g.d.trans d6).keep b o hb e
     exact all b o hb (fun z=>by rw [z,hluH] at e;cases e) (fun z=>by rw [z,hloH] at e;cases e) e6
    ·exact ⟨o8,by rw [upd_ne plo];exact uS,ho8⟩
    ·exact all lw _ (Ne.symm pw) lwu lwo w6
    ·rw [uS]
     unfold intsV
     rw [List.map_append,List.map_cons,List.map_take,List.map_drop,Int.zero_add]
    ·rw [upd_ne (Ne.symm lou),upd_ne (Ne.symm plu)];exact uS
    ·exact Paired.snoc (Paired.mapP g.pu fun a b z=>z.mono tups) ⟨t,rfl,tt⟩
    ·intro k js' hk
     by_cases hki:k<uf.length
     ·rw [List.getElem?_append_left hki] at hk
      exact g.uok k js' hk
     ·rw [List.getElem?_append_right (by omega)] at hk
      have hk0:k - uf.length=0:=by
       have:=(List.getElem?_eq_some_iff.mp hk).1
       simp at this
       omega
      rw [hk0] at hk
      have e:js=js':=by simpa using hk
      have e2:k=i:=by have:=g.ul;omega
      rw [← e,e2]
      exact uok
    ·have hperm:(os.take at_.toNat++i :: os.drop at_.toNat).Perm (i :: os):=by
      refine List.perm_middle.trans ?_
      rw [List.take_append_drop]
     exact hperm.nodup_iff.mpr (List.nodup_cons.mpr ⟨fun z=>by have:=(g.om i).mp z;omega,g.on⟩)
    ·intro j
     have hperm:(os.take at_.toNat++i :: os.drop at_.toNat).Perm (i :: os):=by
      refine List.perm_middle.trans ?_
      rw [List.take_append_drop]
     rw [hperm.mem_iff,List.mem_cons,g.om]
     omega
    ·have hperm:(os.take at_.toNat++i :: os.drop at_.toNat).Perm (i :: os):=by
      refine List.perm_middle.trans ?_
      rw [List.take_append_drop]
     rw [hperm.length_eq,List.length_cons,g.ol]
  ·rintro σ H' ⟨os,uf,us,kv,rfl,g⟩
   rw [rangeV_len] at g
   refine ⟨fun σ' H2=>∃ (lo':Addr) (os':List Nat) (kv:Option V),σ'=[some (.ref p),some (.int most),some (.int (1 + v)),some (.ref lw),some (.int sh),some (.ref lo'),some (.ref lu),kv]∧Drawn p H H2∧H2 lw=some (.lst (ws.map V.str))∧H2 lo'=some (.lst (intsV os')) ∧
    H2 lu=some (.lst us)∧Paired (UpV ws H2) uf us∧os'.Nodup∧(∀ j,j∈os'↔j<ws.length)∧os'.length=ws.length,?_,?_⟩
   ·obtain ⟨oP,hP,hoP⟩:=g.d.pot
    refine ⟨_,rfl,p,3,oP,rfl,hP,hoP,by decide,by decide,fun v3 o9 _ _ ho9=>⟨rfl,_,rfl,?_⟩⟩
    have d9:Drawn p H (upd H' p o9):=g.d.trans (Drawn.upd ho9)
    have t9:∀ b xs,H' b=some (.tup xs)→(upd H' p o9) b=some (.tup xs):=fun b xs e=>by
     obtain ⟨r,b',eP,_⟩:=hoP
     rw [upd_ne (fun z=>by rw [z,hP,eP] at e;cases e)];exact e
    refine ite2 (fun _=>?_) (fun _=>?_)
    ·refine ⟨_,rfl,(1:Int) + v,rfl,by omega,by omega,fun l hl=>?_⟩
     rw [hmn,intsV_range]
     have nn:∀ {b:Addr} {o:HO},(upd H' p o9) b=some o→(upd (upd H' p o9) l (.lst (intsV (List.range ws.length)))) b=some o:=fun {b o} e=>by rw [upd_ne (nNo e hl)];exact e
     exact ⟨l,List.range ws.length,_,rfl,d9.new hl,nn (by rw [upd_ne (Ne.symm pw)];exact g.w),uS,nn (by rw [upd_ne (Ne.symm plu)];exact g.u),Paired.mapP g.pu fun a b z=>(z.mono t9).mono fun b xs e=>nn e,List.nodup_range,fun j=>List.mem_range,by simp⟩
    ·exact ⟨lo,os,_,rfl,d9,by rw [upd_ne (Ne.symm pw)];exact g.w,by rw [upd_ne (Ne.symm plo)];exact g.o,by rw [upd_ne (Ne.symm plu)];exact g.u,Paired.mapP g.pu fun a b z=>z.mono t9,g.on,g.om,g.ol⟩
   ·rintro σ' H2 ⟨lo',os',kv',rfl,dE,wE,oE,uE,pE,on,om,ol⟩
    refine ⟨_,rfl,lo',rfl,⟨_,SqL.of oE⟩,?_⟩
    refine comp_rel (runs_list (xs:=intsV os')) (sL (by unfold intsV;rw [List.length_map];omega)) (fun _=>true)
     (fun D x v H=>∃ (j:Nat) (t u:Addr),x=.int (j:Int)∧v=.ref t∧t≠D∧u≠D∧H t=some (.tup [.str (ws.getD j ""),.ref u])∧H u=some (.tup (((uf.getD j []).map fun i=>ws.getD i "").map V.str))) ?_ ?_ ?_ ?_ ?_
    ·rintro D x v H H'' hk ⟨j,t,u,e1,e2,h1,h2,h3,h4⟩
     exact ⟨j,t,u,e1,e2,h1,h2,hk _ _ h1 h3,hk _ _ h2 h4⟩
    ·intro H3 hs
     exact hs.seq (SqL.of oE)
    ·intro x H3 R hs hx hR
     exact hR H3 (Same.refl _)
    ·intro D x H3 R hs ⟨ys,hD⟩ hD0 hx _ hR
     obtain ⟨j,hj,rfl⟩:=List.mem_map.mp hx
     have hjl:j<ws.length:=(om j).mp hj
     have huj:uf[j]?=some (uf.getD j []):=by
      have:j<uf.length:=by rw [g.ul];exact hjl
      rw [List.getD_eq_getElem?_getD,List.getElem?_eq_getElem this]
      rfl
     obtain ⟨uv,hu1,t,rfl,hu2⟩:=paired_get pE huj
     have hu3:=hs _ _ hu2
     refine ⟨_,rfl,_,rfl,lw,_,_,_,rfl,rfl,SqL.of (hs _ _ wE),at_word hjl,_,rfl,_,rfl,lu,_,_,_,rfl,rfl,SqL.of (hs _ _ uE),atI_nat hu1,sL (by show 2≤100000;decide),fun tn htn=>?_⟩
     have tD:tn≠D:=fun z=>by rw [z,hD] at htn;cases htn
     have uD:t≠D:=fun z=>by rw [z,hD] at hu3;cases hu3
     exact hR _ _ (fun b o e=>by rw [upd_ne (nNo e htn)];exact e) ⟨j,tn,t,rfl,rfl,tD,uD,uS,by rw [upd_ne (nNo hu3 htn)];exact hu3⟩
    ·intro D H3 ys hD hs hl hp
     rw [all_true] at hp
     have hDH:H D=none:=by
      cases e:H D with
      | none=>rfl
      | some o =>
       by_cases z:D=p
       ·obtain ⟨oP,hP,_⟩:=dE.pot
        rw [z,hP] at hD;cases hD
       ·rw [dE.keep D o z e] at hD;cases hD
     refine q D (rowsOf ws uf os') H3 (dE.same hs) hDH ⟨ys,hl,?_⟩ (good_of (m:=ws.length) (by omega) (by omega) ok.word ok.nd rfl (fun k js h=>⟨(g.uok k js h).below,(g.uok k js h).nd,(g.uok k js h).few⟩) g.ul on om ol) (by unfold rowsOf;rw [List.length_map];omega)
     exact paired_rows hp
def spIsWord:Sp:=fun vs H Q _=>∃ x:Str,vs=[.str x]∧x.length≤1000∧∀ H',Same H H'→Q (.bl (isWord x)) H'
def spCheckRows (K:Fg):Sp:=fun vs H Q _=>∃ (l:Addr) (rows:RS),vs=[.ref l]∧RowsG K H l rows∧Good rows∧∀ H',Same H H'→Q .non H'
structure BookD (H:Hp) (d:Addr) (o:Obj) (rows:RS) (kvs:List (Key×V)):Prop where
 at_:H d=some (.frz o (.dK kvs))
 ups:UpsD H rows kvs
theorem BookD.mono {H H':Hp}{d:Addr}{o:Obj}{rows:RS}{kvs:List (Key×V)}(b:BookD H d o rows kvs) (s:Same H H'):BookD H' d o rows kvs:=⟨s _ _ b.at_,b.ups.mono fun _ _ e=>s _ _ e⟩
def spCheckUps:Sp:=fun vs H Q _=>∃ (d:Addr) (o:Obj) (rows:RS) (kvs:List (Key×V)),vs=[.ref d]∧BookD H d o rows kvs∧Good rows∧∀ H',Same H H'→Q .non H'
def foundV (us left:LS):V:=match us.find? (fun x=>decide (x∈left)) with | some x=>.str x | none=>.non
def spFirst (K:Fg):Sp:=fun vs H Q _=>∃ (a b:Addr) (us left:LS),vs=[.ref a,.ref b]∧SqT K H a (us.map V.str)∧SqL K H b (left.map V.str)∧Q (foundV us left) H
def spEndless:Sp:=fun vs H Q _=>∃ (d:Addr) (o:Obj) (rows:RS) (kvs:List (Key×V)),vs=[.ref d]∧BookD H d o rows kvs∧Good rows∧∀ l H',Same H H'→H' l=some (.lst [])→Q (.ref l) H'
def spRing:Sp:=fun vs H Q _=>∃ (d:Addr) (o:Obj) (rows:RS) (kvs:List (Key×V)),vs=[.ref d]∧BookD H d o rows kvs∧Good rows∧∀ H',Same H H'→Q .non H'
structure TxtK (mg:Str→Option Value):Prop where
 letters:∃ t,mg "LETTERS"=some (.str letters t)
 most:∃ t,mg "MOST_LETTERS"=some (.int 8 t)
 kinds:∃ t,mg "MOST_KINDS"=some (.int 24 t)
 ups:∃ t,mg "MOST_UPS"=some (.int 8 t)
 len:mg "len"=none
 all:mg "all"=none
 list:mg "list"=none
 tuple:mg "tuple"=none
def scW:FnScope ["text"] ["text"] (defScope s_is_word):=by nofun
def nd_sign:(["sign"]:LS).Nodup:=by decide +kernel
def ok_isword(F:Def K mg "is_word" s_is_word ["text"] f fd) (T:TxtK mg):⋯ 1 f fd ["text"] spIsWord:=by
 nomatch F.fn.ok scW
 ·obtain ⟨x,rfl,_⟩:=h
  rfl
 ·obtain ⟨x,rfl,hx,k⟩:=h
  obtain ⟨t1,hl⟩:=T.letters
  obtain ⟨t2,hm⟩:=T.most
  refine ⟨_,pS (ps_if (pt_not (pt_chain op_le op_le pe_int (pe_callB call_len (by rfl) T.len PySem.boot_len (pC (pv 0) pa_nil)) (pe_glob (v:=.int 8) (by rfl) hm ⟨_,rfl⟩))) (pss_one (ps_ret pe_bl)) pss_nil)
   (pss_one (ps_ret (pe_callB (call_all rfl) (by rfl) T.all PyProof.Rows.boot_all (pC
    (pe_comp ["sign"] [] [] (fun _=>compT_ok (osc:=defScope s_is_word) (on:=["text"]) (by decide +kernel) rfl rfl rfl) (pi_str (pv 0)) (fun C s H fp=>pg_name (i:=0) nd_sign rfl (Or.inl rfl) (Or.inr rfl)) (fun C s H fp=>pts_nil)
     (fun C s H fp=>pe_cmpR op_in_str (pv 0) (pe_glob (v:=.str letters) (by rfl) hl ⟨_,rfl⟩) (by with_unfolding_all rfl))) pa_nil)))),?_⟩
  refine ⟨_,rfl,_,_,rfl,⟨sL (by omega),rfl⟩,_,_,rfl,rfl,_,rfl,?_⟩
  have no:¬ (1≤x.length∧x.length≤8)→isWord x=false:=fun h=>by unfold isWord;rw [decide_eq_false h];rfl
  have same:Same H H:=Same.refl H
  refine ite2 (fun h1=>?_) (fun h1=>?_)
  ·have h1:(1:Int)≤(x.length:Int):=of_decide_eq_true h1
   refine ⟨_,_,rfl,rfl,_,rfl,?_⟩
   refine ite2 (fun h2=>?_) (fun h2=>?_)
   ·have h2:¬ ((x.length:Int)≤8):=by simpa using h2
    have q:=k H same
    rw [no (by omega)] at q
    exact q
   ·have h2:((x.length:Int)≤8):=by simpa using h2
    refine ⟨_,rfl,_,rfl,comp_pure runs_str (by unfold signsV;rw [List.length_map,str_len];exact sL (by omega)) (fun _=>true) inLet (fun _ _ _=>trivial) ?_ ?_ ?_⟩
    ·intro D ys v R _ _ hR
     exact hR
    ·intro D ys v R _ hv _ hR
     obtain ⟨c,_,e⟩:=List.mem_map.mp hv
     subst e
     exact ⟨_,rfl,_,_,rfl,rfl,hR⟩
    ·intro D hD
     refine ⟨D,x.cps.toList.map isLow,rfl,SqL.of (by rw [← signs_low];exact uS),?_⟩
     have e:(x.cps.toList.map isLow).all id=isWord x:=by
      unfold isWord
      rw [decide_eq_true (by omega),Bool.true_and,List.all_map]
      rfl
     have q:=k (upd H D (.lst (((signsV x).filter fun _=>true).map inLet))) fun b o hb=>by rw [upd_ne (nNo hb hD)];exact hb
     rw [← e] at q
     exact q
  ·have h1:¬ ((1:Int)≤(x.length:Int)):=fun z=>h1 (decide_eq_true z)
   refine ⟨_,rfl,?_⟩
   refine iteT ?_
   have q:=k H same
   rw [no (by omega)] at q
   exact q
def len_seq {b:Bool}{H:Hp}{a:Addr}{xs:List V}(h:SqB K b H a xs):LenV K (.ref a) H xs.length:=by
 cases b with
 | true=>exact .inl ⟨xs,h,rfl⟩
 | false=>exact .inr ⟨xs,h,rfl⟩
def scCR:FnScope ["rows","seen","word","ups"] ["rows"] (defScope s_check_rows):=by nofun
def ok_check_rows(F:Def K mg "check_rows" s_check_rows ["rows"] f fd) (DW:Def K mg "is_word" s_is_word ["text"] fW fdW) (T:TxtK mg):⋯ 2 f fd ["rows"] (spCheckRows K):=by
 have GW:⋯ 1 fW fdW ["text"] spIsWord:=ok_isword DW T
 nomatch F.fn.ok scCR
 ·obtain ⟨l,rows,rfl,_⟩:=h
  rfl
 ·obtain ⟨l,rows,rfl,⟨b,vs,hl,hp⟩,g,q⟩:=h
  obtain ⟨t1,hK⟩:=T.kinds
  obtain ⟨t2,hU⟩:=T.ups
  have nd:=scCR.nd
  have hu:=hu_of hr
  refine ⟨_,pS (ps_if (pt_not (pt_chain op_le op_le pe_int (pe_callB call_len (by rfl) T.len PySem.boot_len (pC (pv 0) pa_nil)) (pe_glob (v:=.int 24) (by rfl) hK ⟨_,rfl⟩))) pss_never pss_nil)
   (pS (ps_set (i:=1) nd rfl (Or.inl rfl) pe_dnewK)
   (pss_one (ps_for PassesOwn.never rfl (pi_seq (pv 0)) (pg_tup rfl (gC (pg_name (i:=2) nd rfl (Or.inl rfl)) (gC (pg_name (i:=3) nd rfl (Or.inl rfl)) pgs_nil)))
    (pS (ps_if (pt_not (pt_val (pe_callD DW GW hr (pC (pv 2) pa_nil)))) pss_never pss_nil)
    (pS (ps_if (pt_cmp (pc_din hu (pv 2) (pv 1))) pss_never pss_nil)
    (pS (ps_if (pt_cmpR op_gt (pe_callB call_len (by rfl) T.len PySem.boot_len (pC (pv 3) pa_nil)) (pe_glob (v:=.int 8) (by rfl) hU ⟨_,rfl⟩) (nomark _)) pss_never pss_nil)
    (pss_one (ps_dput hu (pv 1) (pv 2) pe_bl rfl)))))))),?_⟩
  have hvl:=hp.length
  have g1:=g.ne
  have g2:=g.le
  refine ⟨_,rfl,_,_,rfl,len_seq hl,_,_,rfl,rfl,_,rfl,?_⟩
  rw [show decide ((1:Int)≤(vs.length:Int))=true from decide_eq_true (by omega)]
  refine iteT ⟨_,_,rfl,rfl,_,rfl,?_⟩
  rw [show (decide ((vs.length:Int)≤24))=true from decide_eq_true (by omega)]
  refine iteF ?_
  intro d hd
  have s0:Same H (upd H d (.dK [])):=fun b o e=>by rw [upd_ne (nNo e hd)];exact e
  refine ⟨_,rfl,b,l,vs,rfl,hl.mono s0,for_runs runs_seq (fun i σ H'=>∃ (kvs:List (Key×V)) (a c:Option V),σ=[some (.ref l),some (.ref d),a,c]∧Same H H'∧H' d=some (.dK kvs)∧kvs.map (·.1)=(rows.take i).map fun r=>(Sum.inr r.1:Key))
   ⟨[],none,none,rfl,s0,uS,by simp⟩ (fun i σ H' _ ⟨_,_,_,_,s,_⟩=>hl.mono s) ?_ ?_⟩
  ·rintro i v σ H' hi ⟨kvs,a,c,rfl,s,hdk,hk⟩
   obtain ⟨r,hr',t,u,rfl,ht,hug⟩:=paired_at hp hi
   obtain ⟨b',hu'⟩:=hug.sq
   have hmem:r∈rows:=List.mem_of_getElem? hr'
   have hw:=g.word r hmem
   have hwl:=word_len hw
   refine ⟨t,_,rfl,s.tup ht,rfl,_,_,rfl,_,_,rfl,rfl,?_⟩
   refine ⟨_,rfl,r.1,rfl,by omega,fun H2 s2=>⟨_,rfl,?_⟩⟩
   rw [hw]
   refine iteF ?_
   have hd2:H2 d=some (.dK kvs):=s2 _ _ hdk
   refine ⟨_,rfl,_,rfl,d,_,rfl,DGet.k (k:=Sum.inr r.1) hd2,_,rfl,?_⟩
   have hnew:(Sum.inr r.1:Key)∉kvs.map (·.1):=by rw [hk];exact taken_not g.nd hr'
   rw [valV_none hnew]
   refine iteF ?_
   refine ⟨_,rfl,_,_,rfl,len_seq (hu'.mono (s.trans s2)),_,_,rfl,rfl,_,rfl,?_⟩
   rw [show decide ((8:Int)<((r.2.map V.str).length:Int))=false from decide_eq_false (by rw [List.length_map];have:=g.few r hmem;omega)]
   refine iteF ?_
   have hkl:kvs.length=(rows.take i).length:=by have:=congrArg List.length hk;simpa using this
   have hil:(rows.take i).length≤24:=by rw [List.length_take];omega
   refine ⟨_,rfl,_,rfl,d,_,rfl,DPut.k (k:=Sum.inr r.1) hd2 (small_lt (by omega)),?_⟩
   refine ⟨_,_,_,rfl,fun b o e=>?_,uS,?_⟩
   ·rw [upd_ne (nNo e hd)];exact s2 _ _ (s _ _ e)
   ·rw [putK_keys hnew,hk,List.take_add_one,hr',List.map_append]
    rfl
  ·rintro σ H' ⟨kvs,a,c,rfl,s,hdk,hk⟩
   exact q H' s
def scCU:FnScope ["ups_of","ups","seen","up"] ["ups_of"] (defScope s_check_ups):=by nofun
def strs_at {us:LS}{i:Nat}{v:V}(h:(us.map V.str)[i]?=some v):∃ x,us[i]?=some x∧v=.str x:=by
 rw [List.getElem?_map] at h
 obtain ⟨x,hx,e⟩:=Option.map_eq_some_iff.mp h
 exact ⟨x,hx,e.symm⟩
def taken_str {us:LS}{i:Nat}{x:Str}(nd:us.Nodup) (h:us[i]?=some x):(Sum.inr x:Key)∉(us.take i).map fun y=>(Sum.inr y:Key):=by
 intro m
 obtain ⟨y,hy,e⟩:=List.mem_map.mp m
 have e:y=x:=by injection e
 subst e
 obtain ⟨j,hj,ej⟩:=List.mem_iff_getElem.mp hy
 rw [List.length_take] at hj
 rw [List.getElem_take] at ej
 have a:us[j]?=some y:=by rw [List.getElem?_eq_getElem (by omega),ej]
 have:=nodup_ix nd a h
 omega
def ok_check_ups(F:Def K mg "check_ups" s_check_ups ["ups_of"] f fd):⋯ 1 f fd ["ups_of"] spCheckUps:=by
 nomatch F.fn.ok scCU
 ·obtain ⟨d,o,rows,kvs,rfl,_⟩:=h
  rfl
 ·obtain ⟨d,o,rows,kvs,rfl,bk,g,q⟩:=h
  have nd:=scCU.nd
  have hu:=hu_of hr
  refine ⟨_,pss_one (ps_for PassesOwn.never rfl (pi_vals (pv 0)) (pg_name (i:=1) nd rfl (Or.inl rfl))
    (pS (ps_set (i:=2) nd rfl (Or.inl rfl) pe_dnewK)
    (pss_one (ps_for PassesOwn.never rfl (pi_tup (pv 1)) (pg_name (i:=3) nd rfl (Or.inl rfl))
     (pS (ps_if (pt_cmp (pc_dnotin hu (pv 3) (pv 0))) pss_never pss_nil)
     (pS (ps_if (pt_cmp (pc_din hu (pv 3) (pv 2))) pss_never pss_nil)
     (pss_one (ps_dput hu (pv 2) (pv 3) pe_bl rfl)))))))),?_⟩
  refine ⟨_,rfl,d,o,kvs,rfl,bk.at_,for_runs runs_vals (fun i σ H'=>∃ (a b c:Option V),σ=[some (.ref d),a,b,c]∧Same H H') ⟨none,none,none,rfl,Same.refl H⟩ (fun i σ H' _ ⟨_,_,_,_,s⟩=>s _ _ bk.at_) ?_ ?_⟩
  ·rintro i v σ H' hi ⟨a,b,c,rfl,s⟩
   rw [List.getElem?_map] at hi
   obtain ⟨p,hp,e⟩:=Option.map_eq_some_iff.mp hi
   obtain ⟨r,hr',hk,t,ht,htup⟩:=paired_at bk.ups hp
   have hmem:r∈rows:=List.mem_of_getElem? hr'
   subst e
   show gName 1 p.2 _ _ _
   rw [ht]
   intro sd hsd
   have s1:Same H (upd H' sd (.dK [])):=fun b o e=>by rw [upd_ne (nNo (s _ _ e) hsd)];exact s _ _ e
   have t1:(upd H' sd (.dK [])) t=some (.tup (r.2.map V.str)):=s1 _ _ htup
   refine ⟨_,rfl,t,rfl,⟨_,SqT.of t1⟩,for_runs (runs_tup (xs:=r.2.map V.str)) (fun j σ H2=>∃ (kvs':List (Key×V)) (c:Option V),σ=[some (.ref d),some (.ref t),some (.ref sd),c]∧Same H H2∧H2 sd=some (.dK kvs')∧kvs'.map (·.1)=(r.2.take j).map fun y=>(Sum.inr y:Key))
    ⟨[],_,rfl,s1,uS,by simp⟩ (fun j σ H2 _ ⟨_,_,_,s,_⟩=>SqT.of (s _ _ htup)) ?_ ?_⟩
   ·rintro j v σ H2 hj ⟨kvs',c,rfl,s2,hsd2,hk'⟩
    obtain ⟨x,hx,rfl⟩:=strs_at hj
    have xm:x∈r.2:=List.mem_of_getElem? hx
    have known:=g.known r hmem x xm
    refine ⟨_,rfl,_,rfl,d,_,rfl,DGet.f (k:=Sum.inr x) (s2 _ _ bk.at_),_,rfl,?_⟩
    obtain ⟨r2,hr2,er2⟩:=List.mem_map.mp known
    obtain ⟨t2,hv2,_⟩:=bk.ups.val g.nd hr2
    rw [← er2,hv2,er2]
    refine iteF ?_
    have hnew:(Sum.inr x:Key)∉kvs'.map (·.1):=by rw [hk'];exact taken_str (g.upnd r hmem) hx
    refine ⟨_,rfl,_,rfl,sd,_,rfl,DGet.k (k:=Sum.inr x) hsd2,_,rfl,?_⟩
    rw [valV_none hnew]
    refine iteF ?_
    have hkl:kvs'.length=(r.2.take j).length:=by have:=congrArg List.length hk';simpa using this
    have hjl:(r.2.take j).length≤8:=by rw [List.length_take];have:=g.few r hmem;omega
    have hsH:H sd=none:=s.free hsd
    refine ⟨_,rfl,_,rfl,sd,_,rfl,DPut.k (k:=Sum.inr x) hsd2 (small_lt (by omega)),_,_,rfl,fun b o e=>?_,uS,?_⟩
    ·rw [upd_ne (nNo e hsH)];exact s2 _ _ e
    ·rw [putK_keys hnew,hk',List.take_add_one,hx,List.map_append]
     rfl
   ·rintro σ H2 ⟨kvs',c,rfl,s2,hsd2,hk'⟩
    exact ⟨_,_,_,rfl,s2⟩
  ·rintro σ H' ⟨a,b,c,rfl,s⟩
   exact q H' s
def scFA:FnScope ["words","others","word"] ["words","others"] (defScope s_first_among):=by nofun
def ok_first(F:Def K mg "first_among" s_first_among ["words","others"] f fd):⋯ 1 f fd ["words","others"] (spFirst K):=by
 nomatch F.fn.ok scFA
 ·obtain ⟨a,b,us,left,rfl,_⟩:=h
  rfl
 ·obtain ⟨a,b,us,left,rfl,ha,hb,q⟩:=h
  have nd:=scFA.nd
  refine ⟨_,pS (ps_for PassesOwn.never rfl (pi_tup (pv 0)) (pg_name (i:=2) nd rfl (Or.inl rfl)) (pss_one (ps_if (pt_cmpR op_in_seq (pv 2) (pv 1) (by with_unfolding_all rfl)) (pss_one (ps_ret (pv 2))) pss_nil)))
   (pss_one (ps_ret pe_non)),?_⟩
  refine ⟨_,rfl,a,rfl,⟨_,ha⟩,for_runs (runs_tup (xs:=us.map V.str)) (fun i σ H'=>H'=H∧(∃ c:Option V,σ=[some (.ref a),some (.ref b),c])∧(us.take i).find? (fun x=>decide (x∈left))=none) ⟨rfl,⟨none,rfl⟩,by simp⟩ (fun i σ H' _ ⟨e,_⟩=>by rw [e];exact ha) ?_ ?_⟩
  ·rintro i v σ H' hi ⟨rfl,⟨c,rfl⟩,hf⟩
   obtain ⟨x,hx,rfl⟩:=strs_at hi
   refine ⟨_,rfl,_,rfl,b,_,rfl,.inl hb,rfl,flat_strs left,_,rfl,?_⟩
   show if inV (.str x) (left.map V.str)=true then _ else _
   rw [in_strs]
   have split:us=us.take i++x :: us.drop (i + 1):=by
    have hlt:=(List.getElem?_eq_some_iff.mp hx).1
    have e:us[i]=x:=(List.getElem?_eq_some_iff.mp hx).2
    rw [← e,List.getElem_cons_drop hlt,List.take_append_drop]
   refine ite2 (fun h=>?_) (fun h=>?_)
   ·have fv:foundV us left=.str x:=by
     unfold foundV
     rw [split,List.find?_append,hf,List.find?_cons]
     simp only [h]
     rfl
    rw [fv] at q
    exact ⟨_,rfl,q⟩
   ·refine ⟨rfl,⟨_,rfl⟩,?_⟩
    rw [List.take_add_one,hx,List.find?_append,hf]
    have h':decide (x∈left)=false:=by simpa using h
    simp [h']
  ·rintro σ H' ⟨rfl,⟨c,rfl⟩,hf⟩
   rw [List.length_map,List.take_length] at hf
   have fv:foundV us left=.non:=by unfold foundV;rw [hf]
   rw [fv] at q
   exact q
def keptV (rows:RS) (ls:LS):V→Bool
 | .str x=>(upsOf rows x).any fun u=>decide (u∈ls)
 | _=>false
def kept_map (rows:RS) (ls:LS):((ls.map V.str).filter (keptV rows ls)).map (fun v=>v)=(Graph.kept (upsOf rows) ls).map V.str:=by
 rw [List.map_id',List.filter_map]
 rfl
def found_is (us ls:LS):(!decide (foundV us ls=V.non))=us.any fun u=>decide (u∈ls):=by
 unfold foundV
 cases e:us.find? fun x=>decide (x∈ls) with
 | none =>
  have:∀ x∈us,¬ decide (x∈ls)=true:=List.find?_eq_none.mp e
  rw [Bool.eq_iff_iff]
  constructor
  ·intro h;simp at h
  ·intro h
   obtain ⟨x,hx,h1⟩:=List.any_eq_true.mp h
   exact absurd h1 (this x hx)
 | some x =>
  have h1:=List.find?_some e
  have h2:=List.mem_of_find?_eq_some e
  rw [Bool.eq_iff_iff]
  constructor
  ·intro _;exact List.any_eq_true.mpr ⟨x,h2,h1⟩
  ·intro _;rfl
abbrev nEnd:LS:=["ups_of","left","kept"]
def scE:FnScope nEnd ["ups_of"] (defScope s_endless):=by nofun
def nd_wul:(["word","ups_of","left"]:LS).Nodup:=by decide +kernel
def word_row {rows:RS}{x:Str}(h:x∈rows.map (·.1)):∃ r∈rows,r.1=x:=by
 obtain ⟨r,hr,e⟩:=List.mem_map.mp h
 exact ⟨r,hr,e⟩
def ok_endless(F:Def K mg "endless" s_endless ["ups_of"] f fd) (DF:Def K mg "first_among" s_first_among ["words","others"] fF fdF) (T:TxtK mg):⋯ 2 f fd ["ups_of"] spEndless:=by
 have GF:⋯ 1 fF fdF ["words","others"] (spFirst K):=ok_first DF
 nomatch F.fn.ok scE
 ·obtain ⟨d,o,rows,kvs,rfl,_⟩:=h
  rfl
 ·obtain ⟨d,o,rows,kvs,rfl,bk,g,q⟩:=h
  have nd:=scE.nd
  have hu:=hu_of hr
  refine ⟨_,pS (ps_set (i:=1) nd rfl (Or.inr rfl) (pe_callTy (call_list_keys rfl) (by rfl) T.list PyProof.Rows.boot_list (pC (pv 0) pa_nil)))
   (pss_one (ps_while PassesOwn.never (pt_val pe_bl)
    (pS (ps_setComp (k:=2) ["word"] ["ups_of","left"] [0,1] nd rfl rfl (fun _=>compT_ok (osc:=defScope s_endless) (on:=nEnd) (by decide +kernel) rfl rfl rfl) (pi_list (pv 1)) (fun C s H fp=>pg_name (i:=0) nd_wul rfl (Or.inl rfl) (Or.inr rfl))
     (fun C s H fp=>pts_one (pt_cmp (pc_notN (pe_callD DF GF hr (pC (pe_dget hu (pv 1) (pv 0) (fun _ _=>rfl)) (pC (pv 2) pa_nil)))))) (fun C s H fp=>pv 0))
    (pS (ps_if (pt_cmpR op_eq (pe_callB call_len (by rfl) T.len PySem.boot_len (pC (pv 2) pa_nil)) (pe_callB call_len (by rfl) T.len PySem.boot_len (pC (pv 1) pa_nil)) (nomark _)) (pss_one (ps_ret (pv 2))) pss_nil)
    (pss_one (ps_set (i:=1) nd rfl (Or.inr rfl) (pv 2))))))),?_⟩
  have wl:(rows.map (·.1)).length≤24:=by rw [List.length_map];exact g.le
  refine ⟨_,rfl,d,kvs,rfl,.inr ⟨o,bk.at_⟩,fun l0 hl0=>?_⟩
  refine ⟨fun m σ H'=>∃ (ll:Addr) (ls:LS) (c:Option V),σ=[some (.ref d),some (.ref ll),c]∧Same H H'∧H' ll=some (.lst (ls.map V.str))∧(∀ x∈ls,x∈rows.map (·.1))∧ls.length≤24∧m=ls.length,
   ⟨_,l0,rows.map (·.1),none,rfl,fun b o e=>by rw [upd_ne (nNo e hl0)];exact e,by rw [uS,keysV bk.ups],fun x h=>h,wl,rfl⟩,?_⟩
  rintro m σ H' ⟨ll,ls,c,rfl,s1,hll,hsub,h24,rfl⟩
  refine ⟨true,rfl,?_⟩
  refine iteT ⟨fun σ' H2=>∃ m',m'<ls.length∧∃ (ll:Addr) (ls:LS) (c:Option V),σ'=[some (.ref d),some (.ref ll),c]∧Same H H2∧H2 ll=some (.lst (ls.map V.str))∧(∀ x∈ls,x∈rows.map (·.1))∧ls.length≤24∧m'=ls.length,fun _ _ h=>h,?_⟩
  refine ⟨_,rfl,ll,rfl,⟨_,SqL.of hll⟩,comp_pure (runs_list (xs:=ls.map V.str)) (sL (by rw [List.length_map];omega)) (keptV rows ls) (fun v=>v) (fun D ys hD=>SqL.of (by rw [upd_ne (nNo hll hD)];exact hll)) ?_ ?_ ?_⟩
  ·intro D ys v R hD hv hR
   obtain ⟨x,hx,rfl⟩:=List.mem_map.mp hv
   obtain ⟨r,hr',rfl⟩:=word_row (hsub x hx)
   obtain ⟨t,hvt,ht⟩:=bk.ups.val g.nd hr'
   have kp:∀ b o,H b=some o→(upd H' D (.lst ys)) b=some o:=fun b o e=>by rw [upd_ne (nNo (s1 _ _ e) hD)];exact s1 _ _ e
   refine ⟨_,rfl,_,rfl,d,_,rfl,(by rw [← hvt];exact DGet.f (k:=Sum.inr r.1) (kp _ _ bk.at_)),_,rfl,t,ll,r.2,ls,rfl,SqT.of (kp _ _ ht),SqL.of (by rw [upd_ne (nNo hll hD)];exact hll),_,rfl,?_⟩
   have e:(!decide (foundV r.2 ls=V.non))=keptV rows ls (V.str r.1):=by
    rw [found_is]
    show _=(upsOf rows r.1).any _
    rw [upsOf_at g.nd hr']
   rw [e]
   exact hR
  ·intro D ys v R hD hv _ hR
   exact ⟨_,rfl,hR⟩
  ·intro D hD
   rw [kept_map]
   have hDl:(upd H' D (.lst ((Graph.kept (upsOf rows) ls).map V.str))) ll=some (.lst (ls.map V.str)):=by rw [upd_ne (nNo hll hD)];exact hll
   have s2:Same H (upd H' D (.lst ((Graph.kept (upsOf rows) ls).map V.str))):=fun b o e=>by rw [upd_ne (nNo (s1 _ _ e) hD)];exact s1 _ _ e
   refine ⟨_,rfl,_,_,rfl,.inl ⟨_,SqL.of uS,rfl⟩,_,rfl,_,_,rfl,.inl ⟨_,SqL.of hDl,rfl⟩,rfl,_,rfl,?_⟩
   have kle:=Graph.kept_le (upsOf rows) ls
   refine ite2 (fun h=>?_) (fun h=>?_)
   ·have h:(Graph.kept (upsOf rows) ls).length=ls.length:=by
     have:=of_decide_eq_true h
     injection this with this
     rw [List.length_map,List.length_map] at this
     omega
    obtain ⟨rk,hrk⟩:=g.rank
    have nil:ls=[]:=Graph.kept_nil (rk:=rk) (fun a ha b hb=>by
     obtain ⟨r,hr',rfl⟩:=word_row (hsub a ha)
     rw [upsOf_at g.nd hr'] at hb
     exact hrk r hr' b hb) h
    have kn:Graph.kept (upsOf rows) ls=[]:=by rw [nil];rfl
    refine ⟨_,rfl,q D _ s2 ?_⟩
    rw [uS,kn]
    rfl
   ·have h:(Graph.kept (upsOf rows) ls).length≠ls.length:=fun z=>h (decide_eq_true (by rw [List.length_map,List.length_map,z]))
    exact ⟨_,rfl,_,by omega,D,_,_,rfl,s2,uS,fun x hx=>hsub x (Graph.kept_sub hx),by omega,rfl⟩
def scR:FnScope ["ups_of","left","way","here"] ["ups_of"] (defScope s_find_ring):=by nofun
def ok_ring(F:Def K mg "find_ring" s_find_ring ["ups_of"] f fd) (DE:Def K mg "endless" s_endless ["ups_of"] fE fdE) (DF:Def K mg "first_among" s_first_among ["words","others"] fF fdF) (T:TxtK mg):⋯ 3 f fd ["ups_of"] spRing:=by
 have GE:⋯ 2 fE fdE ["ups_of"] spEndless:=ok_endless DE DF T
 nomatch F.fn.ok scR
 ·obtain ⟨d,o,rows,kvs,rfl,_⟩:=h
  rfl
 ·obtain ⟨d,o,rows,kvs,rfl,bk,g,q⟩:=h
  have nd:=scR.nd
  refine ⟨_,pS (ps_set (i:=1) nd rfl (Or.inl rfl) (pe_callD DE GE hr (pC (pv 0) pa_nil)))
   (pS (ps_if (pt_not (pt_truth (pv 1) (fun _=>rfl))) (pss_one (ps_ret pe_non)) pss_nil) pss_never),?_⟩
  refine ⟨_,rfl,d,o,rows,kvs,rfl,bk,g,fun l H' s1 hl=>?_⟩
  exact ⟨_,rfl,false,.inl ⟨[],SqL.of hl,rfl⟩,iteT (q H' s1)⟩
def inK (x:Str):Key:=Sum.inr x
def spAbove:Sp:=fun vs H Q _=>∃ (d:Addr) (o:Obj) (rows:RS) (kvs:List (Key×V)) (x:Str),vs=[.ref d,.str x]∧BookD H d o rows kvs∧Good rows∧x∈rows.map (·.1) ∧
 ∀ a o' fk H',H a=none→Same H H'→H' a=some (.frz o' (.dK fk))→(∀ y,(Sum.inr y:Key)∈fk.map (·.1)↔Graph.Reach (upsOf rows) x y)→Q (.ref a) H'
structure Going (rows:RS) (x:Str) (fs ws:LS):Prop where
 start:x∈fs
 sub:∀ y∈ws,y∈fs
 known:∀ y∈fs,y∈rows.map (·.1)
 nd:fs.Nodup
 reach:∀ y∈fs,Graph.Reach (upsOf rows) x y
 closed:∀ y∈fs,y∉ws→∀ u∈upsOf rows y,u∈fs
 few:ws.length≤fs.length
def scA:FnScope ["ups_of","word","found","waiting","here","up"] ["ups_of","word"] (defScope s_all_above):=by nofun
def keys_strs {fk:List (Key×V)}{fs:LS}(h:fk.map (·.1)=fs.map inK) (y:Str):(Sum.inr y:Key)∈fk.map (·.1)↔y∈fs:=by
 rw [h]
 constructor
 ·intro m
  obtain ⟨z,hz,e⟩:=List.mem_map.mp m
  have e:z=y:=by
   unfold inK at e
   injection e
  rw [← e];exact hz
 ·intro m
  exact List.mem_map.mpr ⟨y,m,rfl⟩
def some_of_key {fk:List (Key×V)}{k:Key}(h:k∈fk.map (·.1)):(valV fk k).isSome=true:=by
 cases e:valV fk k with
 | none=>exact absurd h (valV_not e)
 | some v=>rfl
def ok_above(F:Def K mg "all_above" s_all_above ["ups_of","word"] f fd):⋯ 1 f fd ["ups_of","word"] spAbove:=by
 nomatch F.fn.ok scA
 ·obtain ⟨d,o,rows,kvs,x,rfl,_⟩:=h
  rfl
 ·obtain ⟨d,o,rows,kvs,x,rfl,bk,g,hx,q⟩:=h
  have nd:=scA.nd
  have hu:=hu_of hr
  refine ⟨_,pS (ps_set (i:=2) nd rfl (Or.inl rfl) (pe_disp (pps_cons (pv 1) pe_bl pps_nil) rfl rfl (by simp) (by show 1≤15;decide)))
   (pS (ps_set (i:=3) nd rfl (Or.inl rfl) (pe_lst (pC (pv 1) pa_nil)))
   (pS (ps_while PassesOwn.never (pt_truth (pv 3) (fun _=>rfl))
    (pS (ps_set (i:=4) nd rfl (Or.inl rfl) (pe_bm0 PySem.F.plainAttrs_list PySem.F.slot_list_pop PySem.F.type_list_pop mt_pop (pv 3)))
    (pss_one (ps_for PassesOwn.never rfl (pi_tup (pe_dget hu (pv 0) (pv 4) (fun _ _=>rfl))) (pg_name (i:=5) nd rfl (Or.inl rfl))
     (pss_one (ps_if (pt_cmp (pc_dnotin hu (pv 5) (pv 2))) (pS (ps_dput hu (pv 2) (pv 5) pe_bl rfl)
      (pss_one (ps_expr (pe_bm PySem.F.plainAttrs_list PySem.F.slot_list_append PySem.F.type_list_append mt_append (pv 3) (pC (pv 5) pa_nil))))) pss_nil))))))
   (pss_frz (pss_one (ps_ret (pv 2)))))),?_⟩
  intro fa hfa
  refine ⟨_,rfl,uS,[(Sum.inr x,.bl true)],rfl,(by show 1≤15;decide),?_⟩
  rw [upd_upd]
  refine ⟨_,rfl,sL (by show 1≤100000;decide),fun wa hwa=>?_⟩
  have fw:fa≠wa:=nNo uS hwa
  have hwaH:H wa=none:=by
   cases e:H wa with
   | none=>rfl
   | some u=>rw [upd_ne (Ne.symm fw),e] at hwa;cases hwa
  have bound:∀ {fs ws:LS},Going rows x fs ws→fs.length≤rows.length:=fun {fs ws} h=>by
   have:=Graph.nodup_le h.nd h.known
   rwa [List.length_map] at this
  have gle:=g.le
  refine ⟨fun m σ H'=>∃ (fs ws:LS) (fk:List (Key×V)) (a b:Option V),σ=[some (.ref d),some (.str x),some (.ref fa),some (.ref wa),a,b]∧Same H H'∧H' fa=some (.dK fk)∧fk.map (·.1)=fs.map inK∧H' wa=some (.lst (ws.map V.str))∧Going rows x fs ws∧m + 2 * fs.length=2 * rows.length + ws.length,
   ⟨2 * rows.length - 1,[x],[x],[(Sum.inr x,.bl true)],none,none,rfl,fun b o e=>by rw [upd_ne (nNo e hwaH),upd_ne (nNo e hfa)];exact e,by rw [upd_ne fw];exact uS,rfl,uS,
    ⟨by simp,fun y h=>h,fun y h=>by rw [List.mem_singleton.mp h];exact hx,by simp,fun y h=>by rw [List.mem_singleton.mp h];exact .refl x,fun y h n=>absurd h n,Nat.le_refl _⟩,by have:=g.ne;simp;omega⟩,?_⟩
  rintro m σ H' ⟨fs,ws,fk,a,b,rfl,s1,hf,hk,hw,go,hm⟩
  have flen:=bound go
  refine ⟨_,rfl,_,.inl ⟨_,SqL.of hw,rfl⟩,?_⟩
  refine ite2 (fun hne=>?_) (fun hne=>?_)
  ·-- here=waiting.pop()
   have wne:ws≠[]:=by
    intro z
    rw [z] at hne
    cases hne
   have hpos:0<ws.length:=List.length_pos_iff.mpr wne
   have split:ws=ws.dropLast++[ws.getLast wne]:=(List.dropLast_concat_getLast wne).symm
   generalize hhere:ws.getLast wne=here at split
   have hmem:here∈ws:=by rw [split];simp
   have hfs:here∈fs:=go.sub here hmem
   obtain ⟨r,hr',er⟩:=word_row (go.known here hfs)
   obtain ⟨t,hvt,ht⟩:=bk.ups.val g.nd hr'
   have last:(ws.map V.str)[(ws.map V.str).length - 1]?=some (V.str here):=by
    rw [List.getElem?_map,List.length_map]
    have:ws[ws.length - 1]?=some here:=by
     rw [← hhere,List.getLast_eq_getElem,List.getElem?_eq_getElem (by omega)]
    rw [this]
    rfl
   refine ⟨fun σ' H2=>∃ m',m'<m∧∃ (fs ws:LS) (fk:List (Key×V)) (a b:Option V),σ'=[some (.ref d),some (.str x),some (.ref fa),some (.ref wa),a,b]∧Same H H2∧H2 fa=some (.dK fk)∧fk.map (·.1)=fs.map inK∧H2 wa=some (.lst (ws.map V.str))∧Going rows x fs ws∧m' + 2 * fs.length=2 * rows.length + ws.length,fun _ _ h=>h,?_⟩
   refine ⟨_,rfl,.inl ⟨rfl,_,SqL.of hw⟩,wa,_,_,rfl,rfl,hw,last,?_⟩
   have s2:Same H (upd H' wa (.lst (ws.map V.str).dropLast)):=fun b o e=>by rw [upd_ne (nNo e hwaH)];exact s1 _ _ e
   refine ⟨_,rfl,_,rfl,d,_,rfl,(by rw [← hvt,er];exact DGet.f (k:=Sum.inr here) (s2 _ _ bk.at_)),t,rfl,⟨_,SqT.of (s2 _ _ ht)⟩,?_⟩
   have uo:upsOf rows here=r.2:=by rw [← er];exact upsOf_at g.nd hr'
   refine for_runs (runs_tup (xs:=r.2.map V.str)) (fun j σ H2=>∃ (fs' ws':LS) (fk':List (Key×V)) (b:Option V),σ=[some (.ref d),some (.str x),some (.ref fa),some (.ref wa),some (.str here),b]∧Same H H2∧H2 fa=some (.dK fk')∧fk'.map (·.1)=fs'.map inK∧H2 wa=some (.lst (ws'.map V.str)) ∧
    (∀ y∈fs,y∈fs')∧(∀ y∈ws.dropLast,y∈ws')∧(∀ y∈ws',y∈fs')∧(∀ y∈fs',y∈rows.map (·.1))∧fs'.Nodup∧(∀ y∈fs',Graph.Reach (upsOf rows) x y)∧(∀ y∈fs',y∈fs∨y∈ws')∧(∀ u∈r.2.take j,u∈fs')∧ws'.length + 2 * fs.length + fs'.length≤ws.dropLast.length + 2 * fs'.length + fs.length)
    ⟨fs,ws.dropLast,fk,_,rfl,s2,by rw [upd_ne fw];exact hf,hk,by rw [uS,List.map_dropLast],fun y h=>h,fun y h=>h,fun y h=>go.sub y ((List.dropLast_sublist ws).subset h),go.known,go.nd,go.reach,fun y h=>.inl h,fun u h=>by simp at h,by omega⟩ (fun j σ H2 _ ⟨_,_,_,_,_,s,_⟩=>SqT.of (s _ _ ht)) ?_ ?_
   ·rintro j v σ H2 hj ⟨fs',ws',fk',b,rfl,s3,hf3,hk3,hw3,c1,c2,c3,c4,c5,c6,c7,c8,c9⟩
    obtain ⟨u,hu',rfl⟩:=strs_at hj
    have um:u∈r.2:=List.mem_of_getElem? hu'
    have fl3:fs'.length≤rows.length:=by
     have:=Graph.nodup_le c5 c4
     rwa [List.length_map] at this
    have kl:fk'.length=fs'.length:=by have:=congrArg List.length hk3;simpa using this
    refine ⟨_,rfl,_,rfl,fa,_,rfl,DGet.k (k:=Sum.inr u) hf3,_,rfl,?_⟩
    have dl:ws.dropLast.length=ws.length - 1:=List.length_dropLast
    have gf:=go.few
    by_cases nin:u∉fs'
    ·have nk:(Sum.inr u:Key)∉fk'.map (·.1):=fun z=>nin ((keys_strs hk3 u).mp z)
     have wl3:ws'.length≤rows.length * 3:=by omega
     rw [valV_none nk]
     refine iteT ?_
     refine ⟨_,rfl,_,rfl,fa,_,rfl,DPut.k (k:=Sum.inr u) hf3 (small_lt (by omega)),?_⟩
     have hw4:(upd H2 fa (.dK (putK fk' (Sum.inr u) (.bl true)))) wa=some (.lst (ws'.map V.str)):=by rw [upd_ne (Ne.symm fw)];exact hw3
     refine ⟨_,rfl,.inl ⟨rfl,_,SqL.of hw4⟩,_,rfl,wa,_,_,rfl,rfl,hw4,small_lt (by rw [List.length_map];omega),?_⟩
     refine ⟨fs'++[u],ws'++[u],putK fk' (Sum.inr u) (.bl true),_,rfl,fun b o e=>by rw [upd_ne (nNo e hwaH),upd_ne (nNo e hfa)];exact s3 _ _ e,by rw [upd_ne fw];exact uS,?_,by rw [uS,List.map_append];rfl,fun y h=>List.mem_append_left _ (c1 y h),fun y h=>List.mem_append_left _ (c2 y h),fun y h=>?_,fun y h=>?_,?_,fun y h=>?_,fun y h=>?_,fun y h=>?_,?_⟩
     ·rw [putK_keys nk,hk3,List.map_append]
      rfl
     ·rcases List.mem_append.mp h with h | h
      ·exact List.mem_append_left _ (c3 y h)
      ·exact List.mem_append_right _ h
     ·rcases List.mem_append.mp h with h | h
      ·exact c4 y h
      ·rw [List.mem_singleton.mp h];exact g.known r hr' u um
     ·rw [List.nodup_append]
      exact ⟨c5,by simp,fun a ha b hb e=>nin (by rw [← List.mem_singleton.mp hb,← e];exact ha)⟩
     ·rcases List.mem_append.mp h with h | h
      ·exact c6 y h
      ·rw [List.mem_singleton.mp h];exact (go.reach here hfs).snoc (by rw [uo];exact um)
     ·rcases List.mem_append.mp h with h | h
      ·rcases c7 y h with h | h
       ·exact .inl h
       ·exact .inr (List.mem_append_left _ h)
      ·exact .inr (List.mem_append_right _ h)
     ·rw [List.take_add_one,hu'] at h
      rcases List.mem_append.mp h with h | h
      ·exact List.mem_append_left _ (c8 y h)
      ·have:y=u:=by simpa using h
       rw [this];exact List.mem_append_right _ (by simp)
     ·rw [List.length_append,List.length_append]
      simp only [List.length_singleton]
      omega
    ·have yin:u∈fs':=Classical.byContradiction nin
     rw [some_of_key ((keys_strs hk3 u).mpr yin)]
     refine iteF ?_
     refine ⟨fs',ws',fk',_,rfl,s3,hf3,hk3,hw3,c1,c2,c3,c4,c5,c6,c7,fun y h=>?_,c9⟩
     rw [List.take_add_one,hu'] at h
     rcases List.mem_append.mp h with h | h
     ·exact c8 y h
     ·have:y=u:=by simpa using h
      rw [this];exact yin
   ·rintro σ H2 ⟨fs',ws',fk',b,rfl,s3,hf3,hk3,hw3,c1,c2,c3,c4,c5,c6,c7,c8,c9⟩
    rw [List.length_map,List.take_length] at c8
    have fl3:fs'.length≤rows.length:=by
     have:=Graph.nodup_le c5 c4
     rwa [List.length_map] at this
    have dl:ws.dropLast.length=ws.length - 1:=List.length_dropLast
    have fle:fs.length≤fs'.length:=Graph.nodup_le go.nd c1
    have gf:=go.few
    refine ⟨2 * rows.length + ws'.length - 2 * fs'.length,by omega,fs',ws',fk',_,_,rfl,s3,hf3,hk3,hw3,⟨c1 x go.start,c3,c4,c5,c6,fun y hy hn u hu'=>?_,by omega⟩,by omega⟩
    rcases c7 y hy with hy' | hy'
    ·by_cases yh:y=here
     ·rw [yh,uo] at hu'
      exact c8 u hu'
     ·have nw:y∉ws:=fun z=>by
       rw [split] at z
       rcases List.mem_append.mp z with z | z
       ·exact hn (c2 y z)
       ·exact yh (List.mem_singleton.mp z)
      exact c1 u (go.closed y hy' nw u hu')
    ·exact absurd hy' hn
  ·have wnil:ws=[]:=by
    cases ws with
    | nil=>rfl
    | cons y r=>exact absurd rfl hne
   refine ⟨fa,fk,hf,fun o'=>⟨_,rfl,q fa o' fk _ hfa (fun b o e=>by rw [upd_ne (nNo e hfa)];exact s1 _ _ e) uS fun y=>?_⟩⟩
   rw [keys_strs hk y]
   constructor
   ·exact fun h=>go.reach y h
   ·intro h
    refine Graph.closed_reach (S:=fun y=>y∈fs) (fun y hy u hu'=>go.closed y hy (by rw [wnil];simp) u hu') h go.start
def fne:¬ (("ups_of":Str)="above_of"):=by decide +kernel
def flds (d a:Addr):List (Str×V):=putF "above_of" (.ref a) (putF "ups_of" (.ref d) [])
def flds_u (d a:Addr):(flds d a).lookup ("ups_of":Str)=some (.ref d):=by
 unfold flds
 rw [lookup_putF,if_neg fne,lookup_putF,if_pos rfl]
def flds_no (d a:Addr) {m:Str} (h1:¬ m="above_of") (h2:¬ m="ups_of"):(flds d a).lookup m=none:=by
 unfold flds
 rw [lookup_putF,if_neg h1,lookup_putF,if_neg h2]
 rfl
def AboveD (H:Hp) (all rows:RS) (avs:List (Key×V)):Prop :=
 Paired (fun r (p:Key×V)=>p.1=Sum.inr r.1∧∃ t o' fk,p.2=.ref t∧H t=some (.frz o' (.dK fk))∧∀ y,(Sum.inr y:Key)∈fk.map (·.1)↔Graph.Reach (upsOf all) r.1 y) rows avs
def AboveD.mono {H H':Hp}{all rows:RS}{avs:List (Key×V)}(h:AboveD H all rows avs) (s:∀ b o' fk,H b=some (.frz o' (.dK fk))→H' b=some (.frz o' (.dK fk))):AboveD H' all rows avs :=
 Paired.mapP h fun _ _ z=>⟨z.1,let ⟨t,o',fk,e,x,y⟩:=z.2;⟨t,o',fk,e,s _ _ _ x,y⟩⟩
theorem AboveD.keys:∀ {H:Hp}{all rows:RS}{kvs:List (Key×V)},AboveD H all rows kvs→kvs.map (·.1)=rows.map fun r=>(Sum.inr r.1:Key)
 | _,_,_,_,.nil=>rfl
 | _,_,_,_,.cons r t=>by rw [List.map_cons,List.map_cons,r.1,AboveD.keys t]
structure KindsAt (C:Addr) (H:Hp) (p:Addr) (rows:RS):Prop where
 ex:∃ (dx d a:Addr) (o oa:Obj) (kvs avs:List (Key×V)),H p=some (.ins C dx (flds d a))∧BookD H d o rows kvs∧H a=some (.frz oa (.dK avs))∧AboveD H rows rows avs
theorem KindsAt.mono {C:Addr}{H H':Hp}{p:Addr}{rows:RS}(h:KindsAt C H p rows) (s:Same H H'):KindsAt C H' p rows:=by
 obtain ⟨dx,d,a,o,oa,kvs,avs,h1,h2,h3,h4⟩:=h.ex
 exact ⟨dx,d,a,o,oa,kvs,avs,s _ _ h1,h2.mono s,s _ _ h3,h4.mono fun _ _ _ e=>s _ _ e⟩
structure TxtC (K:Fg) (C:Addr):Prop where
 cl:Cls K C
 nU:NoAttr K C "ups_of"
 nA:NoAttr K C "above_of"
structure MDef (K:Fg) (C:Addr) (m qual:Str) (st:Stmt) (ps:LS) (f:Addr) (fd:FuncData):Prop where
 fn:Fun K m qual st f fd
 b:Binds K fd ps []
 me:Meth K C m f
def spInit (K:Fg) (C:Addr):Sp:=fun vs H Q _=>∃ (p dx l:Addr) (rows:RS),vs=[.ref p,.ref l]∧H p=some (.ins C dx [])∧RowsG K H l rows∧Good rows ∧
 ∀ H',KindsAt C H' p rows→(∀ b o,b≠p→H b=some o→H' b=some o)→Q .non H'
def spHas (C:Addr):Sp:=fun vs H Q _=>∃ (p:Addr) (rows:RS) (x:Str),vs=[.ref p,.str x]∧KindsAt C H p rows∧Good rows∧Q (.bl (decide (x∈rows.map (·.1)))) H
def scI:FnScope ["self","rows","ups_of","word","ups","ring","above_of"] ["self","rows"] (defScope s_Kinds___init__):=by nofun
def ok_init(F:Fun K "__init__" "Kinds.__init__" s_Kinds___init__ f fd) (T:TxtK mg) (TC:TxtC K C) (D1:Def K mg "check_rows" s_check_rows ["rows"] f1 d1) (D2:Def K mg "is_word" s_is_word ["text"] f2 d2)
  (D3:Def K mg "check_ups" s_check_ups ["ups_of"] f3 d3) (D4:Def K mg "find_ring" s_find_ring ["ups_of"] f4 d4) (D5:Def K mg "endless" s_endless ["ups_of"] f5 d5) (D6:Def K mg "first_among" s_first_among ["words","others"] f6 d6) (D7:Def K mg "all_above" s_all_above ["ups_of","word"] f7 d7):
  ⋯ 4 f fd ["self","rows"] (spInit K C):=by
 have G1:⋯ 2 f1 d1 ["rows"] (spCheckRows K):=ok_check_rows D1 D2 T
 have G3:⋯ 1 f3 d3 ["ups_of"] spCheckUps:=ok_check_ups D3
 have G4:⋯ 3 f4 d4 ["ups_of"] spRing:=ok_ring D4 D5 D6 T
 have G7:⋯ 1 f7 d7 ["ups_of","word"] spAbove:=ok_above D7
 nomatch F.ok scI
 ·obtain ⟨p,dx,l,rows,rfl,_⟩:=h
  rfl
 ·obtain ⟨p,dx,l,rows,rfl,hp,hR,g,q⟩:=h
  have nd:=scI.nd
  have hu:=hu_of hr
  have hr1:Room 1 _:=hr.mono (by decide)
  have hr2:Room 2 _:=hr.mono (by decide)
  refine ⟨_,pS (ps_expr (pe_callD D1 G1 hr2 (pC (pv 1) pa_nil)))
   (pS (ps_set (i:=2) nd rfl (Or.inl rfl) pe_dnewK)
   (pS (ps_for PassesOwn.never rfl (pi_seq (pv 1)) (pg_tup rfl (gC (pg_name (i:=3) nd rfl (Or.inl rfl)) (gC (pg_name (i:=4) nd rfl (Or.inl rfl)) pgs_nil)))
    (pss_one (ps_dput hu (pv 2) (pv 3) (pe_callTy call_tuple_of (by rfl) T.tuple PyProof.Rows.boot_tuple (pC (pv 4) pa_nil)) rfl)))
   (pss_frz (pS (ps_expr (pe_callD D3 G3 hr1 (pC (pv 2) pa_nil)))
   (pS (ps_set (i:=5) nd rfl (Or.inl rfl) (pe_callD D4 G4 hr (pC (pv 2) pa_nil)))
   (pS (ps_if (pt_cmp (pc_notN (pv 5))) pss_never pss_nil)
   (pS (ps_set (i:=6) nd rfl (Or.inl rfl) pe_dnewK)
   (pS (ps_for PassesOwn.never rfl (pi_keys (pv 2)) (pg_name (i:=3) nd rfl (Or.inl rfl)) (pss_one (ps_dput hu (pv 6) (pv 3) (pe_callD D7 G7 hr1 (pC (pv 2) (pC (pv 3) pa_nil))) rfl)))
   (pss_frz (pS (ps_fld (pv 0) (pv 2) rfl) (pss_one (ps_fld (pv 0) (pv 6) rfl)))))))))))),?_⟩
  refine ⟨_,rfl,l,rows,rfl,hR,g,fun H1 s1=>?_⟩
  intro d hd
  have s2:Same H (upd H1 d (.dK [])):=fun b o e=>by rw [upd_ne (nNo (s1 _ _ e) hd)];exact s1 _ _ e
  obtain ⟨b,vs,hl,hpr⟩:=hR
  refine ⟨_,rfl,b,l,vs,rfl,hl.mono s2,for_runs runs_seq (fun i σ H'=>∃ (kvs:List (Key×V)) (a c:Option V),σ=[some (.ref p),some (.ref l),some (.ref d),a,c,none,none]∧Same H H'∧H' d=some (.dK kvs)∧UpsD H' (rows.take i) kvs)
   ⟨[],none,none,rfl,s2,uS,by rw [List.take_zero];exact .nil⟩ (fun i σ H' _ ⟨_,_,_,_,s,_⟩=>hl.mono s) ?_ ?_⟩
  ·rintro i v σ H' hi ⟨kvs,a,c,rfl,s3,hdk,hU⟩
   obtain ⟨r,hr',t,u,rfl,ht,hug⟩:=paired_at hpr hi
   have dH:H d=none:=s1.free hd
   refine ⟨t,_,rfl,s3.tup ht,rfl,_,_,rfl,_,_,rfl,rfl,?_⟩
   have hnew:(Sum.inr r.1:Key)∉kvs.map (·.1):=by rw [hU.keys];exact taken_not g.nd hr'
   have hil:(rows.take i).length≤24:=by rw [List.length_take];have:=g.le;omega
   have hkl:kvs.length=(rows.take i).length:=(Paired.length hU).symm
   have fin:∀ (t2:Addr) (H2:Hp),Same H' H2→H2 t2=some (.tup (r.2.map V.str))→∃ (kvs':List (Key×V)) (a c:Option V),[some (V.ref p),some (V.ref l),some (V.ref d),some (V.str r.1),some (V.ref u),none,none]=[some (V.ref p),some (V.ref l),some (V.ref d),a,c,none,none]∧Same H (upd H2 d (.dK (putK kvs (Sum.inr r.1) (.ref t2)))) ∧
     (upd H2 d (.dK (putK kvs (Sum.inr r.1) (.ref t2)))) d=some (.dK kvs')∧UpsD (upd H2 d (.dK (putK kvs (Sum.inr r.1) (.ref t2)))) (rows.take (i + 1)) kvs':=fun t2 H2 s4 ht2=>by
    have d2:=s4 _ _ hdk
    have tk:∀ b xs,H2 b=some (.tup xs)→(upd H2 d (.dK (putK kvs (Sum.inr r.1) (.ref t2)))) b=some (.tup xs):=fun b xs e=>by
     rw [upd_ne (fun z=>by rw [z,d2] at e;cases e)];exact e
    refine ⟨_,_,_,rfl,fun b o e=>by rw [upd_ne (nNo e dH)];exact s4 _ _ (s3 _ _ e),uS,?_⟩
    have sn:UpsD (upd H2 d (.dK (putK kvs (Sum.inr r.1) (.ref t2)))) (rows.take i++[r]) (kvs++[(Sum.inr r.1,V.ref t2)]):=Paired.snoc ((hU.mono fun b xs e=>s4 _ _ e).mono tk) ⟨rfl,t2,rfl,tk t2 _ ht2⟩
    rw [← putK_new _ (valV_none hnew)] at sn
    rw [List.take_add_one,hr']
    exact sn
   rcases hug with hug | hug
   ·refine ⟨_,rfl,u,_,rfl,.inr ⟨SqT.of (s3 _ _ hug),_,rfl,_,rfl,d,_,rfl,DPut.k (k:=Sum.inr r.1) hdk (small_lt (by omega)),fin u H' (Same.refl _) (s3 _ _ hug)⟩⟩
   ·refine ⟨_,rfl,u,_,rfl,.inl ⟨s3.seq hug,fun t2 ht2=>?_⟩⟩
    have s4:Same H' (upd H' t2 (.tup (r.2.map V.str))):=fun b o e=>by rw [upd_ne (nNo e ht2)];exact e
    exact ⟨_,rfl,_,rfl,d,_,rfl,DPut.k (k:=Sum.inr r.1) (s4 _ _ hdk) (small_lt (by omega)),fin t2 _ s4 uS⟩
  ·rintro σ H2 ⟨kvs,a,c,rfl,s3,hdk,hU⟩
   have hvl:=hpr.length
   rw [← hvl,List.take_length] at hU
   refine ⟨d,kvs,hdk,fun o=>?_⟩
   have dH:H d=none:=s1.free hd
   have s4:Same H (upd H2 d (.frz o (.dK kvs))):=fun b u e=>by rw [upd_ne (nNo e dH)];exact s3 _ _ e
   have bk:BookD (upd H2 d (.frz o (.dK kvs))) d o rows kvs:=⟨uS,hU.mono fun b xs e=>by rw [upd_ne (fun z=>by rw [z,hdk] at e;cases e)];exact e⟩
   refine ⟨_,rfl,d,o,rows,kvs,rfl,bk,g,fun H5 s5=>?_⟩
   refine ⟨_,rfl,d,o,rows,kvs,rfl,bk.mono s5,g,fun H6 s6=>?_⟩
   refine ⟨_,rfl,_,rfl,iteF ?_⟩
   have s56:=s5.trans s6
   have bk6:=bk.mono s56
   have s7:Same H H6:=s4.trans s56
   intro aa haa
   have s8:Same H (upd H6 aa (.dK [])):=fun b u e=>by rw [upd_ne (nNo (s7 _ _ e) haa)];exact s7 _ _ e
   have s68:Same H6 (upd H6 aa (.dK [])):=fun b u e=>by rw [upd_ne (nNo e haa)];exact e
   refine ⟨_,rfl,d,o,kvs,rfl,(bk6.mono s68).at_,for_runs runs_keys (fun i σ H'=>∃ (avs:List (Key×V)) (a b c:Option V),σ=[some (.ref p),some (.ref l),some (.ref d),a,b,c,some (.ref aa)]∧Same H H'∧BookD H' d o rows kvs∧H' aa=some (.dK avs)∧AboveD H' rows (rows.take i) avs)
    ⟨[],_,_,_,rfl,s8,bk6.mono s68,uS,by rw [List.take_zero];exact .nil⟩ (fun i σ H' _ ⟨_,_,_,_,_,_,b,_⟩=>b.at_) ?_ ?_⟩
   ·rintro i v σ H' hi ⟨avs,a,b,c,rfl,s9,bk9,haa9,hA⟩
    rw [List.getElem?_map] at hi
    obtain ⟨pr,hpr',e⟩:=Option.map_eq_some_iff.mp hi
    obtain ⟨r,hr',hk,_⟩:=paired_at bk9.ups hpr'
    have hmem:r∈rows:=List.mem_of_getElem? hr'
    have ev:v=.str r.1:=by rw [← e,hk];rfl
    subst ev
    have aaH:H aa=none:=s7.free haa
    refine ⟨_,rfl,_,rfl,d,o,rows,kvs,r.1,rfl,bk9,g,List.mem_map.mpr ⟨r,hmem,rfl⟩,fun x o' fk H10 hx s10 hxk hreach=>?_⟩
    have hnew:(Sum.inr r.1:Key)∉avs.map (·.1):=by rw [hA.keys];exact taken_not g.nd hr'
    have hil:(rows.take i).length≤24:=by rw [List.length_take];have:=g.le;omega
    have hkl:avs.length=(rows.take i).length:=(Paired.length hA).symm
    have aa10:=s10 _ _ haa9
    refine ⟨_,rfl,_,rfl,aa,_,rfl,DPut.k (k:=Sum.inr r.1) aa10 (small_lt (by omega)),?_⟩
    have kp:∀ b u,b≠aa→H10 b=some u→(upd H10 aa (.dK (putK avs (Sum.inr r.1) (.ref x)))) b=some u:=fun b u hb e=>by rw [upd_ne hb];exact e
    refine ⟨_,_,_,_,rfl,fun b u e=>kp b u (nNo e aaH) (s10 _ _ (s9 _ _ e)),⟨kp _ _ (fun z=>?_) (s10 _ _ bk9.at_),(bk9.ups.mono fun b xs e=>s10 _ _ e).mono fun b xs e=>kp _ _ (fun z=>by rw [z,aa10] at e;cases e) e⟩,uS,?_⟩
    ·have:=bk9.at_
     rw [z,haa9] at this
     cases this
    ·rw [putK_new _ (valV_none hnew),List.take_add_one,hr']
     have fz:∀ b o'' fk',H10 b=some (.frz o'' (.dK fk'))→(upd H10 aa (.dK (avs++[(Sum.inr r.1,V.ref x)]))) b=some (.frz o'' (.dK fk')):=fun b o'' fk' e=>by rw [upd_ne (fun z=>by rw [z,aa10] at e;cases e)];exact e
     exact Paired.snoc ((hA.mono fun b o'' fk' e=>s10 _ _ e).mono fz) ⟨rfl,x,o',fk,rfl,fz _ _ _ hxk,hreach⟩
   ·rintro σ H' ⟨avs,a,b,c,rfl,s9,bk9,haa9,hA⟩
    have hkv:kvs.length=rows.length:=(Paired.length bk9.ups).symm
    rw [List.length_map,hkv,List.take_length] at hA
    have aaH:H aa=none:=s7.free haa
    refine ⟨aa,avs,haa9,fun oa=>?_⟩
    have hp9:H' p=some (.ins C dx []):=s9 _ _ hp
    have pa:p≠aa:=nNo hp aaH
    have pd:p≠d:=nNo hp dH
    have da:d≠aa:=fun z=>by have:=bk9.at_;rw [z,haa9] at this;cases this
    refine ⟨_,rfl,_,rfl,p,C,dx,[],rfl,(by rw [upd_ne pa];exact hp9),TC.cl,TC.nU,(by show 0<1000;decide),_,rfl,_,rfl,p,C,dx,_,rfl,uS,TC.cl,TC.nA,(by show 1<1000;decide),?_⟩
    rw [upd_upd]
    have kp:∀ b u,b≠p→b≠aa→H' b=some u→(upd (upd H' aa (.frz oa (.dK avs))) p (.ins C dx (flds d aa))) b=some u:=fun b u h1 h2 e=>by rw [upd_ne h1,upd_ne h2];exact e
    refine q _ ⟨dx,d,aa,o,oa,kvs,avs,uS,⟨kp _ _ (Ne.symm pd) da bk9.at_,bk9.ups.mono fun b xs e=>kp _ _ (fun z=>by rw [z,hp9] at e;cases e) (fun z=>by rw [z,haa9] at e;cases e) e⟩,by rw [upd_ne (Ne.symm pa)];exact uS,hA.mono fun b o'' fk' e=>kp _ _ (fun z=>by rw [z,hp9] at e;cases e) (fun z=>by rw [z,haa9] at e;cases e) e⟩ fun b u hb e=>kp _ _ hb (nNo e aaH) (s9 _ _ e)
def scHa:FnScope ["self","word"] ["self","word"] (defScope s_Kinds_has):=by nofun
def ok_has(F:Fun K "has" "Kinds.has" s_Kinds_has f fd) (TC:TxtC K C):⋯ 1 f fd ["self","word"] (spHas C):=by
 nomatch F.ok scHa
 ·obtain ⟨p,rows,x,rfl,_⟩:=h
  rfl
 ·obtain ⟨p,rows,x,rfl,⟨dx,d,a,o,oa,kvs,avs,h1,h2,h3,h4⟩,g,q⟩:=h
  have hu:=hu_of hr
  refine ⟨_,pss_one (ps_ret (pe_cmp (pc_din hu (pv 1) (pe_fld (pv 0) rfl)))),?_⟩
  refine ⟨_,rfl,_,rfl,p,C,dx,_,_,rfl,h1,TC.cl,TC.nU,flds_u _ _,d,_,rfl,DGet.f (k:=Sum.inr x) h2.at_,?_⟩
  have e:(valV kvs (Sum.inr x:Key)).isSome=decide (x∈rows.map (·.1)):=by
   have hk:(Sum.inr x:Key)∈kvs.map (·.1)↔x∈rows.map (·.1):=by
    rw [h2.ups.keys]
    constructor
    ·intro m
     obtain ⟨r,hr',e⟩:=List.mem_map.mp m
     exact List.mem_map.mpr ⟨r,hr',by injection e⟩
    ·intro m
     obtain ⟨r,hr',e⟩:=List.mem_map.mp m
     exact List.mem_map.mpr ⟨r,hr',by rw [e]⟩
   by_cases z:x∈rows.map (·.1)
   ·rw [some_of_key (hk.mpr z),decide_eq_true z]
   ·rw [valV_none fun k=>z (hk.mp k),decide_eq_false z]
    rfl
  rw [e]
  exact q
abbrev MHas (K:Fg) (C fH:Addr) (fdH:FuncData):Prop:=MDef K C "has" "Kinds.has" s_Kinds_has ["self","word"] fH fdH
def no_has (d a:Addr):(flds d a).lookup ("has":Str)=none:=flds_no d a (by decide +kernel) (by decide +kernel)
def AboveL (H:Hp) (all rows:RS) (avs:List (Key×V)):Prop :=
 Paired (fun r (p:Key×V)=>p.1=Sum.inr r.1∧∃ (t:Addr) (fs:LS),p.2=.ref t∧H t=some (.lst (fs.map V.str))∧(∀ y,y∈fs↔Graph.Reach (upsOf all) r.1 y)∧fs.length≤all.length) rows avs
def AboveL.mono {H H':Hp}{all rows:RS}{avs:List (Key×V)}(h:AboveL H all rows avs) (s:∀ b xs,H b=some (.lst xs)→H' b=some (.lst xs)):AboveL H' all rows avs :=
 Paired.mapP h fun _ _ z=>⟨z.1,let ⟨t,fs,e,x,y⟩:=z.2;⟨t,fs,e,s _ _ x,y⟩⟩
theorem AboveL.keys:∀ {H:Hp}{all rows:RS}{kvs:List (Key×V)},AboveL H all rows kvs→kvs.map (·.1)=rows.map fun r=>(Sum.inr r.1:Key)
 | _,_,_,_,.nil=>rfl
 | _,_,_,_,.cons r t=>by rw [List.map_cons,List.map_cons,r.1,AboveL.keys t]
theorem AboveL.val':∀ {H:Hp}{all rows:RS}{kvs:List (Key×V)},AboveL H all rows kvs→(rows.map (·.1)).Nodup→∀ {r:Str×LS},r∈rows→∃ (t:Addr) (fs:LS),valV kvs (Sum.inr r.1)=some (.ref t)∧H t=some (.lst (fs.map V.str))∧(∀ y,y∈fs↔Graph.Reach (upsOf all) r.1 y)∧fs.length≤all.length
 | _,_,_,_,.nil,_,r,h=>nomatch h
 | _,_,q :: rs,p :: ps,.cons z t,nd,r,h=>by
  have nd':(q.1 :: rs.map (·.1)).Nodup:=nd
  obtain ⟨n1,n2⟩:=List.nodup_cons.mp nd'
  obtain ⟨z1,u,fs,z2,z3,z4⟩:=z
  rcases List.mem_cons.mp h with e | h
  ·subst e
   exact ⟨u,fs,by rw [valV_pos z1,z2],z3,z4⟩
  ·have ne:¬ p.1=(Sum.inr r.1:Key):=fun e=>n1 (by
    rw [z1] at e
    have e':q.1=r.1:=by injection e
    rw [e']
    exact List.mem_map.mpr ⟨r,h,rfl⟩)
   obtain ⟨u',fs',h1,h2⟩:=AboveL.val' t n2 h
   exact ⟨u',fs',by rw [valV_neg ne];exact h1,h2⟩
def spLAbove:Sp:=fun vs H Q _=>∃ (l:Addr) (rows:RS),vs=[.ref l]∧RowsAt H l rows∧Good rows∧∀ a avs H',Same H H'→H' a=some (.dK avs)→AboveL H' rows rows avs→Q (.ref a) H'
structure GoL (rows:RS) (x:Str) (fs:LS) (k:Nat):Prop where
 start:x∈fs
 known:∀ y∈fs,y∈rows.map (·.1)
 nd:fs.Nodup
 reach:∀ y∈fs,Graph.Reach (upsOf rows) x y
 closed:∀ y∈fs.take k,∀ u∈upsOf rows y,u∈fs
def GoL.le {rows:RS}{x:Str}{fs:LS}{k:Nat}(h:GoL rows x fs k):fs.length≤rows.length:=by
 have:=Graph.nodup_le h.nd h.known
 rwa [List.length_map] at this
def GoL.all {rows:RS}{x:Str}{fs:LS}{k:Nat}(h:GoL rows x fs k) (hk:fs.length≤k) (y:Str):y∈fs↔Graph.Reach (upsOf rows) x y :=
 ⟨h.reach y,fun r=>Graph.closed_reach (S:=fun y=>y∈fs) (fun z hz u hu=>h.closed z (by rw [List.take_of_length_le hk];exact hz) u hu) r h.start⟩
def reach_known {rows:RS}(g:Good rows) {y u:Str}(hy:y∈rows.map (·.1)) (hu:u∈upsOf rows y):u∈rows.map (·.1):=by
 obtain ⟨r,hr,e⟩:=word_row hy
 rw [← e,upsOf_at g.nd hr] at hu
 exact g.known r hr u hu
abbrev nLA:LS:=["rows","ups","word","some","above","found","at","up"]
def scLA:FnScope nLA ["rows"] (defScope s__law_above):=by nofun
def ok_labove(F:Def K mg "_law_above" s__law_above ["rows"] f fd) (len:mg "len"=none):⋯ 1 f fd ["rows"] spLAbove:=by
 nomatch F.fn.ok scLA
 ·obtain ⟨l,rows,rfl,_⟩:=h
  rfl
 ·obtain ⟨l,rows,rfl,hR,g,q⟩:=h
  have nd:=scLA.nd
  have hu:=hu_of hr
  refine ⟨_,pS (ps_set (i:=1) nd rfl (Or.inl rfl) pe_dnewK)
   (pS (ps_for PassesOwn.never rfl (pi_list (pv 0)) (pg_tup rfl (gC (pg_name (i:=2) nd rfl (Or.inl rfl)) (gC (pg_name (i:=3) nd rfl (Or.inl rfl)) pgs_nil)))
    (pss_one (ps_dput hu (pv 1) (pv 2) (pv 3) rfl)))
   (pS (ps_set (i:=4) nd rfl (Or.inl rfl) pe_dnewK)
   (pS (ps_for PassesOwn.never rfl (pi_list (pv 0)) (pg_tup rfl (gC (pg_name (i:=2) nd rfl (Or.inl rfl)) (gC (pg_name (i:=3) nd rfl (Or.inl rfl)) pgs_nil)))
    (pS (ps_set (i:=5) nd rfl (Or.inl rfl) (pe_lst (pC (pv 2) pa_nil)))
    (pS (ps_set (i:=6) nd rfl (Or.inl rfl) pe_int)
    (pS (ps_while PassesOwn.never (pt_cmpR op_lt (pv 6) (pe_callB call_len (by rfl) len PySem.boot_len (pC (pv 5) pa_nil)) (nomark _))
     (pS (ps_for PassesOwn.never rfl (pi_tup (pe_dget hu (pv 1) (pe_ix ix_list (pv 5) (pv 6) (fun _ _=>rfl)) (fun _ _=>rfl))) (pg_name (i:=7) nd rfl (Or.inl rfl))
      (pss_one (ps_if (pt_cmpR op_notIn_seq (pv 7) (pv 5) (by with_unfolding_all rfl)) (pss_one (ps_expr (pe_bm PySem.F.plainAttrs_list PySem.F.slot_list_append PySem.F.type_list_append mt_append (pv 5) (pC (pv 7) pa_nil)))) pss_nil)))
     (pss_one (ps_set (i:=6) nd rfl (Or.inl rfl) (pe_op op_add (pv 6) pe_int)))))
    (pss_one (ps_dput hu (pv 4) (pv 2) (pv 5) rfl))))))
   (pss_one (ps_ret (pv 4)))))),?_⟩
  have gle:=g.le
  obtain ⟨vs,hvs,hpr⟩:=hR
  intro d hd
  have s1:Same H (upd H d (.dK [])):=fun b o e=>by rw [upd_ne (nNo e hd)];exact e
  refine ⟨_,rfl,l,rfl,⟨_,SqL.of (s1 _ _ hvs)⟩,for_runs (runs_list (xs:=vs)) (fun i σ H'=>∃ (kvs:List (Key×V)) (a c:Option V),σ=[some (.ref l),some (.ref d),a,c,none,none,none,none]∧Same H H'∧H' d=some (.dK kvs)∧UpsD H' (rows.take i) kvs)
   ⟨[],none,none,rfl,s1,uS,by rw [List.take_zero];exact .nil⟩ (fun i σ H' _ ⟨_,_,_,_,s,_⟩=>SqL.of (s _ _ hvs)) ?_ ?_⟩
  ·rintro i v σ H' hi ⟨kvs,a,c,rfl,s3,hdk,hU⟩
   obtain ⟨r,hr',t,u,rfl,ht,hug⟩:=paired_at hpr hi
   refine ⟨t,_,rfl,SqT.of (s3 _ _ ht),rfl,_,_,rfl,_,_,rfl,rfl,?_⟩
   have hnew:(Sum.inr r.1:Key)∉kvs.map (·.1):=by rw [hU.keys];exact taken_not g.nd hr'
   have hil:(rows.take i).length≤24:=by rw [List.length_take];omega
   have hkl:kvs.length=(rows.take i).length:=(Paired.length hU).symm
   refine ⟨_,rfl,_,rfl,_,rfl,d,_,rfl,DPut.k (k:=Sum.inr r.1) hdk (small_lt (by omega)),?_⟩
   have tk:∀ b xs,H' b=some (.tup xs)→(upd H' d (.dK (putK kvs (Sum.inr r.1) (.ref u)))) b=some (.tup xs):=fun b xs e=>by
    rw [upd_ne (fun z=>by rw [z,hdk] at e;cases e)];exact e
   refine ⟨_,_,_,rfl,fun b o e=>by rw [upd_ne (nNo e hd)];exact s3 _ _ e,uS,?_⟩
   have sn:UpsD (upd H' d (.dK (putK kvs (Sum.inr r.1) (.ref u)))) (rows.take i++[r]) (kvs++[(Sum.inr r.1,V.ref u)]):=Paired.snoc (hU.mono tk) ⟨rfl,u,rfl,tk u _ (s3 _ _ hug)⟩
   rw [← putK_new _ (valV_none hnew)] at sn
   rw [List.take_add_one,hr']
   exact sn
  ·rintro σ H2 ⟨kvs,a,c,rfl,s3,hdk,hU⟩
   have hvl:=hpr.length
   rw [← hvl,List.take_length] at hU
   intro aa haa
   have s4:Same H2 (upd H2 aa (.dK [])):=fun b o e=>by rw [upd_ne (nNo e haa)];exact e
   have aaH:H aa=none:=s3.free haa
   have daa:d≠aa:=nNo hdk haa
   have hU4:UpsD (upd H2 aa (.dK [])) rows kvs:=hU.mono fun b xs e=>s4 _ _ e
   have hd4:=s4 _ _ hdk
   have s04:=s3.trans s4
   refine ⟨_,rfl,l,rfl,⟨_,SqL.of (s04 _ _ hvs)⟩,for_runs (runs_list (xs:=vs)) (fun i σ H'=>∃ (avs:List (Key×V)) (a b c e f:Option V),σ=[some (.ref l),some (.ref d),a,b,some (.ref aa),c,e,f]∧(∀ b o,b≠aa→H2 b=some o→H' b=some o)∧H' aa=some (.dK avs)∧AboveL H' rows (rows.take i) avs)
    ⟨[],_,_,_,_,_,rfl,fun b o hb e=>by rw [upd_ne hb];exact e,uS,by rw [List.take_zero];exact .nil⟩ (fun i σ H' _ ⟨_,_,_,_,_,_,_,k,_⟩=>SqL.of (k _ _ (nNo hvs aaH) (s3 _ _ hvs))) ?_ ?_⟩
   ·rintro i v σ H' hi ⟨avs,a,b,c,e,f',rfl,k1,haa1,hA⟩
    obtain ⟨r,hr',t,u,rfl,ht,hug⟩:=paired_at hpr hi
    have hmem:r∈rows:=List.mem_of_getElem? hr'
    have keep1:∀ b o,H b=some o→H' b=some o:=fun b o e=>k1 b o (nNo e aaH) (s3 _ _ e)
    refine ⟨t,_,rfl,SqT.of (keep1 _ _ ht),rfl,_,_,rfl,_,_,rfl,rfl,?_⟩
    refine ⟨_,rfl,sL (by show 1≤100000;decide),fun fa hfa=>?_⟩
    have sF:∀ {H5:Hp},Same H' H5→UpsD H5 rows kvs:=fun {H5} s=>hU.mono fun b xs e=>s _ _ (k1 b _ (fun z=>by rw [z,haa] at e;cases e) e)
    have dF:∀ {H5:Hp},Same H' H5→H5 d=some (.dK kvs):=fun {H5} s=>s _ _ (k1 _ _ daa hdk)
    refine ⟨fun m σ H5=>∃ (fs:LS) (k:Nat) (f:Option V),σ=[some (.ref l),some (.ref d),some (.str r.1),some (.ref u),some (.ref aa),some (.ref fa),some (.int (k:Int)),f]∧Same H' H5∧H5 fa=some (.lst (fs.map V.str))∧GoL rows r.1 fs k∧k≤fs.length∧m + k=rows.length,
     ⟨rows.length,[r.1],0,_,rfl,fun b o e=>by rw [upd_ne (nNo e hfa)];exact e,uS,⟨by simp,fun y h=>by rw [List.mem_singleton.mp h];exact List.mem_map.mpr ⟨r,hmem,rfl⟩,by simp,fun y h=>by rw [List.mem_singleton.mp h];exact .refl _,fun y h=>by simp at h⟩,by simp,rfl⟩,?_⟩
    rintro m σ H5 ⟨fs,k,f2,rfl,s5,hf5,go,hk,hm⟩
    have flen:=go.le
    refine ⟨_,rfl,_,rfl,_,_,rfl,.inl ⟨_,SqL.of hf5,rfl⟩,_,_,rfl,rfl,_,rfl,?_⟩
    rw [List.length_map]
    refine ite2 (fun hlt=>?_) (fun hlt=>?_)
    ·have hlt:k<fs.length:=by have:=of_decide_eq_true hlt;omega
     refine ⟨fun σ' H6=>∃ m',m'<m∧∃ (fs:LS) (k:Nat) (f:Option V),σ'=[some (.ref l),some (.ref d),some (.str r.1),some (.ref u),some (.ref aa),some (.ref fa),some (.int (k:Int)),f]∧Same H' H6∧H6 fa=some (.lst (fs.map V.str))∧GoL rows r.1 fs k∧k≤fs.length∧m' + k=rows.length,fun _ _ h=>h,?_⟩
     have hat:fs[k]?=some fs[k]:=List.getElem?_eq_getElem hlt
     generalize hhere:fs[k]=here at hat
     have hin:here∈fs:=List.mem_of_getElem? hat
     obtain ⟨r2,hr2,er⟩:=word_row (go.known here hin)
     obtain ⟨t2,hvt,ht2⟩:=(sF s5).val g.nd hr2
     rw [er] at hvt
     have uo:upsOf rows here=r2.2:=by rw [← er];exact upsOf_at g.nd hr2
     have hix:atI (fs.map V.str) (k:Int)=some (V.str here):=atI_nat (by rw [List.getElem?_map,hat];rfl)
     refine ⟨_,rfl,_,rfl,_,rfl,fa,_,_,_,rfl,rfl,SqL.of hf5,hix,d,_,rfl,(by rw [← hvt];exact DGet.k (k:=Sum.inr here) (dF s5)),t2,rfl,⟨_,SqT.of ht2⟩,?_⟩
     have ht2f:t2≠fa:=fun z=>by rw [z,hf5] at ht2;cases ht2
     refine for_runs (runs_tup (xs:=r2.2.map V.str)) (fun j σ H6=>∃ (ex:LS) (f:Option V),σ=[some (.ref l),some (.ref d),some (.str r.1),some (.ref u),some (.ref aa),some (.ref fa),some (.int (k:Int)),f]∧(∀ b o,b≠fa→H5 b=some o→H6 b=some o)∧H6 fa=some (.lst ((fs++ex).map V.str)) ∧
      (∀ y∈fs++ex,y∈rows.map (·.1))∧(fs++ex).Nodup∧(∀ y∈fs++ex,Graph.Reach (upsOf rows) r.1 y)∧∀ z∈r2.2.take j,z∈fs++ex)
      ⟨[],_,rfl,fun b o _ e=>e,by rw [List.append_nil];exact hf5,by rw [List.append_nil];exact go.known,by rw [List.append_nil];exact go.nd,by rw [List.append_nil];exact go.reach,fun z h=>by simp at h⟩ (fun j σ H6 _ ⟨_,_,_,k6,_⟩=>SqT.of (k6 _ _ ht2f ht2)) ?_ ?_
     ·rintro j v σ H6 hj ⟨ex,f3,rfl,k6,hf6,kn,ndx,rch,seen⟩
      obtain ⟨z,hz,rfl⟩:=strs_at hj
      have hzu:z∈upsOf rows here:=by rw [uo];exact List.mem_of_getElem? hz
      have hle:(fs++ex).length≤24:=by
       have:=Graph.nodup_le ndx kn
       rw [List.length_map] at this
       omega
      refine ⟨_,rfl,_,rfl,fa,_,rfl,.inl (SqL.of hf6),rfl,flat_strs _,_,rfl,?_⟩
      show if (!inV (.str z) ((fs++ex).map V.str))=true then _ else _
      rw [in_strs]
      have sj:∀ y∈r2.2.take (j + 1),y∈r2.2.take j∨y=z:=fun y h=>by
       rw [List.take_add_one,hz] at h
       rcases List.mem_append.mp h with h | h
       ·exact .inl h
       ·simp at h;exact .inr h
      refine ite2 (fun hn=>?_) (fun hn=>?_)
      ·have hn:z∉fs++ex:=fun c=>by rw [decide_eq_true c] at hn;cases hn
       refine ⟨_,rfl,.inl ⟨rfl,_,SqL.of hf6⟩,_,rfl,fa,_,_,rfl,rfl,hf6,small_lt (by rw [List.length_map];omega),?_⟩
       refine ⟨ex++[z],_,rfl,fun b o hb e=>by rw [upd_ne hb];exact k6 b o hb e,?_,?_,?_,?_,?_⟩
       ·have e:(fs++(ex++[z])).map V.str=(fs++ex).map V.str++[V.str z]:=by simp
        rw [uS,e]
       ·intro y hy
        rw [← List.append_assoc] at hy
        rcases List.mem_append.mp hy with h | h
        ·exact kn y h
        ·rw [List.mem_singleton.mp h]
         exact reach_known g (go.known here hin) hzu
       ·rw [← List.append_assoc]
        refine List.nodup_append.mpr ⟨ndx,by simp,fun a ha b hb e=>?_⟩
        rw [List.mem_singleton.mp hb] at e
        rw [e] at ha
        exact hn ha
       ·intro y hy
        rw [← List.append_assoc] at hy
        rcases List.mem_append.mp hy with h | h
        ·exact rch y h
        ·rw [List.mem_singleton.mp h]
         exact (go.reach here hin).snoc hzu
       ·intro y hy
        rw [← List.append_assoc]
        rcases sj y hy with h | h
        ·exact List.mem_append.mpr (.inl (seen y h))
        ·rw [h];simp
      ·have hn:z∈fs++ex:=Classical.byContradiction fun c=>hn (by rw [decide_eq_false c];rfl)
       refine ⟨ex,_,rfl,k6,hf6,kn,ndx,rch,fun y hy=>?_⟩
       rcases sj y hy with h | h
       ·exact seen y h
       ·rw [h];exact hn
     ·rintro σ H6 ⟨ex,f3,rfl,k6,hf6,kn,ndx,rch,seen⟩
      rw [List.length_map,List.take_length] at seen
      refine ⟨_,rfl,_,_,rfl,rfl,m - 1,by omega,fs++ex,k + 1,_,rfl,fun b o e=>k6 b o (nNo e hfa) (s5 _ _ e),hf6,⟨List.mem_append.mpr (.inl go.start),kn,ndx,rch,?_⟩,by rw [List.length_append];omega,by omega⟩
      intro y hy z hz
      have htk:(fs++ex).take (k + 1)=fs.take k++[here]:=by
       rw [List.take_append_of_le_length (by omega),List.take_add_one,hat]
       rfl
      rw [htk] at hy
      rcases List.mem_append.mp hy with h | h
      ·exact List.mem_append.mpr (.inl (go.closed y h z hz))
      ·rw [List.mem_singleton.mp h,uo] at hz
       exact seen z hz
    ·have hge:fs.length≤k:=by
      have:¬ ((k:Int)<(fs.length:Int)):=fun z=>hlt (decide_eq_true z)
      omega
     have aa5:=s5 _ _ haa1
     have hnew:(Sum.inr r.1:Key)∉avs.map (·.1):=by rw [hA.keys];exact taken_not g.nd hr'
     have hil:(rows.take i).length≤24:=by rw [List.length_take];omega
     have hkl:avs.length=(rows.take i).length:=(Paired.length hA).symm
     refine ⟨_,rfl,_,rfl,_,rfl,aa,_,rfl,DPut.k (k:=Sum.inr r.1) aa5 (small_lt (by omega)),?_⟩
     have lk:∀ b xs,H5 b=some (.lst xs)→(upd H5 aa (.dK (putK avs (Sum.inr r.1) (.ref fa)))) b=some (.lst xs):=fun b xs e=>by
      rw [upd_ne (fun z=>by rw [z,aa5] at e;cases e)];exact e
     refine ⟨_,_,_,_,_,_,rfl,fun b o hb e=>by rw [upd_ne hb];exact s5 _ _ (k1 b o hb e),uS,?_⟩
     have sn:AboveL (upd H5 aa (.dK (putK avs (Sum.inr r.1) (.ref fa)))) rows (rows.take i++[r]) (avs++[(Sum.inr r.1,V.ref fa)]):=Paired.snoc ((hA.mono fun b xs e=>s5 _ _ e).mono lk) ⟨rfl,fa,fs,rfl,lk _ _ hf5,go.all hge,go.le⟩
     rw [← putK_new _ (valV_none hnew)] at sn
     rw [List.take_add_one,hr']
     exact sn
   ·rintro σ H' ⟨avs,a,b,c,e,f',rfl,k1,haa1,hA⟩
    rw [← hvl,List.take_length] at hA
    exact ⟨_,rfl,q aa avs H' (fun b o e=>k1 b o (nNo e aaH) (s3 _ _ e)) haa1 hA⟩
def callB (rows:RS) (n:Nat) (xs:LS):Bool:=decide (xs.length=n)&&xs.all fun x=>decide (x∈rows.map (·.1))
structure GoodCall (rows:RS) (n:Nat) (xs:LS):Prop where
 len:xs.length=n
 known:∀ x∈xs,x∈rows.map (·.1)
def GoodCall.is {rows:RS}{n:Nat}{xs:LS}(h:GoodCall rows n xs):callB rows n xs=true:=by
 unfold callB
 rw [decide_eq_true h.len,Bool.true_and,List.all_eq_true]
 exact fun x hx=>decide_eq_true (h.known x hx)
def spIsCall (C:Addr):Sp:=fun vs H Q _=>∃ (p t:Addr) (n:Nat) (rows:RS) (xs:LS),vs=[.ref p,.int n,.ref t]∧KindsAt C H p rows∧Good rows∧H t=some (.tup (xs.map V.str))∧xs.length≤1000∧∀ H',Same H H'→Q (.bl (callB rows n xs)) H'
def knownV (rows:RS):V→V
 | .str x=>.bl (decide (x∈rows.map (·.1)))
 | _=>.non
def knownV_map (rows:RS) (xs:LS):(((xs.map V.str).filter fun _=>true).map (knownV rows))=(xs.map fun x=>decide (x∈rows.map (·.1))).map V.bl:=by
 rw [List.filter_eq_self.mpr (fun _ _=>rfl),List.map_map,List.map_map]
 rfl
def nd_wk:(["word","kinds"]:LS).Nodup:=by decide +kernel
abbrev nIC:LS:=["kinds","places","call"]
def scIC:FnScope nIC nIC (defScope s_is_call):=by nofun
def ok_is_call(F:Def K mg "is_call" s_is_call nIC f fd) (len:mg "len"=none) (all:mg "all"=none) (TC:TxtC K C) (MH:MHas K C fH fdH):⋯ 2 f fd nIC (spIsCall C):=by
 have GH:⋯ 1 fH fdH ["self","word"] (spHas C):=ok_has MH.fn TC
 nomatch F.fn.ok scIC
 ·obtain ⟨p,t,n,rows,xs,rfl,_⟩:=h
  rfl
 ·obtain ⟨p,t,n,rows,xs,rfl,kd,g,ht,hz,q⟩:=h
  obtain ⟨dx,d,a,o,oa,kvs,avs,h1,_⟩:=kd.ex
  have hr1:Room 1 _:=hr.mono (by decide)
  refine' ⟨_,pss_one (ps_ret (pe_and ?ea (pe_one ?eb))),?_⟩
  case ea=>exact pe_cmpR op_eq (pe_callB call_len_seq (by rfl) len PySem.boot_len (pC (pv 2) pa_nil)) (pv 1) (nomark _)
  case eb=>exact pe_callB (call_all rfl) (by rfl) all PyProof.Rows.boot_all (pC
    (pe_comp ["word"] ["kinds"] [0] (fun _=>compT_ok (osc:=defScope s_is_call) (on:=nIC) (by decide +kernel) rfl rfl rfl) (pi_tup (pv 2)) (fun C s H fp=>pg_name (i:=0) nd_wk rfl (Or.inl rfl) (Or.inr rfl)) (fun C s H fp=>pts_nil)
     (fun C s H fp=>pe_meth (pv 1) TC.cl MH.me GH hr1 MH.b .nil pass0 (pC (pv 0) pa_nil))) pa_nil)
  refine ⟨_,rfl,t,_,rfl,.inr (SqT.of ht),_,rfl,rfl,_,rfl,?_⟩
  have e:decide (V.int ((xs.map V.str).length:Nat)=V.int n)=decide (xs.length=n):=by
   rw [List.length_map]
   exact decide_eq_decide.mpr ⟨fun z=>by injection z with z;omega,fun z=>by rw [z]⟩
  rw [e]
  refine ite2 (fun h=>?_) (fun h=>?_)
  ·refine ⟨_,rfl,t,rfl,⟨_,SqT.of ht⟩,comp_pure (runs_tup (xs:=xs.map V.str)) (sL (by rw [List.length_map];omega)) (fun _=>true) (knownV rows) (fun D ys hD=>SqT.of (by rw [upd_ne (nNo ht hD)];exact ht)) ?_ ?_ ?_⟩
   ·intro D ys v R _ _ hR
    exact hR
   ·intro D ys v R hD hv _ hR
    obtain ⟨x,hx,rfl⟩:=List.mem_map.mp hv
    have s2:Same H (upd H D (.lst ys)):=snew hD
    exact ⟨_,rfl,p,dx,_,rfl,s2 _ _ h1,no_has _ _,_,rfl,p,rows,x,rfl,kd.mono s2,g,hR⟩
   ·intro D hD
    refine ⟨D,_,rfl,SqL.of (by rw [uS,knownV_map]),?_⟩
    have q':=q _ (snew (o:=.lst (((xs.map V.str).filter fun _=>true).map (knownV rows))) hD)
    unfold callB at q'
    rw [h,Bool.true_and] at q'
    show Q (.bl ((xs.map fun x=>decide (x∈rows.map (·.1))).all id)) _
    rw [List.all_map]
    exact q'
  ·have q':=q H (Same.refl H)
   unfold callB at q'
   rw [show decide (xs.length=n)=false by simpa using h,Bool.false_and] at q'
   exact q'
def DeedsV (H:Hp) (ds:List (LS)) (vs:List V):Prop:=Paired (fun (d:LS) v=>∃ t,v=V.ref t∧H t=some (.tup (d.map V.str))) ds vs
def DeedsV.mono {H H':Hp}{ds:List (LS)}{vs:List V}(h:DeedsV H ds vs) (s:Same H H'):DeedsV H' ds vs:=Paired.mapP h fun _ _ ⟨t,e,x⟩=>⟨t,e,s _ _ x⟩
structure GoodDeeds (rows:RS) (n:Nat) (ds:List (LS)):Prop where
 call:∀ d∈ds,GoodCall rows n d
 nd:ds.Nodup
 few:ds.length≤64
def keyC (d:LS):List Key:=d.map Sum.inr
def keyC_map (d:LS):(keyC d).map kV=d.map V.str:=by
 unfold keyC
 rw [List.map_map]
 rfl
def keyC_inj {d e:LS}(h:keyC d=keyC e):d=e:=by
 unfold keyC at h
 exact List.map_inj_right (fun a b z=>by injection z) |>.mp h
def taken_notD {ds:List (LS)}(nd:ds.Nodup) {i:Nat}{d:LS}(h:ds[i]?=some d):keyC d∉(ds.take i).map keyC:=by
 intro m
 obtain ⟨e,he,q⟩:=List.mem_map.mp m
 rw [keyC_inj q] at he
 exact not_taken nd h he
def spCheckDeeds (K:Fg) (C:Addr):Sp:=fun vs H Q _=>∃ (p l:Addr) (n:Nat) (b:Bool) (rows:RS) (ds:List (LS)) (us:List V),vs=[.ref p,.int n,.ref l]∧KindsAt C H p rows∧Good rows∧SqB K b H l us∧DeedsV H ds us∧GoodDeeds rows n ds∧n≤4∧∀ H',Same H H'→Q .non H'
abbrev nCD:LS:=["kinds","places","deeds","seen","number","call"]
def scCD:FnScope nCD ["kinds","places","deeds"] (defScope s_check_deeds):=by nofun
def ok_check_deeds(F:Def K mg "check_deeds" s_check_deeds ["kinds","places","deeds"] f fd) (DI:Def K mg "is_call" s_is_call nIC fI fdI) (enum:mg "enumerate"=none) (len:mg "len"=none) (all:mg "all"=none) (TC:TxtC K C) (MH:MHas K C fH fdH):
  ⋯ 3 f fd ["kinds","places","deeds"] (spCheckDeeds K C):=by
 have GI:⋯ 2 fI fdI nIC (spIsCall C):=ok_is_call DI len all TC MH
 nomatch F.fn.ok scCD
 ·obtain ⟨p,l,n,b,rows,ds,us,rfl,_⟩:=h
  rfl
 ·obtain ⟨p,l,n,b,rows,ds,us,rfl,kd,g,hl,hD,gd,hn,q⟩:=h
  have nd:=scCD.nd
  have hu:=hu_of hr
  refine ⟨_,pS (ps_set (i:=3) nd rfl (Or.inl rfl) pe_dnewT)
   (pss_one (ps_for PassesOwn.never rfl (pi_enum (by rfl) enum (pC (pv 2) pa_nil)) (pg_tup rfl (gC (pg_name (i:=4) nd rfl (Or.inl rfl)) (gC (pg_name (i:=5) nd rfl (Or.inl rfl)) pgs_nil)))
    (pS (ps_if (pt_not (pt_val (pe_callD DI GI hr (pC (pv 0) (pC (pv 1) (pC (pv 5) pa_nil)))))) pss_never pss_nil)
    (pS (ps_if (pt_cmp (pc_din hu (pv 5) (pv 3))) pss_never pss_nil)
    (pss_one (ps_dput hu (pv 3) (pv 5) pe_bl rfl)))))),?_⟩
  intro d hd
  have s0:Same H (upd H d (.dT [])):=snew hd
  have hvl:=hD.length
  have few:=gd.few
  refine ⟨_,rfl,b,l,us,rfl,hl.mono s0,for_pairs (fun i σ H'=>∃ (kvs:List (List Key×V)) (a c:Option V),σ=[some (.ref p),some (.int n),some (.ref l),some (.ref d),a,c]∧Same H H'∧H' d=some (.dT kvs)∧kvs.map (·.1)=(ds.take i).map keyC)
   ⟨[],none,none,rfl,s0,uS,by simp⟩ (fun i σ H' _ ⟨_,_,_,_,s,_⟩=>hl.mono s) ?_ ?_⟩
  ·rintro i pr t σ H' hi ⟨kvs,a,c,rfl,s1,hdk,hk⟩ ht0
   obtain ⟨e1,hx⟩:=enumV_get hi
   obtain ⟨dd,hdd,t2,e2,ht2⟩:=paired_at hD hx
   refine g2_new ?_
   have s2:Same H' (upd H' t (.tup [pr.1,pr.2])):=snew ht0
   have hmem:dd∈ds:=List.mem_of_getElem? hdd
   have gc:=gd.call dd hmem
   rw [e2]
   show tSeq _ _ _ [some (.ref p),some (.int n),some (.ref l),some (.ref d),some pr.1,some (.ref t2)] _
   have s02:=s1.trans s2
   refine ⟨_,rfl,_,rfl,_,rfl,p,t2,n,rows,dd,rfl,kd.mono ?_,g,?_,by have:=gc.len;omega,fun H3 s3=>⟨_,rfl,?_⟩⟩
   ·rw [← e2];exact s02
   ·rw [← e2];exact s02 _ _ ht2
   rw [gc.is]
   refine iteF ?_
   rw [← e2] at s3
   have s03:=s02.trans s3
   have hd3:H3 d=some (.dT kvs):=s3 _ _ (s2 _ _ hdk)
   have ht3:H3 t2=some (.tup ((keyC dd).map kV)):=by rw [keyC_map];exact s03 _ _ ht2
   refine ⟨_,rfl,_,rfl,d,_,rfl,DGet.t (k:=keyC dd) hd3 ht3,_,rfl,?_⟩
   have hnew:keyC dd∉kvs.map (·.1):=by rw [hk];exact taken_notD gd.nd hdd
   rw [valV_noneG hnew]
   refine iteF ?_
   have hkl:kvs.length=(ds.take i).length:=by have:=congrArg List.length hk;simpa using this
   have hil:(ds.take i).length≤64:=by rw [List.length_take];omega
   refine ⟨_,rfl,_,rfl,d,_,rfl,DPut.t (k:=keyC dd) hd3 ht3 (small_lt (by omega)),?_⟩
   refine ⟨_,_,_,rfl,fun b o e=>?_,uS,?_⟩
   ·rw [upd_ne (nNo e hd)];exact s03 _ _ e
   ·rw [putK_keysG hnew,hk,List.take_add_one,hdd,List.map_append]
    rfl
  ·rintro σ H' ⟨kvs,a,c,rfl,s1,hdk,hk⟩
   exact q H' s1
def fldsB (k t:Addr) (n:Nat):List (Str×V):=putF "stands" (.ref t) (putF "width" (.int n) (putF "book" (.ref k) []))
structure BoardAt (C B:Addr) (H:Hp) (p k:Addr) (rows:RS) (n:Nat) (ds:List (LS)):Prop where
 ex:∃ (dx t:Addr) (us:List V),H p=some (.ins B dx (fldsB k t n))∧KindsAt C H k rows∧H t=some (.tup us)∧DeedsV H ds us
theorem BoardAt.mono {C B:Addr}{H H':Hp}{p k:Addr}{rows:RS}{n:Nat}{ds:List (LS)}(h:BoardAt C B H p k rows n ds) (s:Same H H'):BoardAt C B H' p k rows n ds:=by
 obtain ⟨dx,t,us,h1,h2,h3,h4⟩:=h.ex
 exact ⟨dx,t,us,s _ _ h1,h2.mono s,s _ _ h3,h4.mono s⟩
structure TxtBd (K:Fg) (B:Addr):Prop where
 cl:Cls K B
 nB:NoAttr K B "book"
 nW:NoAttr K B "width"
 nS:NoAttr K B "stands"
structure TxtBm (mg:Str→Option Value):Prop where
 places:∃ t,mg "MOST_PLACES"=some (.int 4 t)
 deeds:∃ t,mg "MOST_DEEDS"=some (.int 64 t)
 len:mg "len"=none
 all:mg "all"=none
 tuple:mg "tuple"=none
 list:mg "list"=none
 enum:mg "enumerate"=none
def spBInit (K:Fg) (C B:Addr):Sp:=fun vs H Q _=>∃ (p dx k l:Addr) (n:Nat) (rows:RS) (ds:List (LS)) (us:List V),vs=[.ref p,.ref k,.int n,.ref l]∧H p=some (.ins B dx [])∧KindsAt C H k rows∧Good rows∧(SqL K H l us∨H l=some (.tup us))∧DeedsV H ds us∧GoodDeeds rows n ds∧1≤n∧n≤4 ∧
 ∀ H',BoardAt C B H' p k rows n ds→(∀ b o,b≠p→H b=some o→H' b=some o)→Q .non H'
def kinds_keep {C p:Addr}{H H':Hp}{k:Addr}{rows:RS}{o:HO}(h:KindsAt C H k rows) (hp:H p=some o) (s:∀ b o,b≠p→H b=some o→H' b=some o) (nk:k≠p) (no:∀ o' u,o≠.frz o' u) (nt:∀ xs,o≠.tup xs):KindsAt C H' k rows:=by
 obtain ⟨dx,d,a,o1,oa,kvs,avs,h1,h2,h3,h4⟩:=h.ex
 have ne:∀ {b o' u},H b=some (.frz o' u)→b≠p:=fun {b o' u} e z=>by rw [z,hp] at e;exact no _ _ (Option.some.inj e)
 have net:∀ {b xs},H b=some (.tup xs)→b≠p:=fun {b xs} e z=>by rw [z,hp] at e;exact nt _ (Option.some.inj e)
 exact ⟨dx,d,a,o1,oa,kvs,avs,s _ _ nk h1,⟨s _ _ (ne h2.at_) h2.at_,h2.ups.mono fun b xs e=>s _ _ (net e) e⟩,s _ _ (ne h3) h3,h4.mono fun b o' fk e=>s _ _ (ne e) e⟩
abbrev nBI:LS:=["self","kinds","places","deeds"]
def scBI:FnScope nBI nBI (defScope s_Board___init__):=by nofun
def ok_binit(F:Fun K "__init__" "Board.__init__" s_Board___init__ f fd) (T:TxtBm mg) (TB:TxtBd K B) (TC:TxtC K C) (DD:Def K mg "check_deeds" s_check_deeds ["kinds","places","deeds"] fD fdD) (DI:Def K mg "is_call" s_is_call nIC fI fdI) (MH:MHas K C fH fdH) (hBC:B≠C):
  ⋯ 4 f fd nBI (spBInit K C B):=by
 have GD:⋯ 3 fD fdD ["kinds","places","deeds"] (spCheckDeeds K C):=ok_check_deeds DD DI T.enum T.len T.all TC MH
 nomatch F.ok scBI
 ·obtain ⟨p,dx,k,l,n,rows,ds,us,rfl,_⟩:=h
  rfl
 ·obtain ⟨p,dx,k,l,n,rows,ds,us,rfl,hp,kd,g,hl,hD,gd,n1,n4,q⟩:=h
  obtain ⟨b,hl,hb0⟩:∃ b,SqB K b H l us∧(b=false→H l=some (.tup us)):=by
   rcases hl with hl | hl
   ·exact ⟨true,hl,fun z=>by cases z⟩
   ·exact ⟨false,SqT.of hl,fun _=>hl⟩
  obtain ⟨t1,hP⟩:=T.places
  obtain ⟨t2,hM⟩:=T.deeds
  have hr3:Room 3 _:=hr.mono (by decide)
  refine ⟨_,pS (ps_if (pt_not (pt_chain op_le op_le pe_int (pv 2) (pe_glob (v:=.int 4) (by rfl) hP ⟨_,rfl⟩))) pss_never pss_nil)
   (pS (ps_if (pt_cmpR op_gt (pe_callB call_len (by rfl) T.len PySem.boot_len (pC (pv 3) pa_nil)) (pe_glob (v:=.int 64) (by rfl) hM ⟨_,rfl⟩) (nomark _)) pss_never pss_nil)
   (pS (ps_expr (pe_callD DD GD hr3 (pC (pv 1) (pC (pv 2) (pC (pv 3) pa_nil)))))
   (pS (ps_fld (pv 0) (pv 1) rfl) (pS (ps_fld (pv 0) (pv 2) rfl)
   (pss_one (ps_fld (pv 0) (pe_callTy call_tuple_of (by rfl) T.tuple PyProof.Rows.boot_tuple (pC (pv 3) pa_nil)) rfl)))))),?_⟩
  refine ⟨_,rfl,_,_,rfl,rfl,_,rfl,?_⟩
  rw [show decide ((1:Int)≤(n:Int))=true from decide_eq_true (by omega)]
  refine iteT ⟨_,_,rfl,rfl,_,rfl,?_⟩
  rw [show (decide ((n:Int)≤4))=true from decide_eq_true (by omega)]
  refine iteF ?_
  have hul:=hD.length
  have few:=gd.few
  refine ⟨_,rfl,_,_,rfl,len_seq hl,_,_,rfl,rfl,_,rfl,?_⟩
  rw [show decide ((64:Int)<(us.length:Int))=false from decide_eq_false (by omega)]
  refine iteF ?_
  refine ⟨_,rfl,_,rfl,_,rfl,p |> fun _=>k,l,n,b,rows,ds,us,rfl,kd,g,hl,hD,gd,n4,fun H1 s1=>?_⟩
  have hp1:=s1 _ _ hp
  have kd1:=kd.mono s1
  have nkp:k≠p:=by
   intro z
   obtain ⟨dx',d,a,o,oa,kvs,avs,h1,_⟩:=kd.ex
   rw [z,hp] at h1
   injection h1 with h1
   injection h1 with h1
   exact hBC h1
  refine ⟨_,rfl,_,rfl,p,B,dx,[],rfl,hp1,TB.cl,TB.nB,(by show 0<1000;decide),?_⟩
  refine ⟨_,rfl,_,rfl,p,B,dx,_,rfl,uS,TB.cl,TB.nW,(by show 1<1000;decide),?_⟩
  rw [upd_upd]
  have kp:∀ {fs:List (Str×V)} (b:Addr) (o:HO),b≠p→H b=some o→(upd H1 p (.ins B dx fs)) b=some o:=fun b o hb e=>by rw [upd_ne hb];exact s1 _ _ e
  have hlp:∀ {fs:List (Str×V)},SqB K b (upd H1 p (.ins B dx fs)) l us:=fun {fs}=>by
   have hl1:=hl.mono s1
   cases b with
   | true =>
    rcases (show SqL K H1 l us from hl1) with (e | ⟨o,e⟩) | e
    ·exact .inl (.inl (by rw [upd_ne (fun z=>by rw [z,hp1] at e;cases e)];exact e))
    ·exact .inl (.inr ⟨o,by rw [upd_ne (fun z=>by rw [z,hp1] at e;cases e)];exact e⟩)
    ·exact .inr e
   | false =>
    rcases (show SqT K H1 l us from hl1) with (e | ⟨o,e⟩) | e
    ·exact .inl (.inl (by rw [upd_ne (fun z=>by rw [z,hp1] at e;cases e)];exact e))
    ·exact .inl (.inr ⟨o,by rw [upd_ne (fun z=>by rw [z,hp1] at e;cases e)];exact e⟩)
    ·exact .inr e
  have fin:∀ (t:Addr) (H2:Hp),Same (upd H1 p (.ins B dx (putF "width" (.int n) (putF "book" (.ref k) [])))) H2→H2 t=some (.tup us)→Q .non (upd H2 p (.ins B dx (fldsB k t n))):=fun t H2 s2 ht=>by
   have hp2:H2 p=some (.ins B dx (putF "width" (.int n) (putF "book" (.ref k) []))):=s2 _ _ uS
   have k2:∀ b o,b≠p→H b=some o→(upd H2 p (.ins B dx (fldsB k t n))) b=some o:=fun b o hb e=>by rw [upd_ne hb];exact s2 _ _ (kp b o hb e)
   refine q _ ⟨dx,t,us,uS,kinds_keep kd hp k2 nkp (fun _ _ z=>by cases z) (fun _ z=>by cases z),by rw [upd_ne (fun z=>by rw [z,hp2] at ht;cases ht)];exact ht,Paired.mapP hD fun d v ⟨t',e,x⟩=>⟨t',e,k2 _ _ (fun z=>by rw [z,hp] at x;cases x) x⟩⟩ k2
  refine ⟨_,rfl,l,us,rfl,?_⟩
  have no:=hlp (fs:=putF "width" (.int n) (putF "book" (.ref k) []))
  have wd:(putF "width" (V.int n) (putF "book" (V.ref k) [])).length<1000:=by show 2<1000;decide
  cases b with
  | true =>
   refine .inl ⟨no,fun t ht=>⟨_,rfl,p,B,dx,_,rfl,(snew ht) _ _ uS,TB.cl,TB.nS,wd,fin t _ (snew ht) uS⟩⟩
  | false =>
   have e:(upd H1 p (.ins B dx (putF "width" (.int n) (putF "book" (.ref k) [])))) l=some (.tup us):=by
    have e0:=s1 _ _ (hb0 rfl)
    rw [upd_ne (fun z=>by rw [z,hp1] at e0;cases e0)]
    exact e0
   exact .inr ⟨no,_,rfl,p,B,dx,_,rfl,uS,TB.cl,TB.nS,wd,fin l _ (Same.refl _) e⟩
def pot_ne {H:Hp}{p a:Addr}{o:HO}{ws:LS}(h:H p=some o) (ho:PotO o) (ha:H a=some (.lst (ws.map V.str))):p≠a:=ne_of h ha (by
 obtain ⟨r,b,e,_⟩:=ho
 rw [e]
 intro z
 injection z with z
 have z2:=congrArg (fun l=>l[0]?) z
 cases ws with
 | nil=>simp at z2
 | cons x r=>simp at z2)
theorem Drawn.tup {p:Addr}{H H':Hp}(d:Drawn p H H') {o:HO}(h:H p=some o) (ho:PotO o) {t:Addr}{xs:List V}(e:H t=some (.tup xs)):H' t=some (.tup xs):=
 d.keep _ _ (fun z=>by rw [z,h] at e;obtain ⟨_,_,q,_⟩:=ho;rw [q] at e;cases e) e
def rowsAt_mono {H H':Hp}{l:Addr}{rows:RS}(h:RowsAt H l rows) (s:Same H H'):RowsAt H' l rows:=by
 obtain ⟨vs,a,p⟩:=h
 exact ⟨vs,s _ _ a,Paired.mapP p fun r v ⟨t,u,e,h1,h2⟩=>⟨t,u,e,s _ _ h1,s _ _ h2⟩⟩
def words_comp {K:Fg}{l:Addr}{H2:Hp}{rows:RS}{σ:St}{te:TE}{Q:VK}(hR:RowsAt H2 l rows) (few:rows.length≤100)
  (he:∀ (t u:Addr) (x:Str) H' (R:VK),H' t=some (.tup [.str x,.ref u])→R (.str x) H'→te [some (.ref t)] H' R)
  (hd:∀ D H3,H2 D=none→Same H2 H3→H3 D=some (.lst ((rows.map (·.1)).map V.str))→Q (.ref D) H3):compBody 1 [] (gName 0) tTrue te σ Q (Itl K l) H2:=by
 obtain ⟨vs,hvs,hpr⟩:=hR
 refine comp_rel (runs_list (xs:=vs)) (sL (by rw [← hpr.length];omega)) (fun _=>true) (fun _ x v _=>∀ r,RowV H2 r x→v=.str r.1) (fun _ _ _ _ _ _ h=>h) (fun H' s=>s.seq (SqL.of hvs)) ?_ ?_ ?_
 ·intro x H3 R _ _ hR'
  exact hR' H3 (Same.refl _)
 ·intro D x H3 R s3 _ _ hx _ hR'
  obtain ⟨i,hi⟩:=List.mem_iff_getElem?.mp hx
  obtain ⟨r,hr',t,u,rfl,ht,hu'⟩:=paired_at hpr hi
  refine he t u r.1 H3 R (s3 _ _ ht) (hR' _ _ (Same.refl _) fun r' h'=>?_)
  obtain ⟨t',u',e1,e2,_⟩:=h'
  cases e1
  rw [ht] at e2
  have e2:=Option.some.inj e2
  injection e2 with e2
  injection e2 with e2 _
 ·intro D H3 ys hD s23 hlD hpD
  rw [all_true] at hpD
  have eys:ys=(rows.map (·.1)).map V.str:=by
   have:∀ {rows:RS} {vs ys:List V},Paired (RowV H2) rows vs→Paired (fun x v=>∀ r,RowV H2 r x→v=.str r.1) vs ys→ys=(rows.map (·.1)).map V.str:=by
    intro rows vs ys a
    induction a generalizing ys with
    | nil=>intro b;cases b;rfl
    | cons h t ih =>
     intro b
     cases b with
     | cons h' t'=>rw [List.map_cons,List.map_cons,h' _ h,ih t']
   exact this hpr hpD
  subst eys
  exact hd D H3 hD s23 hlD
def drawn_item {ws:LS}{v:Int} (h0:0≤v) (h1:v<(ws.map V.str).length):∃ x∈ws,atI (ws.map V.str) v=some (.str x):=by
 have hl:v.toNat<ws.length:=by rw [List.length_map] at h1;omega
 refine ⟨ws[v.toNat],List.getElem_mem hl,?_⟩
 have e:((v.toNat:Nat):Int)=v:=by omega
 have q:atI (ws.map V.str) ((v.toNat:Nat):Int)=some (.str ws[v.toNat]):=by
  refine atI_nat ?_
  rw [List.getElem?_map,List.getElem?_eq_getElem (by omega)]
  rfl
 rw [e] at q
 exact q
abbrev Dt:=W.Dat
def datC (d:LS):Dt:=.tuple (d.map W.Dat.str)
def datC_inj {d e:LS}(h:datC d=datC e):d=e:=by
 unfold datC at h
 injection h with h
 exact List.map_inj_right (fun a b z=>by injection z) |>.mp h
def rep_call {K:Fg}{H:Hp}{t:Addr}{d:LS}(h:H t=some (.tup (d.map V.str))):Rep K H (.ref t) (datC d):=.tuple (SqT.of h) (reps_strs d)
theorem reps_deeds {K:Fg}{H:Hp}:∀ {ds:List (LS)}{vs:List V},DeedsV H ds vs→Reps K H vs (ds.map datC)
 | _,_,.nil=>.nil
 | _,_,.cons ⟨t,e,h⟩ r=>by rw [e];exact .cons (rep_call h) (reps_deeds r)
def good_words {rows:RS}(g:Good rows):∀ x∈rows.map (·.1),isWord x=true:=fun x hx=>by
 obtain ⟨r,hr,e⟩:=List.mem_map.mp hx
 rw [← e]
 exact g.word r hr
def reach_in {rows:RS}(g:Good rows) {x y:Str}(hx:x∈rows.map (·.1)) (h:Graph.Reach (upsOf rows) x y):y∈rows.map (·.1):=
 Graph.closed_reach (S:=fun y=>y∈rows.map (·.1)) (fun z hz u hu=>reach_known g hz hu) h hx
def ok_str (n:Nat) {x:Str}(h:isWord x=true):W.kqdOk n (.str x)=true:=by
 have q:=ok_dat (ws:=[x]) (fun y hy=>by rw [List.mem_singleton.mp hy];exact h)
 rw [W.kqdOk] at q
 have q2:W.kqdOk 8 (.str x)=true:=by simpa using q
 rw [W.kqdOk] at q2
 rw [W.kqdOk]
 exact q2
def ok_call (n:Nat) {d:LS}(h:∀ x∈d,isWord x=true):W.kqdOk (n + 1) (datC d)=true:=by
 unfold datC
 rw [W.kqdOk,List.all_eq_true]
 intro z hz
 obtain ⟨x,hx,rfl⟩:=List.mem_map.mp hz
 exact ok_str n (h x hx)
def ok_deeds (n:Nat) {ds:List (LS)}(h:∀ d∈ds,∀ x∈d,isWord x=true):(ds.map datC).all (W.kqdOk (n + 1))=true:=by
 rw [List.all_eq_true]
 intro z hz
 obtain ⟨d,hd,rfl⟩:=List.mem_map.mp hz
 exact ok_call n (h d hd)
def any_deed (ds:List (LS)) (d:LS):((ds.map datC).any fun e=>dEq e (datC d))=decide (d∈ds):=by
 by_cases h:d∈ds
 ·rw [decide_eq_true h,List.any_eq_true]
  exact ⟨datC d,List.mem_map.mpr ⟨d,h,rfl⟩,dEq_self _⟩
 ·rw [decide_eq_false h,List.any_eq_false]
  intro z hz
  obtain ⟨e,he,rfl⟩:=List.mem_map.mp hz
  rw [dEq_neg fun q=>h (by rw [← datC_inj q];exact he)]
  exact Bool.false_ne_true
def spDeeds:Sp:=fun vs H Q _=>∃ (p l aa:Addr) (n m:Nat) (rows:RS) (avs:List (Key×V)),vs=[.ref p,.ref l,.ref aa,.int n,.int m]∧(∃ o,H p=some o∧PotO o)∧RowsAt H l rows∧Good rows∧H aa=some (.dK avs)∧AboveL H rows rows avs∧1≤n∧n≤4∧m≤63 ∧
 ∀ (ld:Addr) (ds:List (LS)) (us:List V) (H':Hp),Drawn p H H'→H ld=none→H' ld=some (.lst us)→DeedsV H' ds us→GoodDeeds rows n ds→ds.length≤m→Q (.ref ld) H'
abbrev rLenK (K:Fg):List V→Hp→VK→Prop:=fun xs H Q=>∃ p ys,xs=[.ref p]∧(SqL K H p ys∨SqT K H p ys)∧Q (.int ys.length) H
structure TxtD (mg:Str→Option Value):Prop where
 len:mg "len"=none
 range:mg "range"=none
 tuple:mg "tuple"=none
abbrev nDe:LS:=["pot","rows","above","places","most","words","base","deeds","k","deed","near","place","some"]
def scDe:FnScope nDe ["pot","rows","above","places","most"] (defScope s__law_deeds):=by nofun
def nd_row1:(["row"]:LS).Nodup:=by decide +kernel
def nd_kwp:(["k","words","pot"]:LS).Nodup:=by decide +kernel
def DeedsV.drawn {p:Addr}{H H':Hp}{o:HO}{ds:List (LS)}{us:List V}(h:DeedsV H ds us) (k:∀ b xs,H b=some (.tup xs)→H' b=some (.tup xs)):DeedsV H' ds us:=Paired.mapP h fun _ _ ⟨t,e,x⟩=>⟨t,e,k _ _ x⟩
set_option maxHeartbeats 8000000 in
def ok_deedsD(F:Def K mg "_law_deeds" s__law_deeds ["pot","rows","above","places","most"] f fd) (DT:Def K mg "_law_take" s__law_take ["pot","many"] fT fdT) (T:TxtD mg):
  ⋯ 2 f fd ["pot","rows","above","places","most"] spDeeds:=by
 have GT:⋯ 1 fT fdT ["pot","many"] spTake:=ok_take DT
 nomatch F.fn.ok scDe
 ·obtain ⟨p,l,aa,n,m,rows,avs,rfl,_⟩:=h
  rfl
 ·obtain ⟨p,l,aa,n,m,rows,avs,rfl,⟨o0,hp0,ho0⟩,hR,g,haa,hA,n1,n4,hm,q⟩:=h
  have nd:=scDe.nd
  have hu:=hu_of hr
  have hr1:Room 1 _:=hr.mono (by decide)
  have gle:=g.le
  refine' ⟨_,pS (ps_set (i:=5) nd rfl (Or.inr rfl) ?e1)
   (pS ?e2
   (pS (ps_set (i:=7) nd rfl (Or.inl rfl) (pe_lst pa_nil))
   (pS (ps_for PassesOwn.never rfl (pi_range1 (by rfl) T.range (pC (pe_callD DT GT hr1 (pC (pv 0) (pC (pe_op op_add (pv 4) pe_int) pa_nil))) pa_nil)) (pg_name (i:=8) nd rfl (Or.inl rfl))
    (pS (ps_set (i:=9) nd rfl (Or.inl rfl) (pe_lst pa_nil))
    (pS (ps_set (i:=10) nd rfl (Or.inl rfl) (pe_callD DT GT hr1 (pC (pv 0) (pC pe_int pa_nil))))
    (pS (ps_for PassesOwn.never rfl (pi_range1 (by rfl) T.range (pC (pv 3) pa_nil)) (pg_name (i:=11) nd rfl (Or.inl rfl))
     (pS (ps_set (i:=12) nd rfl (Or.inl rfl) (pv 5))
     (pss_cut (ps_if (pt_cmpR op_gt (pv 10) pe_int (nomark _)) (pss_one (ps_set (i:=12) nd rfl (Or.inl rfl) (pe_dget hu (pv 2) (pe_ix ix_list (pv 6) (pv 11) (fun _ _=>rfl)) (fun _ _=>rfl)))) pss_nil)
     (pss_one (ps_expr (pe_bm PySem.F.plainAttrs_list PySem.F.slot_list_append PySem.F.type_list_append mt_append (pv 9) (pC (pe_ix ix_list (pv 12) (pe_callD DT GT hr1 (pC (pv 0) (pC (pe_callB call_len_seq (by rfl) T.len PySem.boot_len (pC (pv 12) pa_nil)) pa_nil))) (fun _ _=>rfl)) pa_nil)))))))
    (pss_one (ps_if (pt_cmpR (op_notInD (hu65 hr)) (pe_callTy call_tuple_of (by rfl) T.tuple PyProof.Rows.boot_tuple (pC (pv 9) pa_nil)) (pv 7) (by with_unfolding_all rfl))
     (pss_one (ps_expr (pe_bm PySem.F.plainAttrs_list PySem.F.slot_list_append PySem.F.type_list_append mt_append (pv 7) (pC (pe_callTy call_tuple_of (by rfl) T.tuple PyProof.Rows.boot_tuple (pC (pv 9) pa_nil)) pa_nil)))) pss_nil))))))
   (pss_one (ps_ret (pv 7)))))),?_⟩
  case e1=>exact (pe_comp ["row"] [] [] (fun _=>compT_ok (osc:=defScope s__law_deeds) (on:=nDe) (by decide +kernel) rfl rfl rfl) (pi_list (pv 1)) (fun C s H fp=>pg_name (i:=0) nd_row1 rfl (Or.inl rfl) (Or.inr rfl)) (fun C s H fp=>pts_nil) (fun C s H fp=>pe_ix (r:=rIxT K) ix_tup (pv 0) pe_int (fun _ _=>rfl)))
  case e2=>exact (ps_setComp (k:=6) ["k"] ["words","pot"] [5,0] nd rfl rfl (fun _=>compT_ok (osc:=defScope s__law_deeds) (on:=nDe) (by decide +kernel) rfl rfl rfl) (pi_range1 (by rfl) T.range (pC (pv 3) pa_nil)) (fun C s H fp=>pg_name (i:=0) nd_kwp rfl (Or.inl rfl) (Or.inr rfl)) (fun C s H fp=>pts_nil)
    (fun C s H fp=>pe_ix (r:=rIxL K) ix_list (pv 1) (pe_callD DT GT hr1 (pC (pv 2) (pC (pe_callB (r:=rLenK K) call_len_seq (by rfl) T.len PySem.boot_len (pC (pv 1) pa_nil)) pa_nil))) (fun _ _=>rfl)))
  obtain ⟨vs0,hvs0,hpr0⟩:=id hR
  refine ⟨_,rfl,l,rfl,⟨_,SqL.of hvs0⟩,words_comp hR (by omega) (fun t u x H' R ht hRx=>⟨_,rfl,t,_,_,_,rfl,rfl,SqT.of ht,rfl,hRx⟩) fun lw H1 hlw s1 hw=>?_⟩
  have hp1:=s1 _ _ hp0
  have lwp:lw≠p:=Ne.symm (pot_ne hp1 ho0 hw)
  have lwH:H lw=none:=hlw
  have wne:rows.map (·.1)≠[]:=by
   have:=g.ne
   intro z
   have z2:=congrArg List.length z
   rw [List.length_map] at z2
   simp at z2
   rw [z2] at this
   simp at this
  have wpos:0<(rows.map (·.1)).length:=List.length_pos_iff.mpr wne
  have wl:(rows.map (·.1)).length≤24:=by rw [List.length_map];exact gle
  refine ⟨_,rfl,n,rfl,by omega,by omega,comp_runs runs_range (by rw [rangeV_len];exact sL (by omega)) (fun D i ys σ' H'=>Drawn p H1 H'∧H' D=some (.lst ys)∧∃ (bs:LS) (o:Option V),ys=bs.map V.str∧bs.length=i∧(∀ x∈bs,x∈rows.map (·.1))∧σ'=[o,some (.ref lw),some (.ref p)])
   (fun D hD=>⟨(Drawn.refl ⟨o0,hp1,ho0⟩).new hD,uS,[],none,rfl,rfl,(fun x h=>nomatch h),rfl⟩) (fun D i ys σ' H' _ ⟨_,_,bs,_,e,el,_⟩=>⟨trivial,by rw [e,List.length_map];omega⟩) ?_ ?_⟩
  ·rintro D i v ys σ' H' hD hi ⟨d,hl,bs,o,rfl,rfl,hb,rfl⟩
   obtain ⟨hi,rfl⟩:=rangeV_get hi
   obtain ⟨o1,hpp,hoo⟩:=d.pot
   have hw1:=d.keep _ _ lwp hw
   have pD:p≠D:=nNo hp1 hD
   refine ⟨_,rfl,_,rfl,_,rfl,lw,_,rfl,.inl (SqL.of hw1),p,_,o1,rfl,hpp,hoo,by rw [List.length_map];omega,by rw [List.length_map];omega,fun v o2 hv0 hv1 ho2=>?_⟩
   obtain ⟨x,hxm,hat⟩:=drawn_item hv0 hv1
   have d2:Drawn p H' (upd H' p o2):=Drawn.upd ho2
   refine ⟨lw,_,_,_,rfl,rfl,SqL.of (d2.keep _ _ lwp hw1),hat,d2.keep _ _ (Ne.symm pD) hl,(d.trans d2).sub (o':=.lst []) (q:=D) (fun b o hb e=>by rw [upd_ne hb];exact e) hD pD,uS,bs++[x],_,by rw [List.map_append];rfl,by simp,fun y hy=>?_,rfl⟩
   rcases List.mem_append.mp hy with z | z
   ·exact hb y z
   ·rw [List.mem_singleton.mp z];exact hxm
  rintro lb ys σ' H2 hlb ⟨d2,hlb2,bs,o,rfl,hbl,hb,rfl⟩
  rw [rangeV_len] at hbl
  have hbl:bs.length=n:=by simpa using hbl
  have dH2:Drawn p H H2:=⟨fun b o hb e=>d2.keep b o hb (s1 _ _ e),d2.pot⟩
  have hw2:=d2.keep _ _ lwp hw
  have lbH:H lb=none:=s1.free hlb
  have pb:p≠lb:=nNo hp0 lbH
  have wb:lw≠lb:=nNo hw hlb
  refine ⟨Nat.zero_le _,fun ld hld=>?_⟩
  have d3:=dH2.new (o:=.lst []) hld
  have keep3:∀ b o,H2 b=some o→(upd H2 ld (.lst [])) b=some o:=snew hld
  have ldH:H ld=none:=by
   cases e:H ld with
   | none=>rfl
   | some u =>
    by_cases z:ld=p
    ·obtain ⟨o1,h1,_⟩:=d2.pot
     rw [z,h1] at hld
     cases hld
    ·rw [dH2.keep _ _ z e] at hld
     cases hld
  have pd:p≠ld:=nNo hp0 ldH
  have wd:lw≠ld:=nNo hw2 hld
  have bd:lb≠ld:=nNo hlb2 hld
  obtain ⟨o3,hp3,ho3⟩:=d3.pot
  refine ⟨_,rfl,_,rfl,_,_,rfl,rfl,p,_,o3,rfl,hp3,ho3,by omega,by omega,fun v o4 hv0 hv1 ho4=>⟨v,rfl,by omega,by omega,?_⟩⟩
  have d4:Drawn p H (upd (upd H2 ld (.lst [])) p o4):=d3.trans (Drawn.upd ho4)
  refine for_runs runs_range (fun i σ H'=>∃ (ds:List (LS)) (us:List V) (a b c d e:Option V),σ=[some (.ref p),some (.ref l),some (.ref aa),some (.int n),some (.int m),some (.ref lw),some (.ref lb),some (.ref ld),a,b,c,d,e]∧Drawn p H H'∧H' lw=some (.lst ((rows.map (·.1)).map V.str))∧H' lb=some (.lst (bs.map V.str))∧H' ld=some (.lst us)∧DeedsV H' ds us ∧
   (∀ d∈ds,GoodCall rows n d)∧ds.Nodup∧ds.length≤i)
   ⟨[],[],none,none,none,none,none,rfl,d4,by rw [upd_ne lwp];exact keep3 _ _ hw2,by rw [upd_ne (Ne.symm pb)];exact keep3 _ _ hlb2,by rw [upd_ne (Ne.symm pd)];exact uS,.nil,(fun d h=>nomatch h),List.nodup_nil,Nat.le_refl _⟩ (fun _ _ _ _ _=>trivial) ?_ ?_
  ·rintro i v' σ H5 hi ⟨ds,us,a5,b5,c5,e5,f5,rfl,d5,hw5,hb5,hd5,hD5,gc5,nd5,len5⟩
   obtain ⟨hi,rfl⟩:=rangeV_get hi
   obtain ⟨o5,hp5,ho5⟩:=d5.pot
   refine ⟨Nat.zero_le _,fun lq hlq=>?_⟩
   have d6:=(Drawn.refl (p:=p) ⟨o5,hp5,ho5⟩).new (o:=.lst []) hlq
   obtain ⟨o6,hp6,ho6⟩:=d6.pot
   refine ⟨_,rfl,p,3,o6,rfl,hp6,ho6,by decide,by decide,fun nr o7 hn0 hn1 ho7=>?_⟩
   have pq:p≠lq:=nNo hp5 hlq
   have d7:Drawn p H5 (upd (upd H5 lq (.lst [])) p o7):=d6.trans (Drawn.upd ho7)
   refine ⟨_,rfl,n,rfl,by omega,by omega,for_runs runs_range (fun j σ H'=>∃ (xs:LS) (d e:Option V),σ=[some (.ref p),some (.ref l),some (.ref aa),some (.int n),some (.int m),some (.ref lw),some (.ref lb),some (.ref ld),some (.int (0 + (i:Nat))),some (.ref lq),some (.int nr),d,e]∧Drawn p H5 H'∧H' lq=some (.lst (xs.map V.str))∧xs.length=j∧∀ x∈xs,x∈rows.map (·.1))
    ⟨[],_,_,rfl,d7,by rw [upd_ne (Ne.symm pq)];exact uS,rfl,(fun x h=>nomatch h)⟩ (fun _ _ _ _ _=>trivial) ?_ ?_⟩
   ·rintro j v2 σ H8 hj ⟨xs,d8,e8,rfl,dr8,hq8,rfl,hx8⟩
    obtain ⟨hj,rfl⟩:=rangeV_get hj
    have hj:xs.length<n:=by omega
    obtain ⟨o8,hp8,ho8⟩:=dr8.pot
    have dr08:=d5.trans dr8
    have hw8:=dr8.keep _ _ lwp hw5
    have hb8:=dr8.keep _ _ (Ne.symm pb) hb5
    refine ⟨_,rfl,?_⟩
    refine ⟨fun σ' H'=>∃ (as:Addr) (fs:LS),σ'=[some (.ref p),some (.ref l),some (.ref aa),some (.int n),some (.int m),some (.ref lw),some (.ref lb),some (.ref ld),some (.int (0 + (i:Nat))),some (.ref lq),some (.int nr),some (.int (0 + (xs.length:Nat))),some (.ref as)]∧H'=H8∧H8 as=some (.lst (fs.map V.str))∧fs≠[]∧fs.length≤24∧∀ x∈fs,x∈rows.map (·.1),?_,?_⟩
    ·refine ⟨_,rfl,_,_,rfl,rfl,_,rfl,ite2 (fun h=>?_) (fun h=>?_)⟩
     ·have hbx:bs[xs.length]?=some (bs[xs.length]'(by omega)):=List.getElem?_eq_getElem (by omega)
      generalize bs[xs.length]'(by omega)=x at hbx
      have hxm:=hb x (List.mem_of_getElem? hbx)
      obtain ⟨r,hr',er⟩:=word_row hxm
      obtain ⟨t,fs,hv,ht,hfs,fl⟩:=hA.val' g.nd hr'
      have xfs:x∈fs:=(hfs x).mpr (by rw [er];exact .refl x)
      have tp:t≠p:=Ne.symm (pot_ne hp0 ho0 ht)
      have aap:aa≠p:=fun z=>by rw [z,hp0] at haa;obtain ⟨_,_,q',_⟩:=ho0;rw [q'] at haa;cases haa
      have hat:atI (bs.map V.str) (0 + (xs.length:Nat):Int)=some (.str x):=by
       rw [Int.zero_add]
       refine atI_nat ?_
       rw [List.getElem?_map,hbx]
       rfl
      have kn:∀ y∈fs,y∈rows.map (·.1):=fun y hy=>reach_in g hxm (by rw [← er];exact (hfs y).mp hy)
      exact ⟨_,rfl,_,rfl,_,rfl,lb,_,_,_,rfl,rfl,SqL.of hb8,hat,aa,_,rfl,(by rw [← hv,er];exact DGet.k (k:=Sum.inr x) (dr08.keep _ _ aap haa)),t,fs,rfl,rfl,dr08.keep _ _ tp ht,(fun z=>by rw [z] at xfs;cases xfs),by omega,kn⟩
     ·exact ⟨lw,_,rfl,rfl,hw8,wne,wl,fun x h=>h⟩
    ·rintro σ' H' ⟨as,fs,rfl,e8',has,fne,fl,fk⟩
     have e9:=e8'.symm
     subst e9
     have fpos:0<fs.length:=List.length_pos_iff.mpr fne
     have ap:as≠p:=Ne.symm (pot_ne hp8 ho8 has)
     refine ⟨_,rfl,.inl ⟨rfl,_,SqL.of hq8⟩,_,rfl,_,rfl,_,rfl,as,_,rfl,.inl (SqL.of has),p,_,o8,rfl,hp8,ho8,by rw [List.length_map];omega,by rw [List.length_map];omega,fun v o9 hv0 hv1 ho9=>?_⟩
     obtain ⟨x,hxm,hat⟩:=drawn_item hv0 hv1
     have d9:Drawn p H8 (upd H8 p o9):=Drawn.upd ho9
     have hq9:=d9.keep _ _ (Ne.symm pq) hq8
     refine ⟨as,_,_,_,rfl,rfl,SqL.of (d9.keep _ _ ap has),hat,lq,_,_,rfl,rfl,hq9,small_lt (by rw [List.length_map];omega),xs++[x],_,_,rfl,(dr8.trans d9).sub (o':=.lst []) (q:=lq) (fun b o hb e=>by rw [upd_ne hb];exact e) hlq pq,by rw [uS,List.map_append];rfl,by simp,fun y hy=>?_⟩
     rcases List.mem_append.mp hy with z | z
     ·exact hx8 y z
     ·rw [List.mem_singleton.mp z];exact fk x hxm
   ·rintro σ H8 ⟨xs,d8,e8,rfl,dr8,hq8,hxl,hx8⟩
    rw [rangeV_len] at hxl
    have hxl:xs.length=n:=by simpa using hxl
    have ldp:ld≠p:=Ne.symm pd
    have hd8:=dr8.keep _ _ ldp hd5
    have hD8:DeedsV H8 ds us:=hD5.drawn (p:=p) (o:=.lst []) fun b zs e=>Drawn.tup dr8 hp5 ho5 e
    have okx:∀ y∈xs,isWord y=true:=fun y hy=>good_words g y (hx8 y hy)
    have okd:∀ d∈ds,∀ y∈d,isWord y=true:=fun d hd y hy=>good_words g y ((gc5 d hd).known y hy)
    have dr08:=d5.trans dr8
    have ldq:ld≠lq:=nNo hd5 hlq
    have lwq:lw≠lq:=nNo hw5 hlq
    have lbq:lb≠lq:=nNo hb5 hlq
    have hi':i<m + 1:=by omega
    refine ⟨_,rfl,lq,_,rfl,.inl ⟨SqL.of hq8,fun t ht=>?_⟩⟩
    have s9:Same H8 (upd H8 t (.tup (xs.map V.str))):=snew ht
    refine ⟨_,rfl,datC xs,ds.map datC,rep_call uS,.list (SqL.of (s9 _ _ hd8)) (reps_deeds (hD8.mono s9)),ok_call 8 okx,ok_deeds 7 okd,_,rfl,?_⟩
    rw [any_deed]
    refine ite2 (fun h=>?_) (fun h=>?_)
    ·have hn:xs∉ds:=by simpa using h
     refine ⟨_,rfl,.inl ⟨rfl,_,SqL.of (s9 _ _ hd8)⟩,_,rfl,lq,_,rfl,.inl ⟨SqL.of (s9 _ _ hq8),fun t2 ht2=>?_⟩⟩
     have s10:=s9.trans (snew (o:=.tup (xs.map V.str)) ht2)
     have hd10:=s10 _ _ hd8
     have hul:=hD8.length
     refine ⟨ld,_,_,rfl,rfl,hd10,small_lt (by omega),ds++[xs],us++[.ref t2],_,_,_,_,_,rfl,?_,?_,?_,uS,?_,?_,?_,?_⟩
     ·exact (dr08.same s10).sub (o':=.lst []) (q:=ld) (fun b o hb e=>by rw [upd_ne hb];exact e) ldH pd
     ·rw [upd_ne wd];exact s10 _ _ (dr8.keep _ _ lwp hw5)
     ·rw [upd_ne bd];exact s10 _ _ (dr8.keep _ _ (Ne.symm pb) hb5)
     ·have tk:∀ b zs,(upd (upd H8 t (.tup (xs.map V.str))) t2 (.tup (xs.map V.str))) b=some (.tup zs)→(upd (upd (upd H8 t (.tup (xs.map V.str))) t2 (.tup (xs.map V.str))) ld (.lst (us++[V.ref t2]))) b=some (.tup zs):=fun b zs e=>by
       rw [upd_ne (fun z=>by rw [z,hd10] at e;cases e)];exact e
      exact Paired.snoc ((hD8.mono s10).drawn (p:=p) (o:=.lst []) tk) ⟨t2,rfl,tk _ _ uS⟩
     ·intro d hd
      rcases List.mem_append.mp hd with z | z
      ·exact gc5 d z
      ·rw [List.mem_singleton.mp z];exact ⟨hxl,hx8⟩
     ·rw [List.nodup_append]
      exact ⟨nd5,by simp,fun a ha b hb e=>hn (by rw [← List.mem_singleton.mp hb,← e];exact ha)⟩
     ·rw [List.length_append]
      show ds.length + 1≤i + 1
      omega
    ·exact ⟨ds,us,_,_,_,_,_,rfl,dr08.same s9,s9 _ _ (dr8.keep _ _ lwp hw5),s9 _ _ (dr8.keep _ _ (Ne.symm pb) hb5),s9 _ _ hd8,hD8.mono s9,gc5,nd5,by omega⟩
  ·rintro σ H6 ⟨ds,us,a5,b5,c5,e5,f5,rfl,d6,hw6,hb6,hd6,hD6,gc6,nd6,len6⟩
   rw [rangeV_len] at len6
   exact ⟨_,rfl,q ld ds us H6 d6 ldH hd6 hD6 ⟨gc6,nd6,by omega⟩ (by omega)⟩
def mk_kinds {K:Fg}{C:Addr}{Hx:Hp}{xb dx l:Addr}{rows:RS}{R:Hp→Prop}{E:XK}(nx:Hx xb=none) (ndx:Hx dx=none) (hR:RowsAt Hx l rows) (g:Good rows) (h:∀ H',Same Hx H'→KindsAt C H' xb rows→R H'):
  spInit K C [.ref xb,.ref l] (upd (upd Hx dx (.own xb)) xb (.ins C dx [])) (fun v H3=>v=.non∧R H3) E:=by
 have s34:Same Hx (upd (upd Hx dx (.own xb)) xb (.ins C dx [])):=fun b o e=>by
  have e1:(upd Hx dx (.own xb)) b=some o:=by rw [upd_ne (nNo e ndx)];exact e
  rw [upd_ne (nNo e nx)];exact e1
 exact ⟨xb,dx,l,rows,rfl,uS,(RowsAt.g (rowsAt_mono hR s34)),g,fun H4 kd keep=>⟨rfl,h H4 (fun b o e=>keep b o (nNo e nx) (s34 _ _ e)) kd⟩⟩
def mk_board {K:Fg}{C B:Addr}{Hx:Hp}{xb yb dy lz:Addr}{n:Nat}{rows:RS}{ds:List (LS)}{us:List V}{R:Hp→Prop}{E:XK}(ny:Hx yb=none) (ndy:Hx dy=none) (kd:KindsAt C Hx xb rows) (g:Good rows) (hz:Hx lz=some (.lst us)∨Hx lz=some (.tup us)) (hD:DeedsV Hx ds us) (gd:GoodDeeds rows n ds) (n1:1≤n) (n4:n≤4) (h:∀ H',Same Hx H'→BoardAt C B H' yb xb rows n ds→R H'):
  spBInit K C B [.ref yb,.ref xb,.int n,.ref lz] (upd (upd Hx dy (.own yb)) yb (.ins B dy [])) (fun v H3=>v=.non∧R H3) E:=by
 have s34:Same Hx (upd (upd Hx dy (.own yb)) yb (.ins B dy [])):=fun b o e=>by
  have e1:(upd Hx dy (.own yb)) b=some o:=by rw [upd_ne (nNo e ndy)];exact e
  rw [upd_ne (nNo e ny)];exact e1
 exact ⟨yb,dy,xb,lz,n,rows,ds,us,rfl,uS,kd.mono s34,g,hz.elim (fun e=>.inl (SqL.of (s34 _ _ e))) (fun e=>.inr (s34 _ _ e)),hD.mono s34,gd,n1,n4,fun H5 bd keep5=>⟨rfl,h H5 (fun b o e=>keep5 b o (nNo e ny) (s34 _ _ e)) bd⟩⟩
abbrev Nam:=Str×Nat×List (LS×Str)
def PrV (H:Hp) (p:LS×Str) (v:V):Prop:=∃ t tc:Addr,v=V.ref t∧H t=some (.tup [.ref tc,.str p.2])∧H tc=some (.tup (p.1.map V.str))
def PrsV (H:Hp) (ps:List (LS×Str)) (vs:List V):Prop:=Paired (PrV H) ps vs
def PrsV.mono {H H':Hp}{ps:List (LS×Str)}{vs:List V}(h:PrsV H ps vs) (k:∀ b xs,H b=some (.tup xs)→H' b=some (.tup xs)):PrsV H' ps vs:=Paired.mapP h fun _ _ ⟨t,tc,e,h1,h2⟩=>⟨t,tc,e,k _ _ h1,k _ _ h2⟩
def tupsS {H H':Hp}(s:Same H H'):∀ b xs,H b=some (.tup xs)→H' b=some (.tup xs):=fun _ _ e=>s _ _ e
def NameV (K:Fg) (H:Hp) (n:Nam) (v:V):Prop:=∃ (t tp:Addr) (b:Bool) (vs:List V),v=V.ref t∧H t=some (.tup [.str n.1,.int n.2.1,.ref tp])∧SqB K b H tp vs∧PrsV H n.2.2 vs
structure GoodName (rows:RS) (n:Nam):Prop where
 word:isWord n.1=true
 one:1≤n.2.1
 four:n.2.1≤4
 deeds:GoodDeeds rows n.2.1 (n.2.2.map (·.1))
 made:∀ p∈n.2.2,p.2∈rows.map (·.1)
structure GoodNames (rows:RS) (ns:List Nam):Prop where
 few:ns.length≤8
 each:∀ n∈ns,GoodName rows n
 nd:(ns.map (·.1)).Nodup
def kne3:¬ (("board_of":Str)="made_of"):=by decide +kernel
def fldsK (k bo mo:Addr):List (Str×V):=putF "made_of" (.ref mo) (putF "board_of" (.ref bo) (putF "book" (.ref k) []))
def fldsK_o (k bo mo:Addr):(fldsK k bo mo).lookup ("board_of":Str)=some (.ref bo):=by
 unfold fldsK
 rw [lookup_putF,if_neg kne3,lookup_putF,if_pos rfl]
def fldsK_no (k bo mo:Addr) {m:Str} (h1:¬ m="made_of") (h2:¬ m="board_of") (h3:¬ m="book"):(fldsK k bo mo).lookup m=none:=by
 unfold fldsK
 rw [lookup_putF,if_neg h1,lookup_putF,if_neg h2,lookup_putF,if_neg h3]
 rfl
def ByName (R:Nam→V→Prop) (ns:List Nam) (kvs:List (Key×V)):Prop:=Paired (fun (n:Nam) (p:Key×V)=>p.1=Sum.inr n.1∧R n p.2) ns kvs
def ByName.imp {R S:Nam→V→Prop}{ns:List Nam}{kvs:List (Key×V)}(h:ByName R ns kvs) (f:∀ n v,R n v→S n v):ByName S ns kvs:=Paired.mapP h fun _ _ z=>⟨z.1,f _ _ z.2⟩
theorem ByName.keys {R:Nam→V→Prop}:∀ {ns:List Nam}{kvs:List (Key×V)},ByName R ns kvs→kvs.map (·.1)=ns.map fun n=>(Sum.inr n.1:Key)
 | _,_,.nil=>rfl
 | _,_,.cons r t=>by rw [List.map_cons,List.map_cons,r.1,ByName.keys t]
def ByName.not {R:Nam→V→Prop}{ns:List Nam}{kvs:List (Key×V)}(h:ByName R ns kvs) {x:Str}(hx:x∉ns.map (·.1)):valV kvs (Sum.inr x)=none:=valV_none fun z=>hx (by
 rw [h.keys] at z
 obtain ⟨n,hn,e⟩:=List.mem_map.mp z
 have e':n.1=x:=by injection e
 exact List.mem_map.mpr ⟨n,hn,e'⟩)
def BoR (C B:Addr) (H:Hp) (k:Addr) (rows:RS):Nam→V→Prop:=fun n v=>∃ y,v=.ref y∧BoardAt C B H y k rows n.2.1 (n.2.2.map (·.1))
def MaR (Z:Addr→Prop) (H:Hp):Nam→V→Prop:=fun n v=>∃ l,v=.ref l∧H l=some (.lst ((n.2.2.map (·.2)).map V.str))∧¬ Z l
structure BookZ (Z:Addr→Prop) (C B D:Addr) (H:Hp) (p k:Addr) (rows:RS) (ns:List Nam):Prop where
 ex:∃ (dx bo mo:Addr) (o:Obj) (bvs mvs:List (Key×V)),H p=some (.ins D dx (fldsK k bo mo))∧KindsAt C H k rows∧H bo=some (.frz o (.dK bvs))∧ByName (BoR C B H k rows) ns bvs∧H mo=some (.dK mvs)∧ByName (MaR Z H) ns mvs
abbrev BookAt:=BookZ fun _=>False
def BookZ.at_ {Z:Addr→Prop}{C B D:Addr}{H:Hp}{p k:Addr}{rows:RS}{ns:List Nam}(h:BookZ Z C B D H p k rows ns):BookAt C B D H p k rows ns:=by
 obtain ⟨dx,bo,mo,o,bvs,mvs,h1,h2,h3,h4,h5,h6⟩:=h.ex
 exact ⟨dx,bo,mo,o,bvs,mvs,h1,h2,h3,h4,h5,h6.imp fun n v ⟨l,e,b,_⟩=>⟨l,e,b,id⟩⟩
def board_keep {C B:Addr}{H H':Hp}{p k q:Addr}{o:HO}{rows:RS}{n:Nat}{ds:List (LS)}(h:BoardAt C B H p k rows n ds) (hq:H q=some o) (no:∀ o' u,o≠.frz o' u) (nt:∀ xs,o≠.tup xs) (ni:∀ c d f,o≠.ins c d f) (s:∀ b o,b≠q→H b=some o→H' b=some o):BoardAt C B H' p k rows n ds:=by
 obtain ⟨dx,t,us,h1,h2,h3,h4⟩:=h.ex
 have ne:∀ {b u},H b=some u→o≠u→b≠q:=fun {b u} e n z=>by rw [z,hq] at e;exact n (Option.some.inj e)
 have nk:k≠q:=by
  obtain ⟨_,_,_,_,_,_,_,e,_⟩:=h2.ex
  exact ne e (ni _ _ _)
 exact ⟨dx,t,us,s _ _ (ne h1 (ni _ _ _)) h1,kinds_keep h2 hq s nk no nt,s _ _ (ne h3 (nt _)) h3,Paired.mapP h4 fun _ _ ⟨t',e,x⟩=>⟨t',e,s _ _ (ne x (nt _)) x⟩⟩
def fsP (H:Hp):V→V
 | .ref t=>match H t with
  | some (.tup [x,_])=>x
  | _=>.non
 | _=>.non
def snP (H:Hp):V→V
 | .ref t=>match H t with
  | some (.tup [_,x])=>x
  | _=>.non
 | _=>.non
def fsP_at {H:Hp}{t:Addr}{x y:V}(h:H t=some (.tup [x,y])):fsP H (.ref t)=x:=by show (match H t with | some (.tup [x,_])=>x | _=>.non)=x;rw [h]
def snP_at {H:Hp}{t:Addr}{x y:V}(h:H t=some (.tup [x,y])):snP H (.ref t)=y:=by show (match H t with | some (.tup [_,x])=>x | _=>.non)=y;rw [h]
def pairV_fst {H:Hp}{p:LS×Str}{v:V}(h:PrV H p v):∃ tc,fsP H v=.ref tc∧H tc=some (.tup (p.1.map V.str)):=by
 obtain ⟨t,tc,rfl,h1,h2⟩:=h
 exact ⟨tc,fsP_at h1,h2⟩
def pairV_snd {H:Hp}{p:LS×Str}{v:V}(h:PrV H p v):snP H v=.str p.2:=by
 obtain ⟨t,tc,rfl,h1,h2⟩:=h
 exact snP_at h1
theorem pairs_fst {H:Hp}:∀ {ps:List (LS×Str)}{vs:List V},PrsV H ps vs→DeedsV H (ps.map (·.1)) (vs.map (fsP H))
 | _,_,.nil=>.nil
 | _,_,.cons h t=>by
  obtain ⟨tc,e,h2⟩:=pairV_fst h
  exact .cons ⟨tc,e,h2⟩ (pairs_fst t)
theorem pairs_snd {H:Hp}:∀ {ps:List (LS×Str)}{vs:List V},PrsV H ps vs→vs.map (snP H)=(ps.map (·.2)).map V.str
 | _,_,.nil=>rfl
 | _,_,.cons h t=>by rw [List.map_cons,List.map_cons,List.map_cons,pairV_snd h,pairs_snd t]
def comp_side {K:Fg}{J:It}{vs:List V}{Ok:Hp→Prop}(R:Runs J vs Ok) (i:Nat) (f:V→V) {σ:St}{Q:VK}{H1:Hp}{ps:List (LS×Str)}(hz:vs.length≤1000) (hp:PrsV H1 ps vs) (hf:∀ v,[some (fsP H1 v),some (snP H1 v)][i]?=some (some (f v))) (hok:∀ H,Same H1 H→Ok H)
  (hd:∀ D H',H1 D=none→Same H1 H'→H' D=some (.lst (vs.map f))→Q (.ref D) H'):compBody 2 [] (g2 K 0 1) tTrue (tVar i) σ Q J H1:=by
 refine comp_relT R (sL (by omega)) (fun _=>true) (fun _ x v _=>v=f x) (fsP H1) (snP H1) (fun _ _ _ _ _ _ z=>z) hok (fun x hx=>?_) ?_ ?_ ?_
 ·obtain ⟨j,hj⟩:=List.getElem?_of_mem hx
  obtain ⟨p,_,t,tc,rfl,h1,_⟩:=paired_at hp hj
  exact ⟨t,rfl,by rw [fsP_at h1,snP_at h1];exact h1⟩
 ·intro x H' R' _ _ hR'
  exact hR' H' (Same.refl _)
 ·intro D x H' R' _ _ _ _ _ hR'
  exact ⟨f x,hf x,hR' _ H' (Same.refl _) rfl⟩
 ·intro D H' ys hD s hl hq
  rw [List.filter_eq_self.mpr (fun _ _=>rfl)] at hq
  rw [paired_eq hq] at hl
  exact hd D H' hD s hl
def spCheckMakes (C:Addr):Sp:=fun vs H Q _=>∃ (p l:Addr) (rows:RS) (xs:LS),vs=[.ref p,.ref l]∧KindsAt C H p rows∧Good rows∧H l=some (.lst (xs.map V.str))∧(∀ x∈xs,x∈rows.map (·.1))∧Q .non H
def NamesAt (K:Fg) (H:Hp) (l:Addr) (ns:List Nam):Prop:=∃ (b:Bool) (vs:List V),SqB K b H l vs∧Paired (NameV K H) ns vs
def spKInit (K:Fg) (C B D:Addr):Sp:=fun vs H Q _=>∃ (p dx k l:Addr) (rows:RS) (ns:List Nam),vs=[.ref p,.ref k,.ref l]∧H p=some (.ins D dx [])∧KindsAt C H k rows∧Good rows∧NamesAt K H l ns∧GoodNames rows ns ∧
 ∀ H',BookZ (fun b=>∃ o,H b=some o) C B D H' p k rows ns→(∀ b o,b≠p→H b=some o→H' b=some o)→Q .non H'
structure TxtKn (K:Fg) (D:Addr):Prop where
 cl:Cls K D
 nB:NoAttr K D "book"
 nO:NoAttr K D "board_of"
 nM:NoAttr K D "made_of"
def nd_cm:(["call","made"]:LS).Nodup:=by decide +kernel
abbrev nCM:LS:=["kinds","makes","made"]
def scCM:FnScope nCM ["kinds","makes"] (defScope s_check_makes):=by nofun
def ok_cmakes(F:Def K mg "check_makes" s_check_makes ["kinds","makes"] f fd) (TC:TxtC K C) (MH:MHas K C fH fdH):⋯ 2 f fd ["kinds","makes"] (spCheckMakes C):=by
 have GH:⋯ 1 fH fdH ["self","word"] (spHas C):=ok_has MH.fn TC
 nomatch F.fn.ok scCM
 ·obtain ⟨p,l,rows,xs,rfl,_⟩:=h
  rfl
 ·obtain ⟨p,l,rows,xs,rfl,kd,g,hl,kn,q⟩:=h
  have nd:=scCM.nd
  have hr1:Room 1 _:=hr.mono (by decide)
  obtain ⟨dx,d,a,o,oa,kvs,avs,h1,_⟩:=kd.ex
  refine ⟨_,(pss_one (ps_for PassesOwn.never rfl (pi_list (pv 1)) (pg_name (i:=2) nd rfl (Or.inl rfl)) (pss_one (ps_if (pt_not (pt_val (pe_meth (pv 0) TC.cl MH.me GH hr1 MH.b .nil pass0 (pC (pv 2) pa_nil)))) pss_never pss_nil)))),?_⟩
  refine ⟨_,rfl,l,rfl,⟨_,SqL.of hl⟩,for_runs (runs_list (xs:=xs.map V.str)) (fun i σ H'=>∃ x,σ=[some (.ref p),some (.ref l),x]∧H'=H) ⟨none,rfl,rfl⟩ (fun i σ H' _ ⟨_,_,e⟩=>by rw [e];exact SqL.of hl) ?_ ?_⟩
  ·rintro i v σ H' hi ⟨x,rfl,e⟩
   have e2:=e.symm
   subst e2
   rw [List.getElem?_map] at hi
   cases hx:xs[i]? with
   | none=>rw [hx] at hi;cases hi
   | some y =>
    rw [hx] at hi
    cases hi
    refine ⟨_,rfl,p,dx,_,rfl,h1,no_has _ _,_,rfl,p,rows,y,rfl,kd,g,?_⟩
    rw [decide_eq_true (kn y (List.mem_of_getElem? hx))]
    exact ⟨_,rfl,iteF ⟨_,rfl,rfl⟩⟩
  ·rintro σ H' ⟨x,rfl,e⟩
   rw [e]
   exact q
def word_le {x:Str}(h:isWord x=true):x.length≤1000:=by have:=word_len h;omega
def not_frzK {kvs:List (Key×V)}:∀ (o':Obj) (u:HO),HO.dK kvs≠.frz o' u:=fun _ _ z=>by cases z
def not_tupK {kvs:List (Key×V)}:∀ xs:List V,HO.dK kvs≠.tup xs:=fun _ z=>by cases z
def not_insK {kvs:List (Key×V)}:∀ (c d:Addr) (f:List (Str×V)),HO.dK kvs≠.ins c d f:=fun _ _ _ z=>by cases z
def bo_write {C B:Addr}{H:Hp}{q k:Addr}{kvs:List (Key×V)}{o:HO}{rows:RS}{n:Nam}{v:V}(h:BoR C B H k rows n v) (hq:H q=some (.dK kvs)):BoR C B (upd H q o) k rows n v:=by
 obtain ⟨y,e,b⟩:=h
 exact ⟨y,e,board_keep b hq not_frzK not_tupK not_insK fun b o hb e=>by rw [upd_ne hb];exact e⟩
def ma_write {Z:Addr→Prop}{H:Hp}{q:Addr}{kvs:List (Key×V)}{o:HO}{n:Nam}{v:V}(h:MaR Z H n v) (hq:H q=some (.dK kvs)):MaR Z (upd H q o) n v:=by
 obtain ⟨l,e,b,z⟩:=h
 exact ⟨l,e,by rw [upd_ne (fun z=>by rw [z,hq] at b;cases b)];exact b,z⟩
def bo_same {C B:Addr}{H H':Hp}{k:Addr}{rows:RS}{n:Nam}{v:V}(h:BoR C B H k rows n v) (s:Same H H'):BoR C B H' k rows n v:=let ⟨y,e,b⟩:=h;⟨y,e,b.mono s⟩
def ma_same {Z:Addr→Prop}{H H':Hp}{n:Nam}{v:V}(h:MaR Z H n v) (s:Same H H'):MaR Z H' n v:=let ⟨l,e,b,z⟩:=h;⟨l,e,s _ _ b,z⟩
def byName_snoc {R:Nam→V→Prop}{ns:List Nam}{kvs:List (Key×V)}{n:Nam}{v:V}(h:ByName R ns kvs) (hn:n.1∉ns.map (·.1)) (hv:R n v):ByName R (ns++[n]) (putK kvs (Sum.inr n.1) v):=by
 rw [putK_new _ (h.not hn)]
 exact Paired.snoc h ⟨rfl,hv⟩
abbrev nKI:LS:=["self","kinds","names","board_of","made_of","word","places","deeds"]
abbrev pKI:LS:=["self","kinds","names"]
def scKI:FnScope nKI pKI (defScope s_Book___init__):=by nofun
def ok_kinit(F:Fun K "__init__" "Book.__init__" s_Book___init__ f fd) (T:TxtK mg) (most:∃ t,mg "MOST_NAMES"=some (.int 8 t)) (TD:TxtKn K D) (hDC:D≠C) (hDB:D≠B)
  (DW:Def K mg "is_word" s_is_word ["text"] fW fdW) (MB:Mk K B fBI) (mgB:mg "Board"=some (.ref B)) (bB:Binds K fdBI nBI []) (GB:⋯ 4 fBI fdBI nBI (spBInit K C B))
  (DM:Def K mg "check_makes" s_check_makes ["kinds","makes"] fM fdM) (GM:⋯ 2 fM fdM ["kinds","makes"] (spCheckMakes C)):
  ⋯ 6 f fd pKI (spKInit K C B D):=by
 have GW:⋯ 1 fW fdW ["text"] spIsWord:=ok_isword DW T
 nomatch F.ok scKI
 ·obtain ⟨p,dx,k,l,rows,ns,rfl,_⟩:=h
  rfl
 ·obtain ⟨p,dx,k,l,rows,ns,rfl,hp,kd,g,⟨b,vs,hl,hN⟩,gn,q⟩:=h
  have nd:=scKI.nd
  have hu:=hu_of hr
  have hr1:Room 1 _:=hr.mono (by decide)
  have hr2:Room 2 _:=hr.mono (by decide)
  obtain ⟨t1,hM8⟩:=most
  have hvl:=hN.length
  have few:=gn.few
  refine' ⟨_,(pS (ps_if (pt_cmpR op_gt (pe_callB call_len (by rfl) T.len PySem.boot_len (pC (pv 2) pa_nil)) (pe_glob (v:=.int 8) (by rfl) hM8 ⟨_,rfl⟩) (nomark _)) pss_never pss_nil)
   (pS (ps_set (i:=3) nd rfl (Or.inl rfl) pe_dnewK)
   (pS (ps_set (i:=4) nd rfl (Or.inl rfl) pe_dnewK)
   (pS (ps_for PassesOwn.never rfl (pi_seq (pv 2)) (pg_tup rfl (gC (pg_name (i:=5) nd rfl (Or.inl rfl)) (gC (pg_name (i:=6) nd rfl (Or.inl rfl)) (gC (pg_name (i:=7) nd rfl (Or.inl rfl)) pgs_nil))))
    (pS (ps_if (pt_not (pt_val (pe_callD DW GW hr1 (pC (pv 5) pa_nil)))) pss_never pss_nil)
   (pS (ps_if (pt_cmp (pc_din hu (pv 5) (pv 3))) pss_never pss_nil)
   (pS (ps_dput hu (pv 3) (pv 5) (pe_make MB GB hr rfl mgB bB .nil pass0 (pC (pv 1) (pC (pv 6) (pC ?eC pa_nil)))) rfl)
   (pS (ps_dput hu (pv 4) (pv 5) ?eM rfl)
   (pss_one (ps_expr (pe_callD DM GM hr2 (pC (pv 1) (pC (pe_dget hu (pv 4) (pv 5) (fun _ _=>rfl)) pa_nil))))))))))
   (pss_frz (pS (ps_fld (pv 0) (pv 1) rfl)
   (pS (ps_fld (pv 0) (pv 3) rfl)
   (pss_one (ps_fld (pv 0) (pv 4) rfl))))))))),?_⟩
  case eC=>exact pe_comp ["call","made"] [] [] (fun _=>compT_ok (osc:=defScope s_Book___init__) (on:=nKI) (by decide +kernel) rfl rfl rfl) (pi_seq (pv 7)) (fun C s H fp=>pg_two (K:=K) (i:=0) (j:=1) rfl rfl nd_cm rfl rfl (Or.inl rfl) (Or.inl rfl) (Or.inr rfl) (Or.inr rfl)) (fun C s H fp=>pts_nil) (fun C s H fp=>pv 0)
  case eM=>exact pe_comp ["call","made"] [] [] (fun _=>compT_ok (osc:=defScope s_Book___init__) (on:=nKI) (by decide +kernel) rfl rfl rfl) (pi_seq (pv 7)) (fun C s H fp=>pg_two (K:=K) (i:=0) (j:=1) rfl rfl nd_cm rfl rfl (Or.inl rfl) (Or.inl rfl) (Or.inr rfl) (Or.inr rfl)) (fun C s H fp=>pts_nil) (fun C s H fp=>pv 1)
  refine ⟨_,rfl,_,_,rfl,len_seq hl,_,_,rfl,rfl,_,rfl,?_⟩
  rw [show decide ((8:Int)<(vs.length:Int))=false from decide_eq_false (by omega)]
  refine iteF ?_
  intro bo hbo
  have s1:Same H (upd H bo (.dK [])):=snew hbo
  intro mo hmo
  have s2:Same (upd H bo (.dK [])) (upd (upd H bo (.dK [])) mo (.dK [])):=snew hmo
  have hmoH:H mo=none:=s1.free hmo
  have bm:bo≠mo:=fun z=>by rw [← z,uS] at hmo;cases hmo
  refine ⟨_,rfl,b,l,vs,rfl,(hl.mono s1).mono s2,for_runs runs_seq (fun i σ H'=>∃ (bvs mvs:List (Key×V)) (x y z:Option V),σ=[some (.ref p),some (.ref k),some (.ref l),some (.ref bo),some (.ref mo),x,y,z]∧Same H H'∧H' bo=some (.dK bvs)∧H' mo=some (.dK mvs)∧ByName (BoR C B H' k rows) (ns.take i) bvs∧ByName (MaR (fun b=>∃ o,H b=some o) H') (ns.take i) mvs)
   ⟨[],[],none,none,none,rfl,s1.trans s2,s2 _ _ uS,uS,by rw [List.take_zero];exact .nil,by rw [List.take_zero];exact .nil⟩ (fun i σ H' _ ⟨_,_,_,_,_,_,s,_⟩=>hl.mono s) ?_ ?_⟩
  ·rintro i v σ H' hi ⟨bvs,mvs,x,y,z,rfl,s3,hb3,hm3,hB,hM⟩
   obtain ⟨nm,hnm,t,tp,bb,ws,rfl,ht,htp,hps⟩:=paired_at hN hi
   have hmem:nm∈ns:=List.mem_of_getElem? hnm
   have gnm:=gn.each nm hmem
   have hnew:nm.1∉(ns.take i).map (·.1):=by
    rw [List.map_take]
    exact not_taken gn.nd (by rw [List.getElem?_map,hnm];rfl)
   have ht3:=s3 _ _ ht
   refine ⟨t,_,rfl,SqT.of ht3,rfl,_,_,rfl,_,_,rfl,_,_,rfl,rfl,?_⟩
   refine ⟨_,rfl,nm.1,rfl,word_le gnm.word,fun H4 s4=>⟨_,rfl,?_⟩⟩
   rw [gnm.word]
   refine iteF ?_
   have hb4:=s4 _ _ hb3
   have hm4:=s4 _ _ hm3
   have hB4:=hB.imp fun n v h=>bo_same h s4
   have hM4:=hM.imp fun n v h=>ma_same h s4
   have s04:=s3.trans s4
   refine ⟨_,rfl,_,rfl,bo,_,rfl,DGet.k (k:=Sum.inr nm.1) hb4,_,rfl,?_⟩
   rw [hB4.not hnew]
   refine iteF ?_
   have htp4:=htp.mono s04
   have hps4:PrsV H4 nm.2.2 ws:=hps.mono (tupsS s04)
   have wl:ws.length≤64:=by
    have h1:=Paired.length hps
    have h2:=gnm.deeds.few
    rw [List.length_map] at h2
    omega
   refine ⟨_,rfl,_,rfl,_,rfl,bb,tp,ws,rfl,htp4,comp_side runs_seq 0 (fsP H4) (by omega) hps4 (fun _=>rfl) (fun H' s'=>htp4.mono s') fun lc H5 hlc s45 hl5=>?_⟩
   intro yb dyb ny ndy ney
   refine mk_board ny ndy ((kd.mono s04).mono s45) g (.inl hl5) ((pairs_fst hps4).mono s45) gnm.deeds gnm.one gnm.four fun H6 s56 bd6=>?_
   have s46:=s45.trans s56
   have s06:=s04.trans s46
   have hb6:=s46 _ _ hb4
   have hm6:=s46 _ _ hm4
   have bl:bvs.length=i:=by
    have h1:=Paired.length hB
    rw [List.length_take] at h1
    have h2:=(List.getElem?_eq_some_iff.mp hnm).1
    omega
   have ml:mvs.length=i:=by
    have h1:=Paired.length hM
    rw [List.length_take] at h1
    have h2:=(List.getElem?_eq_some_iff.mp hnm).1
    omega
   have il:i<8:=by
    have h2:=(List.getElem?_eq_some_iff.mp hnm).1
    omega
   refine ⟨_,rfl,_,rfl,bo,_,rfl,DPut.k (k:=Sum.inr nm.1) hb6 (small_lt (by omega)),?_⟩
   have hB7:ByName (BoR C B (upd H6 bo (.dK (putK bvs (Sum.inr nm.1) (.ref yb)))) k rows) (ns.take i++[nm]) (putK bvs (Sum.inr nm.1) (.ref yb)):=
    byName_snoc (hB4.imp fun n v h=>bo_write (bo_same h s46) hb6) hnew (bo_write ⟨yb,rfl,bd6⟩ hb6)
   have hM7:ByName (MaR (fun b=>∃ o,H b=some o) (upd H6 bo (.dK (putK bvs (Sum.inr nm.1) (.ref yb))))) (ns.take i) mvs:=hM4.imp fun n v h=>ma_write (ma_same h s46) hb6
   have s07:Same H (upd H6 bo (.dK (putK bvs (Sum.inr nm.1) (.ref yb)))):=fun b o e=>by rw [upd_ne (nNo e hbo)];exact s06 _ _ e
   have hb7:(upd H6 bo (.dK (putK bvs (Sum.inr nm.1) (.ref yb)))) bo=some (.dK (putK bvs (Sum.inr nm.1) (.ref yb))):=uS
   have hm7:(upd H6 bo (.dK (putK bvs (Sum.inr nm.1) (.ref yb)))) mo=some (.dK mvs):=by rw [upd_ne (Ne.symm bm)];exact hm6
   generalize upd H6 bo (.dK (putK bvs (Sum.inr nm.1) (.ref yb)))=H7 at hB7 hM7 s07 hb7 hm7
   generalize putK bvs (Sum.inr nm.1) (.ref yb)=bvs' at hB7 hb7
   have htp7:=htp.mono s07
   have hps7:PrsV H7 nm.2.2 ws:=hps.mono (tupsS s07)
   refine ⟨_,rfl,bb,tp,ws,rfl,htp7,comp_side runs_seq 1 (snP H7) (by omega) hps7 (fun _=>rfl) (fun H' s'=>htp7.mono s') fun lm H8 hlm s78 hl8=>?_⟩
   rw [pairs_snd hps7] at hl8
   have hm8:=s78 _ _ hm7
   refine ⟨_,rfl,_,rfl,mo,_,rfl,DPut.k (k:=Sum.inr nm.1) hm8 (small_lt (by omega)),?_⟩
   have lmo:lm≠mo:=fun z=>by rw [z,hm7] at hlm;cases hlm
   have hM9:ByName (MaR (fun b=>∃ o,H b=some o) (upd H8 mo (.dK (putK mvs (Sum.inr nm.1) (.ref lm))))) (ns.take i++[nm]) (putK mvs (Sum.inr nm.1) (.ref lm)):=
    byName_snoc (hM7.imp fun n v h=>ma_write (ma_same h s78) hm8) hnew (ma_write ⟨lm,rfl,hl8,fun ⟨_,z⟩=>by rw [s07.free hlm] at z;cases z⟩ hm8)
   have hB9:ByName (BoR C B (upd H8 mo (.dK (putK mvs (Sum.inr nm.1) (.ref lm)))) k rows) (ns.take i++[nm]) bvs':=hB7.imp fun n v h=>bo_write (bo_same h s78) hm8
   have s09:Same H (upd H8 mo (.dK (putK mvs (Sum.inr nm.1) (.ref lm)))):=fun b o e=>by rw [upd_ne (nNo e hmoH)];exact s78 _ _ (s07 _ _ e)
   have hm9:(upd H8 mo (.dK (putK mvs (Sum.inr nm.1) (.ref lm)))) mo=some (.dK (putK mvs (Sum.inr nm.1) (.ref lm))):=uS
   have hb9:(upd H8 mo (.dK (putK mvs (Sum.inr nm.1) (.ref lm)))) bo=some (.dK bvs'):=by rw [upd_ne bm];exact s78 _ _ hb7
   have hl9:(upd H8 mo (.dK (putK mvs (Sum.inr nm.1) (.ref lm)))) lm=some (.lst ((nm.2.2.map (·.2)).map V.str)):=by rw [upd_ne lmo];exact hl8
   have hv9:valV (putK mvs (Sum.inr nm.1) (.ref lm)) (Sum.inr nm.1)=some (.ref lm):=by rw [valV_put,if_pos rfl]
   generalize upd H8 mo (.dK (putK mvs (Sum.inr nm.1) (.ref lm)))=H9 at hM9 hB9 s09 hm9 hb9 hl9
   generalize putK mvs (Sum.inr nm.1) (.ref lm)=mvs' at hM9 hm9 hv9
   refine ⟨_,rfl,_,rfl,_,rfl,mo,_,rfl,(by rw [← hv9];exact DGet.k (k:=Sum.inr nm.1) hm9),k,lm,rows,nm.2.2.map (·.2),rfl,kd.mono s09,g,hl9,fun x hx=>?_,?_⟩
   ·obtain ⟨pr,hpr,e⟩:=List.mem_map.mp hx
    rw [← e];exact gnm.made pr hpr
   refine ⟨bvs',mvs',_,_,_,rfl,s09,hb9,hm9,?_,?_⟩
   ·rw [List.take_add_one,hnm];exact hB9
   ·rw [List.take_add_one,hnm];exact hM9
  ·rintro σ H3 ⟨bvs,mvs,x,y,z,rfl,s3,hb3,hm3,hB,hM⟩
   rw [← hvl,List.take_length] at hB hM
   refine ⟨bo,bvs,hb3,fun o=>?_⟩
   have s4:Same H (upd H3 bo (.frz o (.dK bvs))):=fun b u e=>by rw [upd_ne (nNo e hbo)];exact s3 _ _ e
   have hB4:=hB.imp fun n v h=>bo_write (o:=.frz o (.dK bvs)) h hb3
   have hM4:=hM.imp fun n v h=>ma_write (o:=.frz o (.dK bvs)) h hb3
   have hb4:(upd H3 bo (.frz o (.dK bvs))) bo=some (.frz o (.dK bvs)):=uS
   have hm4:(upd H3 bo (.frz o (.dK bvs))) mo=some (.dK mvs):=by rw [upd_ne (Ne.symm bm)];exact hm3
   generalize upd H3 bo (.frz o (.dK bvs))=H4 at s4 hB4 hM4 hb4 hm4
   have hp4:=s4 _ _ hp
   have pbo:bo≠p:=fun z=>by rw [z,hp] at hbo;cases hbo
   have pmo:mo≠p:=fun z=>by rw [z,hp] at hmoH;cases hmoH
   refine ⟨_,rfl,_,rfl,p,D,dx,[],rfl,hp4,TD.cl,TD.nB,(by show 0<1000;decide),?_⟩
   refine ⟨_,rfl,_,rfl,p,D,dx,_,rfl,uS,TD.cl,TD.nO,(by show 1<1000;decide),?_⟩
   rw [upd_upd]
   refine ⟨_,rfl,_,rfl,p,D,dx,_,rfl,uS,TD.cl,TD.nM,(by show 2<1000;decide),?_⟩
   rw [upd_upd]
   have keep:∀ b o,b≠p→H b=some o→(upd H4 p (.ins D dx (fldsK k bo mo))) b=some o:=fun b o hb e=>by rw [upd_ne hb];exact s4 _ _ e
   have kp:∀ b o,b≠p→H4 b=some o→(upd H4 p (.ins D dx (fldsK k bo mo))) b=some o:=fun b o hb e=>by rw [upd_ne hb];exact e
   have nkp:k≠p:=by
    intro z
    obtain ⟨dx',d,a,o,oa,kvs,avs,h1,_⟩:=kd.ex
    rw [z,hp] at h1
    injection h1 with h1
    injection h1 with h1
    exact hDC h1
   refine q _ ⟨dx,bo,mo,o,bvs,mvs,uS,kinds_keep kd hp keep nkp (fun _ _ z=>by cases z) (fun _ z=>by cases z),kp _ _ pbo hb4,hB4.imp fun n v h=>?_,kp _ _ pmo hm4,hM4.imp fun n v h=>?_⟩ keep
   ·obtain ⟨y,e,bd⟩:=h
    obtain ⟨dxb,t,us,h1,h2,h3,h4⟩:=bd.ex
    have yp:y≠p:=by
     intro z
     rw [z,hp4] at h1
     injection h1 with h1
     injection h1 with h1
     exact hDB h1
    exact ⟨y,e,dxb,t,us,kp _ _ yp h1,kinds_keep h2 hp4 kp nkp (fun _ _ z=>by cases z) (fun _ z=>by cases z),kp _ _ (fun z=>by rw [z,hp4] at h3;cases h3) h3,Paired.mapP h4 fun d v ⟨t',e,x⟩=>⟨t',e,kp _ _ (fun z=>by rw [z,hp4] at x;cases x) x⟩⟩
   ·obtain ⟨l',e,x,z⟩:=h
    exact ⟨l',e,kp _ _ (fun z=>by rw [z,hp4] at x;cases x) x,z⟩
def no_kwords (k bo mo:Addr):(fldsK k bo mo).lookup ("words":Str)=none:=fldsK_no k bo mo (by decide +kernel) (by decide +kernel) (by decide +kernel)
abbrev MKWords (K:Fg) (D f:Addr) (fd:FuncData):Prop:=MDef K D "words" "Book.words" s_Book_words ["self"] f fd
structure ErrI (P:Program) (w:World) (K:Fg) (mg:Str→Option Value) (base:Heap) (x:Str) (C:Addr) (a:Str) (sp:Sp) (f:Addr) (fd:FuncData):Prop where
 m:mg x=some (.ref C)
 ex:ExC K C
 ini:W.findIn K (.ref C) "__init__"=some (some (.ref f))
 ty:W.typeIn K (.ref f)=some (.type "function")
 b:Binds K fd ["self",a] []
 go:⋯ 1 f fd ["self",a] sp
def okS:V→Hp→Prop:=fun v _=>∃ x:Str,v=.str x∧Shows x
def spKWords (C B D:Addr):Sp:=fun vs H Q _=>∃ (p k:Addr) (rows:RS) (ns:List Nam),vs=[.ref p]∧BookAt C B D H p k rows ns∧∀ l,H l=none→Q (.ref l) (upd H l (.lst ((ns.map (·.1)).map V.str)))
theorem byName_words {R:Nam→V→Prop}:∀ {ns:List Nam}{kvs:List (Key×V)},ByName R ns kvs→(kvs.map fun p=>kV p.1)=(ns.map (·.1)).map V.str
 | _,_,.nil=>rfl
 | _,_,.cons r t=>by
  rw [List.map_cons,List.map_cons,List.map_cons,r.1,byName_words t]
  rfl
def scXM:FnScope ["self","word"] ["self","word"] (defScope s_NoName___init__):=by nofun
def ok_xnn(F:Fun K "__init__" "NoName.__init__" s_NoName___init__ f fd) (I:ExI K C D "word") (dd:DIn K D) (mD:mg "DeedError"=some (.ref D)):⋯ 1 f fd ["self","word"] (spXI C "word" okS):=by
 nomatch F.ok scXM
 ·obtain ⟨x,y,rfl,_⟩:=h
  rfl
 ·obtain ⟨x,y,rfl,⟨z,rfl,hz⟩,hx,q⟩:=h
  refine ⟨_,(pS (ps_expr (pe_dinit dd (by rfl) mD (pC (pv 0) (pC (pe_fstr (pfs_cons (pf_repS (pv 1)) (pfs_cons pf_con pfs_nil))) pa_nil))))
   (pss_one (ps_xfld (D:=D) (pv 0) (pv 1)))),?_⟩
  refine ⟨_,rfl,_,rfl,z,rfl,by have:=hz.1;omega,hz.2,by decide +kernel,fun t=>⟨x,C,[.str t],rfl,by show 1≤100;decide,I.toExA.toExC,hx,?_⟩⟩
  exact ⟨_,rfl,_,rfl,x,C,rfl,hx,I,fun dx hdx=>q dx hdx⟩
def scKW:FnScope ["self"] ["self"] (defScope s_Book_words):=by nofun
def ok_kwords(F:Fun K "words" "Book.words" s_Book_words f fd) (TD:TxtKn K D) (list:mg "list"=none):⋯ 1 f fd ["self"] (spKWords C B D):=by
 nomatch F.ok scKW
 ·obtain ⟨p,k,rows,ns,rfl,_⟩:=h
  rfl
 ·obtain ⟨p,k,rows,ns,rfl,bk,q⟩:=h
  obtain ⟨dx,bo,mo,o,bvs,mvs,h1,h2,h3,h4,h5,h6⟩:=bk.ex
  refine ⟨_,pss_one (ps_ret (pe_callTy (call_list_keys rfl) (by rfl) list PyProof.Rows.boot_list (pC (pe_fld (pv 0) rfl) pa_nil))),_,rfl,p,D,dx,_,_,rfl,h1,TD.cl,TD.nO,fldsK_o _ _ _,bo,bvs,rfl,.inr ⟨o,h3⟩,fun l hl=>?_⟩
  rw [byName_words h4]
  exact q l hl
abbrev rTupK (K:Fg):List V→Hp→VK→Prop:=fun xs H Q=>∃ p ys,xs=[.ref p]∧((SqL K H p ys∧∀ l,H l=none→Q (.ref l) (upd H l (.tup ys)))∨(SqT K H p ys∧Q (.ref p) H))
def spPlaces:Sp:=fun vs H Q _=>∃ (p:Addr) (m mo:Nat),vs=[.ref p,.int m,.int mo]∧(∃ o,H p=some o∧PotO o)∧1≤m∧m≤24∧mo≤1000000∧∀ (n:Nat) H',Drawn p H H'→1≤n→n≤4→(n=1∨m ^ n≤mo)→Q (.int n) H'
def spChain:Sp:=fun vs H Q _=>∃ (p aa t:Addr) (n m:Nat) (rows:RS) (avs:List (Key×V)) (c:LS),vs=[.ref p,.ref aa,.ref t,.int m]∧(∃ o,H p=some o∧PotO o)∧Good rows∧H aa=some (.dK avs)∧AboveL H rows rows avs∧H t=some (.tup (c.map V.str))∧GoodCall rows n c∧n≤4∧m≤63 ∧
 ∀ (ld:Addr) (ds:List (LS)) (us:List V) (H':Hp),Drawn p H H'→H ld=none→H' ld=some (.lst us)→DeedsV H' ds us→GoodDeeds rows n ds→ds.length≤m→Q (.ref ld) H'
theorem pr_take {α β:Type}{F:α→β→Prop}:∀ {l:List α}{m:List β}(k:Nat),Paired F l m→Paired F (l.take k) (m.take k)
 | _,_,0,_=>by rw [List.take_zero,List.take_zero];exact .nil
 | _,_,_ + 1,.nil=>.nil
 | _,_,k + 1,.cons r t=>.cons r (pr_take k t)
theorem pr_drop {α β:Type}{F:α→β→Prop}:∀ {l:List α}{m:List β}(k:Nat),Paired F l m→Paired F (l.drop k) (m.drop k)
 | _,_,0,r=>r
 | _,_,_ + 1,.nil=>.nil
 | _,_,k + 1,.cons _ t=>pr_drop k t
theorem pr_app {α β:Type}{F:α→β→Prop}:∀ {l l':List α}{m m':List β},Paired F l m→Paired F l' m'→Paired F (l++l') (m++m')
 | _,_,_,_,.nil,h=>h
 | _,_,_,_,.cons r t,h=>.cons r (pr_app t h)
def nd_wap:(["word","above","pot"]:LS).Nodup:=by decide +kernel
def drawn_free {p:Addr}{H H':Hp}(d:Drawn p H H') {b:Addr}(h:H' b=none):H b=none:=by
 cases z:H b with
 | none=>rfl
 | some u =>
  by_cases e:b=p
  ·obtain ⟨op,hpp,_⟩:=d.pot
   rw [e,hpp] at h;cases h
  ·rw [d.keep _ _ e z] at h;cases h
abbrev nPl:LS:=["pot","many","most","size","greatest"]
def scPl:FnScope nPl ["pot","many","most"] (defScope s__law_places):=by nofun
def ok_places(F:Def K mg "_law_places" s__law_places ["pot","many","most"] f fd) (DT:Def K mg "_law_take" s__law_take ["pot","many"] fT fdT) (GT:⋯ 1 fT fdT ["pot","many"] spTake):
  ⋯ 2 f fd ["pot","many","most"] spPlaces:=by
 nomatch F.fn.ok scPl
 ·obtain ⟨p,m,mo,rfl,_⟩:=h
  rfl
 ·obtain ⟨p,m,mo,rfl,⟨o,hp,ho⟩,m1,m24,hmo,q⟩:=h
  have nd:=scPl.nd
  refine' ⟨_,(pS (ps_set (i:=3) nd rfl (Or.inl rfl) (pv 1))
   (pS (ps_set (i:=4) nd rfl (Or.inl rfl) pe_int)
   (pS (ps_while PassesOwn.never (PW.pt (pw_and (pt_cmpR op_lt (pv 4) pe_int (nomark _)) (pw_and1 (pt_cmpR op_le (pe_op op_mul (pv 3) (pv 1)) (pv 2) (nomark _)))))
    (pS (ps_set (i:=3) nd rfl (Or.inl rfl) (pe_op op_mul (pv 3) (pv 1)))
   (pss_one (ps_set (i:=4) nd rfl (Or.inl rfl) (pe_op op_add (pv 4) pe_int)))))
   (pss_one (ps_ret (pe_op op_add pe_int (pe_callD DT GT hr (pC (pv 0) (pC (pv 4) pa_nil))))))))),?_⟩
  refine ⟨_,rfl,?_⟩
  refine ⟨fun k σ H'=>H'=H∧∃ g:Nat,σ=[some (.ref p),some (.int m),some (.int mo),some (.int ((m ^ g:Nat):Int)),some (.int g)]∧k=4 - g∧1≤g∧g≤4∧(g=1∨m ^ g≤mo),
   ⟨3,rfl,1,by rw [Nat.pow_one];rfl,rfl,by decide,by decide,.inl rfl⟩,?_⟩
  rintro k σ H' ⟨rfl,g,rfl,rfl,g1,g4,hg⟩
  have bound:m ^ g≤1000000:=by
   rcases hg with e | e
   ·rw [e,Nat.pow_one];omega
   ·omega
  have fin:∀ (v:Int) (o':HO),0≤v→v<(g:Int)→PotO o'→Q (.int (1 + v)) (upd H' p o'):=fun v o' hv0 hv1 ho'=>by
   obtain ⟨k,rfl⟩:∃ k:Nat,v=(k:Int):=⟨v.toNat,by omega⟩
   have e:(1 + (k:Int))=((k + 1:Nat):Int):=by omega
   rw [e]
   refine q (k + 1) _ (Drawn.upd ho') (by omega) (by omega) ?_
   by_cases k0:k=0
   ·exact .inl (by omega)
   ·rcases hg with z | z
    ·omega
    ·exact .inr (Nat.le_trans (Nat.pow_le_pow_right m1 (by omega)) z)
  refine ⟨_,rfl,_,_,rfl,rfl,_,rfl,?_⟩
  refine ite2 (fun h1=>?_) (fun h1=>?_)
  rotate_left
  ·refine iteF ?_
   exact ⟨_,rfl,_,rfl,p,(g:Int),o,rfl,hp,ho,by omega,by omega,fun v o' hv0 hv1 ho'=>⟨_,_,rfl,rfl,fin v o' hv0 hv1 ho'⟩⟩
  ·refine ⟨_,rfl,_,rfl,_,_,rfl,rfl,.inl ⟨by omega,by omega⟩,_,rfl,_,_,rfl,rfl,_,rfl,?_⟩
   have em:((m ^ g:Nat):Int) * ((m:Nat):Int)=((m ^ (g + 1):Nat):Int):=by rw [Nat.pow_succ,Int.natCast_mul]
   rw [em]
   refine ite2 (fun h2=>?_) (fun h2=>?_)
   ·have hn:(g:Int)<4:=of_decide_eq_true h1
    have h2:((m ^ (g + 1):Nat):Int)≤(mo:Int):=of_decide_eq_true h2
    refine ⟨fun σ' H4=>σ'=[some (.ref p),some (.int m),some (.int mo),some (.int ((m ^ (g + 1):Nat):Int)),some (.int ((g + 1:Nat):Int))]∧H4=H',?_,?_⟩
    ·rintro σ' H4 ⟨rfl,rfl⟩
     exact ⟨4 - (g + 1),by omega,rfl,g + 1,rfl,rfl,by omega,by omega,.inr (by omega)⟩
    ·refine ⟨_,rfl,_,rfl,_,_,rfl,rfl,.inl ⟨by omega,by omega⟩,?_⟩
     refine ⟨_,rfl,_,_,rfl,rfl,?_,rfl⟩
     show ([some (.ref p),some (.int m),some (.int mo),some (.int (((m ^ g:Nat):Int) * ((m:Nat):Int))),some (.int ((g:Int) + 1))]:St)=_
     rw [em]
     rfl
   ·exact ⟨_,rfl,_,rfl,p,(g:Int),o,rfl,hp,ho,by omega,by omega,fun v o' hv0 hv1 ho'=>⟨_,_,rfl,rfl,fin v o' hv0 hv1 ho'⟩⟩
abbrev nCh:LS:=["pot","above","call","most","found","k"]
def scCh:FnScope nCh ["pot","above","call","most"] (defScope s__law_chain):=by nofun
set_option maxHeartbeats 8000000 in
def ok_chain(F:Def K mg "_law_chain" s__law_chain ["pot","above","call","most"] f fd) (T:TxtD mg) (DT:Def K mg "_law_take" s__law_take ["pot","many"] fT fdT) (GT:⋯ 1 fT fdT ["pot","many"] spTake):
  ⋯ 2 f fd ["pot","above","call","most"] spChain:=by
 nomatch F.fn.ok scCh
 ·obtain ⟨p,aa,t,n,m,rows,avs,c,rfl,_⟩:=h
  rfl
 ·obtain ⟨p,aa,t,n,m,rows,avs,c,rfl,⟨o,hp,ho⟩,g,haa,hA,ht,gc,n4,hm,q⟩:=h
  have nd:=scCh.nd
  have hu:=hu_of hr
  refine' ⟨_,(pS (ps_set (i:=4) nd rfl (Or.inl rfl) (pe_lst pa_nil))
   (pS (ps_for PassesOwn.never rfl (pi_range1 (by rfl) T.range (pC (pe_callD DT GT hr (pC (pv 0) (pC (pe_op op_add (pv 3) pe_int) pa_nil))) pa_nil)) (pg_name (i:=5) nd rfl (Or.inl rfl))
    (pss_cut (ps_if (pt_cmpR (op_notInD (hu65 hr)) (pv 2) (pv 4) (by with_unfolding_all rfl))
     (pss_one (ps_expr (pe_bm PySem.F.plainAttrs_list PySem.F.slot_list_insert PySem.F.type_list_insert mt_insert (pv 4) (pC (pe_callD DT GT hr (pC (pv 0) (pC (pe_op op_add (pe_callB call_len_seq (by rfl) T.len PySem.boot_len (pC (pv 4) pa_nil)) pe_int) pa_nil))) (pC (pv 2) pa_nil))))) pss_nil)
   (pss_one (ps_set (i:=2) nd rfl (Or.inl rfl) (pe_callTy (r:=rTupK K) call_tuple_of (by rfl) T.tuple PyProof.Rows.boot_tuple (pC ?eC pa_nil))))))
   (pss_one (ps_ret (pv 4))))),?_⟩
  case eC=>exact (pe_comp ["word"] ["above","pot"] [1,0] (fun _=>compT_ok (osc:=defScope s__law_chain) (on:=nCh) (by decide +kernel) rfl rfl rfl) (pi_tup (pv 2)) (fun C s H fp=>pg_name (i:=0) nd_wap rfl (Or.inl rfl) (Or.inr rfl)) (fun C s H fp=>pts_nil) (fun C s H fp=>pe_ix (r:=rIxL K) ix_list (pe_dget hu (pv 1) (pv 0) (fun _ _=>rfl)) (pe_callD DT GT hr (pC (pv 2) (pC (pe_callB (r:=rLenK K) call_len_seq (by rfl) T.len PySem.boot_len (pC (pe_dget hu (pv 1) (pv 0) (fun _ _=>rfl)) pa_nil)) pa_nil))) (fun _ _=>rfl)))
  refine ⟨Nat.zero_le _,fun ld hld=>?_⟩
  have pd:p≠ld:=nNo hp hld
  have d1:=(Drawn.refl (p:=p) ⟨o,hp,ho⟩).new (o:=.lst []) hld
  obtain ⟨o1,hp1,ho1⟩:=d1.pot
  have aap:aa≠p:=fun z=>by rw [z,hp] at haa;obtain ⟨_,_,q',_⟩:=ho;rw [q'] at haa;cases haa
  refine ⟨_,rfl,_,rfl,_,_,rfl,rfl,p,_,o1,rfl,hp1,ho1,by omega,by omega,fun v o2 hv0 hv1 ho2=>⟨v,rfl,by omega,by omega,?_⟩⟩
  have d2:Drawn p H (upd (upd H ld (.lst [])) p o2):=d1.trans (Drawn.upd ho2)
  refine for_runs runs_range (fun i σ H'=>∃ (ds:List (LS)) (us:List V) (c':LS) (t':Addr) (x:Option V),σ=[some (.ref p),some (.ref aa),some (.ref t'),some (.int m),some (.ref ld),x]∧Drawn p H H'∧H' ld=some (.lst us)∧DeedsV H' ds us ∧
   (∀ d∈ds,GoodCall rows n d)∧ds.Nodup∧ds.length≤i∧H' t'=some (.tup (c'.map V.str))∧GoodCall rows n c')
   ⟨[],[],c,t,none,rfl,d2,by rw [upd_ne (Ne.symm pd)];exact uS,.nil,(fun d h=>nomatch h),List.nodup_nil,Nat.le_refl _,Drawn.tup d2 hp ho ht,gc⟩ (fun _ _ _ _ _=>trivial) ?_ ?_
  ·rintro i v' σ H5 hi ⟨ds,us,c5,t5,x5,rfl,d5,hd5,hD5,gc5,nd5,len5,ht5,gt5⟩
   obtain ⟨hi,rfl⟩:=rangeV_get hi
   obtain ⟨o5,hp5,ho5⟩:=d5.pot
   have okc:∀ y∈c5,isWord y=true:=fun y hy=>good_words g y (gt5.known y hy)
   have okd:∀ d∈ds,∀ y∈d,isWord y=true:=fun d hd y hy=>good_words g y ((gc5 d hd).known y hy)
   have hul:=hD5.length
   refine ⟨fun σ' H'=>∃ (ds':List (LS)) (us':List V),σ'=[some (.ref p),some (.ref aa),some (.ref t5),some (.int m),some (.ref ld),some (.int (0 + (i:Nat)))]∧Drawn p H H'∧H' ld=some (.lst us')∧DeedsV H' ds' us'∧(∀ d∈ds',GoodCall rows n d)∧ds'.Nodup∧ds'.length≤i + 1∧H' t5=some (.tup (c5.map V.str)),?_,?_⟩
   ·refine ⟨_,rfl,_,rfl,datC c5,ds.map datC,rep_call ht5,.list (SqL.of hd5) (reps_deeds hD5),ok_call 8 okc,ok_deeds 7 okd,_,rfl,?_⟩
    rw [any_deed]
    refine ite2 (fun h=>?_) (fun h=>?_)
    ·have hn:c5∉ds:=by simpa using h
     refine ⟨_,rfl,.inl ⟨rfl,_,SqL.of hd5⟩,_,rfl,_,rfl,ld,us,rfl,.inl (SqL.of hd5),_,_,rfl,rfl,p,_,o5,rfl,hp5,ho5,by omega,by omega,fun a o6 ha0 ha1 ho6=>?_⟩
     obtain ⟨j,rfl⟩:∃ j:Nat,a=(j:Int):=⟨a.toNat,by omega⟩
     have d6:Drawn p H5 (upd H5 p o6):=Drawn.upd ho6
     have hd6:=d6.keep _ _ (Ne.symm pd) hd5
     refine ⟨_,rfl,ld,us,_,_,rfl,rfl,hd6,by omega,by omega,small_lt (by omega),ds.take j++c5 :: ds.drop j,us.take j++V.ref t5 :: us.drop j,rfl,?_,?_,?_,?_,?_,?_,?_⟩
     ·exact (d5.trans d6).sub (o':=.lst []) (q:=ld) (fun b o hb e=>by rw [upd_ne hb];exact e) hld pd
     ·exact uS
     ·have tk:∀ b zs,H5 b=some (.tup zs)→(upd (upd H5 p o6) ld (.lst (us.take j++V.ref t5 :: us.drop j))) b=some (.tup zs):=fun b zs e=>by
       rw [upd_ne (fun z=>by rw [z,hd5] at e;cases e)];exact Drawn.tup d6 hp5 ho5 e
      exact pr_app (pr_take j (hD5.drawn (p:=p) (o:=.lst []) tk)) (.cons ⟨t5,rfl,tk _ _ ht5⟩ (pr_drop j (hD5.drawn (p:=p) (o:=.lst []) tk)))
     ·intro d hd
      rcases List.mem_append.mp hd with z | z
      ·exact gc5 d (List.mem_of_mem_take z)
      ·rcases List.mem_cons.mp z with z | z
       ·rw [z];exact gt5
       ·exact gc5 d (List.mem_of_mem_drop z)
     ·have pm:(ds.take j++c5 :: ds.drop j).Perm (c5 :: ds):=by
       have:=List.perm_middle (a:=c5) (l₁:=ds.take j) (l₂:=ds.drop j)
       rwa [List.take_append_drop] at this
      exact pm.nodup_iff.mpr (List.nodup_cons.mpr ⟨hn,nd5⟩)
     ·rw [List.length_append,List.length_cons,List.length_take,List.length_drop]
      omega
     ·rw [upd_ne (fun z=>by rw [z,hd5] at ht5;cases ht5)];exact Drawn.tup d6 hp5 ho5 ht5
    ·exact ⟨ds,us,rfl,d5,hd5,hD5,gc5,nd5,by omega,ht5⟩
   ·rintro σ' H6 ⟨ds',us',rfl,d6,hd6,hD6,gc6,nd6,len6,ht6⟩
    obtain ⟨o6,hp6,ho6⟩:=d6.pot
    refine ⟨_,rfl,t5,rfl,⟨_,SqT.of ht6⟩,comp_runs (runs_tup (xs:=c5.map V.str)) (sL (by rw [List.length_map];have:=gt5.len;omega)) (fun D j ys σ' H'=>Drawn p H6 H'∧H' D=some (.lst ys)∧∃ (bs:LS) (x:Option V),ys=bs.map V.str∧bs.length=j∧(∀ x∈bs,x∈rows.map (·.1))∧σ'=[x,some (.ref aa),some (.ref p)])
     (fun D hD=>⟨(Drawn.refl ⟨o6,hp6,ho6⟩).new hD,uS,[],none,rfl,rfl,(fun x h=>nomatch h),rfl⟩) (fun D j ys σ' H' _ ⟨d,_,bs,_,e,el,_⟩=>⟨SqT.of (Drawn.tup d hp6 ho6 ht6),by rw [e,List.length_map];have:=gt5.len;omega⟩) ?_ ?_⟩
    ·rintro D j v ys σ' H7 hD hj ⟨d7,hl7,bs,x7,rfl,rfl,hb,rfl⟩
     rw [List.getElem?_map] at hj
     cases hx:c5[bs.length]? with
     | none=>rw [hx] at hj;cases hj
     | some x =>
      rw [hx] at hj
      cases hj
      obtain ⟨o7,hp7,ho7⟩:=d7.pot
      have pD:p≠D:=nNo hp6 hD
      have hxm:=gt5.known x (List.mem_of_getElem? hx)
      obtain ⟨r,hr',er⟩:=word_row hxm
      obtain ⟨tf,fs,hv,htf,hfs,fl⟩:=hA.val' g.nd hr'
      have xfs:x∈fs:=(hfs x).mpr (by rw [er];exact .refl x)
      have fpos:0<fs.length:=List.length_pos_iff.mpr fun z=>by rw [z] at xfs;cases xfs
      have tp:tf≠p:=Ne.symm (pot_ne hp ho htf)
      have d07:=d6.trans d7
      have haa7:=d07.keep _ _ aap haa
      have htf7:=d07.keep _ _ tp htf
      have gle:=g.le
      have get:∀ {H':Hp},H' aa=some (.dK avs)→DGet H' aa (.str x) (some (.ref tf)):=fun {H'} e=>by rw [← hv,er];exact DGet.k (k:=Sum.inr x) e
      refine ⟨_,rfl,_,rfl,aa,_,rfl,get haa7,_,rfl,_,rfl,_,rfl,aa,_,rfl,get haa7,tf,_,rfl,.inl (SqL.of htf7),p,_,o7,rfl,hp7,ho7,by rw [List.length_map];omega,by rw [List.length_map];omega,fun v o8 hv0 hv1 ho8=>?_⟩
      obtain ⟨y,hym,hat⟩:=drawn_item hv0 hv1
      have d8:Drawn p H7 (upd H7 p o8):=Drawn.upd ho8
      refine ⟨tf,_,_,_,rfl,rfl,SqL.of (d8.keep _ _ tp htf7),hat,d8.keep _ _ (Ne.symm pD) hl7,(d7.trans d8).sub (o':=.lst []) (q:=D) (fun b o hb e=>by rw [upd_ne hb];exact e) hD pD,uS,bs++[y],_,by rw [List.map_append];rfl,by simp,fun z hz=>?_,rfl⟩
      rcases List.mem_append.mp hz with z | z
      ·exact hb _ z
      ·rw [List.mem_singleton.mp z]
       exact reach_in g hxm (by rw [← er];exact (hfs y).mp hym)
    ·rintro D ys σ' H7 hD ⟨d7,hl7,bs,x7,rfl,hbl,hb,rfl⟩
     rw [List.length_map,gt5.len] at hbl
     refine ⟨D,_,rfl,.inl ⟨SqL.of hl7,fun t8 ht8=>?_⟩⟩
     have s8:Same H7 (upd H7 t8 (.tup (bs.map V.str))):=snew ht8
     have d08:=(d6.trans d7).same s8
     refine ⟨ds',us',bs,t8,_,rfl,d08,s8 _ _ (d7.keep _ _ (Ne.symm pd) hd6),(hD6.drawn (p:=p) (o:=.lst []) fun b zs e=>s8 _ _ (Drawn.tup d7 hp6 ho6 e)),gc6,nd6,len6,uS,hbl,hb⟩
  ·rintro σ H6 ⟨ds,us,c5,t5,x5,rfl,d6,hd6,hD6,gc6,nd6,len6,_⟩
   rw [rangeV_len] at len6
   exact ⟨_,rfl,q ld ds us H6 d6 hld hd6 hD6 ⟨gc6,nd6,by omega⟩ (by omega)⟩
def aboveL_drawn {p:Addr}{H H':Hp}{o:HO}{all rows:RS}{avs:List (Key×V)}(h:AboveL H all rows avs) (hp:H p=some o) (ho:PotO o) (d:Drawn p H H'):AboveL H' all rows avs :=
 Paired.mapP h fun _ _ z=>⟨z.1,let ⟨t,fs,e,x,y⟩:=z.2;⟨t,fs,e,d.keep _ _ (Ne.symm (pot_ne hp ho x)) x,y⟩⟩
def spPrs:Sp:=fun vs H Q _=>∃ (p l aa:Addr) (n m:Nat) (rows:RS) (avs:List (Key×V)),vs=[.ref p,.ref l,.ref aa,.int n,.int m]∧(∃ o,H p=some o∧PotO o)∧RowsAt H l rows∧Good rows∧H aa=some (.dK avs)∧AboveL H rows rows avs∧1≤n∧n≤4∧m≤63 ∧
 ∀ (t:Addr) (ps:List (LS×Str)) (us:List V) (H':Hp),Drawn p H H'→H' t=some (.tup us)→PrsV H' ps us→GoodDeeds rows n (ps.map (·.1))→(∀ q∈ps,q.2∈rows.map (·.1))→ps.length≤m→Q (.ref t) H'
def at4 {a b c d:V}{v:Int} (h0:0≤v) (h1:v<4):∃ x,atI [a,b,c,d] v=some x∧(x=a∨x=b∨x=c∨x=d):=by
 obtain ⟨k,rfl⟩:∃ k:Nat,v=(k:Int):=⟨v.toNat,by omega⟩
 have hk:k<4:=by omega
 match k,hk with
 | 0,_=>exact ⟨a,rfl,.inl rfl⟩
 | 1,_=>exact ⟨b,rfl,.inr (.inl rfl)⟩
 | 2,_=>exact ⟨c,rfl,.inr (.inr (.inl rfl))⟩
 | 3,_=>exact ⟨d,rfl,.inr (.inr (.inr rfl))⟩
abbrev nPa:LS:=["pot","rows","above","places","most","words","deeds","start","way","place","word","pairs","deed","made"]
abbrev pPa:LS:=["pot","rows","above","places","most"]
def scPa:FnScope nPa pPa (defScope s__law_pairs):=by nofun
set_option maxHeartbeats 8000000 in
def ok_pairs(F:Def K mg "_law_pairs" s__law_pairs pPa f fd) (T:TxtD mg) (DT:Def K mg "_law_take" s__law_take ["pot","many"] fT fdT) (GT:⋯ 1 fT fdT ["pot","many"] spTake)
  (DD:Def K mg "_law_deeds" s__law_deeds ["pot","rows","above","places","most"] fD fdD) (GD:⋯ 2 fD fdD ["pot","rows","above","places","most"] spDeeds) (DC:Def K mg "_law_chain" s__law_chain ["pot","above","call","most"] fC fdC) (GC:⋯ 2 fC fdC ["pot","above","call","most"] spChain):
  ⋯ 3 f fd pPa spPrs:=by
 nomatch F.fn.ok scPa
 ·obtain ⟨p,l,aa,n,m,rows,avs,rfl,_⟩:=h
  rfl
 ·obtain ⟨p,l,aa,n,m,rows,avs,rfl,⟨o0,hp0,ho0⟩,hR,g,haa,hA,n1,n4,hm,q⟩:=h
  have nd:=scPa.nd
  have hu:=hu_of hr
  have hr1:Room 1 _:=hr.mono (by decide)
  have gle:=g.le
  refine' ⟨_,(pS (ps_set (i:=5) nd rfl (Or.inr rfl) ?e1)
   (pS (ps_set (i:=6) nd rfl (Or.inl rfl) (pe_callD DD GD hr (pC (pv 0) (pC (pv 1) (pC (pv 2) (pC (pv 3) (pC (pv 4) pa_nil)))))))
   (pss_cut (ps_if (pt_cmpR op_eq (pe_callD DT GT hr1 (pC (pv 0) (pC pe_int pa_nil))) pe_int (nomark _))
    (pS (ps_set (i:=7) nd rfl (Or.inl rfl) (pe_callTy (r:=rTupK K) call_tuple_of (by rfl) T.tuple PyProof.Rows.boot_tuple (pC ?e2 pa_nil)))
   (pss_one (ps_set (i:=6) nd rfl (Or.inl rfl) (pe_callD DC GC hr (pC (pv 0) (pC (pv 2) (pC (pv 7) (pC (pv 4) pa_nil)))))))) pss_nil)
   (pS (ps_set (i:=8) nd rfl (Or.inl rfl) (pe_callD DT GT hr1 (pC (pv 0) (pC pe_int pa_nil))))
   (pS (ps_set (i:=9) nd rfl (Or.inl rfl) (pe_callD DT GT hr1 (pC (pv 0) (pC (pv 3) pa_nil))))
   (pS (ps_set (i:=10) nd rfl (Or.inl rfl) (pe_ix (r:=rIxL K) ix_list (pv 5) (pe_callD DT GT hr1 (pC (pv 0) (pC (pe_callB call_len_seq (by rfl) T.len PySem.boot_len (pC (pv 5) pa_nil)) pa_nil))) (fun _ _=>rfl)))
   (pS (ps_set (i:=11) nd rfl (Or.inl rfl) (pe_lst pa_nil))
   (pS (ps_for PassesOwn.never rfl (pi_list (pv 6)) (pg_name (i:=12) nd rfl (Or.inl rfl))
    (pS (ps_set (i:=13) nd rfl (Or.inl rfl) (pe_ix (r:=rIxT K) ix_tup (pe_tup (pC (pe_ix (r:=rIxL K) ix_list (pv 5) (pe_callD DT GT hr1 (pC (pv 0) (pC (pe_callB call_len_seq (by rfl) T.len PySem.boot_len (pC (pv 5) pa_nil)) pa_nil))) (fun _ _=>rfl)) (pC (pv 10) (pC (pe_ix (r:=rIxT K) ix_tup (pv 12) (pv 9) (fun _ _=>rfl)) (pC (pe_ix (r:=rIxT K) ix_tup (pv 12) (pv 9) (fun _ _=>rfl)) pa_nil))))) (pv 8) (fun _ _=>rfl)))
   (pss_one (ps_expr (pe_bm PySem.F.plainAttrs_list PySem.F.slot_list_append PySem.F.type_list_append mt_append (pv 11) (pC (pe_tup (pC (pv 12) (pC (pv 13) pa_nil))) pa_nil))))))
   (pss_one (ps_ret (pe_callTy (r:=rTupK K) call_tuple_of (by rfl) T.tuple PyProof.Rows.boot_tuple (pC (pv 11) pa_nil)))))))))))),?_⟩
  case e1=>exact (pe_comp ["row"] [] [] (fun _=>compT_ok (osc:=defScope s__law_pairs) (on:=nPa) (by decide +kernel) rfl rfl rfl) (pi_list (pv 1)) (fun C s H fp=>pg_name (i:=0) nd_row1 rfl (Or.inl rfl) (Or.inr rfl)) (fun C s H fp=>pts_nil) (fun C s H fp=>pe_ix (r:=rIxT K) ix_tup (pv 0) pe_int (fun _ _=>rfl)))
  case e2=>exact (pe_comp ["k"] ["words","pot"] [5,0] (fun _=>compT_ok (osc:=defScope s__law_pairs) (on:=nPa) (by decide +kernel) rfl rfl rfl) (pi_range1 (by rfl) T.range (pC (pv 3) pa_nil)) (fun C s H fp=>pg_name (i:=0) nd_kwp rfl (Or.inl rfl) (Or.inr rfl)) (fun C s H fp=>pts_nil) (fun C s H fp=>pe_ix (r:=rIxL K) ix_list (pv 1) (pe_callD DT GT hr1 (pC (pv 2) (pC (pe_callB (r:=rLenK K) call_len_seq (by rfl) T.len PySem.boot_len (pC (pv 1) pa_nil)) pa_nil))) (fun _ _=>rfl)))
  obtain ⟨vs0,hvs0,hpr0⟩:=id hR
  refine ⟨_,rfl,l,rfl,⟨_,SqL.of hvs0⟩,words_comp hR (by omega) (fun t u x H' R ht hRx=>⟨_,rfl,t,_,_,_,rfl,rfl,SqT.of ht,rfl,hRx⟩) fun lw H1 hlw s1 hw=>?_⟩
  have hp1:=s1 _ _ hp0
  have lwp:lw≠p:=Ne.symm (pot_ne hp1 ho0 hw)
  have wne:rows.map (·.1)≠[]:=by
   have:=g.ne
   intro z
   have z2:=congrArg List.length z
   rw [List.length_map] at z2
   simp at z2
   rw [z2] at this
   simp at this
  have wpos:0<(rows.map (·.1)).length:=List.length_pos_iff.mpr wne
  have wl:(rows.map (·.1)).length≤24:=by rw [List.length_map];exact gle
  have haa1:=s1 _ _ haa
  have aap:aa≠p:=fun z=>by rw [z,hp0] at haa;obtain ⟨_,_,q',_⟩:=ho0;rw [q'] at haa;cases haa
  have hA1:AboveL H1 rows rows avs:=hA.mono fun b xs e=>s1 _ _ e
  refine ⟨_,rfl,_,rfl,_,rfl,_,rfl,_,rfl,p,l,aa,n,m,rows,avs,rfl,⟨o0,hp1,ho0⟩,rowsAt_mono hR s1,g,haa1,hA1,n1,n4,hm,fun ld ds us H2 d12 hld hus hD gd dl=>?_⟩
  obtain ⟨o2,hp2,ho2⟩:=id d12.pot
  have hw2:=d12.keep _ _ lwp hw
  refine ⟨fun σ' H'=>∃ (ld:Addr) (ds:List (LS)) (us:List V) (x:Option V),σ'=[some (.ref p),some (.ref l),some (.ref aa),some (.int n),some (.int m),some (.ref lw),some (.ref ld),x,none,none,none,none,none,none]∧Drawn p H1 H'∧ld≠p∧H' ld=some (.lst us)∧DeedsV H' ds us∧GoodDeeds rows n ds∧ds.length≤m,?_,?_⟩
  ·refine ⟨_,rfl,p,3,o2,rfl,hp2,ho2,by decide,by decide,fun v o3 hv0 hv1 ho3=>⟨rfl,_,rfl,?_⟩⟩
   have d23:Drawn p H2 (upd H2 p o3):=Drawn.upd ho3
   have d13:=d12.trans d23
   have ldp:ld≠p:=fun z=>by rw [z,hp1] at hld;cases hld
   have hus3:=d23.keep _ _ ldp hus
   have hD3:DeedsV (upd H2 p o3) ds us:=hD.drawn (p:=p) (o:=.lst []) fun b zs e=>Drawn.tup d23 hp2 ho2 e
   generalize upd H2 p o3=H3 at d23 d13 hus3 hD3
   refine ite2 (fun _=>?_) (fun _=>⟨ld,ds,us,none,rfl,d13,ldp,hus3,hD3,gd,dl⟩)
   obtain ⟨o3',hp3,ho3'⟩:=id d13.pot
   have hw3:=d13.keep _ _ lwp hw
   refine ⟨_,rfl,n,rfl,by omega,by omega,comp_runs runs_range (by rw [rangeV_len];exact sL (by omega)) (fun D i ys σ' H'=>Drawn p H3 H'∧H' D=some (.lst ys)∧∃ (bs:LS) (o:Option V),ys=bs.map V.str∧bs.length=i∧(∀ x∈bs,x∈rows.map (·.1))∧σ'=[o,some (.ref lw),some (.ref p)])
    (fun D hD=>⟨(Drawn.refl ⟨o3',hp3,ho3'⟩).new hD,uS,[],none,rfl,rfl,(fun x h=>nomatch h),rfl⟩) (fun D i ys σ' H' _ ⟨_,_,bs,_,e,el,_⟩=>⟨trivial,by rw [e,List.length_map];omega⟩) ?_ ?_⟩
   ·rintro D i v ys σ' H' hD' hi ⟨d,hl,bs,o,rfl,rfl,hb,rfl⟩
    obtain ⟨hi,rfl⟩:=rangeV_get hi
    obtain ⟨o1,hpp,hoo⟩:=d.pot
    have hw1:=d.keep _ _ lwp hw3
    have pD:p≠D:=nNo hp3 hD'
    refine ⟨_,rfl,_,rfl,_,rfl,lw,_,rfl,.inl (SqL.of hw1),p,_,o1,rfl,hpp,hoo,by rw [List.length_map];omega,by rw [List.length_map];omega,fun v o2 hv0 hv1 ho2=>?_⟩
    obtain ⟨x,hxm,hat⟩:=drawn_item hv0 hv1
    have d2:Drawn p H' (upd H' p o2):=Drawn.upd ho2
    refine ⟨lw,_,_,_,rfl,rfl,SqL.of (d2.keep _ _ lwp hw1),hat,d2.keep _ _ (Ne.symm pD) hl,(d.trans d2).sub (o':=.lst []) (q:=D) (fun b o hb e=>by rw [upd_ne hb];exact e) hD' pD,uS,bs++[x],_,by rw [List.map_append];rfl,by simp,fun y hy=>?_,rfl⟩
    rcases List.mem_append.mp hy with z | z
    ·exact hb y z
    ·rw [List.mem_singleton.mp z];exact hxm
   rintro lb ys σ' H4 hlb ⟨d34,hlb4,bs,o,rfl,hbl,hb,rfl⟩
   rw [rangeV_len] at hbl
   have hbl:bs.length=n:=by simpa using hbl
   refine ⟨lb,_,rfl,.inl ⟨SqL.of hlb4,fun ts hts=>?_⟩⟩
   have s45:Same H4 (upd H4 ts (.tup (bs.map V.str))):=snew hts
   have d15:=(d13.trans d34).same s45
   obtain ⟨o5,hp5,ho5⟩:=id d15.pot
   refine ⟨_,rfl,_,rfl,_,rfl,_,rfl,p,aa,ts,n,m,rows,avs,bs,rfl,⟨o5,hp5,ho5⟩,g,d15.keep _ _ aap haa1,aboveL_drawn hA1 hp1 ho0 d15,uS,⟨hbl,hb⟩,n4,hm,fun ld' ds' us' H6 d56 hld' hus' hD' gd' dl'=>?_⟩
   exact ⟨ld',ds',us',_,rfl,d15.trans d56,(fun z=>by rw [z,hp5] at hld';cases hld'),hus',hD',gd',dl'⟩
  ·rintro σ' H3 ⟨ld,ds,us,x,rfl,d13,ldp,hus,hD,gd,dl⟩
   obtain ⟨o3,hp3,ho3⟩:=id d13.pot
   have hul:=hD.length
   refine ⟨_,rfl,p,4,o3,rfl,hp3,ho3,by decide,by decide,fun wy o4 hw0 hw1 ho4=>?_⟩
   refine ⟨_,rfl,_,rfl,p,(n:Int),o4,rfl,uS,ho4,by omega,by omega,fun pl o5 hl0 hl1 ho5=>?_⟩
   have d35:Drawn p H3 (upd (upd H3 p o4) p o5):=(Drawn.upd ho4).trans (Drawn.upd ho5)
   generalize upd (upd H3 p o4) p o5=H5 at d35
   have d15:=d13.trans d35
   obtain ⟨o5',hp5,ho5'⟩:=id d15.pot
   have hw5:=d15.keep _ _ lwp hw
   refine ⟨_,rfl,_,rfl,_,rfl,lw,_,rfl,.inl (SqL.of hw5),p,_,o5',rfl,hp5,ho5',by rw [List.length_map];omega,by rw [List.length_map];omega,fun v o6 hv0 hv1 ho6=>?_⟩
   obtain ⟨y,hym,hat⟩:=drawn_item hv0 hv1
   have d56:Drawn p H5 (upd H5 p o6):=Drawn.upd ho6
   refine ⟨lw,_,_,_,rfl,rfl,SqL.of (d56.keep _ _ lwp hw5),hat,?_⟩
   have d36:=d35.trans d56
   have d16:=d15.trans d56
   generalize upd H5 p o6=H6 at d56 d36 d16
   have hus6:=d36.keep _ _ ldp hus
   have hD6:DeedsV H6 ds us:=hD.drawn (p:=p) (o:=.lst []) fun b zs e=>Drawn.tup d36 hp3 ho3 e
   obtain ⟨o6',hp6,ho6'⟩:=id d16.pot
   refine ⟨Nat.zero_le _,fun lp hlp=>?_⟩
   have plp:p≠lp:=nNo hp6 hlp
   have ldlp:ld≠lp:=nNo hus6 hlp
   have lwlp:lw≠lp:=nNo (d16.keep _ _ lwp hw) hlp
   have lpH1:H1 lp=none:=drawn_free d16 hlp
   have lpH:H lp=none:=s1.free lpH1
   have s67:Same H6 (upd H6 lp (.lst [])):=snew hlp
   refine ⟨_,rfl,ld,rfl,⟨_,SqL.of (s67 _ _ hus6)⟩,for_runs (runs_list (xs:=us)) (fun i σ H'=>∃ (ps:List (LS×Str)) (ws:List V) (x12 x13:Option V),σ=[some (.ref p),some (.ref l),some (.ref aa),some (.int n),some (.int m),some (.ref lw),some (.ref ld),x,some (.int wy),some (.int pl),some (.str y),some (.ref lp),x12,x13]∧Drawn p H1 H'∧H' ld=some (.lst us)∧DeedsV H' ds us∧H' lp=some (.lst ws)∧PrsV H' ps ws∧ps.map (·.1)=ds.take i∧∀ q∈ps,q.2∈rows.map (·.1))
    ⟨[],[],none,none,rfl,d16.same s67,s67 _ _ hus6,hD6.mono s67,uS,.nil,by rw [List.take_zero];rfl,fun q h=>nomatch h⟩ (fun i σ H' _ ⟨_,_,_,_,_,_,e,_⟩=>SqL.of e) ?_ ?_⟩
   ·rintro i v σ H7 hi ⟨ps,ws,x12,x13,rfl,d17,hus7,hD7,hlp7,hP7,ep,kn⟩
    obtain ⟨d,hd,td,rfl,htd⟩:=paired_at hD7 hi
    have gcd:=gd.call d (List.mem_of_getElem? hd)
    obtain ⟨o7,hp7,ho7⟩:=id d17.pot
    have hw7:=d17.keep _ _ lwp hw
    refine ⟨_,rfl,_,rfl,_,rfl,lw,_,rfl,.inl (SqL.of hw7),p,_,o7,rfl,hp7,ho7,by rw [List.length_map];omega,by rw [List.length_map];omega,fun v o8 hv0 hv1 ho8=>?_⟩
    obtain ⟨y',hym',hat'⟩:=drawn_item hv0 hv1
    have d78:Drawn p H7 (upd H7 p o8):=Drawn.upd ho8
    refine ⟨lw,_,_,_,rfl,rfl,SqL.of (d78.keep _ _ lwp hw7),hat',?_⟩
    have htd8:=Drawn.tup d78 hp7 ho7 htd
    have hlp8:=d78.keep _ _ (Ne.symm plp) hlp7
    have hP8:PrsV (upd H7 p o8) ps ws:=hP7.mono fun b xs e=>Drawn.tup d78 hp7 ho7 e
    have hD8:DeedsV (upd H7 p o8) ds us:=hD7.drawn (p:=p) (o:=.lst []) fun b zs e=>Drawn.tup d78 hp7 ho7 e
    have hus8:=d78.keep _ _ ldp hus7
    have d18:=d17.trans d78
    generalize upd H7 p o8=H8 at d78 htd8 hlp8 hP8 hD8 hus8 d18
    have dlen:d.length=n:=gcd.len
    have hl1':pl<((d.map V.str).length:Int):=by rw [List.length_map];omega
    obtain ⟨z,hzm,hatz⟩:=drawn_item hl0 hl1'
    have hzk:=gcd.known z hzm
    refine ⟨_,rfl,_,rfl,_,rfl,td,_,_,_,rfl,rfl,SqT.of htd8,hatz,_,rfl,_,rfl,td,_,_,_,rfl,rfl,SqT.of htd8,hatz,?_⟩
    refine ⟨sL (by show 4≤100000;decide),fun tt htt=>?_⟩
    have s89:Same H8 (upd H8 tt (.tup [.str y',.str y,.str z,.str z])):=snew htt
    obtain ⟨mv,hmv,hmc⟩:=at4 (a:=.str y') (b:=.str y) (c:=.str z) (d:=.str z) hw0 hw1
    obtain ⟨mx,rfl,hmx⟩:∃ mx:Str,mv=.str mx∧mx∈rows.map (·.1):=by
     rcases hmc with e | e | e | e
     ·exact ⟨y',e,hym'⟩
     ·exact ⟨y,e,hym⟩
     ·exact ⟨z,e,hzk⟩
     ·exact ⟨z,e,hzk⟩
    refine ⟨_,rfl,tt,_,_,_,rfl,rfl,SqT.of uS,hmv,?_⟩
    refine ⟨_,rfl,.inl ⟨rfl,_,SqL.of (s89 _ _ hlp8)⟩,_,rfl,_,rfl,sL (by show 2≤100000;decide),fun tp htp=>?_⟩
    have s9:Same H8 (upd (upd H8 tt (.tup [.str y',.str y,.str z,.str z])) tp (.tup [.ref td,.str mx])):=s89.trans (snew htp)
    have htp9:(upd (upd H8 tt (.tup [.str y',.str y,.str z,.str z])) tp (.tup [.ref td,.str mx])) tp=some (.tup [.ref td,.str mx]):=uS
    generalize upd (upd H8 tt (.tup [.str y',.str y,.str z,.str z])) tp (.tup [.ref td,.str mx])=H9 at s9 htp9
    have hlp9:=s9 _ _ hlp8
    have wsl:ws.length≤64:=by
     have h1:=Paired.length hP7
     have h2:=congrArg List.length ep
     rw [List.length_map,List.length_take] at h2
     have h3:=gd.few
     omega
    refine ⟨lp,_,_,rfl,rfl,hlp9,small_lt (by omega),ps++[(d,mx)],ws++[.ref tp],_,_,rfl,?_,?_,?_,uS,?_,?_,?_⟩
    ·exact ((d18.same s9)).sub (o':=.lst []) (q:=lp) (fun b o hb e=>by rw [upd_ne hb];exact e) lpH1 plp
    ·rw [upd_ne ldlp];exact s9 _ _ hus8
    ·have tk:∀ b zs,H9 b=some (.tup zs)→(upd H9 lp (.lst (ws++[V.ref tp]))) b=some (.tup zs):=fun b zs e=>by
      rw [upd_ne (fun z=>by rw [z,hlp9] at e;cases e)];exact e
     exact (hD8.mono s9).drawn (p:=p) (o:=.lst []) tk
    ·have tk:∀ b zs,H9 b=some (.tup zs)→(upd H9 lp (.lst (ws++[V.ref tp]))) b=some (.tup zs):=fun b zs e=>by
      rw [upd_ne (fun z=>by rw [z,hlp9] at e;cases e)];exact e
     exact Paired.snoc ((hP8.mono (tupsS s9)).mono tk) ⟨tp,td,rfl,tk _ _ htp9,tk _ _ (s9 _ _ htd8)⟩
    ·rw [List.map_append,ep,List.take_add_one,hd];rfl
    ·intro q' hq'
     rcases List.mem_append.mp hq' with z | z
     ·exact kn q' z
     ·rw [List.mem_singleton.mp z];exact hmx
   ·rintro σ H7 ⟨ps,ws,x12,x13,rfl,d17,hus7,hD7,hlp7,hP7,ep,kn⟩
    rw [← hul,List.take_length] at ep
    refine ⟨_,rfl,lp,_,rfl,.inl ⟨SqL.of hlp7,fun t ht=>?_⟩⟩
    have s78:Same H7 (upd H7 t (.tup ws)):=snew ht
    have dH:Drawn p H (upd H7 t (.tup ws)):=⟨fun b o hb e=>s78 _ _ (d17.keep b o hb (s1 _ _ e)),(d17.same s78).pot⟩
    refine q t ps ws _ dH uS (hP7.mono (tupsS s78)) (by rw [ep];exact gd) kn ?_
    have:=congrArg List.length ep
    rw [List.length_map] at this
    omega
def NameT (H:Hp) (n:Nam) (v:V):Prop:=∃ (t tp:Addr) (vs:List V),v=V.ref t∧H t=some (.tup [.str n.1,.int n.2.1,.ref tp])∧H tp=some (.tup vs)∧PrsV H n.2.2 vs
theorem NameT.mono {H H':Hp}{n:Nam}{v:V}(h:NameT H n v) (k:∀ b xs,H b=some (.tup xs)→H' b=some (.tup xs)):NameT H' n v:=by
 obtain ⟨t,tp,vs,e,h1,h2,h3⟩:=h
 exact ⟨t,tp,vs,e,k _ _ h1,k _ _ h2,h3.mono k⟩
def NamesT (H:Hp) (ns:List Nam) (vs:List V):Prop:=Paired (NameT H) ns vs
theorem NamesT.mono {H H':Hp}{ns:List Nam}{vs:List V}(h:NamesT H ns vs) (k:∀ b xs,H b=some (.tup xs)→H' b=some (.tup xs)):NamesT H' ns vs:=Paired.mapP h fun _ _ z=>z.mono k
structure Names (rows:RS) (few calls:Nat) (ns:List Nam):Prop where
 each:∀ n∈ns,GoodName rows n
 nd:(ns.map (·.1)).Nodup
 few:∀ n∈ns,n.2.2.length≤few
 calls:∀ n∈ns,n.2.1=1∨rows.length ^ n.2.1≤calls
def spNames (K:Fg):Sp:=fun vs H Q _=>∃ (a l aa:Addr) (at' mo few calls:Nat) (ns:List Int) (rows:RS) (avs:List (Key×V)),vs=[.ref a,.int at',.ref l,.ref aa,.int mo,.int few,.int calls]∧SqL K H a (ns.map V.int)∧ns.length≤100∧at'≤100∧RowsAt H l rows∧Good rows∧H aa=some (.dK avs)∧AboveL H rows rows avs∧mo≤8∧few≤63∧calls≤1000000 ∧
 ∀ (ln:Addr) (nms:List Nam) (us:List V) (H':Hp),Same H H'→H ln=none→H' ln=some (.lst us)→NamesT H' nms us→Names rows few calls nms→nms.length≤mo→Q (.ref ln) H'
abbrev nNs:LS:=["script","at","rows","above","most","few","calls","names","words","k","pot","places"]
abbrev pNs:LS:=["script","at","rows","above","most","few","calls"]
def scNs:FnScope nNs pNs (defScope s__law_names):=by nofun
set_option maxHeartbeats 8000000 in
def ok_names(F:Def K mg "_law_names" s__law_names pNs f fd) (T:TxtD mg) (DP:Def K mg "_law_pot" s__law_pot ["script","k"] fP fdP) (GP:⋯ 1 fP fdP ["script","k"] (spPot K)) (DT:Def K mg "_law_take" s__law_take ["pot","many"] fT fdT) (GT:⋯ 1 fT fdT ["pot","many"] spTake)
  (DW:Def K mg "_law_word" s__law_word ["pot","words"] fW fdW) (GW:⋯ 2 fW fdW ["pot","words"] spWord) (DL:Def K mg "_law_places" s__law_places ["pot","many","most"] fL fdL) (GL:⋯ 2 fL fdL ["pot","many","most"] spPlaces) (DA:Def K mg "_law_pairs" s__law_pairs pPa fA fdA) (GA:⋯ 3 fA fdA pPa spPrs):
  ⋯ 4 f fd pNs (spNames K):=by
 nomatch F.fn.ok scNs
 ·obtain ⟨a,l,aa,at',mo,few,calls,ns,rows,avs,rfl,_⟩:=h
  rfl
 ·obtain ⟨a,l,aa,at',mo,few,calls,ns,rows,avs,rfl,hS,hlen,hat,hR,g,haa,hA,hmo,hfew,hcalls,q⟩:=h
  have nd:=scNs.nd
  have hr1:Room 1 _:=hr.mono (by decide)
  have hr2:Room 2 _:=hr.mono (by decide)
  have gle:=g.le
  have gne:1≤rows.length:=by have:=g.ne;omega
  refine' ⟨_,(pS (ps_set (i:=7) nd rfl (Or.inl rfl) (pe_lst pa_nil))
   (pS (ps_set (i:=8) nd rfl (Or.inl rfl) (pe_lst pa_nil))
   (pS (ps_for PassesOwn.never rfl (pi_range1 (by rfl) T.range (pC (pe_callD DT GT hr1 (pC (pe_callD DP GP hr1 (pC (pv 0) (pC (pv 1) pa_nil))) (pC (pe_op op_add (pv 4) pe_int) pa_nil))) pa_nil)) (pg_name (i:=9) nd rfl (Or.inl rfl))
    (pS (ps_set (i:=10) nd rfl (Or.inl rfl) (pe_callD DP GP hr1 (pC (pv 0) (pC (pe_op op_add (pe_op op_add (pv 1) pe_int) (pv 9)) pa_nil))))
   (pS (ps_expr (pe_bm PySem.F.plainAttrs_list PySem.F.slot_list_append PySem.F.type_list_append mt_append (pv 8) (pC (pe_callD DW GW hr2 (pC (pv 10) (pC (pv 8) pa_nil))) pa_nil)))
   (pS (ps_set (i:=11) nd rfl (Or.inl rfl) (pe_callD DL GL hr2 (pC (pv 10) (pC (pe_callB call_len_seq (by rfl) T.len PySem.boot_len (pC (pv 2) pa_nil)) (pC (pv 6) pa_nil)))))
   (pss_one (ps_expr (pe_bm PySem.F.plainAttrs_list PySem.F.slot_list_append PySem.F.type_list_append mt_append (pv 7) (pC (pe_tup (pC (pe_ix (r:=rIxL K) ix_list (pv 8) (pv 9) (fun _ _=>rfl)) (pC (pv 11) (pC (pe_callD DA GA hr (pC (pv 10) (pC (pv 2) (pC (pv 3) (pC (pv 11) (pC (pv 5) pa_nil)))))) pa_nil)))) pa_nil))))))))
   (pss_one (ps_ret (pv 7)))))),?_⟩
  refine ⟨Nat.zero_le _,fun ln hln=>⟨Nat.zero_le _,fun lw hlw=>?_⟩⟩
  have s1:Same H (upd H ln (.lst [])):=snew hln
  have s2:Same (upd H ln (.lst [])) (upd (upd H ln (.lst [])) lw (.lst [])):=snew hlw
  have lwH:H lw=none:=s1.free hlw
  have nw:ln≠lw:=fun z=>by rw [← z,uS] at hlw;cases hlw
  have hln2:=s2 ln _ uS
  have hlw2:(upd (upd H ln (.lst [])) lw (.lst [])) lw=some (.lst []):=uS
  have s02:=s1.trans s2
  generalize upd (upd H ln (.lst [])) lw (.lst [])=H2 at s02 hln2 hlw2
  refine ⟨_,rfl,_,rfl,a,(at':Int),ns,rfl,s02.seq hS,hlen,by omega,by omega,fun p0 o0 hp0 ho0=>⟨_,rfl,_,_,rfl,rfl,p0,_,o0,rfl,uS,ho0,by omega,by omega,fun v o1 hv0 hv1 ho1=>⟨v,rfl,by omega,by omega,?_⟩⟩⟩
  have s23:Same H2 (upd (upd H2 p0 o0) p0 o1):=fun b o e=>by rw [upd_ne (nNo e hp0),upd_ne (nNo e hp0)];exact e
  generalize upd (upd H2 p0 o0) p0 o1=H3 at s23
  refine for_runs runs_range (fun i σ H'=>∃ (nms:List Nam) (us:List V) (x9 x10 x11:Option V),σ=[some (.ref a),some (.int at'),some (.ref l),some (.ref aa),some (.int mo),some (.int few),some (.int calls),some (.ref ln),some (.ref lw),x9,x10,x11]∧Same H H'∧H' ln=some (.lst us)∧NamesT H' nms us∧H' lw=some (.lst ((nms.map (·.1)).map V.str))∧Names rows few calls nms∧nms.length=i)
   ⟨[],[],none,none,none,rfl,s02.trans s23,s23 _ _ hln2,.nil,s23 _ _ hlw2,⟨(fun n h=>nomatch h),List.nodup_nil,(fun n h=>nomatch h),(fun n h=>nomatch h)⟩,rfl⟩ (fun _ _ _ _ _=>trivial) ?_ ?_
  ·rintro i v' σ H4 hi ⟨nms,us,x9,x10,x11,rfl,s4,hln4,hN4,hlw4,gn4,nl⟩
   obtain ⟨hi,rfl⟩:=rangeV_get hi
   have hi8:i<9:=by omega
   refine ⟨_,rfl,_,rfl,_,_,rfl,rfl,_,rfl,_,_,rfl,rfl,a,(at' + 1 + (0 + (i:Int)):Int),ns,rfl,s4.seq hS,hlen,by omega,by omega,fun p o hp ho=>?_⟩
   have s45:Same H4 (upd H4 p o):=snew hp
   have hp5:(upd H4 p o) p=some o:=uS
   have pH:H p=none:=s4.free hp
   have hln5:=s45 _ _ hln4
   have hlw5:=s45 _ _ hlw4
   have hN5:=hN4.mono (tupsS s45)
   have s5:=s4.trans s45
   generalize upd H4 p o=H5 at s45 hp5 hln5 hlw5 hN5 s5
   have plw:p≠lw:=nNo hlw4 hp |> Ne.symm
   have pln:p≠ln:=nNo hln4 hp |> Ne.symm
   have wok:WordsOk (nms.map (·.1)):=⟨fun x hx=>by
    obtain ⟨n,hn,e⟩:=List.mem_map.mp hx
    rw [← e];exact (gn4.each n hn).word,gn4.nd⟩
   have wl:(nms.map (·.1)).length≤8:=by rw [List.length_map];omega
   refine ⟨_,rfl,.inl ⟨rfl,_,SqL.of hlw5⟩,_,rfl,_,rfl,p,lw,nms.map (·.1),rfl,plw,⟨o,hp5,ho⟩,hlw5,wok,by omega,fun x H6 d56 wx nx=>?_⟩
   have hlw6:=d56.keep _ _ (Ne.symm plw) hlw5
   refine ⟨lw,_,_,rfl,rfl,hlw6,small_lt (by rw [List.length_map];omega),?_⟩
   have e7:(nms.map (·.1)).map V.str++[V.str x]=((nms.map (·.1))++[x]).map V.str:=by rw [List.map_append];rfl
   have d57:∀ b u,b≠p→b≠lw→H5 b=some u→(upd H6 lw (.lst (((nms.map (·.1)).map V.str)++[V.str x]))) b=some u:=fun b u h1 h2 e=>by rw [upd_ne h2];exact d56.keep _ _ h1 e
   obtain ⟨o6,hp6,ho6⟩:=id d56.pot
   have hp7:(upd H6 lw (.lst (((nms.map (·.1)).map V.str)++[V.str x]))) p=some o6:=by rw [upd_ne plw];exact hp6
   have hlw7:(upd H6 lw (.lst (((nms.map (·.1)).map V.str)++[V.str x]))) lw=some (.lst (((nms.map (·.1))++[x]).map V.str)):=by rw [uS,e7]
   have s7:Same H (upd H6 lw (.lst (((nms.map (·.1)).map V.str)++[V.str x]))):=fun b u e=>d57 b u (nNo e pH) (nNo e lwH) (s5 _ _ e)
   have hln7:=d57 _ _ (Ne.symm pln) nw hln5
   have tk7:∀ b zs,H5 b=some (.tup zs)→(upd H6 lw (.lst (((nms.map (·.1)).map V.str)++[V.str x]))) b=some (.tup zs):=fun b zs e=>d57 _ _ (fun z=>by rw [z,hp5] at e;obtain ⟨_,_,q',_⟩:=ho;rw [q'] at e;cases e) (fun z=>by rw [z,hlw5] at e;cases e) e
   have hN7:=hN5.mono tk7
   generalize upd H6 lw (.lst (((nms.map (·.1)).map V.str)++[V.str x]))=H7 at hp7 hlw7 s7 hln7 hN7
   obtain ⟨vs0,hvs0,hpr0⟩:=id hR
   have hvl:vs0.length=rows.length:=hpr0.length.symm
   refine ⟨_,rfl,_,rfl,l,vs0,rfl,.inl (SqL.of (s7 _ _ hvs0)),_,rfl,p,rows.length,calls,by rw [hvl];rfl,⟨o6,hp7,ho6⟩,gne,gle,hcalls,fun n H8 d78 n1 n4 hc=>?_⟩
   obtain ⟨o8,hp8,ho8⟩:=id d78.pot
   have hlw8:=d78.keep _ _ (Ne.symm plw) hlw7
   have hln8:=d78.keep _ _ (Ne.symm pln) hln7
   have s8:Same H H8:=fun b u e=>d78.keep _ _ (nNo e pH) (s7 _ _ e)
   have hN8:NamesT H8 nms us:=hN7.mono fun b xs e=>Drawn.tup d78 hp7 ho6 e
   have hxi:atI (((nms.map (·.1))++[x]).map V.str) (0 + (i:Nat):Int)=some (.str x):=by
    rw [Int.zero_add]
    refine atI_nat ?_
    rw [List.getElem?_map,List.getElem?_append_right (by rw [List.length_map];omega),List.length_map,nl,Nat.sub_self]
    rfl
   refine ⟨_,rfl,.inl ⟨rfl,_,SqL.of hln8⟩,_,rfl,_,rfl,lw,_,_,_,rfl,rfl,SqL.of hlw8,hxi,_,rfl,_,rfl,_,rfl,_,rfl,_,rfl,_,rfl,p,l,aa,n,few,rows,avs,rfl,⟨o8,hp8,ho8⟩,rowsAt_mono hR s8,g,s8 _ _ haa,hA.mono (fun b xs e=>s8 _ _ e),n1,n4,hfew,fun tp ps ws H9 d89 htp hPs gdp kn pl=>⟨sL (by show 3≤100000;decide),fun t ht=>?_⟩⟩
   have s910:Same H9 (upd H9 t (.tup [.str x,.int n,.ref tp])):=snew ht
   have ht10:(upd H9 t (.tup [.str x,.int n,.ref tp])) t=some (.tup [.str x,.int n,.ref tp]):=uS
   generalize upd H9 t (.tup [.str x,.int n,.ref tp])=H10 at s910 ht10
   have hln10:=s910 _ _ (d89.keep _ _ (Ne.symm pln) hln8)
   have usl:us.length≤8:=by have:=Paired.length hN4;omega
   refine ⟨ln,_,_,rfl,rfl,hln10,small_lt (by omega),nms++[(x,n,ps)],us++[.ref t],_,_,_,rfl,?_,uS,?_,?_,?_,?_⟩
   ·exact fun b u e=>by rw [upd_ne (nNo e hln)];exact s910 _ _ (d89.keep _ _ (nNo e pH) (s8 _ _ e))
   ·have tk:∀ b zs,H10 b=some (.tup zs)→(upd H10 ln (.lst (us++[V.ref t]))) b=some (.tup zs):=fun b zs e=>by
     rw [upd_ne (fun z=>by rw [z,hln10] at e;cases e)];exact e
    exact Paired.snoc (((hN8.mono fun b xs e=>Drawn.tup d89 hp8 ho8 e).mono (tupsS s910)).mono tk) ⟨t,tp,ws,rfl,tk _ _ ht10,tk _ _ (s910 _ _ htp),(hPs.mono (tupsS s910)).mono tk⟩
   ·rw [upd_ne (Ne.symm nw),List.map_append]
    exact s910 _ _ (d89.keep _ _ (Ne.symm plw) hlw8)
   ·refine ⟨fun n' hn'=>?_,?_,fun n' hn'=>?_,fun n' hn'=>?_⟩
    ·rcases List.mem_append.mp hn' with z | z
     ·exact gn4.each _ z
     ·rw [List.mem_singleton.mp z];exact ⟨wx,n1,n4,gdp,kn⟩
    ·rw [List.map_append,List.nodup_append]
     exact ⟨gn4.nd,by simp,fun a ha b hb e=>nx (by have z:b=x:=List.mem_singleton.mp hb;rw [← z,← e];exact ha)⟩
    ·rcases List.mem_append.mp hn' with z | z
     ·exact gn4.few _ z
     ·rw [List.mem_singleton.mp z];exact pl
    ·rcases List.mem_append.mp hn' with z | z
     ·exact gn4.calls _ z
     ·rw [List.mem_singleton.mp z];exact hc
   ·rw [List.length_append,nl];rfl
  ·rintro σ H4 ⟨nms,us,x9,x10,x11,rfl,s4,hln4,hN4,hlw4,gn4,nl⟩
   rw [rangeV_len] at nl
   exact ⟨_,rfl,q ln nms us H4 s4 hln hln4 hN4 gn4 (by omega)⟩
structure ErrD (K:Fg) (mg:Str→Option Value) (D:Addr):Prop where
 m:mg "DeedError"=some (.ref D)
 ex:ExC K D
 cl:W.isClsIn K D=true
 ty:W.typeIn K (.ref D)=some (.type "type")
structure Fifteen (K:Fg) (mg:Str→Option Value) (Ds:Nat→Addr):Prop where
 m0:mg "NoKind"=some (.ref (Ds 0))
 m1:mg "Twice"=some (.ref (Ds 1))
 m2:mg "NoName"=some (.ref (Ds 2))
 m3:mg "Ring"=some (.ref (Ds 3))
 m4:mg "NoDeed"=some (.ref (Ds 4))
 m5:mg "Same"=some (.ref (Ds 5))
 m6:mg "NoText"=some (.ref (Ds 6))
 m7:mg "TooMany"=some (.ref (Ds 7))
 m8:mg "NoBoard"=some (.ref (Ds 8))
 m9:mg "NoCall"=some (.ref (Ds 9))
 m10:mg "NoLine"=some (.ref (Ds 10))
 m11:mg "NoPlace"=some (.ref (Ds 11))
 m12:mg "NoWeights"=some (.ref (Ds 12))
 m13:mg "NoTerm"=some (.ref (Ds 13))
 m14:mg "NoRow"=some (.ref (Ds 14))
 cl:∀ k,k<15→W.isClsIn K (Ds k)=true
 ty:∀ k,k<15→W.typeIn K (.ref (Ds k))=some (.type "type")
structure OneOf (K:Fg) (D:Addr) (Ds:Nat→Addr) (i:Nat):Prop where
 ex:ExA K (Ds i)
 sub:W.subIn K (.ref (Ds i)) (.ref D)=some true
 one:∀ k,k<15→W.subIn K (.ref (Ds i)) (.ref (Ds k))=some (decide (k=i))
def all15 {P:Nat→Prop} (h0:P 0) (h1:P 1) (h2:P 2) (h3:P 3) (h4:P 4) (h5:P 5) (h6:P 6) (h7:P 7) (h8:P 8) (h9:P 9) (h10:P 10) (h11:P 11) (h12:P 12) (h13:P 13) (h14:P 14):∀ k,k<15→P k:=fun k h=>by
 rcases k with _ | _ | _ | _ | _ | _ | _ | _ | _ | _ | _ | _ | _ | _ | _ | k
 ·exact h0
 ·exact h1
 ·exact h2
 ·exact h3
 ·exact h4
 ·exact h5
 ·exact h6
 ·exact h7
 ·exact h8
 ·exact h9
 ·exact h10
 ·exact h11
 ·exact h12
 ·exact h13
 ·exact h14
 ·omega
def fif (a0 a1 a2 a3 a4 a5 a6 a7 a8 a9 a10 a11 a12 a13 a14:Addr):Nat→Addr
 | 0=>a0 | 1=>a1 | 2=>a2 | 3=>a3 | 4=>a4 | 5=>a5 | 6=>a6 | 7=>a7 | 8=>a8 | 9=>a9 | 10=>a10 | 11=>a11 | 12=>a12 | 13=>a13 | _=>a14
def L15:List (Str×Nat):=[("TooMany",7),("NoKind",0),("Twice",1),("NoName",2),("Ring",3),("NoBoard",8),("NoDeed",4),("Same",5),("NoCall",9),("NoTerm",13),("NoText",6),("NoRow",14),("NoLine",10),("NoPlace",11),("NoWeights",12)]
def nm15:Nat→Str
 | 0=>"NoKind"
 | 1=>"Twice"
 | 2=>"NoName"
 | 3=>"Ring"
 | 4=>"NoDeed"
 | 5=>"Same"
 | 6=>"NoText"
 | 7=>"TooMany"
 | 8=>"NoBoard"
 | 9=>"NoCall"
 | 10=>"NoLine"
 | 11=>"NoPlace"
 | 12=>"NoWeights"
 | 13=>"NoTerm"
 | _=>"NoRow"
def L15_one:∀ i,i<15→(L15.filter fun q=>decide (q.2=i)).map (·.1)=[nm15 i]:=by decide +kernel
abbrev clT (n:Str) (k i:Nat):HO:=.tup [.str n,.bl (decide (k=i))]
def ClV (i:Nat) (H:Hp) (q:Str×Nat) (v:V):Prop:=∃ t,v=.ref t∧H t=some (clT q.1 q.2 i)
def blV:V→Bool
 | .bl b=>b
 | _=>false
theorem cls_filter {i:Nat}{H:Hp}:∀ {L:List (Str×Nat)}{xs:List V},Paired (ClV i H) L xs→(xs.filter fun x=>blV (snP H x)).map (fsP H)=((L.filter fun q=>decide (q.2=i)).map (·.1)).map V.str
 | _,_,.nil=>rfl
 | q :: L,x :: xs,.cons ⟨t,e,h⟩ r=>by
  have ih:=cls_filter r
  have e1:fsP H x=.str q.1:=by rw [e];exact fsP_at h
  have e2:snP H x=.bl (decide (q.2=i)):=by rw [e];exact snP_at h
  have e3:blV (snP H x)=decide (q.2=i):=by rw [e2];rfl
  by_cases z:q.2=i
  ·rw [List.filter_cons_of_pos (by rw [e3];exact decide_eq_true z),List.filter_cons_of_pos (by exact decide_eq_true z),List.map_cons,List.map_cons,List.map_cons,ih,e1]
  ·rw [List.filter_cons_of_neg (by rw [e3,decide_eq_false z];decide),List.filter_cons_of_neg (by rw [decide_eq_false z];decide),ih]
def cls_at {i:Nat}{H:Hp}{L:List (Str×Nat)}{xs:List V}(h:Paired (ClV i H) L xs) {x:V}(hx:x∈xs):∃ t k n,x=.ref t∧H t=some (clT n k i):=by
 obtain ⟨j,hj⟩:=List.mem_iff_getElem?.mp hx
 obtain ⟨q,_,t,e,ht⟩:=paired_at h hj
 exact ⟨t,q.2,q.1,e,ht⟩
def clN (m:Str) (k i:Nat) {H:Hp}{e t C:Addr}{dx:Option Addr}(n:H t=none) (hx:H e=some (XO e C dx)) (hd:XDict H dx):∃ H',upd H t (clT m k i)=H'∧Same H H'∧H' t=some (clT m k i)∧H' e=some (XO e C dx)∧XDict H' dx:=⟨_,rfl,snew n,uS,snew n _ _ hx,Same.xdict hd (snew n)⟩
def spClasses (K:Fg) (D:Addr) (Ds:Nat→Addr):Sp:=fun vs H Q _=>∃ (e:Addr) (i:Nat) (dx:Option Addr),vs=[.ref e]∧H e=some (XO e (Ds i) dx)∧XDict H dx∧OneOf K D Ds i∧i<15∧∀ l H',Same H H'→H' l=some (.lst [.str (nm15 i)])→Q (.ref l) H'
def nd_nte:(["name","takes","e"]:LS).Nodup:=by decide +kernel
abbrev nCs:LS:=["e","some"]
def scCs:FnScope nCs ["e"] (defScope s__law_classes):=by nofun
def ok_classes{Ds:Nat→Addr}(F:Def K mg "_law_classes" s__law_classes ["e"] f fd) (TF:Fifteen K mg Ds) (isi:mg "isinstance"=none) (vr:mg "ValueError"=none):⋯ 1 f fd ["e"] (spClasses K D Ds):=by
 nomatch F.fn.ok scCs
 ·obtain ⟨e,i,dx,rfl,_⟩:=h
  rfl
 ·obtain ⟨e,i,dx,rfl,hx,hd,O,i15,q⟩:=h
  have nd:=scCs.nd
  have z2:2≤sizeLine:=sL (by decide)
  have hx0:=hx
  have hd0:=hd
  have one:∀ k,k<15→W.kitOne K (.ref (Ds i)) (.ref (Ds k))=some (decide (k=i)):=fun k hk=>kit_cls1 (TF.cl k hk) (TF.ty k hk) O.ex.toExC (O.one k hk)
  refine' ⟨_,(pS (ps_set (i:=1) nd rfl (Or.inl rfl) (pe_lst (pC (pe_tup (pC pe_str (pC ?a0 pa_nil))) (pC (pe_tup (pC pe_str (pC ?a1 pa_nil))) (pC (pe_tup (pC pe_str (pC ?a2 pa_nil))) (pC (pe_tup (pC pe_str (pC ?a3 pa_nil))) (pC (pe_tup (pC pe_str (pC ?a4 pa_nil))) (pC (pe_tup (pC pe_str (pC ?a5 pa_nil))) (pC (pe_tup (pC pe_str (pC ?a6 pa_nil))) (pC (pe_tup (pC pe_str (pC ?a7 pa_nil))) (pC (pe_tup (pC pe_str (pC ?a8 pa_nil))) (pC (pe_tup (pC pe_str (pC ?a9 pa_nil))) (pC (pe_tup (pC pe_str (pC ?a10 pa_nil))) (pC (pe_tup (pC pe_str (pC ?a11 pa_nil))) (pC (pe_tup (pC pe_str (pC ?a12 pa_nil))) (pC (pe_tup (pC pe_str (pC ?a13 pa_nil))) pa_nil))))))))))))))))
   (pS (ps_expr (pe_bm PySem.F.plainAttrs_list PySem.F.slot_list_append PySem.F.type_list_append mt_append (pv 1) (pC (pe_tup (pC pe_str (pC ?a14 pa_nil))) pa_nil)))
   (pss_one (ps_ret ?c)))),?_⟩
  case a0=>exact pe_callB call_isiX (by rfl) isi PyProof.Rows.boot_isinstance (pC (pv 0) (pC (pe_glob (v:=.ref (Ds 7)) (by rfl) TF.m7 rfl) pa_nil))
  case a1=>exact pe_callB call_isiX (by rfl) isi PyProof.Rows.boot_isinstance (pC (pv 0) (pC (pe_glob (v:=.ref (Ds 0)) (by rfl) TF.m0 rfl) pa_nil))
  case a2=>exact pe_callB call_isiX (by rfl) isi PyProof.Rows.boot_isinstance (pC (pv 0) (pC (pe_glob (v:=.ref (Ds 1)) (by rfl) TF.m1 rfl) pa_nil))
  case a3=>exact pe_callB call_isiX (by rfl) isi PyProof.Rows.boot_isinstance (pC (pv 0) (pC (pe_glob (v:=.ref (Ds 2)) (by rfl) TF.m2 rfl) pa_nil))
  case a4=>exact pe_callB call_isiX (by rfl) isi PyProof.Rows.boot_isinstance (pC (pv 0) (pC (pe_glob (v:=.ref (Ds 3)) (by rfl) TF.m3 rfl) pa_nil))
  case a5=>exact pe_callB call_isiX (by rfl) isi PyProof.Rows.boot_isinstance (pC (pv 0) (pC (pe_glob (v:=.ref (Ds 8)) (by rfl) TF.m8 rfl) pa_nil))
  case a6=>exact pe_callB call_isiX (by rfl) isi PyProof.Rows.boot_isinstance (pC (pv 0) (pC (pe_glob (v:=.ref (Ds 4)) (by rfl) TF.m4 rfl) pa_nil))
  case a7=>exact pe_callB call_isiX (by rfl) isi PyProof.Rows.boot_isinstance (pC (pv 0) (pC (pe_glob (v:=.ref (Ds 5)) (by rfl) TF.m5 rfl) pa_nil))
  case a8=>exact pe_callB call_isiX (by rfl) isi PyProof.Rows.boot_isinstance (pC (pv 0) (pC (pe_glob (v:=.ref (Ds 9)) (by rfl) TF.m9 rfl) pa_nil))
  case a9=>exact pe_callB call_isiX (by rfl) isi PyProof.Rows.boot_isinstance (pC (pv 0) (pC (pe_glob (v:=.ref (Ds 13)) (by rfl) TF.m13 rfl) pa_nil))
  case a10=>exact pe_callB call_isiX (by rfl) isi PyProof.Rows.boot_isinstance (pC (pv 0) (pC (pe_glob (v:=.ref (Ds 6)) (by rfl) TF.m6 rfl) pa_nil))
  case a11=>exact pe_callB call_isiX (by rfl) isi PyProof.Rows.boot_isinstance (pC (pv 0) (pC (pe_glob (v:=.ref (Ds 14)) (by rfl) TF.m14 rfl) pa_nil))
  case a12=>exact pe_callB call_isiX (by rfl) isi PyProof.Rows.boot_isinstance (pC (pv 0) (pC (pe_glob (v:=.ref (Ds 10)) (by rfl) TF.m10 rfl) pa_nil))
  case a13=>exact pe_callB call_isiX (by rfl) isi PyProof.Rows.boot_isinstance (pC (pv 0) (pC (pe_glob (v:=.ref (Ds 11)) (by rfl) TF.m11 rfl) pa_nil))
  case a14=>exact pe_callB call_isiX (by rfl) isi PyProof.Rows.boot_isinstance (pC (pv 0) (pC (pe_glob (v:=.ref (Ds 12)) (by rfl) TF.m12 rfl) pa_nil))
  case c=>exact (pe_comp ["name","takes"] ["e"] [0] (fun _=>compT_ok (osc:=defScope s__law_classes) (on:=nCs) (by decide +kernel) rfl rfl rfl) (pi_list (pv 1)) (fun C s H fp=>pg_two (K:=K) (i:=0) (j:=1) rfl rfl nd_nte rfl rfl (Or.inl rfl) (Or.inl rfl) (Or.inr rfl) (Or.inr rfl)) (fun C s H fp=>pts_one (PW.pt (pw_and (pt_val (pv 1)) (pw_and1 (pt_val (pe_callB (r:=rIsiX K) call_isiX (by rfl) isi PyProof.Rows.boot_isinstance (pC (pv 2) (pC (pe_bltn (v:=.ty "ValueError") (by rfl) vr (by decide +kernel) rfl) pa_nil)))))))) (fun C s H fp=>pv 0))
  refine ⟨_,rfl,e,Ds i,dx,_,_,_,rfl,rfl,fun u z=>z,hx,hd,O.ex,one 7 (by decide),z2,fun t0 n0=>?_⟩
  obtain ⟨H0,e0,s0,h0,hx,hd⟩:=clN "TooMany" 7 i n0 hx hd
  rw [e0]
  refine ⟨_,rfl,e,Ds i,dx,_,_,_,rfl,rfl,fun u z=>z,hx,hd,O.ex,one 0 (by decide),z2,fun t1 n1=>?_⟩
  obtain ⟨H1,e1,s1,h1,hx,hd⟩:=clN "NoKind" 0 i n1 hx hd
  rw [e1]
  refine ⟨_,rfl,e,Ds i,dx,_,_,_,rfl,rfl,fun u z=>z,hx,hd,O.ex,one 1 (by decide),z2,fun t2 n2=>?_⟩
  obtain ⟨H2,e2,s2,h2,hx,hd⟩:=clN "Twice" 1 i n2 hx hd
  rw [e2]
  refine ⟨_,rfl,e,Ds i,dx,_,_,_,rfl,rfl,fun u z=>z,hx,hd,O.ex,one 2 (by decide),z2,fun t3 n3=>?_⟩
  obtain ⟨H3,e3,s3,h3,hx,hd⟩:=clN "NoName" 2 i n3 hx hd
  rw [e3]
  refine ⟨_,rfl,e,Ds i,dx,_,_,_,rfl,rfl,fun u z=>z,hx,hd,O.ex,one 3 (by decide),z2,fun t4 n4=>?_⟩
  obtain ⟨H4,e4,s4,h4,hx,hd⟩:=clN "Ring" 3 i n4 hx hd
  rw [e4]
  refine ⟨_,rfl,e,Ds i,dx,_,_,_,rfl,rfl,fun u z=>z,hx,hd,O.ex,one 8 (by decide),z2,fun t5 n5=>?_⟩
  obtain ⟨H5,e5,s5,h5,hx,hd⟩:=clN "NoBoard" 8 i n5 hx hd
  rw [e5]
  refine ⟨_,rfl,e,Ds i,dx,_,_,_,rfl,rfl,fun u z=>z,hx,hd,O.ex,one 4 (by decide),z2,fun t6 n6=>?_⟩
  obtain ⟨H6,e6,s6,h6,hx,hd⟩:=clN "NoDeed" 4 i n6 hx hd
  rw [e6]
  refine ⟨_,rfl,e,Ds i,dx,_,_,_,rfl,rfl,fun u z=>z,hx,hd,O.ex,one 5 (by decide),z2,fun t7 n7=>?_⟩
  obtain ⟨H7,e7,s7,h7,hx,hd⟩:=clN "Same" 5 i n7 hx hd
  rw [e7]
  refine ⟨_,rfl,e,Ds i,dx,_,_,_,rfl,rfl,fun u z=>z,hx,hd,O.ex,one 9 (by decide),z2,fun t8 n8=>?_⟩
  obtain ⟨H8,e8,s8,h8,hx,hd⟩:=clN "NoCall" 9 i n8 hx hd
  rw [e8]
  refine ⟨_,rfl,e,Ds i,dx,_,_,_,rfl,rfl,fun u z=>z,hx,hd,O.ex,one 13 (by decide),z2,fun t9 n9=>?_⟩
  obtain ⟨H9,e9,s9,h9,hx,hd⟩:=clN "NoTerm" 13 i n9 hx hd
  rw [e9]
  refine ⟨_,rfl,e,Ds i,dx,_,_,_,rfl,rfl,fun u z=>z,hx,hd,O.ex,one 6 (by decide),z2,fun t10 n10=>?_⟩
  obtain ⟨H10,e10,s10,h10,hx,hd⟩:=clN "NoText" 6 i n10 hx hd
  rw [e10]
  refine ⟨_,rfl,e,Ds i,dx,_,_,_,rfl,rfl,fun u z=>z,hx,hd,O.ex,one 14 (by decide),z2,fun t11 n11=>?_⟩
  obtain ⟨H11,e11,s11,h11,hx,hd⟩:=clN "NoRow" 14 i n11 hx hd
  rw [e11]
  refine ⟨_,rfl,e,Ds i,dx,_,_,_,rfl,rfl,fun u z=>z,hx,hd,O.ex,one 10 (by decide),z2,fun t12 n12=>?_⟩
  obtain ⟨H12,e12,s12,h12,hx,hd⟩:=clN "NoLine" 10 i n12 hx hd
  rw [e12]
  refine ⟨_,rfl,e,Ds i,dx,_,_,_,rfl,rfl,fun u z=>z,hx,hd,O.ex,one 11 (by decide),z2,fun t13 n13=>?_⟩
  obtain ⟨H13,e13,s13,h13,hx,hd⟩:=clN "NoPlace" 11 i n13 hx hd
  rw [e13]
  refine ⟨sL (by show 14≤100000;decide),fun l hl=>?_⟩
  have sl:Same H13 (upd H13 l (.lst [.ref t0,.ref t1,.ref t2,.ref t3,.ref t4,.ref t5,.ref t6,.ref t7,.ref t8,.ref t9,.ref t10,.ref t11,.ref t12,.ref t13])):=snew hl
  have hll:(upd H13 l (.lst [.ref t0,.ref t1,.ref t2,.ref t3,.ref t4,.ref t5,.ref t6,.ref t7,.ref t8,.ref t9,.ref t10,.ref t11,.ref t12,.ref t13])) l=some (.lst [.ref t0,.ref t1,.ref t2,.ref t3,.ref t4,.ref t5,.ref t6,.ref t7,.ref t8,.ref t9,.ref t10,.ref t11,.ref t12,.ref t13]):=uS
  have hx:=sl _ _ hx
  have hd:=Same.xdict hd sl
  generalize upd H13 l (.lst [.ref t0,.ref t1,.ref t2,.ref t3,.ref t4,.ref t5,.ref t6,.ref t7,.ref t8,.ref t9,.ref t10,.ref t11,.ref t12,.ref t13])=Hl at sl hll hx hd ⊢
  refine ⟨_,rfl,.inl ⟨rfl,_,SqL.of hll⟩,_,rfl,e,Ds i,dx,_,_,_,rfl,rfl,fun u z=>z,hx,hd,O.ex,one 12 (by decide),z2,fun t14 n14=>?_⟩
  obtain ⟨H14,e14,s14,h14,hx,hd⟩:=clN "NoWeights" 12 i n14 hx hd
  rw [e14]
  have hll:=s14 _ _ hll
  refine ⟨l,_,_,rfl,rfl,hll,small_lt (by show 14≤100000;decide),?_⟩
  have k14:Same H14 H14:=Same.refl _
  have kl:Same Hl H14:=s14
  have k13:Same H13 H14:=sl.trans kl
  have k12:Same H12 H14:=s13.trans k13
  have k11:Same H11 H14:=s12.trans k12
  have k10:Same H10 H14:=s11.trans k11
  have k9:Same H9 H14:=s10.trans k10
  have k8:Same H8 H14:=s9.trans k9
  have k7:Same H7 H14:=s8.trans k8
  have k6:Same H6 H14:=s7.trans k7
  have k5:Same H5 H14:=s6.trans k6
  have k4:Same H4 H14:=s5.trans k5
  have k3:Same H3 H14:=s4.trans k4
  have k2:Same H2 H14:=s3.trans k3
  have k1:Same H1 H14:=s2.trans k2
  have k0:Same H0 H14:=s1.trans k1
  have kH:Same H H14:=s0.trans k0
  have hlH:H l=none:=(s0.trans (s1.trans (s2.trans (s3.trans (s4.trans (s5.trans (s6.trans (s7.trans (s8.trans (s9.trans (s10.trans (s11.trans (s12.trans (s13)))))))))))))).free hl
  have P15:Paired (ClV i (upd H14 l (.lst ([.ref t0,.ref t1,.ref t2,.ref t3,.ref t4,.ref t5,.ref t6,.ref t7,.ref t8,.ref t9,.ref t10,.ref t11,.ref t12,.ref t13]++[.ref t14])))) L15 [.ref t0,.ref t1,.ref t2,.ref t3,.ref t4,.ref t5,.ref t6,.ref t7,.ref t8,.ref t9,.ref t10,.ref t11,.ref t12,.ref t13,.ref t14]:=by
   have tk:∀ {b:Addr} {o:List V},H14 b=some (.tup o)→(upd H14 l (.lst ([.ref t0,.ref t1,.ref t2,.ref t3,.ref t4,.ref t5,.ref t6,.ref t7,.ref t8,.ref t9,.ref t10,.ref t11,.ref t12,.ref t13]++[.ref t14]))) b=some (.tup o):=fun {b o} e=>by
    rw [upd_ne (fun z=>by rw [z,hll] at e;cases e)];exact e
   exact .cons ⟨_,rfl,tk (k0 _ _ h0)⟩ (.cons ⟨_,rfl,tk (k1 _ _ h1)⟩ (.cons ⟨_,rfl,tk (k2 _ _ h2)⟩ (.cons ⟨_,rfl,tk (k3 _ _ h3)⟩ (.cons ⟨_,rfl,tk (k4 _ _ h4)⟩ (.cons ⟨_,rfl,tk (k5 _ _ h5)⟩ (.cons ⟨_,rfl,tk (k6 _ _ h6)⟩ (.cons ⟨_,rfl,tk (k7 _ _ h7)⟩ (.cons ⟨_,rfl,tk (k8 _ _ h8)⟩ (.cons ⟨_,rfl,tk (k9 _ _ h9)⟩ (.cons ⟨_,rfl,tk (k10 _ _ h10)⟩ (.cons ⟨_,rfl,tk (k11 _ _ h11)⟩ (.cons ⟨_,rfl,tk (k12 _ _ h12)⟩ (.cons ⟨_,rfl,tk (k13 _ _ h13)⟩ (.cons ⟨_,rfl,tk (k14 _ _ h14)⟩ (.nil)))))))))))))))
  have sU:Same H (upd H14 l (.lst ([.ref t0,.ref t1,.ref t2,.ref t3,.ref t4,.ref t5,.ref t6,.ref t7,.ref t8,.ref t9,.ref t10,.ref t11,.ref t12,.ref t13]++[.ref t14]))):=fun b o e=>by rw [upd_ne (nNo e hlH)];exact kH _ _ e
  have hlU:(upd H14 l (.lst ([.ref t0,.ref t1,.ref t2,.ref t3,.ref t4,.ref t5,.ref t6,.ref t7,.ref t8,.ref t9,.ref t10,.ref t11,.ref t12,.ref t13]++[.ref t14]))) l=some (.lst [.ref t0,.ref t1,.ref t2,.ref t3,.ref t4,.ref t5,.ref t6,.ref t7,.ref t8,.ref t9,.ref t10,.ref t11,.ref t12,.ref t13,.ref t14]):=uS
  generalize ([V.ref t0,V.ref t1,V.ref t2,V.ref t3,V.ref t4,V.ref t5,V.ref t6,V.ref t7,V.ref t8,V.ref t9,V.ref t10,V.ref t11,V.ref t12,V.ref t13,V.ref t14]:List V)=xs at P15 hlU
  generalize upd H14 l (.lst ([.ref t0,.ref t1,.ref t2,.ref t3,.ref t4,.ref t5,.ref t6,.ref t7,.ref t8,.ref t9,.ref t10,.ref t11,.ref t12,.ref t13]++[.ref t14]))=HU at P15 sU hlU ⊢
  have xl:xs.length=15:=by rw [← Paired.length P15];rfl
  refine ⟨_,rfl,l,rfl,⟨_,SqL.of hlU⟩,comp_relT (runs_list (xs:=xs)) (sL (by omega)) (fun x=>blV (snP HU x)) (fun _ x v _=>v=fsP HU x) (fsP HU) (snP HU) (fun _ _ _ _ _ _ z=>z) (fun H' s'=>SqL.of (s' _ _ hlU)) (fun x hx'=>?_) ?_ ?_ ?_⟩
  ·obtain ⟨t,k,n,e1,e2⟩:=cls_at P15 hx'
   rw [e1]
   exact ⟨t,rfl,by rw [fsP_at e2,snP_at e2];exact e2⟩
  ·intro x H' R s' hx' hR
   obtain ⟨t,k,n,e1,e2⟩:=cls_at P15 hx'
   have e3:snP HU x=.bl (decide (k=i)):=by rw [e1];exact snP_at e2
   rw [e3] at hR ⊢
   refine ⟨_,rfl,_,rfl,ite2 (fun z=>?_) (fun z=>?_)⟩
   ·refine ⟨_,rfl,e,Ds i,dx,_,_,_,rfl,rfl,fun u z=>z,s' _ _ (sU _ _ hx0),Same.xdict (Same.xdict hd0 sU) s',O.ex,kit_value O.ex.toExC,_,rfl,?_⟩
    rw [show decide (k=i)=true from z] at hR
    exact hR H' (Same.refl _)
   ·rw [show decide (k=i)=false from by simpa using z] at hR
    exact hR H' (Same.refl _)
  ·intro D x H' R s' _ _ hx' _ hR
   exact ⟨_,rfl,hR _ H' (Same.refl _) rfl⟩
  ·intro D H' ys _ s' hD hP
   refine q D H' (sU.trans s') ?_
   rw [hD,paired_eq hP,cls_filter P15,L15_one i i15]
   rfl
structure ErrP (K:Fg) (mg:Str→Option Value) (x:Str) (C:Addr):Prop where
 m:mg x=some (.ref C)
 ex:ExC K C
 ini:W.findIn K (.ref C) "__init__"=some (some (.builtin "ValueError.__init__"))
def okN:V→Hp→Prop:=fun v _=>∃ k:Nat,v=.int k∧k≤1000
structure FirstBad (rows:RS) (n:Nat) (ds:List (LS)) (i k:Nat):Prop where
 ex:∃ d,ds[k]?=some d∧((i=4∧callB rows n d=false)∨(i=5∧callB rows n d=true∧d∈ds.take k))
 ahead:∀ d∈ds.take k,callB rows n d=true
 nd:(ds.take k).Nodup
inductive Due (rows:RS) (pl:Int) (ds:List (LS)):Option (Nat×Nat)→Prop
 | board (h:¬ (1≤pl∧pl≤4)∨64<ds.length):Due rows pl ds (some (8,0))
 | bad {i k:Nat} (n:Nat) (e:pl=n) (n1:1≤n) (n4:n≤4) (few:ds.length≤64) (h:FirstBad rows n ds i k):Due rows pl ds (some (i,k))
 | good (n:Nat) (e:pl=n) (n1:1≤n) (n4:n≤4) (h:GoodDeeds rows n ds):Due rows pl ds none
structure RefE (Ds:Nat→Addr) (E:XK) (H:Hp) (i k:Nat):Prop where
 plain:i=8→∀ H',Same H H'→E (.ref (Ds 8)) none H'
 num:i≠8→∀ dx H',Same H H'→H' dx=some (.xd [("number",.int k)])→E (.ref (Ds i)) (some dx) H'
def RefE.mono {Ds:Nat→Addr}{E:XK}{H H':Hp}{i k:Nat}(r:RefE Ds E H i k) (s:Same H H'):RefE Ds E H' i k :=
 ⟨fun e H'' s'=>r.plain e H'' (s.trans s'),fun e dx H'' s' h=>r.num e dx H'' (s.trans s') h⟩
def valV_memG {κ:Type} [DecidableEq κ] {k:κ}{kvs:List (κ×V)}(h:k∈kvs.map (·.1)):∃ v,valV kvs k=some v:=by
 cases e:valV kvs k with
 | some v=>exact ⟨v,rfl⟩
 | none =>
  have:=valV_any k kvs
  rw [e] at this
  obtain ⟨kv,hk,z⟩:=List.mem_map.mp h
  rw [show (none:Option V).isSome=false from rfl,List.any_eq_false] at this
  exact absurd (decide_eq_true z) (this kv hk)
def spCheckDeedsX (K:Fg) (C:Addr) (Ds:Nat→Addr):Sp:=fun vs H _ E=>∃ (p l:Addr) (n:Nat) (b:Bool) (rows:RS) (ds:List (LS)) (us:List V) (i k:Nat),vs=[.ref p,.int n,.ref l]∧KindsAt C H p rows∧Good rows∧SqB K b H l us∧DeedsV H ds us∧(∀ d∈ds,d.length≤1000)∧n≤4∧ds.length≤64∧FirstBad rows n ds i k∧RefE Ds E H i k
def spBInitX (K:Fg) (C B:Addr) (Ds:Nat→Addr):Sp:=fun vs H _ E=>∃ (p dx k l:Addr) (pl:Int) (rows:RS) (ds:List (LS)) (us:List V) (i j:Nat),vs=[.ref p,.ref k,.int pl,.ref l]∧KindsAt C H k rows∧Good rows∧(SqL K H l us∨H l=some (.tup us))∧DeedsV H ds us∧(∀ d∈ds,d.length≤1000)∧ds.length≤1000∧Due rows pl ds (some (i,j))∧RefE Ds E H i j
def scND:FnScope ["self","number"] ["self","number"] (defScope s_NoDeed___init__):=by nofun
def ok_xnd(F:Fun K "__init__" "NoDeed.__init__" s_NoDeed___init__ f fd) (I:ExI K C D "number") (dd:DIn K D) (mD:mg "DeedError"=some (.ref D)):⋯ 1 f fd ["self","number"] (spXI C "number" okN):=by
 nomatch F.ok scND
 ·obtain ⟨x,y,rfl,_⟩:=h
  rfl
 ·obtain ⟨x,y,rfl,⟨k,rfl,hk⟩,hx,q⟩:=h
  refine ⟨_,pS (ps_expr (pe_dinit dd (by rfl) mD (pC (pv 0) (pC (pe_fstr (pfs_cons pf_con (pfs_cons (pf_int (pv 1)) (pfs_cons pf_con pfs_nil)))) pa_nil)))) (pss_one (ps_xfld (D:=D) (pv 0) (pv 1))),?_⟩
  refine ⟨_,rfl,by decide +kernel,_,rfl,k,rfl,by omega,by decide +kernel,fun z=>⟨x,C,[.str z],rfl,by show 1≤100;decide,I.toExA.toExC,hx,?_⟩⟩
  exact ⟨_,rfl,_,rfl,x,C,rfl,hx,I,fun dx hdx=>q dx hdx⟩
def scSm:FnScope ["self","number"] ["self","number"] (defScope s_Same___init__):=by nofun
def ok_xsm(F:Fun K "__init__" "Same.__init__" s_Same___init__ f fd) (I:ExI K C D "number") (dd:DIn K D) (mD:mg "DeedError"=some (.ref D)):⋯ 1 f fd ["self","number"] (spXI C "number" okN):=by
 nomatch F.ok scSm
 ·obtain ⟨x,y,rfl,_⟩:=h
  rfl
 ·obtain ⟨x,y,rfl,⟨k,rfl,hk⟩,hx,q⟩:=h
  refine ⟨_,pS (ps_expr (pe_dinit dd (by rfl) mD (pC (pv 0) (pC (pe_fstr (pfs_cons pf_con (pfs_cons (pf_int (pv 1)) (pfs_cons pf_con pfs_nil)))) pa_nil)))) (pss_one (ps_xfld (D:=D) (pv 0) (pv 1))),?_⟩
  refine ⟨_,rfl,by decide +kernel,_,rfl,k,rfl,by omega,by decide +kernel,fun z=>⟨x,C,[.str z],rfl,by show 1≤100;decide,I.toExA.toExC,hx,?_⟩⟩
  exact ⟨_,rfl,_,rfl,x,C,rfl,hx,I,fun dx hdx=>q dx hdx⟩
def ok_check_deedsX{Ds:Nat→Addr}(F:Def K mg "check_deeds" s_check_deeds ["kinds","places","deeds"] f fd) (DI:Def K mg "is_call" s_is_call nIC fI fdI) (enum:mg "enumerate"=none) (len:mg "len"=none) (all:mg "all"=none) (TC:TxtC K C) (MH:MHas K C fH fdH)
  (E4:ErrI P w K mg base "NoDeed" (Ds 4) "number" (spXI (Ds 4) "number" okN) f4 fd4) (E5:ErrI P w K mg base "Same" (Ds 5) "number" (spXI (Ds 5) "number" okN) f5 fd5):FnOk P w K mg base (CX1 P w) 3 f fd ["kinds","places","deeds"] (spCheckDeedsX K C Ds):=by
 have GI:FnOk P w K mg base (CX1 P w) 2 fI fdI nIC (spIsCall C):=(ok_is_call DI len all TC MH).any
 nomatch F.fn.ok1 scCD
 ·obtain ⟨p,l,n,b,rows,ds,us,i,k,rfl,_⟩:=h
  rfl
 ·obtain ⟨p,l,n,b,rows,ds,us,i,k,rfl,kd,g,hl,hD,ok,hn,few,fb,re⟩:=h
  have nd:=scCD.nd
  have hu:=hu_of hr
  have hr2:Room 2 _:=hr.mono (by decide)
  refine ⟨_,pS (ps_set (i:=3) nd rfl (Or.inl rfl) pe_dnewT)
   (pss_one (ps_for PassesOwn.leaving rfl (pi_enum (by rfl) enum (pC (pv 2) pa_nil)) (pg_tup rfl (gC (pg_name (i:=4) nd rfl (Or.inl rfl)) (gC (pg_name (i:=5) nd rfl (Or.inl rfl)) pgs_nil)))
    (pS (ps_if (pt_not (pt_val (pe_call GI hr (by rfl) DI.m DI.fn.kp DI.b .nil (pass1 Fns.of) (pC (pv 0) (pC (pv 1) (pC (pv 5) pa_nil)))))) (pss_one (ps_raiseI (C:=Ds 4) Fns.of hr.hd E4.ex E4.ini E4.ty E4.go hr2 E4.b (by rfl) E4.m (pC (pv 4) pa_nil))) pss_nil)
    (pS (ps_if (pt_cmp (pc_din hu (pv 5) (pv 3))) (pss_one (ps_raiseI (C:=Ds 5) Fns.of hr.hd E5.ex E5.ini E5.ty E5.go hr2 E5.b (by rfl) E5.m (pC (pv 4) pa_nil))) pss_nil)
    (pss_one (ps_dput hu (pv 3) (pv 5) pe_bl rfl)))))),?_⟩
  intro d hd
  have s0:Same H (upd H d (.dT [])):=snew hd
  have hvl:=hD.length
  obtain ⟨db,hdb,hor⟩:=fb.ex
  have kl:k<ds.length:=(List.getElem?_eq_some_iff.mp hdb).1
  refine ⟨_,rfl,b,l,us,rfl,hl.mono s0,for_pairs (fun j σ H'=>∃ (kvs:List (List Key×V)) (a c:Option V),j≤k∧σ=[some (.ref p),some (.int n),some (.ref l),some (.ref d),a,c]∧Same H H'∧H' d=some (.dT kvs)∧kvs.map (·.1)=(ds.take j).map keyC)
   ⟨[],none,none,Nat.zero_le _,rfl,s0,uS,by simp⟩ (fun j σ H' _ ⟨_,_,_,_,_,s,_⟩=>hl.mono s) ?_ ?_⟩
  ·rintro j pr t σ H' hi ⟨kvs,a,c,jk,rfl,s1,hdk,hk⟩ ht0
   obtain ⟨e1,hx⟩:=enumV_get hi
   obtain ⟨dd,hdd,t2,e2,ht2⟩:=paired_at hD hx
   refine g2_new ?_
   have s2:Same H' (upd H' t (.tup [pr.1,pr.2])):=snew ht0
   have hmem:dd∈ds:=List.mem_of_getElem? hdd
   rw [e2]
   show tSeq _ _ _ [some (.ref p),some (.int n),some (.ref l),some (.ref d),some pr.1,some (.ref t2)] _
   have s02:=s1.trans s2
   refine ⟨_,rfl,_,rfl,_,rfl,p,t2,n,rows,dd,rfl,kd.mono ?_,g,?_,ok dd hmem,fun H3 s3=>⟨_,rfl,?_⟩⟩
   ·rw [← e2];exact s02
   ·rw [← e2];exact s02 _ _ ht2
   rw [← e2] at s3
   have s03:=s02.trans s3
   have hd3:H3 d=some (.dT kvs):=s3 _ _ (s2 _ _ hdk)
   have ht3:H3 t2=some (.tup ((keyC dd).map kV)):=by rw [keyC_map];exact s03 _ _ ht2
   have raised:∀ (m:Nat),i=m→m≠8→j=k→∀ dx,H3 dx=none→E (.ref (Ds m)) (some dx) (upd H3 dx (.xd [("number",pr.1)])):=fun m em m8 ej dx hdx=>by
    subst em
    refine re.num m8 dx _ (s03.trans (snew hdx)) ?_
    rw [uS,e1,ej]
   have okn:∀ x,H3 x=none→∀ o,okN pr.1 (upd H3 x o):=fun x _ o=>⟨j,e1,by omega⟩
   by_cases ej:j=k
   ·rw [ej,hdb] at hdd
    cases hdd
    rcases hor with ⟨i4,hb⟩ | ⟨i5,hb,hin⟩
    ·rw [hb]
     refine iteT ⟨_,rfl,_,rfl,fun x hx=>okn x hx _,fun dx hdx=>raised 4 i4 (by decide) ej dx hdx⟩
    ·rw [hb]
     refine iteF ⟨_,rfl,_,rfl,d,_,rfl,DGet.t (k:=keyC db) hd3 ht3,_,rfl,?_⟩
     obtain ⟨v,hv⟩:=valV_memG (kvs:=kvs) (k:=keyC db) (by rw [hk,ej];exact List.mem_map.mpr ⟨db,hin,rfl⟩)
     rw [hv]
     exact iteT ⟨_,rfl,_,rfl,fun x hx=>okn x hx _,fun dx hdx=>raised 5 i5 (by decide) ej dx hdx⟩
   ·have jlt:j<k:=by omega
    have hin:(ds.take k)[j]?=some dd:=by rw [List.getElem?_take,if_pos jlt];exact hdd
    rw [fb.ahead dd (List.mem_of_getElem? hin)]
    refine iteF ⟨_,rfl,_,rfl,d,_,rfl,DGet.t (k:=keyC dd) hd3 ht3,_,rfl,?_⟩
    have hnew:keyC dd∉kvs.map (·.1):=by
     rw [hk]
     have:=taken_notD fb.nd hin
     rw [List.take_take,Nat.min_eq_left (Nat.le_of_lt jlt)] at this
     exact this
    rw [valV_noneG hnew]
    refine iteF ?_
    have hkl:kvs.length=(ds.take j).length:=by have:=congrArg List.length hk;simpa using this
    have hil:(ds.take j).length≤64:=by rw [List.length_take];omega
    refine ⟨_,rfl,_,rfl,d,_,rfl,DPut.t (k:=keyC dd) hd3 ht3 (small_lt (by omega)),?_⟩
    refine ⟨_,_,_,jlt,rfl,fun b o e=>?_,uS,?_⟩
    ·rw [upd_ne (nNo e hd)];exact s03 _ _ e
    ·rw [putK_keysG hnew,hk,List.take_add_one,hdd,List.map_append]
     rfl
  ·rintro σ H' ⟨kvs,a,c,jk,rfl,s1,hdk,hk⟩
   rw [enumV_len] at jk
   omega
def spBTry (K:Fg) (C B:Addr) (Ds:Nat→Addr):Sp:=fun vs H Q E=>spBInit K C B vs H Q E∨spBInitX K C B Ds vs H Q E
def mk_try {K:Fg}{C B:Addr}{Ds:Nat→Addr}{Hx:Hp}{xb yb dy lz:Addr}{pl:Int}{rows:RS}{ds:List (LS)}{us:List V}{r:Option (Nat×Nat)}{R:Hp→Prop}{E:XK}(ny:Hx yb=none) (ndy:Hx dy=none) (kd:KindsAt C Hx xb rows) (g:Good rows) (hz:Hx lz=some (.lst us)∨Hx lz=some (.tup us)) (hD:DeedsV Hx ds us) (ok:∀ d∈ds,d.length≤1000) (big:ds.length≤1000) (due:Due rows pl ds r)
  (h:∀ n:Nat,r=none→pl=n→1≤n→n≤4→GoodDeeds rows n ds→∀ H',Same Hx H'→BoardAt C B H' yb xb rows n ds→R H') (re:∀ i j,r=some (i,j)→RefE Ds E Hx i j):
  spBTry K C B Ds [.ref yb,.ref xb,.int pl,.ref lz] (upd (upd Hx dy (.own yb)) yb (.ins B dy [])) (fun v H3=>v=.non∧R H3) E:=by
 have s34:Same Hx (upd (upd Hx dy (.own yb)) yb (.ins B dy [])):=fun b o e=>by
  have e1:(upd Hx dy (.own yb)) b=some o:=by rw [upd_ne (nNo e ndy)];exact e
  rw [upd_ne (nNo e ny)];exact e1
 have hz':SqL K (upd (upd Hx dy (.own yb)) yb (.ins B dy [])) lz us∨(upd (upd Hx dy (.own yb)) yb (.ins B dy [])) lz=some (.tup us):=hz.elim (fun e=>.inl (SqL.of (s34 _ _ e))) (fun e=>.inr (s34 _ _ e))
 cases r with
 | none =>
  cases due with
  | good n e n1 n4 gd =>
   subst e
   exact .inl ⟨yb,dy,xb,lz,n,rows,ds,us,rfl,uS,kd.mono s34,g,hz',hD.mono s34,gd,n1,n4,fun H5 bd keep5=>⟨rfl,h n rfl rfl n1 n4 gd H5 (fun b o e=>keep5 b o (nNo e ny) (s34 _ _ e)) bd⟩⟩
 | some ij=>exact .inr ⟨yb,dy,xb,lz,pl,rows,ds,us,ij.1,ij.2,rfl,kd.mono s34,g,hz',hD.mono s34,ok,big,due,(re ij.1 ij.2 rfl).mono s34⟩
def ok_binitX{Ds:Nat→Addr}(F:Fun K "__init__" "Board.__init__" s_Board___init__ f fd) (T:TxtBm mg) (TC:TxtC K C) (DD:Def K mg "check_deeds" s_check_deeds ["kinds","places","deeds"] fD fdD) (DI:Def K mg "is_call" s_is_call nIC fI fdI) (MH:MHas K C fH fdH)
  (E4:ErrI P w K mg base "NoDeed" (Ds 4) "number" (spXI (Ds 4) "number" okN) f4 fd4) (E5:ErrI P w K mg base "Same" (Ds 5) "number" (spXI (Ds 5) "number" okN) f5 fd5) (T8:ErrP K mg "NoBoard" (Ds 8)):FnOk P w K mg base (CX1 P w) 4 f fd nBI (spBInitX K C B Ds):=by
 have GD:FnOk P w K mg base (CX1 P w) 3 fD fdD ["kinds","places","deeds"] (spCheckDeedsX K C Ds):=ok_check_deedsX DD DI T.enum T.len T.all TC MH E4 E5
 nomatch F.ok1 scBI
 ·obtain ⟨p,dx,k,l,pl,rows,ds,us,i,j,rfl,_⟩:=h
  rfl
 ·obtain ⟨p,dx,k,l,pl,rows,ds,us,i,j,rfl,kd,g,hl,hD,ok,big,due,re⟩:=h
  obtain ⟨b,hl⟩:∃ b,SqB K b H l us:=by
   rcases hl with hl | hl
   ·exact ⟨true,hl⟩
   ·exact ⟨false,SqT.of hl⟩
  obtain ⟨t1,hP⟩:=T.places
  obtain ⟨t2,hM⟩:=T.deeds
  have hr3:Room 3 _:=hr.mono (by decide)
  refine' ⟨_,pS (ps_if (pt_not (pt_chain op_le op_le pe_int (pv 2) (pe_glob (v:=.int 4) (by rfl) hP ⟨_,rfl⟩))) (pss_one (ps_raise (C:=Ds 8) Fns.of hr.hd T8.ex T8.ini (by rfl) T8.m (pC (pe_fstr ?f1) pa_nil))) pss_nil)
   (pS (ps_if (pt_cmpR op_gt (pe_callB call_len (by rfl) T.len PySem.boot_len (pC (pv 3) pa_nil)) (pe_glob (v:=.int 64) (by rfl) hM ⟨_,rfl⟩) (nomark _)) (pss_one (ps_raise (C:=Ds 8) Fns.of hr.hd T8.ex T8.ini (by rfl) T8.m (pC (pe_fstr ?f2) pa_nil))) pss_nil)
   (pS (ps_expr (pe_call GD hr3 (by rfl) DD.m DD.fn.kp DD.b .nil (pass1 Fns.of) (pC (pv 1) (pC (pv 2) (pC (pv 3) pa_nil))))) pss_never)),?_⟩
  case f1=>exact pfs_cons pf_con (pfs_cons (pf_int (pe_glob (v:=.int 4) (by rfl) hP ⟨_,rfl⟩)) (pfs_cons pf_con pfs_nil))
  case f2=>exact pfs_cons pf_con (pfs_cons (pf_int (pe_glob (v:=.int 64) (by rfl) hM ⟨_,rfl⟩)) (pfs_cons pf_con pfs_nil))
  have hul:=hD.length
  refine ⟨_,rfl,_,_,rfl,rfl,_,rfl,?_⟩
  have say:i=8→E (.ref (Ds 8)) none H:=fun e=>re.plain e H (Same.refl _)
  by_cases h1:(1:Int)≤pl
  ·rw [show decide ((1:Int)≤pl)=true from decide_eq_true h1]
   refine iteT ⟨_,_,rfl,rfl,_,rfl,?_⟩
   by_cases h4:pl≤4
   ·rw [show (decide (pl≤4))=true from decide_eq_true h4]
    refine iteF ?_
    refine ⟨_,rfl,_,_,rfl,len_seq hl,_,_,rfl,rfl,_,rfl,?_⟩
    cases due with
    | board h =>
     rw [show decide ((64:Int)<(us.length:Int))=true from decide_eq_true (by rcases h with z | z <;> omega)]
     exact iteT ⟨by decide +kernel,64,rfl,by decide,by decide +kernel,fun x=>⟨sL (by show 1≤100000;decide),say rfl⟩⟩
    | bad n e n1 n4 few fb =>
     subst e
     rw [show decide ((64:Int)<(us.length:Int))=false from decide_eq_false (by omega)]
     exact iteF ⟨_,rfl,_,rfl,_,rfl,k,l,n,b,rows,ds,us,i,j,rfl,kd,g,hl,hD,ok,n4,few,fb,re⟩
   ·rw [show (decide (pl≤4))=false from decide_eq_false h4]
    have e8:i=8:=by
     cases due with
     | board h=>rfl
     | bad n e n1 n4 few fb=>omega
    exact iteT ⟨by decide +kernel,4,rfl,by decide,by decide +kernel,fun x=>⟨sL (by show 1≤100000;decide),say e8⟩⟩
  ·rw [show decide ((1:Int)≤pl)=false from decide_eq_false h1]
   have e8:i=8:=by
    cases due with
    | board h=>rfl
    | bad n e n1 n4 few fb=>omega
   exact iteF ⟨_,rfl,iteT ⟨by decide +kernel,4,rfl,by decide,by decide +kernel,fun x=>⟨sL (by show 1≤100000;decide),say e8⟩⟩⟩
abbrev NmX:=Str×Int×List (LS×Str)
def NameX (K:Fg) (H:Hp) (n:NmX) (v:V):Prop:=∃ (t tp:Addr) (b:Bool) (vs:List V),v=V.ref t∧H t=some (.tup [.str n.1,.int n.2.1,.ref tp])∧SqB K b H tp vs∧PrsV H n.2.2 vs
theorem NameX.mono {K:Fg}{H H':Hp}{n:NmX}{v:V}(h:NameX K H n v) (s:Same H H'):NameX K H' n v:=by
 obtain ⟨t,tp,b,vs,e,h1,h2,h3⟩:=h
 exact ⟨t,tp,b,vs,e,s _ _ h1,h2.mono s,h3.mono (tupsS s)⟩
def NamesX (K:Fg) (H:Hp) (ns:List NmX) (vs:List V):Prop:=Paired (NameX K H) ns vs
theorem NamesX.mono {K:Fg}{H H':Hp}{ns:List NmX}{vs:List V}(h:NamesX K H ns vs) (s:Same H H'):NamesX K H' ns vs:=Paired.mapP h fun _ _ z=>z.mono s
inductive DuB
 | many
 | noN (w:Str)
 | twice (w:Str)
 | board
 | noD (k:Nat)
 | same (k:Nat)
 | noK (w:Str)
def duOf (i k:Nat):DuB:=if i=8 then .board else if i=4 then .noD k else .same k
def strM (rows:RS) (ps:List (LS×Str)):Option Str:=(ps.map (·.2)).find? fun x=>decide (x∉rows.map (·.1))
inductive NDue (rows:RS) (ahead:LS) (n:NmX):Option DuB→Prop
 | noN (h:isWord n.1=false):NDue rows ahead n (some (.noN n.1))
 | twice (h:isWord n.1=true) (h2:n.1∈ahead):NDue rows ahead n (some (.twice n.1))
 | bad {i k:Nat} (h:isWord n.1=true) (h2:n.1∉ahead) (h3:Due rows n.2.1 (n.2.2.map (·.1)) (some (i,k))):NDue rows ahead n (some (duOf i k))
 | noK {w:Str} (h:isWord n.1=true) (h2:n.1∉ahead) (h3:Due rows n.2.1 (n.2.2.map (·.1)) none) (h4:strM rows n.2.2=some w):NDue rows ahead n (some (.noK w))
 | fine (h:isWord n.1=true) (h2:n.1∉ahead) (h3:Due rows n.2.1 (n.2.2.map (·.1)) none) (h4:strM rows n.2.2=none):NDue rows ahead n none
abbrev ahd (ns:List NmX) (i:Nat):LS:=(ns.take i).map (·.1)
inductive BDue (rows:RS) (ns:List NmX):Option DuB→Prop
 | many (h:8<ns.length):BDue rows ns (some .many)
 | bad {e:DuB} (i:Nat) (n:NmX) (h:ns.length≤8) (hi:ns[i]?=some n) (ah:∀ j m,j<i→ns[j]?=some m→NDue rows (ahd ns j) m none) (hn:NDue rows (ahd ns i) n (some e)):BDue rows ns (some e)
 | fine (h:ns.length≤8) (ah:∀ j m,ns[j]?=some m→NDue rows (ahd ns j) m none):BDue rows ns none
structure FitN (n:NmX):Prop where
 w:Shows n.1
 few:n.2.2.length≤200
 deed:∀ p∈n.2.2,p.1.length≤1000
 made:∀ p∈n.2.2,Shows p.2
def RefI (Q:Addr) (a:Str) (v:V) (E:XK) (H:Hp):Prop:=∀ dx H',Same H H'→H' dx=some (.xd [(a,v)])→E (.ref Q) (some dx) H'
def RefB (Ds:Nat→Addr) (E:XK) (H:Hp):DuB→Prop
 | .many=>∀ H',Same H H'→E (.ref (Ds 7)) none H'
 | .noN w=>RefI (Ds 2) "word" (.str w) E H
 | .twice w=>RefI (Ds 1) "word" (.str w) E H
 | .board=>∀ H',Same H H'→E (.ref (Ds 8)) none H'
 | .noD k=>RefI (Ds 4) "number" (.int k) E H
 | .same k=>RefI (Ds 5) "number" (.int k) E H
 | .noK w=>RefI (Ds 0) "word" (.str w) E H
def RefI.mono {Q:Addr}{a:Str}{v:V}{E:XK}{H H':Hp}(h:RefI Q a v E H) (s:Same H H'):RefI Q a v E H':=fun dx H'' s' e=>h dx H'' (s.trans s') e
theorem RefB.mono {Ds:Nat→Addr}{E:XK}{H H':Hp}(s:Same H H'):∀ {e:DuB},RefB Ds E H e→RefB Ds E H' e
 | .many,h=>fun H'' s'=>h H'' (s.trans s')
 | .noN w,h=>RefI.mono h s
 | .twice w,h=>RefI.mono h s
 | .board,h=>fun H'' s'=>h H'' (s.trans s')
 | .noD k,h=>RefI.mono h s
 | .same k,h=>RefI.mono h s
 | .noK w,h=>RefI.mono h s
def Due.idx {rows:RS}{pl:Int}{ds:List (LS)}{i j:Nat}(h:Due rows pl ds (some (i,j))):i=4∨i=5∨i=8:=by
 cases h with
 | board=>exact .inr (.inr rfl)
 | bad n e n1 n4 few fb =>
  obtain ⟨d,_,z | z⟩:=fb.ex
  ·exact .inl z.1
  ·exact .inr (.inl z.1)
def refE_of {Ds:Nat→Addr}{E:XK}{H:Hp}{rows:RS}{pl:Int}{ds:List (LS)}{i j:Nat}(d:Due rows pl ds (some (i,j))) (h:RefB Ds E H (duOf i j)):RefE Ds E H i j:=by
 rcases d.idx with rfl | rfl | rfl
 ·exact ⟨fun z=>absurd z (by decide),fun _=>h⟩
 ·exact ⟨fun z=>absurd z (by decide),fun _=>h⟩
 ·exact ⟨fun _=>h,fun z=>absurd rfl z⟩
def spCMakesX (C:Addr) (Ds:Nat→Addr):Sp:=fun vs H _ E=>∃ (p l:Addr) (rows:RS) (xs:LS) (wd:Str),vs=[.ref p,.ref l]∧KindsAt C H p rows∧Good rows∧H l=some (.lst (xs.map V.str))∧(∀ x∈xs,Shows x)∧xs.find? (fun x=>decide (x∉rows.map (·.1)))=some wd∧RefI (Ds 0) "word" (.str wd) E H
def spKInitX (K:Fg) (C B D:Addr) (Ds:Nat→Addr):Sp:=fun vs H _ E=>∃ (p k l:Addr) (b:Bool) (rows:RS) (ns:List NmX) (us:List V) (e:DuB),vs=[.ref p,.ref k,.ref l]∧KindsAt C H k rows∧Good rows∧SqB K b H l us∧NamesX K H ns us∧(∀ n∈ns,FitN n)∧BDue rows ns (some e)∧RefB Ds E H e
structure Errs (P:Program) (w:World) (K:Fg) (mg:Str→Option Value) (base:Heap) (Ds:Nat→Addr) (f0 f1 f2 f4 f5:Addr) (fd0 fd1 fd2 fd4 fd5:FuncData):Prop where
 e0:ErrI P w K mg base "NoKind" (Ds 0) "word" (spXI (Ds 0) "word" okS) f0 fd0
 e1:ErrI P w K mg base "Twice" (Ds 1) "word" (spXI (Ds 1) "word" okS) f1 fd1
 e2:ErrI P w K mg base "NoName" (Ds 2) "word" (spXI (Ds 2) "word" okS) f2 fd2
 e4:ErrI P w K mg base "NoDeed" (Ds 4) "number" (spXI (Ds 4) "number" okN) f4 fd4
 e5:ErrI P w K mg base "Same" (Ds 5) "number" (spXI (Ds 5) "number" okN) f5 fd5
 p7:ErrP K mg "TooMany" (Ds 7)
 p8:ErrP K mg "NoBoard" (Ds 8)
def scXN:FnScope ["self","word"] ["self","word"] (defScope s_NoKind___init__):=by nofun
def ok_xnk(F:Fun K "__init__" "NoKind.__init__" s_NoKind___init__ f fd) (I:ExI K C D "word") (dd:DIn K D) (mD:mg "DeedError"=some (.ref D)):⋯ 1 f fd ["self","word"] (spXI C "word" okS):=by
 nomatch F.ok scXN
 ·obtain ⟨x,y,rfl,_⟩:=h
  rfl
 ·obtain ⟨x,y,rfl,⟨z,rfl,hz⟩,hx,q⟩:=h
  refine ⟨_,(pS (ps_expr (pe_dinit dd (by rfl) mD (pC (pv 0) (pC (pe_fstr (pfs_cons (pf_repS (pv 1)) (pfs_cons pf_con pfs_nil))) pa_nil))))
   (pss_one (ps_xfld (D:=D) (pv 0) (pv 1)))),?_⟩
  refine ⟨_,rfl,_,rfl,z,rfl,by have:=hz.1;omega,hz.2,by decide +kernel,fun t=>⟨x,C,[.str t],rfl,by show 1≤100;decide,I.toExA.toExC,hx,?_⟩⟩
  exact ⟨_,rfl,_,rfl,x,C,rfl,hx,I,fun dx hdx=>q dx hdx⟩
def scXT:FnScope ["self","word"] ["self","word"] (defScope s_Twice___init__):=by nofun
def ok_xtw(F:Fun K "__init__" "Twice.__init__" s_Twice___init__ f fd) (I:ExI K C D "word") (dd:DIn K D) (mD:mg "DeedError"=some (.ref D)):⋯ 1 f fd ["self","word"] (spXI C "word" okS):=by
 nomatch F.ok scXT
 ·obtain ⟨x,y,rfl,_⟩:=h
  rfl
 ·obtain ⟨x,y,rfl,⟨z,rfl,hz⟩,hx,q⟩:=h
  refine ⟨_,(pS (ps_expr (pe_dinit dd (by rfl) mD (pC (pv 0) (pC (pe_fstr (pfs_cons (pf_repS (pv 1)) (pfs_cons pf_con pfs_nil))) pa_nil))))
   (pss_one (ps_xfld (D:=D) (pv 0) (pv 1)))),?_⟩
  refine ⟨_,rfl,_,rfl,z,rfl,by have:=hz.1;omega,hz.2,by decide +kernel,fun t=>⟨x,C,[.str t],rfl,by show 1≤100;decide,I.toExA.toExC,hx,?_⟩⟩
  exact ⟨_,rfl,_,rfl,x,C,rfl,hx,I,fun dx hdx=>q dx hdx⟩
def ok_cmakesX{Ds:Nat→Addr}(F:Def K mg "check_makes" s_check_makes ["kinds","makes"] f fd) (TC:TxtC K C) (MH:MHas K C fH fdH) (E0:ErrI P w K mg base "NoKind" (Ds 0) "word" (spXI (Ds 0) "word" okS) f0 fd0):FnOk P w K mg base (CX1 P w) 3 f fd ["kinds","makes"] (spCMakesX C Ds):=by
 have GH:FnOk P w K mg base (CX1 P w) 1 fH fdH ["self","word"] (spHas C):=(ok_has MH.fn TC).any
 nomatch F.fn.ok1 scCM
 ·obtain ⟨p,l,rows,xs,wd,rfl,_⟩:=h
  rfl
 ·obtain ⟨p,l,rows,xs,wd,rfl,kd,g,hl,sh,hw,re⟩:=h
  have nd:=scCM.nd
  have hr1:Room 1 _:=hr.mono (by decide)
  obtain ⟨dx,d,a,o,oa,kvs,avs,h1,_⟩:=kd.ex
  refine ⟨_,(pss_one (ps_for PassesOwn.leaving rfl (pi_list (pv 1)) (pg_name (i:=2) nd rfl (Or.inl rfl)) (pss_one (ps_if (pt_not (pt_val (pe_meth (pv 0) TC.cl MH.me GH hr1 MH.b .nil (pass1 Fns.of) (pC (pv 2) pa_nil)))) (pss_one (ps_raiseI (C:=Ds 0) Fns.of hr.hd E0.ex E0.ini E0.ty E0.go hr E0.b (by rfl) E0.m (pC (pv 2) pa_nil))) pss_nil)))),?_⟩
  refine ⟨_,rfl,l,rfl,⟨_,SqL.of hl⟩,for_runs (runs_list (xs:=xs.map V.str)) (fun i σ H'=>∃ x,σ=[some (.ref p),some (.ref l),x]∧H'=H∧∀ y∈xs.take i,y∈rows.map (·.1)) ⟨none,rfl,rfl,fun y hy=>by rw [List.take_zero] at hy;cases hy⟩ (fun i σ H' _ ⟨_,_,e,_⟩=>by rw [e];exact SqL.of hl) ?_ ?_⟩
  ·rintro i v σ H' hi ⟨x,rfl,e,ah⟩
   have e2:=e.symm
   subst e2
   rw [List.getElem?_map] at hi
   obtain ⟨y,hy,rfl⟩:=Option.map_eq_some_iff.mp hi
   refine ⟨_,rfl,p,dx,_,rfl,h1,no_has _ _,_,rfl,p,rows,y,rfl,kd,g,_,rfl,?_⟩
   by_cases hm:y∈rows.map (·.1)
   ·rw [decide_eq_true hm]
    refine iteF ⟨_,rfl,rfl,fun u hu=>?_⟩
    rw [List.take_add_one,hy] at hu
    rcases List.mem_append.mp hu with c | c
    ·exact ah u c
    ·rw [List.mem_singleton.mp c];exact hm
   ·rw [decide_eq_false hm]
    have e:xs.find? (fun x=>decide (x∉rows.map (·.1)))=some y:=by
     have il:=(List.getElem?_eq_some_iff.mp hy).1
     have es:xs=xs.take i++y :: xs.drop (i + 1):=by
      have hy':=hy
      rw [List.getElem?_eq_getElem il] at hy'
      rw [← Option.some.inj hy',← List.drop_eq_getElem_cons il,List.take_append_drop]
     rw [es,List.find?_append,List.find?_eq_none.mpr (fun u hu=>by rw [decide_eq_true_iff];exact fun c=>c (ah u hu)),Option.none_or]
     exact List.find?_cons_of_pos (show (fun x=>decide (x∉rows.map (·.1))) y=true from decide_eq_true hm)
    rw [e] at hw
    have e3:=Option.some.inj hw
    rw [← e3] at re
    exact iteT ⟨_,rfl,_,rfl,(fun _ _=>⟨y,rfl,sh y (List.mem_of_getElem? hy)⟩),fun dx hdx=>re dx _ (snew hdx) uS⟩
  ·rintro σ H' ⟨x,rfl,e,ah⟩
   rw [List.length_map,List.take_length] at ah
   have h1:=List.mem_of_find?_eq_some hw
   have h2:=List.find?_some hw
   exact absurd (ah _ h1) (of_decide_eq_true h2)
def FnOk.succ {P:Program}{w:World}{K:Fg}{mg:Str→Option Value}{base:Heap}{CX:CXT}{k:Nat}{ps:LS}{sp:Sp}(F:FnOk P w K mg base CX k f fd ps sp):FnOk P w K mg base CX (k + 1) f fd ps sp :=
 ⟨F.len,fun A outer s H args us vs Q E hr=>F.run A outer s H args us vs Q E (hr.mono (Nat.le_succ _))⟩
def strM_none {rows:RS}{ps:List (LS×Str)}(h:strM rows ps=none):∀ x∈ps.map (·.2),x∈rows.map (·.1):=fun x hx=>by
 have:=List.find?_eq_none.mp h x hx
 exact Classical.byContradiction fun c=>this (decide_eq_true c)
def ok_kinitX{Ds:Nat→Addr}(F:Fun K "__init__" "Book.__init__" s_Book___init__ f fd) (T:TxtK mg) (most:∃ t,mg "MOST_NAMES"=some (.int 8 t)) (ER:Errs P w K mg base Ds f0 f1 f2 f4 f5 fd0 fd1 fd2 fd4 fd5)
  (DW:Def K mg "is_word" s_is_word ["text"] fW fdW) (MB:Mk K B fBI) (mgB:mg "Board"=some (.ref B)) (bB:Binds K fdBI nBI []) (GB:FnOk P w K mg base (CX1 P w) 4 fBI fdBI nBI (spBTry K C B Ds))
  (DM:Def K mg "check_makes" s_check_makes ["kinds","makes"] fM fdM) (GM:⋯ 3 fM fdM ["kinds","makes"] (spCheckMakes C)) (XM:FnOk P w K mg base (CX1 P w) 3 fM fdM ["kinds","makes"] (spCMakesX C Ds)):
  FnOk P w K mg base (CX1 P w) 6 f fd pKI (spKInitX K C B D Ds):=by
 have GW:FnOk P w K mg base (CX1 P w) 1 fW fdW ["text"] spIsWord:=(ok_isword DW T).any
 have GM2:=FnOk.or (FnOk.any (CX:=CX1 P w) GM) XM
 nomatch F.ok1 scKI
 ·obtain ⟨p,k,l,b,rows,ns,us,e,rfl,_⟩:=h
  rfl
 ·obtain ⟨p,k,l,b,rows,ns,vs,e,rfl,kd,g,hl,hN,ft,bd,re⟩:=h
  have nd:=scKI.nd
  have hu:=hu_of hr
  have hr1:Room 1 _:=hr.mono (by decide)
  have hr2:Room 2 _:=hr.mono (by decide)
  have hr3:Room 3 _:=hr.mono (by decide)
  obtain ⟨t1,hM8⟩:=most
  have hvl:=Paired.length hN
  refine' ⟨_,(pS (ps_if (pt_cmpR op_gt (pe_callB call_len (by rfl) T.len PySem.boot_len (pC (pv 2) pa_nil)) (pe_glob (v:=.int 8) (by rfl) hM8 ⟨_,rfl⟩) (nomark _)) (pss_one (ps_raise (C:=Ds 7) Fns.of hr.hd ER.p7.ex ER.p7.ini (by rfl) ER.p7.m (pC (pe_fstr (pfs_cons pf_con (pfs_cons (pf_int (pe_glob (v:=.int 8) (by rfl) hM8 ⟨_,rfl⟩)) (pfs_cons pf_con pfs_nil)))) pa_nil))) pss_nil)
   (pS (ps_set (i:=3) nd rfl (Or.inl rfl) pe_dnewK)
   (pS (ps_set (i:=4) nd rfl (Or.inl rfl) pe_dnewK)
   (pS (ps_for PassesOwn.leaving rfl (pi_seq (pv 2)) (pg_tup rfl (gC (pg_name (i:=5) nd rfl (Or.inl rfl)) (gC (pg_name (i:=6) nd rfl (Or.inl rfl)) (gC (pg_name (i:=7) nd rfl (Or.inl rfl)) pgs_nil))))
    (pS (ps_if (pt_not (pt_val (pe_call GW hr1 (by rfl) DW.m DW.fn.kp DW.b .nil (pass1 Fns.of) (pC (pv 5) pa_nil)))) (pss_one (ps_raiseI (C:=Ds 2) Fns.of hr.hd ER.e2.ex ER.e2.ini ER.e2.ty ER.e2.go hr2 ER.e2.b (by rfl) ER.e2.m (pC (pv 5) pa_nil))) pss_nil)
   (pS (ps_if (pt_cmp (pc_din hu (pv 5) (pv 3))) (pss_one (ps_raiseI (C:=Ds 1) Fns.of hr.hd ER.e1.ex ER.e1.ini ER.e1.ty ER.e1.go hr2 ER.e1.b (by rfl) ER.e1.m (pC (pv 5) pa_nil))) pss_nil)
   (pS (ps_dput hu (pv 3) (pv 5) (pe_make MB GB hr rfl mgB bB .nil (pass1 Fns.of) (pC (pv 1) (pC (pv 6) (pC ?eC pa_nil)))) rfl)
   (pS (ps_dput hu (pv 4) (pv 5) ?eM rfl)
   (pss_one (ps_expr (pe_call GM2 hr3 (by rfl) DM.m DM.fn.kp DM.b .nil (pass1 Fns.of) (pC (pv 1) (pC (pe_dget hu (pv 4) (pv 5) (fun _ _=>rfl)) pa_nil))))))))))
   pss_never)))),?_⟩
  case eC=>exact pe_comp ["call","made"] [] [] (fun _=>compT_ok (osc:=defScope s_Book___init__) (on:=nKI) (by decide +kernel) rfl rfl rfl) (pi_seq (pv 7)) (fun C s H fp=>pg_two (K:=K) (i:=0) (j:=1) rfl rfl nd_cm rfl rfl (Or.inl rfl) (Or.inl rfl) (Or.inr rfl) (Or.inr rfl)) (fun C s H fp=>pts_nil) (fun C s H fp=>pv 0)
  case eM=>exact pe_comp ["call","made"] [] [] (fun _=>compT_ok (osc:=defScope s_Book___init__) (on:=nKI) (by decide +kernel) rfl rfl rfl) (pi_seq (pv 7)) (fun C s H fp=>pg_two (K:=K) (i:=0) (j:=1) rfl rfl nd_cm rfl rfl (Or.inl rfl) (Or.inl rfl) (Or.inr rfl) (Or.inr rfl)) (fun C s H fp=>pts_nil) (fun C s H fp=>pv 1)
  refine ⟨_,rfl,_,_,rfl,len_seq hl,_,_,rfl,rfl,_,rfl,?_⟩
  cases bd with
  | many h =>
   rw [show decide ((8:Int)<(vs.length:Int))=true from decide_eq_true (by omega)]
   exact iteT ⟨by decide +kernel,8,rfl,by decide,by decide +kernel,fun x=>⟨sL (by show 1≤100000;decide),re H (Same.refl _)⟩⟩
  | bad ib nb h8 hib ah hnb =>
  rw [show decide ((8:Int)<(vs.length:Int))=false from decide_eq_false (by omega)]
  refine iteF ?_
  intro bo hbo
  have s1:Same H (upd H bo (.dK [])):=snew hbo
  intro mo hmo
  have s2:Same (upd H bo (.dK [])) (upd (upd H bo (.dK [])) mo (.dK [])):=snew hmo
  have hmoH:H mo=none:=s1.free hmo
  have bm:bo≠mo:=fun z=>by rw [← z,uS] at hmo;cases hmo
  have ibl:ib<ns.length:=(List.getElem?_eq_some_iff.mp hib).1
  refine ⟨_,rfl,b,l,vs,rfl,(hl.mono s1).mono s2,for_runs runs_seq (fun i σ H'=>i≤ib∧∃ (bvs mvs:List (Key×V)) (x y z:Option V),σ=[some (.ref p),some (.ref k),some (.ref l),some (.ref bo),some (.ref mo),x,y,z]∧Same H H'∧H' bo=some (.dK bvs)∧H' mo=some (.dK mvs)∧bvs.map (·.1)=(ahd ns i).map (Sum.inr:Str→Key)∧mvs.length≤i)
   ⟨Nat.zero_le _,[],[],none,none,none,rfl,s1.trans s2,s2 _ _ uS,uS,rfl,Nat.le_refl _⟩ (fun i σ H' _ ⟨_,_,_,_,_,_,_,s,_⟩=>hl.mono s) ?_ ?_⟩
  ·rintro i v σ H' hi ⟨iib,bvs,mvs,x,y,z,rfl,s3,hb3,hm3,hB,hM⟩
   obtain ⟨nm,hnm,t,tp,bb,ws,rfl,ht,htp,hps⟩:=paired_at hN hi
   have hmem:nm∈ns:=List.mem_of_getElem? hnm
   have fn:=ft nm hmem
   have ht3:=s3 _ _ ht
   have due:(i<ib∧NDue rows (ahd ns i) nm none)∨(i=ib∧NDue rows (ahd ns i) nm (some e)):=by
    rcases Nat.lt_or_eq_of_le iib with c | c
    ·exact .inl ⟨c,ah i nm c hnm⟩
    ·refine .inr ⟨c,?_⟩
     rw [← c] at hib hnb
     rw [hib] at hnm
     rw [← Option.some.inj hnm]
     exact hnb
   refine ⟨t,_,rfl,SqT.of ht3,rfl,_,_,rfl,_,_,rfl,_,_,rfl,rfl,?_⟩
   refine ⟨_,rfl,nm.1,rfl,by have:=fn.w.1;omega,fun H4 s4=>⟨_,rfl,?_⟩⟩
   have s04:=s3.trans s4
   cases hw:isWord nm.1 with
   | false =>
    rcases due with ⟨_,d⟩ | ⟨_,d⟩
    ·cases d with
     | fine h=>rw [hw] at h;cases h
    ·cases d with
     | noN _=>exact iteT ⟨_,rfl,_,rfl,(fun _ _=>⟨nm.1,rfl,fn.w⟩),fun dx hdx=>re dx _ (s04.trans (snew hdx)) uS⟩
     | twice h _=>rw [hw] at h;cases h
     | bad h _ _=>rw [hw] at h;cases h
     | noK h _ _ _=>rw [hw] at h;cases h
   | true =>
   refine iteF ?_
   have hb4:=s4 _ _ hb3
   have hm4:=s4 _ _ hm3
   refine ⟨_,rfl,_,rfl,bo,_,rfl,DGet.k (k:=Sum.inr nm.1) hb4,_,rfl,?_⟩
   by_cases hin:nm.1∈ahd ns i
   ·have e1:(valV bvs (Sum.inr nm.1)).isSome=true:=some_of_key (by rw [hB];exact List.mem_map.mpr ⟨_,hin,rfl⟩)
    rw [e1]
    rcases due with ⟨_,d⟩ | ⟨_,d⟩
    ·cases d with
     | fine _ h=>exact absurd hin h
    ·cases d with
     | noN h=>rw [hw] at h;cases h
     | twice _ _=>exact iteT ⟨_,rfl,_,rfl,(fun _ _=>⟨nm.1,rfl,fn.w⟩),fun dx hdx=>re dx _ (s04.trans (snew hdx)) uS⟩
     | bad _ h _=>exact absurd hin h
     | noK _ h _ _=>exact absurd hin h
   have e0:valV bvs (Sum.inr nm.1)=none:=valV_none fun c=>by
    rw [hB] at c
    obtain ⟨u,hu',eu⟩:=List.mem_map.mp c
    injection eu with eu
    exact hin (eu ▸ hu')
   rw [e0]
   refine iteF ?_
   have htp4:=htp.mono s04
   have hps4:PrsV H4 nm.2.2 ws:=hps.mono (tupsS s04)
   have wl:ws.length≤200:=by
    have h1:=Paired.length hps
    have h2:=fn.few
    omega
   obtain ⟨r,hr',hrn⟩:∃ r,Due rows nm.2.1 (nm.2.2.map (·.1)) r∧((r=none∧((i<ib∧strM rows nm.2.2=none)∨∃ wd,strM rows nm.2.2=some wd∧e=.noK wd))∨∃ ii kk,r=some (ii,kk)∧e=duOf ii kk):=by
    rcases due with ⟨c,d⟩ | ⟨c,d⟩
    ·cases d with
     | fine _ _ h3 h4=>exact ⟨_,h3,.inl ⟨rfl,.inl ⟨c,h4⟩⟩⟩
    ·cases d with
     | noN h=>rw [hw] at h;cases h
     | twice _ h=>exact absurd h hin
     | bad _ _ h3=>exact ⟨_,h3,.inr ⟨_,_,rfl,rfl⟩⟩
     | noK _ _ h3 h4=>exact ⟨_,h3,.inl ⟨rfl,.inr ⟨_,h4,rfl⟩⟩⟩
   refine ⟨_,rfl,_,rfl,_,rfl,bb,tp,ws,rfl,htp4,comp_side runs_seq 0 (fsP H4) (by omega) hps4 (fun _=>rfl) (fun H' s'=>htp4.mono s') fun lc H5 hlc s45 hl5=>?_⟩
   intro yb dyb ny ndy ney
   refine mk_try (r:=r) ny ndy ((kd.mono s04).mono s45) g (.inl hl5) ((pairs_fst hps4).mono s45) (fun d hd=>?_) (by rw [List.length_map];have:=fn.few;omega) hr' (fun n er _ _ _ _ H6 s56 _=>?_) fun ii kk er=>?_
   ·obtain ⟨pr,hpr,ed⟩:=List.mem_map.mp hd
    rw [← ed];exact fn.deed pr hpr
   ·have hrn:(i<ib∧strM rows nm.2.2=none)∨∃ wd,strM rows nm.2.2=some wd∧e=.noK wd:=by
     rcases hrn with h | ⟨_,_,h,_⟩
     ·exact h.2
     ·rw [er] at h;cases h
    have s46:=s45.trans s56
    have s06:=s04.trans s46
    have hb6:=s46 _ _ hb4
    have hm6:=s46 _ _ hm4
    have bl:bvs.length=i:=by
     have h1:=congrArg List.length hB
     rw [List.length_map,List.length_map,List.length_map,List.length_take] at h1
     omega
    refine ⟨_,rfl,_,rfl,bo,_,rfl,DPut.k (k:=Sum.inr nm.1) hb6 (small_lt (by omega)),?_⟩
    have s07:Same H (upd H6 bo (.dK (putK bvs (Sum.inr nm.1) (.ref yb)))):=fun b o e=>by rw [upd_ne (nNo e hbo)];exact s06 _ _ e
    have hb7:(upd H6 bo (.dK (putK bvs (Sum.inr nm.1) (.ref yb)))) bo=some (.dK (putK bvs (Sum.inr nm.1) (.ref yb))):=uS
    have hm7:(upd H6 bo (.dK (putK bvs (Sum.inr nm.1) (.ref yb)))) mo=some (.dK mvs):=by rw [upd_ne (Ne.symm bm)];exact hm6
    generalize upd H6 bo (.dK (putK bvs (Sum.inr nm.1) (.ref yb)))=H7 at s07 hb7 hm7
    have htp7:=htp.mono s07
    have hps7:PrsV H7 nm.2.2 ws:=hps.mono (tupsS s07)
    refine ⟨_,rfl,bb,tp,ws,rfl,htp7,comp_side runs_seq 1 (snP H7) (by omega) hps7 (fun _=>rfl) (fun H' s'=>htp7.mono s') fun lm H8 hlm s78 hl8=>?_⟩
    rw [pairs_snd hps7] at hl8
    have hm8:=s78 _ _ hm7
    refine ⟨_,rfl,_,rfl,mo,_,rfl,DPut.k (k:=Sum.inr nm.1) hm8 (small_lt (by omega)),?_⟩
    have lmo:lm≠mo:=fun z=>by rw [z,hm7] at hlm;cases hlm
    have s09:Same H (upd H8 mo (.dK (putK mvs (Sum.inr nm.1) (.ref lm)))):=fun b o e=>by rw [upd_ne (nNo e hmoH)];exact s78 _ _ (s07 _ _ e)
    have hm9:(upd H8 mo (.dK (putK mvs (Sum.inr nm.1) (.ref lm)))) mo=some (.dK (putK mvs (Sum.inr nm.1) (.ref lm))):=uS
    have hb9:(upd H8 mo (.dK (putK mvs (Sum.inr nm.1) (.ref lm)))) bo=some (.dK (putK bvs (Sum.inr nm.1) (.ref yb))):=by rw [upd_ne bm];exact s78 _ _ hb7
    have hl9:(upd H8 mo (.dK (putK mvs (Sum.inr nm.1) (.ref lm)))) lm=some (.lst ((nm.2.2.map (·.2)).map V.str)):=by rw [upd_ne lmo];exact hl8
    have hv9:valV (putK mvs (Sum.inr nm.1) (.ref lm)) (Sum.inr nm.1)=some (.ref lm):=by rw [valV_put,if_pos rfl]
    generalize upd H8 mo (.dK (putK mvs (Sum.inr nm.1) (.ref lm)))=H9 at s09 hm9 hb9 hl9
    refine ⟨_,rfl,_,rfl,_,rfl,mo,_,rfl,(by rw [← hv9];exact DGet.k (k:=Sum.inr nm.1) hm9),?_⟩
    rcases hrn with ⟨c,h4⟩ | ⟨wd,h4,ee⟩
    ·refine .inl ⟨k,lm,rows,nm.2.2.map (·.2),rfl,kd.mono s09,g,hl9,strM_none h4,?_⟩
     refine ⟨c,_,_,_,_,_,rfl,s09,hb9,hm9,?_,?_⟩
     ·rw [putK_new _ e0,List.map_append,hB]
      show _=((ns.take (i + 1)).map (·.1)).map _
      rw [List.take_add_one,hnm,List.map_append,List.map_append]
      rfl
     ·have:=length_putK mvs (Sum.inr nm.1:Key) (.ref lm)
      omega
    ·rw [ee] at re
     refine .inr ⟨k,lm,rows,nm.2.2.map (fun x:LS×Str=>x.2),wd,rfl,kd.mono s09,g,hl9,fun x hx=>?_,h4,RefI.mono re s09⟩
     obtain ⟨pr,hpr,ed⟩:=List.mem_map.mp hx
     rw [← ed];exact fn.made pr hpr
   ·rcases hrn with ⟨h,_⟩ | ⟨i2,k2,h,ee⟩
    ·rw [er] at h;cases h
    ·rw [er] at h
     injection h with h
     injection h with h1 h2
     rw [ee,← h1,← h2] at re
     rw [er] at hr'
     exact refE_of hr' (RefB.mono (s04.trans s45) re)
  ·rintro σ H3 ⟨iib,_⟩
   omega
def duW:DuB→Str
 | .many=>"TooMany"
 | .noN _=>"NoName"
 | .twice _=>"Twice"
 | .board=>"NoBoard"
 | .noD _=>"NoDeed"
 | .same _=>"Same"
 | .noK _=>"NoKind"
def duF:DuB→V
 | .many=>.non
 | .noN w=>.str w
 | .twice w=>.str w
 | .board=>.non
 | .noD k=>.int k
 | .same k=>.int k
 | .noK w=>.str w
def duI:DuB→Nat
 | .many=>7
 | .noN _=>2
 | .twice _=>1
 | .board=>8
 | .noD _=>4
 | .same _=>5
 | .noK _=>0
def duK:DuB→Option Str
 | .many=>none
 | .noN _=>some "word"
 | .twice _=>some "word"
 | .board=>none
 | .noD _=>some "number"
 | .same _=>some "number"
 | .noK _=>some "word"
def duW_nm:∀ d:DuB,nm15 (duI d)=duW d
 | .many=>rfl
 | .noN _=>rfl
 | .twice _=>rfl
 | .board=>rfl
 | .noD _=>rfl
 | .same _=>rfl
 | .noK _=>rfl
def HeardB (Ds:Nat→Addr) (H:Hp) (wv:V) (d:DuB):Prop:=∃ e dx,wv=.ref e∧H e=some (XO e (Ds (duI d)) dx)∧((dx=none∧duK d=none)∨∃ a x,dx=some a∧duK d=some x∧H a=some (.xd [(x,duF d)]))
structure OnesB (K:Fg) (D:Addr) (Ds:Nat→Addr):Prop where
 o:∀ d:DuB,OneOf K D Ds (duI d)
 i:∀ d:DuB,∀ x,duK d=some x→ExI K (Ds (duI d)) D x
def duI_lt:∀ d:DuB,duI d<15
 | .many=>(by decide:7<15)
 | .noN _=>(by decide:2<15)
 | .twice _=>(by decide:1<15)
 | .board=>(by decide:8<15)
 | .noD _=>(by decide:4<15)
 | .same _=>(by decide:5<15)
 | .noK _=>(by decide:0<15)
def heardB_ref {K:Fg}{D:Addr}{Ds:Nat→Addr}(O:OnesB K D Ds) {H:Hp}{R:V→Hp→Prop}{du:DuB}(h:∀ wv H',Same H H'→HeardB Ds H' wv du→R wv H'):
  RefB Ds (fun cls dx H1=>∃ C,cls=.ref C∧ExC K C∧W.subIn K (.ref C) (.ref D)=some true∧∀ e,H1 e=none→R (.ref e) (upd H1 e (XO e C dx))) H du:=by
 have pl:duK du=none→∀ H',Same H H'→∃ C,Value.ref (Ds (duI du))=.ref C∧ExC K C∧W.subIn K (.ref C) (.ref D)=some true∧∀ e,H' e=none→R (.ref e) (upd H' e (XO e C none)):=fun z H' s=>⟨_,rfl,(O.o du).ex.toExC,(O.o du).sub,fun e he=>h _ _ (s.trans (snew he)) ⟨e,none,rfl,uS,.inl ⟨rfl,z⟩⟩⟩
 have fl:∀ x,duK du=some x→∀ dx H',Same H H'→H' dx=some (.xd [(x,duF du)])→∃ C,Value.ref (Ds (duI du))=.ref C∧ExC K C∧W.subIn K (.ref C) (.ref D)=some true∧∀ e,H' e=none→R (.ref e) (upd H' e (XO e C (some dx))):=fun x z dx H' s hd=>⟨_,rfl,(O.o du).ex.toExC,(O.o du).sub,fun e he=>h _ _ (s.trans (snew he)) ⟨e,some dx,rfl,uS,.inr ⟨dx,x,rfl,z,(snew he) _ _ hd⟩⟩⟩
 cases du with
 | many=>exact pl rfl
 | board=>exact pl rfl
 | noN w=>exact fl _ rfl
 | twice w=>exact fl _ rfl
 | noK w=>exact fl _ rfl
 | noD k=>exact fl _ rfl
 | same k=>exact fl _ rfl
def at0 (x:V) (r:List V):atI (x :: r) 0=some x:=atI_nat (j:=0) rfl
def spRefuB (Ds:Nat→Addr):Sp:=fun vs H Q _=>∃ (wv:V) (du:DuB),vs=[wv]∧HeardB Ds H wv du∧∀ a H',Same H H'→H' a=some (.tup [.str (duW du),duF du])→Q (.ref a) H'
abbrev nRu:LS:=["e","taken_by"]
def scRu:FnScope nRu ["e"] (defScope s__law_refusal):=by nofun
abbrev w3:List V:=(["NoName","Twice","NoKind"]:LS).map V.str
abbrev w2:List V:=(["NoDeed","Same"]:LS).map V.str
def ok_refusalB{Ds:Nat→Addr}(F:Def K mg "_law_refusal" s__law_refusal ["e"] f fd) (len:mg "len"=none) (O:OnesB K D Ds) (DC:Def K mg "_law_classes" s__law_classes ["e"] fC fdC) (GC:⋯ 1 fC fdC ["e"] (spClasses K D Ds)):⋯ 2 f fd ["e"] (spRefuB Ds):=by
 nomatch F.fn.ok scRu
 ·obtain ⟨wv,du,rfl,_⟩:=h
  rfl
 ·obtain ⟨wv,du,rfl,⟨e,dx,rfl,he,hx⟩,q⟩:=h
  have nd:=scRu.nd
  refine' ⟨_,(pS (ps_set (i:=1) nd rfl (Or.inl rfl) (pe_callD DC GC hr (pC (pv 0) pa_nil)))
   (pS (ps_if (pt_cmpR op_ne (pe_callB call_len_seq (by rfl) len PySem.boot_len (pC (pv 1) pa_nil)) pe_int (nomark _)) pss_never pss_nil)
   (pS (ps_if (pt_cmpR (r:=rIn K false) op_in_seq (pe_ix (r:=rIxL K) ix_list (pv 1) pe_int (fun _ _=>rfl)) (pe_strsE ["NoName","Twice","NoKind"] rfl (by decide)) (by with_unfolding_all rfl)) (pss_one (ps_ret (pe_tup (pC (pe_ix (r:=rIxL K) ix_list (pv 1) pe_int (fun _ _=>rfl)) (pC (pe_xfld (D:=D) (pv 0)) pa_nil))))) pss_nil)
   (pS (ps_if (pt_cmpR (r:=rIn K false) op_in_seq (pe_ix (r:=rIxL K) ix_list (pv 1) pe_int (fun _ _=>rfl)) (pe_strsE ["NoDeed","Same"] rfl (by decide)) (by with_unfolding_all rfl)) (pss_one (ps_ret (pe_tup (pC (pe_ix (r:=rIxL K) ix_list (pv 1) pe_int (fun _ _=>rfl)) (pC (pe_xfld (D:=D) (pv 0)) pa_nil))))) pss_nil)
   (pS (ps_if (pt_cmpR op_eq (pe_ix (r:=rIxL K) ix_list (pv 1) pe_int (fun _ _=>rfl)) pe_str (nomark _)) pss_never pss_nil)
   (pss_one (ps_ret (pe_tup (pC (pe_ix (r:=rIxL K) ix_list (pv 1) pe_int (fun _ _=>rfl)) (pC pe_non pa_nil)))))))))),?_⟩
  have hd:XDict H dx:=by
   rcases hx with ⟨z,_⟩ | ⟨a,x,z,_,h⟩
   ·exact .inl z
   ·exact .inr ⟨a,_,z,h⟩
  refine ⟨_,rfl,e,duI du,dx,rfl,he,hd,O.o du,duI_lt du,fun l H1 s1 hl=>?_⟩
  rw [duW_nm] at hl
  refine ⟨_,rfl,l,_,rfl,.inl (SqL.of hl),rfl,_,rfl,iteF ?_⟩
  have cs:(duK du=some "word"∧inV (.str (duW du)) w3=true)∨(duK du=some "number"∧inV (.str (duW du)) w3=false∧inV (.str (duW du)) w2=true)∨(duK du=none∧inV (.str (duW du)) w3=false∧inV (.str (duW du)) w2=false∧decide (V.str (duW du)=V.str "NoText")=false∧duF du=.non):=by
   cases du with
   | many=>exact .inr (.inr ⟨rfl,by decide +kernel,by decide +kernel,by decide +kernel,rfl⟩)
   | board=>exact .inr (.inr ⟨rfl,by decide +kernel,by decide +kernel,by decide +kernel,rfl⟩)
   | noN w=>exact .inl ⟨rfl,(by decide +kernel:inV (.str "NoName") w3=true)⟩
   | twice w=>exact .inl ⟨rfl,(by decide +kernel:inV (.str "Twice") w3=true)⟩
   | noK w=>exact .inl ⟨rfl,(by decide +kernel:inV (.str "NoKind") w3=true)⟩
   | noD k=>exact .inr (.inl ⟨rfl,(by decide +kernel:inV (.str "NoDeed") w3=false),(by decide +kernel:inV (.str "NoDeed") w2=true)⟩)
   | same k=>exact .inr (.inl ⟨rfl,(by decide +kernel:inV (.str "Same") w3=false),(by decide +kernel:inV (.str "Same") w2=true)⟩)
  refine ⟨_,rfl,l,_,_,_,rfl,rfl,SqL.of hl,at0 _ _,fun t1 ht1=>⟨t1,_,rfl,.inr (SqT.of uS),rfl,rfl,_,rfl,?_⟩⟩
  have s2:=s1.trans (snew (o:=.tup w3) ht1)
  have hl2:=(snew (o:=.tup w3) ht1) _ _ hl
  generalize upd H1 t1 (.tup w3)=H2 at s2 hl2 ⊢
  have fld:∀ {x:Str},duK du=some x→∃ a,dx=some a∧H a=some (.xd [(x,duF du)]):=fun {x} z=>by
   rcases hx with ⟨_,c⟩ | ⟨a,y,c1,c2,c3⟩
   ·rw [z] at c;cases c
   ·rw [z] at c2
    rw [Option.some.inj c2]
    exact ⟨a,c1,c3⟩
  rcases cs with ⟨k1,c1⟩ | ⟨k1,c1,c2⟩ | ⟨k1,c1,c2,c3,c4⟩
  ·rw [show (if false=true then !inV (.str (duW du)) w3 else inV (.str (duW du)) w3)=true from c1]
   obtain ⟨a,rfl,ha⟩:=fld k1
   exact iteT ⟨_,rfl,l,_,_,_,rfl,rfl,SqL.of hl2,at0 _ _,_,rfl,e,Ds (duI du),a,_,_,rfl,s2 _ _ he,s2 _ _ ha,O.i du _ k1,rfl,sL (by show 2≤100000;decide),fun a ha=>q a _ (s2.trans (snew ha)) uS⟩
  ·rw [show (if false=true then !inV (.str (duW du)) w3 else inV (.str (duW du)) w3)=false from c1]
   refine iteF ⟨_,rfl,l,_,_,_,rfl,rfl,SqL.of hl2,at0 _ _,fun t2 ht2=>⟨t2,_,rfl,.inr (SqT.of uS),rfl,rfl,_,rfl,?_⟩⟩
   have s3:=s2.trans (snew (o:=.tup w2) ht2)
   have hl3:=(snew (o:=.tup w2) ht2) _ _ hl2
   generalize upd H2 t2 (.tup w2)=H3 at s3 hl3 ⊢
   rw [show (if false=true then !inV (.str (duW du)) w2 else inV (.str (duW du)) w2)=true from c2]
   obtain ⟨a,rfl,ha⟩:=fld k1
   exact iteT ⟨_,rfl,l,_,_,_,rfl,rfl,SqL.of hl3,at0 _ _,_,rfl,e,Ds (duI du),a,_,_,rfl,s3 _ _ he,s3 _ _ ha,O.i du _ k1,rfl,sL (by show 2≤100000;decide),fun a ha=>q a _ (s3.trans (snew ha)) uS⟩
  ·rw [show (if false=true then !inV (.str (duW du)) w3 else inV (.str (duW du)) w3)=false from c1]
   refine iteF ⟨_,rfl,l,_,_,_,rfl,rfl,SqL.of hl2,at0 _ _,fun t2 ht2=>⟨t2,_,rfl,.inr (SqT.of uS),rfl,rfl,_,rfl,?_⟩⟩
   have s3:=s2.trans (snew (o:=.tup w2) ht2)
   have hl3:=(snew (o:=.tup w2) ht2) _ _ hl2
   generalize upd H2 t2 (.tup w2)=H3 at s3 hl3 ⊢
   rw [show (if false=true then !inV (.str (duW du)) w2 else inV (.str (duW du)) w2)=false from c2]
   refine iteF ⟨_,rfl,l,_,_,_,rfl,rfl,SqL.of hl3,at0 _ _,rfl,_,rfl,?_⟩
   rw [c3]
   rw [c4] at q
   exact iteF ⟨_,rfl,l,_,_,_,rfl,rfl,SqL.of hl3,at0 _ _,sL (by show 2≤100000;decide),fun a ha=>q a _ (s3.trans (snew ha)) uS⟩
def bdue_good {rows:RS}{ns:List NmX}(h:BDue rows ns none):GoodNames rows (ns.map fun n=>(n.1,n.2.1.toNat,n.2.2))∧∀ n∈ns,0≤n.2.1:=by
 cases h with
 | fine le ah =>
  have one:∀ n∈ns,GoodName rows (n.1,n.2.1.toNat,n.2.2)∧0≤n.2.1:=fun n hn=>by
   obtain ⟨j,hj⟩:=List.getElem?_of_mem hn
   cases ah j n hj with
   | fine h1 h2 h3 h4 =>
    cases h3 with
    | good m e n1 n4 gd =>
     have e':n.2.1.toNat=m:=by omega
     exact ⟨⟨h1,by show 1≤n.2.1.toNat;omega,by show n.2.1.toNat≤4;omega,by show GoodDeeds rows n.2.1.toNat _;rw [e'];exact gd,fun p hp=>strM_none h4 p.2 (List.mem_map.mpr ⟨p,hp,rfl⟩)⟩,by omega⟩
  refine ⟨⟨by rw [List.length_map];exact le,fun m hm=>?_,?_⟩,fun n hn=>(one n hn).2⟩
  ·obtain ⟨n,hn,rfl⟩:=List.mem_map.mp hm
   exact (one n hn).1
  ·rw [List.map_map]
   show (ns.map (·.1)).Nodup
   have:∀ i,((ns.take i).map (·.1)).Nodup:=fun i=>by
    induction i with
    | zero=>rw [List.take_zero];exact .nil
    | succ i ih =>
     rw [List.take_add_one]
     cases hj:ns[i]? with
     | none=>rw [show (ns.take i++(none:Option NmX).toList)=ns.take i from List.append_nil _];exact ih
     | some n =>
      show ((ns.take i++[n]).map (·.1)).Nodup
      rw [List.map_append,List.nodup_append]
      cases ah i n hj with
      | fine _ h2 _ _=>exact ⟨ih,by simp,fun a ha b hb e=>h2 (by have hb':b=n.1:=List.mem_singleton.mp hb;rw [← hb',← e];exact ha)⟩
   have:=this ns.length
   rwa [List.take_length] at this
def spKTry (K:Fg) (C B D:Addr) (Ds:Nat→Addr):Sp:=fun vs H Q E=>spKInit K C B D vs H Q E∨spKInitX K C B D Ds vs H Q E
def mk_btry {K:Fg}{C B D:Addr}{Ds:Nat→Addr}{Hx:Hp}{pb db k l:Addr}{b:Bool}{rows:RS}{ns:List NmX}{us:List V}{r:Option DuB}{R:Hp→Prop}{E:XK}(nb:Hx pb=none) (ndb:Hx db=none) (kd:KindsAt C Hx k rows) (g:Good rows) (hl:SqB K b Hx l us) (hN:NamesX K Hx ns us) (ft:∀ n∈ns,FitN n) (bd:BDue rows ns r)
  (h:r=none→∀ H',Same Hx H'→BookAt C B D H' pb k rows (ns.map fun n=>(n.1,n.2.1.toNat,n.2.2))→R H') (re:∀ e,r=some e→RefB Ds E Hx e):
  spKTry K C B D Ds [.ref pb,.ref k,.ref l] (upd (upd Hx db (.own pb)) pb (.ins D db [])) (fun v H3=>v=.non∧R H3) E:=by
 have s34:Same Hx (upd (upd Hx db (.own pb)) pb (.ins D db [])):=fun b o e=>by
  have e1:(upd Hx db (.own pb)) b=some o:=by rw [upd_ne (nNo e ndb)];exact e
  rw [upd_ne (nNo e nb)];exact e1
 cases r with
 | none =>
  obtain ⟨gn,pos⟩:=bdue_good bd
  have hN':∀ {ns:List NmX} {us:List V},NamesX K Hx ns us→(∀ n∈ns,0≤n.2.1)→Paired (NameV K (upd (upd Hx db (.own pb)) pb (.ins D db []))) (ns.map fun n=>(n.1,n.2.1.toNat,n.2.2)) us:=fun {ns us} h=>by
   induction h with
   | nil=>intro _;exact .nil
   | cons a _ ih =>
    intro p0
    obtain ⟨t,tp,b',vs,e,h1,h2,h3⟩:=a
    refine .cons ⟨t,tp,b',vs,e,?_,h2.mono s34,h3.mono (tupsS s34)⟩ (ih fun n hn=>p0 n (.tail _ hn))
    have:=p0 _ (.head _)
    rw [s34 _ _ h1]
    show some (HO.tup [_,V.int _,_])=some (HO.tup [_,V.int ((Int.toNat _:Nat):Int),_])
    rw [Int.toNat_of_nonneg this]
  exact .inl ⟨pb,db,k,l,rows,_,rfl,uS,kd.mono s34,g,⟨b,us,hl.mono s34,hN' hN pos⟩,gn,fun H4 bk keep=>⟨rfl,h rfl H4 (fun b o e=>keep b o (nNo e nb) (s34 _ _ e)) bk.at_⟩⟩
 | some e=>exact .inr ⟨pb,k,l,b,rows,ns,us,e,rfl,kd.mono s34,g,hl.mono s34,hN.mono s34,ft,bd,RefB.mono s34 (re e rfl)⟩
def BkV (H:Hp) (ns:List NmX):Option DuB→Addr→Prop
 | none,a=>∃ l,H a=some (.tup [.str "made",.ref l])∧H l=some (.lst ((ns.map (·.1)).map V.str))
 | some d,a=>H a=some (.tup [.str (duW d),duF d])
def spHeardB (K:Fg) (C:Addr):Sp:=fun vs H Q _=>∃ (k l:Addr) (b:Bool) (rows:RS) (ns:List NmX) (us:List V) (r:Option DuB),vs=[.ref k,.ref l]∧KindsAt C H k rows∧Good rows∧SqB K b H l us∧NamesX K H ns us∧(∀ n∈ns,FitN n)∧BDue rows ns r∧∀ a H',Same H H'→BkV H' ns r a→Q (.ref a) H'
abbrev nBh:LS:=["kinds","names","book","wrong","e"]
def scBh:FnScope nBh ["kinds","names"] (defScope s__law_book_heard):=by nofun
def ok_heardB{Ds:Nat→Addr}(F:Def K mg "_law_book_heard" s__law_book_heard ["kinds","names"] f fd) (TD:ErrD K mg DE) (O:OnesB K DE Ds) (TK:TxtKn K D)
  (MD:Mk K D fKI) (mgD:mg "Book"=some (.ref D)) (bD:Binds K fdKI pKI []) (GD:FnOk P w K mg base (CX1 P w) 6 fKI fdKI pKI (spKTry K C B D Ds))
  (DU:Def K mg "_law_refusal" s__law_refusal ["e"] fU fdU) (GU:⋯ 2 fU fdU ["e"] (spRefuB Ds)) (MW:MKWords K D fW fdW) (GW:⋯ 1 fW fdW ["self"] (spKWords C B D)):⋯ 8 f fd ["kinds","names"] (spHeardB K C):=by
 nomatch F.fn.ok scBh
 ·obtain ⟨k,l,b,rows,ns,us,r,rfl,_⟩:=h
  rfl
 ·obtain ⟨k,l,b,rows,ns,us,r,rfl,kd,g,hl,hN,ft,bd,q⟩:=h
  have nd:=scBh.nd
  have hr1:Room 1 _:=hr.mono (by decide)
  have hr2:Room 2 _:=hr.mono (by decide)
  refine' ⟨_,(pS (ps_set (i:=2) nd rfl (Or.inl rfl) pe_non)
   (pS (ps_set (i:=3) nd rfl (Or.inl rfl) pe_non)
   (pss_cut (ps_try (i:=3) (j:=4) rfl rfl TD.ex nd (by rfl) TD.m rfl (Or.inl rfl) rfl rfl (pssx_one (psx_set (i:=2) nd rfl (Or.inl rfl) (pex_make MD GD hr rfl mgD bD (pC (pv 0) (pC (pv 1) pa_nil))))))
   (pS (ps_if (pt_cmpR op_notN (pv 3) pe_non (nomark _)) (pss_one (ps_ret (pe_callD DU GU hr2 (pC (pv 3) pa_nil)))) pss_nil)
   (pss_one (ps_ret (pe_tup (pC pe_str (pC (pe_meth0 (pv 2) TK.cl MW.me GW hr1 MW.b .nil pass0) pa_nil))))))))),?_⟩
  refine ⟨(fun σ' H'=>∃ (bv wv:V) (x4:Option V),σ'=[some (.ref k),some (.ref l),some bv,some wv,x4]∧Same H H'∧((r=none∧wv=.non∧∃ pb,bv=.ref pb∧BookAt C B D H' pb k rows (ns.map fun n=>(n.1,n.2.1.toNat,n.2.2)))∨∃ e,r=some e∧HeardB Ds H' wv e)),?_,?_⟩
  ·refine ⟨_,rfl,_,rfl,?_⟩
   intro pb db nb ndb neb
   refine mk_btry (r:=r) nb ndb kd g hl hN ft bd (fun er H1 s1 bk=>⟨.ref pb,.non,none,rfl,s1,.inl ⟨er,rfl,pb,rfl,bk⟩⟩) fun e er=>?_
   exact heardB_ref (R:=fun wv' H'=>∃ (bv wv:V) (x4:Option V),[some (V.ref k),some (.ref l),some .non,some wv',none]=[some (.ref k),some (.ref l),some bv,some wv,x4]∧Same H H'∧((r=none∧wv=.non∧∃ pb,bv=.ref pb∧BookAt C B D H' pb k rows (ns.map fun n=>(n.1,n.2.1.toNat,n.2.2)))∨∃ e,r=some e∧HeardB Ds H' wv e)) O fun wv H' s' hw=>⟨.non,wv,none,rfl,s',.inr ⟨e,er,hw⟩⟩
  ·rintro σ' H1 ⟨bv,wv,x4,rfl,s1,⟨er,rfl,pb,rfl,bk⟩ | ⟨e,er,hw⟩⟩
   ·refine ⟨_,rfl,rfl,_,rfl,iteF ?_⟩
    obtain ⟨dx,bo,mo,o,bvs,mvs,h1,_⟩:=bk.ex
    have ee:(ns.map fun n:NmX=>((n.1,n.2.1.toNat,n.2.2):Nam)).map (·.1)=ns.map (·.1):=by rw [List.map_map];rfl
    refine ⟨_,rfl,pb,dx,_,rfl,h1,no_kwords _ _ _,pb,k,rows,_,rfl,bk,fun lw hlw=>⟨sL (by show 2≤100000;decide),fun a ha=>q a _ ((s1.trans (snew hlw)).trans (snew ha)) ?_⟩⟩
    rw [er]
    exact ⟨lw,uS,snew ha _ _ (by rw [uS,ee])⟩
   ·have hn:wv≠.non:=by
     obtain ⟨e,dx,ew,_⟩:=hw
     rw [ew];exact fun z=>by cases z
    refine ⟨_,rfl,rfl,_,rfl,?_⟩
    rw [decide_eq_false hn]
    exact iteT ⟨_,rfl,wv,e,rfl,hw,fun a H2 s2 ha=>q a H2 (s1.trans s2) (by rw [er];exact ha)⟩
def WOk (x:Str):Prop:=PyData.strOk x=true
def ok_strW (n:Nat) {x:Str}(h:WOk x):W.kqdOk n (.str x)=true:=by
 rw [W.kqdOk]
 exact h
def ok_callW (n:Nat) {d:LS}(h:∀ x∈d,WOk x):W.kqdOk (n + 1) (datC d)=true:=by
 unfold datC
 rw [W.kqdOk,List.all_eq_true]
 intro z hz
 obtain ⟨x,hx,rfl⟩:=List.mem_map.mp hz
 exact ok_strW n (h x hx)
def ok_deedsW (n:Nat) {ds:List (LS)}(h:∀ d∈ds,∀ x∈d,WOk x):(ds.map datC).all (W.kqdOk (n + 1))=true:=by
 rw [List.all_eq_true]
 intro z hz
 obtain ⟨d,hd,rfl⟩:=List.mem_map.mp hz
 exact ok_callW n (h d hd)
def cut_take (xs:List V) (k:Nat):cutV xs none (some (k:Int))=xs.take k:=by
 unfold cutV
 rw [HT.sIx_none,HT.sIx_nat,List.drop_zero,Nat.sub_zero]
 rcases Nat.le_total k xs.length with h | h
 ·rw [Nat.min_eq_left h]
 ·rw [Nat.min_eq_right h,List.take_of_length_le (Nat.le_refl _),List.take_of_length_le h]
theorem Paired.takeD {α β:Type}{F:α→β→Prop}:∀ {l:List α}{m:List β}(k:Nat),Paired F l m→Paired F (l.take k) (m.take k)
 | _,_,0,_=>by rw [List.take_zero,List.take_zero];exact .nil
 | _,_,_ + 1,.nil=>by rw [List.take_nil,List.take_nil];exact .nil
 | _,_,k + 1,.cons r t=>.cons r (Paired.takeD k t)
def strayV (ws:LS):V→V
 | .str x=>.bl (!decide (x∈ws))
 | _=>.non
def stray_any (ws d:LS):((((d.map V.str).filter fun _=>true).map (strayV ws))=(d.map fun x=>!decide (x∈ws)).map V.bl)∧(d.map fun x=>!decide (x∈ws)).any id=!(d.all fun x=>decide (x∈ws)):=by
 constructor
 ·rw [List.filter_eq_self.mpr (fun _ _=>rfl),List.map_map,List.map_map]
  rfl
 ·rw [List.any_map]
  induction d with
  | nil=>rfl
  | cons x r ih=>rw [List.any_cons,List.all_cons,ih];show ((!decide (x∈ws)) || _)=_;cases decide (x∈ws) <;> rfl
def nd_sg:(["sign"]:LS).Nodup:=by decide +kernel
def nd_rw:(["row"]:LS).Nodup:=by decide +kernel
def nd_na:(["name"]:LS).Nodup:=by decide +kernel
def nd_kw:(["kind","words"]:LS).Nodup:=by decide +kernel
def nd_pr:(["pair"]:LS).Nodup:=by decide +kernel
def nd_pw:(["pair","words"]:LS).Nodup:=by decide +kernel
structure OkN (n:NmX):Prop extends FitN n where
 wo:WOk n.1
 dk:∀ p∈n.2.2,∀ x∈p.1,WOk x
 ma:∀ p∈n.2.2,WOk p.2
def BdV (H:Hp):Option DuB→V→Prop
 | none,v=>v=.non
 | some d,v=>∃ a,v=.ref a∧H a=some (.tup [.str (duW d),duF d])
def spBkDue (K:Fg):Sp:=fun vs H Q _=>∃ (l ln:Addr) (rows:RS) (ns:List NmX) (us:List V),vs=[.ref l,.ref ln]∧RowsAt H l rows∧Good rows∧H ln=some (.lst us)∧NamesX K H ns us∧(∀ n∈ns,OkN n)∧ns.length≤1000∧∀ r v H',Same H H'→BDue rows ns r→BdV H' r v→Q v H'
def rIxS2 (K:Fg):R2:=fun x y H Q=>rIxL K x y H Q∨rIxT K x y H Q
def ix_or {X:Cx}:IxR X (rIxS2 X.K):=fun value slice pins s σ H x y v u Q I rx ry h hs=>h.elim (fun h=>ix_list value slice pins s σ H x y v u Q I rx ry h hs) (fun h=>ix_tup value slice pins s σ H x y v u Q I rx ry h hs)
def hd1 (H:Hp):V→V
 | .ref t=>match H t with
  | some (.tup (x :: _))=>x
  | _=>.non
 | _=>.non
def hd1_at {H:Hp}{t:Addr}{x:V}{r:List V}(h:H t=some (.tup (x :: r))):hd1 H (.ref t)=x:=by
 show (match H t with | some (.tup (x :: _))=>x | _=>.non)=x
 rw [h]
theorem hd_rowsX {H:Hp}:∀ {rows:RS}{vs:List V},Paired (RowV H) rows vs→vs.map (hd1 H)=(rows.map (·.1)).map V.str
 | _,_,.nil=>rfl
 | _,_,.cons ⟨t,u,e,h1,_⟩ r=>by
  subst e
  rw [List.map_cons,List.map_cons,List.map_cons,hd1_at h1,hd_rowsX r]
theorem hd_names {K:Fg}{H:Hp}:∀ {ns:List NmX}{vs:List V},NamesX K H ns vs→vs.map (hd1 H)=(ns.map (·.1)).map V.str
 | _,_,.nil=>rfl
 | _,_,.cons ⟨t,_,_,_,e,h1,_⟩ r=>by
  subst e
  rw [List.map_cons,List.map_cons,List.map_cons,hd1_at h1,hd_names r]
def comp_hd {K:Fg}{J:It}{vs:List V}{Ok:Hp→Prop}(R:Runs J vs Ok) {js:List Nat}{σ:St}{Q:VK}{H1:Hp}(hz:vs.length≤1000) (hp:∀ v∈vs,∃ t x r,v=.ref t∧H1 t=some (.tup (x :: r))) (hok:∀ H,Same H1 H→Ok H)
  (hd:∀ D H',H1 D=none→Same H1 H'→H' D=some (.lst (vs.map (hd1 H1)))→Q (.ref D) H'):compBody 1 js (gName 0) tTrue (tOp (rIxT K) (tVar 0) (tC (.int 0))) σ Q J H1:=by
 refine comp_val R (sL (by omega)) (fun _=>true) (hd1 H1) hok ?_ ?_ ?_
 ·intro x H R' _ _ h
  exact h H (Same.refl _)
 ·intro x H R' s hx _ h
  obtain ⟨t,y,r,rfl,ht⟩:=hp x hx
  rw [hd1_at ht] at h
  exact ⟨_,rfl,t,_,_,_,rfl,rfl,SqT.of (s _ _ ht),at0 _ _,h H (Same.refl _)⟩
 ·intro D H' hD s hl
  rw [List.filter_eq_self.mpr (fun _ _=>rfl)] at hl
  exact hd D H' hD s hl
def sq_or {b:Bool}{H:Hp}{a:Addr}{xs:List V}(h:SqB K b H a xs):SqL K H a xs∨SqT K H a xs:=by
 cases b with
 | true=>exact .inl h
 | false=>exact .inr h
def sl_of {b:Bool}{H:Hp}{a:Addr}{xs:List V}{lo hi:Option Int}{Q:VK}(h:SqB K b H a xs) (q:∀ b' p H',Same H H'→SqB K b' H' p (cutV xs lo hi)→Q (.ref p) H'):rSlL K (.ref a) lo hi H Q∨rSlA K (.ref a) lo hi H Q:=by
 cases b with
 | true=>exact .inl ⟨a,xs,rfl,h,fun p hp=>q true p _ (snew hp) (SqL.of uS)⟩
 | false=>exact .inr ⟨a,xs,rfl,h,fun e=>q false a H (Same.refl _) (by rw [cut_all e];exact h),fun _ p hp=>q false p _ (snew hp) (SqT.of uS)⟩
theorem prs_hd {H:Hp}:∀ {ps:List (LS×Str)}{vs:List V},PrsV H ps vs→DeedsV H (ps.map (·.1)) (vs.map (hd1 H))
 | _,_,.nil=>.nil
 | _,_,.cons ⟨t,tc,e,h1,h2⟩ r=>by
  subst e
  rw [List.map_cons,List.map_cons]
  exact .cons ⟨tc,hd1_at h1,h2⟩ (prs_hd r)
def scLw:FnScope ["text"] ["text"] (defScope s__law_is_word):=by nofun
def ok_lisword(F:Def K mg "_law_is_word" s__law_is_word ["text"] f fd) (len:mg "len"=none) (all:mg "all"=none):⋯ 1 f fd ["text"] spIsWord:=by
 nomatch F.fn.ok scLw
 ·obtain ⟨x,rfl,_⟩:=h
  rfl
 ·obtain ⟨x,rfl,hx,k⟩:=h
  refine' ⟨_,pss_one (ps_ret (pe_and (pe_chain op_lt op_lt pe_int (pe_callB call_len (by rfl) len PySem.boot_len (pC (pv 0) pa_nil)) pe_int) (pe_one (pe_callB (call_all rfl) (by rfl) all PyProof.Rows.boot_all (pC ?eC pa_nil))))),?_⟩
  case eC=>exact (pe_comp ["sign"] [] [] (fun _=>compT_ok (osc:=defScope s__law_is_word) (on:=["text"]) (by decide +kernel) rfl rfl rfl) (pi_str (pv 0)) (fun C s H fp=>pg_name (i:=0) nd_sg rfl (Or.inl rfl) (Or.inr rfl)) (fun C s H fp=>pts_nil) (fun C s H fp=>pe_cmpR op_in_str (pv 0) pe_str (by with_unfolding_all rfl)))
  have no:¬ (1≤x.length∧x.length≤8)→isWord x=false:=fun h=>by unfold isWord;rw [decide_eq_false h];rfl
  refine ⟨_,rfl,_,_,rfl,⟨sL (by omega),rfl⟩,_,_,rfl,rfl,_,rfl,?_⟩
  by_cases h1:1≤x.length
  ·rw [decide_eq_true (show (0:Int)<(x.length:Int) by omega)]
   refine iteT ⟨_,_,rfl,rfl,_,rfl,?_⟩
   by_cases h2:x.length≤8
   ·rw [decide_eq_true (show (x.length:Int)<9 by omega)]
    refine iteT ⟨_,rfl,_,rfl,comp_pure runs_str (by unfold signsV;rw [List.length_map,str_len];exact sL (by omega)) (fun _=>true) inLet (fun _ _ _=>trivial) ?_ ?_ ?_⟩
    ·intro D ys v R _ _ hR
     exact hR
    ·intro D ys v R _ hv _ hR
     obtain ⟨c,_,e⟩:=List.mem_map.mp hv
     subst e
     exact ⟨_,rfl,_,_,rfl,rfl,hR⟩
    ·intro D hD
     refine ⟨D,x.cps.toList.map isLow,rfl,SqL.of (by rw [← signs_low];exact uS),?_⟩
     have e:(x.cps.toList.map isLow).all id=isWord x:=by
      unfold isWord
      rw [decide_eq_true ⟨h1,h2⟩,Bool.true_and,List.all_map]
      rfl
     have q:=k (upd H D (.lst (((signsV x).filter fun _=>true).map inLet))) fun b o hb=>by rw [upd_ne (nNo hb hD)];exact hb
     rw [← e] at q
     exact q
   ·rw [decide_eq_false (show ¬ (x.length:Int)<9 by omega)]
    have q:=k H (Same.refl _)
    rw [no (fun z=>h2 z.2)] at q
    exact iteF q
  ·rw [decide_eq_false (show ¬ (0:Int)<(x.length:Int) by omega)]
   have q:=k H (Same.refl _)
   rw [no (fun z=>h1 z.1)] at q
   exact iteF ⟨_,rfl,iteF q⟩
abbrev nBd:LS:=["rows","names","words","k","word","places","pairs","at","deed","strange"]
def scBd:FnScope nBd ["rows","names"] (defScope s__law_book_due):=by nofun
def ok_bkdue(F:Def K mg "_law_book_due" s__law_book_due ["rows","names"] f fd) (len:mg "len"=none) (range:mg "range"=none) (any:mg "any"=none) (DW:Def K mg "_law_is_word" s__law_is_word ["text"] fW fdW) (GW:⋯ 1 fW fdW ["text"] spIsWord):⋯ 2 f fd ["rows","names"] (spBkDue K):=by
 nomatch F.fn.ok scBd
 ·obtain ⟨l,ln,rows,ns,us,rfl,_⟩:=h
  rfl
 ·obtain ⟨l,ln,rows,ns,us,rfl,hR,g,hln,hN,ok,big,q⟩:=h
  have nd:=scBd.nd
  have hu:=hr.units
  have gle:=g.le
  refine' ⟨_,(pS (ps_set (i:=2) nd rfl (Or.inr rfl) ?eW)
   (pS (ps_if (pt_cmpR op_gt (pe_callB call_len_seq (by rfl) len PySem.boot_len (pC (pv 1) pa_nil)) pe_int (nomark _)) (pss_one (ps_ret (pe_tup (pC pe_str (pC pe_non pa_nil))))) pss_nil)
   (pS (ps_for PassesOwn.never rfl (pi_range1 (by rfl) range (pC (pe_callB call_len_seq (by rfl) len PySem.boot_len (pC (pv 1) pa_nil)) pa_nil)) (pg_name (i:=3) nd rfl (Or.inl rfl))
    (pS (ps_asg (pe_ix (r:=rIxL K) ix_list (pv 1) (pv 3) (fun _ _=>rfl)) (pg_tup rfl (gC (pg_name (i:=4) nd rfl (Or.inl rfl)) (gC (pg_name (i:=5) nd rfl (Or.inl rfl)) (gC (pg_name (i:=6) nd rfl (Or.inl rfl)) pgs_nil)))))
   (pS (ps_if (pt_not (pt_val (pe_callD DW GW hr (pC (pv 4) pa_nil)))) (pss_one (ps_ret (pe_tup (pC pe_str (pC (pv 4) pa_nil))))) pss_nil)
   (pS (ps_if (pt_cmpR (r:=rIn K false) op_in_seq (pv 4) ?eN (by with_unfolding_all rfl)) (pss_one (ps_ret (pe_tup (pC pe_str (pC (pv 4) pa_nil))))) pss_nil)
   (pS (ps_if (PW.pt (pw_or (pt_cmpR op_lt (pv 5) pe_int (nomark _)) (pw_or (pt_cmpR op_gt (pv 5) pe_int (nomark _)) (pw_or1 (pt_cmpR op_gt (pe_callB call_len_seq (by rfl) len PySem.boot_len (pC (pv 6) pa_nil)) pe_int (nomark _)))))) (pss_one (ps_ret (pe_tup (pC pe_str (pC pe_non pa_nil))))) pss_nil)
   (pS (ps_for PassesOwn.never rfl (pi_range1 (by rfl) range (pC (pe_callB call_len_seq (by rfl) len PySem.boot_len (pC (pv 6) pa_nil)) pa_nil)) (pg_name (i:=7) nd rfl (Or.inl rfl))
     (pS (ps_set (i:=8) nd rfl (Or.inl rfl) (pe_ix (r:=rIxT K) ix_tup (pe_ix (r:=rIxS2 K) ix_or (pv 6) (pv 7) (fun _ _=>rfl)) pe_int (fun _ _=>rfl)))
   (pS (ps_if (PW.pt (pw_or (pt_cmpR op_ne (pe_callB call_len_seq (by rfl) len PySem.boot_len (pC (pv 8) pa_nil)) (pv 5) (nomark _)) (pw_or1 (pt_val (pe_callB (call_any rfl) (by rfl) any PyProof.Rows.boot_any (pC ?eK pa_nil)))))) (pss_one (ps_ret (pe_tup (pC pe_str (pC (pv 7) pa_nil))))) pss_nil)
   (pss_one (ps_if (pt_cmpR (op_inD (hu65 hr)) (pv 8) ?eP (by with_unfolding_all rfl)) (pss_one (ps_ret (pe_tup (pC pe_str (pC (pv 7) pa_nil))))) pss_nil)))))
   (pS ?eS
   (pss_one (ps_if (pt_cmpR (op_neD hu) (pv 9) (pe_lst pa_nil) (nomark _)) (pss_one (ps_ret (pe_tup (pC pe_str (pC (pe_ix (r:=rIxL K) ix_list (pv 9) pe_int (fun _ _=>rfl)) pa_nil))))) pss_nil)))))))))
   (pss_one (ps_ret pe_non))))),?_⟩
  case eW=>exact (pe_comp ["row"] [] [] (fun _=>compT_ok (osc:=defScope s__law_book_due) (on:=nBd) (by decide +kernel) rfl rfl rfl) (pi_list (pv 0)) (fun C s H fp=>pg_name (i:=0) nd_rw rfl (Or.inl rfl) (Or.inr rfl)) (fun C s H fp=>pts_nil) (fun C s H fp=>pe_ix (r:=rIxT K) ix_tup (pv 0) pe_int (fun _ _=>rfl)))
  case eN=>exact (pe_comp ["name"] [] [] (fun _=>compT_ok (osc:=defScope s__law_book_due) (on:=nBd) (by decide +kernel) rfl rfl rfl) (pi_list (pe_slice (r:=rSlL K) sl_list (pv 1) po_none (po_some (pv 3)))) (fun C s H fp=>pg_name (i:=0) nd_na rfl (Or.inl rfl) (Or.inr rfl)) (fun C s H fp=>pts_nil) (fun C s H fp=>pe_ix (r:=rIxT K) ix_tup (pv 0) pe_int (fun _ _=>rfl)))
  case eK=>exact (pe_comp ["kind"] ["words"] [2] (fun _=>compT_ok (osc:=defScope s__law_book_due) (on:=nBd) (by decide +kernel) rfl rfl rfl) (pi_tup (pv 8)) (fun C s H fp=>pg_name (i:=0) nd_kw rfl (Or.inl rfl) (Or.inr rfl)) (fun C s H fp=>pts_nil) (fun C s H fp=>pe_cmpR (r:=rIn K true) op_notIn_seq (pv 0) (pv 1) (by with_unfolding_all rfl)))
  case eP=>exact (pe_comp ["pair"] [] [] (fun _=>compT_ok (osc:=defScope s__law_book_due) (on:=nBd) (by decide +kernel) rfl rfl rfl) (pi_seq (pe_slice (SlR.or sl_list sl_tupA) (pv 6) po_none (po_some (pv 7)))) (fun C s H fp=>pg_name (i:=0) nd_pr rfl (Or.inl rfl) (Or.inr rfl)) (fun C s H fp=>pts_nil) (fun C s H fp=>pe_ix (r:=rIxT K) ix_tup (pv 0) pe_int (fun _ _=>rfl)))
  case eS=>exact (ps_setComp (k:=9) ["pair"] ["words"] [2] nd rfl rfl (fun _=>compT_ok (osc:=defScope s__law_book_due) (on:=nBd) (by decide +kernel) rfl rfl rfl) (pi_seq (pv 6)) (fun C s H fp=>pg_name (i:=0) nd_pw rfl (Or.inl rfl) (Or.inr rfl)) (fun C s H fp=>pts_one (pt_cmpR (r:=rIn K true) op_notIn_seq (pe_ix (r:=rIxT K) ix_tup (pv 0) pe_int (fun _ _=>rfl)) (pv 1) (by with_unfolding_all rfl))) (fun C s H fp=>pe_ix (r:=rIxT K) ix_tup (pv 0) pe_int (fun _ _=>rfl)))
  obtain ⟨rvs,hrvs,hrp⟩:=id hR
  have hul:=Paired.length hN
  refine ⟨_,rfl,l,rfl,⟨_,SqL.of hrvs⟩,comp_hd (runs_list (xs:=rvs)) (by rw [← hrp.length];omega) (fun v hv=>?_) (fun H' s'=>SqL.of (s' _ _ hrvs)) fun lw H1 hlw s1 hw1=>?_⟩
  ·obtain ⟨j,hj⟩:=List.getElem?_of_mem hv
   obtain ⟨r,_,t,u,e,h1,_⟩:=paired_at hrp hj
   exact ⟨t,_,_,e,h1⟩
  rw [hd_rowsX hrp] at hw1
  have two:∀ (H':Hp) (d:DuB) (t:Addr),H' t=none→Same H H'→BDue rows ns (some d)→Q (.ref t) (upd H' t (.tup [.str (duW d),duF d])):=fun H' d t ht s' bd=>q _ _ _ (s'.trans (snew ht)) bd ⟨t,rfl,uS⟩
  refine ⟨_,rfl,ln,_,rfl,.inl (SqL.of (s1 _ _ hln)),_,_,rfl,rfl,_,rfl,ite2 (fun z=>?_) (fun z=>?_)⟩
  ·have z:(8:Int)<(us.length:Int):=of_decide_eq_true z
   exact ⟨sL (by show 2≤100000;decide),fun t ht=>two H1 .many t ht s1 (.many (by omega))⟩
  have h8:ns.length≤8:=by
   have:¬ (8:Int)<(us.length:Int):=fun c=>z (decide_eq_true c)
   omega
  refine ⟨_,rfl,ln,_,rfl,.inl (SqL.of (s1 _ _ hln)),us.length,rfl,by omega,by omega,for_runs runs_range (fun i σ H'=>∃ x3 x4 x5 x6 x7 x8 x9:Option V,σ=[some (.ref l),some (.ref ln),some (.ref lw),x3,x4,x5,x6,x7,x8,x9]∧Same H1 H'∧∀ j m,j<i→ns[j]?=some m→NDue rows (ahd ns j) m none)
   ⟨none,none,none,none,none,none,none,rfl,Same.refl _,fun j m h=>absurd h (Nat.not_lt_zero _)⟩ (fun _ _ _ _ _=>trivial) ?_ ?_⟩
  ·rintro i v σ H2 hi ⟨x3,x4,x5,x6,x7,x8,x9,rfl,s2,ah⟩
   obtain ⟨hi2,rfl⟩:=rangeV_get hi
   have hi:i<us.length:=by simpa using hi2
   have hix:us[i]?=some us[i]:=List.getElem?_eq_getElem hi
   obtain ⟨nm,hnm,t,tp,bb,ws,et,ht,htp,hps⟩:=paired_at hN hix
   have o:=ok nm (List.mem_of_getElem? hnm)
   have s02:=s1.trans s2
   have hln2:=s02 _ _ hln
   have hw2:=s2 _ _ hw1
   have ht2:=s02 _ _ ht
   have hat:atI us (0 + ((i:Nat):Int))=some (.ref t):=by rw [Int.zero_add,← et];exact atI_nat hix
   have bad:∀ {e:DuB},NDue rows (ahd ns i) nm (some e)→BDue rows ns (some e):=fun h=>.bad i nm h8 hnm ah h
   refine ⟨_,rfl,_,rfl,ln,_,_,_,rfl,rfl,SqL.of hln2,hat,t,_,rfl,SqT.of ht2,rfl,_,_,rfl,_,_,rfl,_,_,rfl,rfl,?_⟩
   refine ⟨_,rfl,nm.1,rfl,by have:=o.w.1;omega,fun H3 s3=>⟨_,rfl,?_⟩⟩
   have s03:=s02.trans s3
   cases hw:isWord nm.1 with
   | false=>exact iteT ⟨_,rfl,sL (by show 2≤100000;decide),fun t' ht'=>two H3 (.noN nm.1) t' ht' s03 (bad (.noN hw))⟩
   | true =>
   refine iteF ?_
   have hln3:=s3 _ _ hln2
   refine ⟨_,rfl,_,rfl,_,rfl,_,rfl,ln,_,rfl,SqL.of hln3,fun lp hlp=>?_⟩
   rw [show (0 + ((i:Nat):Int))=((i:Nat):Int) by omega,cut_take]
   have s4:Same H3 (upd H3 lp (.lst (us.take i))):=snew hlp
   have h4:(upd H3 lp (.lst (us.take i))) lp=some (.lst (us.take i)):=uS
   generalize upd H3 lp (.lst (us.take i))=H4 at s4 h4 ⊢
   have s04:=s03.trans s4
   have hN4:NamesX K H4 (ns.take i) (us.take i):=Paired.takeD i (hN.mono s04)
   refine ⟨lp,rfl,⟨_,SqL.of h4⟩,comp_hd (runs_list (xs:=us.take i)) (by rw [List.length_take];omega) (fun v hv=>?_) (fun H' s'=>SqL.of (s' _ _ h4)) fun lh H5 hlh s5 hh5=>?_⟩
   ·obtain ⟨j,hj⟩:=List.getElem?_of_mem hv
    obtain ⟨n',_,t',_,_,_,e,h1,_⟩:=paired_at hN4 hj
    exact ⟨t',_,_,e,h1⟩
   rw [hd_names hN4] at hh5
   have s05:=s04.trans s5
   refine ⟨lh,_,rfl,.inl (SqL.of hh5),rfl,by rw [List.all_map,List.all_eq_true];exact fun _ _=>rfl,_,rfl,?_⟩
   rw [if_neg (by decide),in_strs]
   by_cases hin:nm.1∈ahd ns i
   ·rw [show decide (nm.1∈(ns.take i).map (·.1))=true from decide_eq_true hin]
    exact iteT ⟨_,rfl,sL (by show 2≤100000;decide),fun t' ht'=>two H5 (.twice nm.1) t' ht' s05 (bad (.twice hw hin))⟩
   rw [show decide (nm.1∈(ns.take i).map (·.1))=false from decide_eq_false hin]
   refine iteF ?_
   have htp5:=htp.mono s05
   have hwl:=Paired.length hps
   have brd:(¬ (1≤nm.2.1∧nm.2.1≤4)∨64<(nm.2.2.map (·.1)).length)→BDue rows ns (some .board):=fun c=>bad (.bad (i:=8) (k:=0) hw hin (.board c))
   have say:∀ (t':Addr),H5 t'=none→(¬ (1≤nm.2.1∧nm.2.1≤4)∨64<(nm.2.2.map (·.1)).length)→Q (.ref t') (upd H5 t' (.tup [.str "NoBoard",.non])):=fun t' ht' c=>two H5 .board t' ht' s05 (brd c)
   refine ⟨_,rfl,_,_,rfl,rfl,_,rfl,ite2 (fun z1=>?_) (fun z1=>?_)⟩
   ·have z1:nm.2.1<1:=of_decide_eq_true z1
    exact iteT ⟨sL (by show 2≤100000;decide),fun t' ht'=>say t' ht' (.inl (by omega))⟩
   have z1:¬ nm.2.1<1:=fun c=>z1 (decide_eq_true c)
   refine ⟨_,rfl,_,_,rfl,rfl,_,rfl,ite2 (fun z2=>?_) (fun z2=>?_)⟩
   ·have z2:(4:Int)<nm.2.1:=of_decide_eq_true z2
    exact iteT ⟨sL (by show 2≤100000;decide),fun t' ht'=>say t' ht' (.inl (by omega))⟩
   have z2:¬ (4:Int)<nm.2.1:=fun c=>z2 (decide_eq_true c)
   refine ⟨_,rfl,tp,_,rfl,sq_or htp5,_,_,rfl,rfl,_,rfl,ite2 (fun z3=>?_) (fun z3=>?_)⟩
   ·have z3:(64:Int)<(ws.length:Int):=of_decide_eq_true z3
    exact ⟨sL (by show 2≤100000;decide),fun t' ht'=>say t' ht' (.inr (by rw [List.length_map];omega))⟩
   have z3:¬ (64:Int)<(ws.length:Int):=fun c=>z3 (decide_eq_true c)
   obtain ⟨n,en⟩:∃ n:Nat,nm.2.1=n:=⟨nm.2.1.toNat,by omega⟩
   have few:(nm.2.2.map (·.1)).length≤64:=by rw [List.length_map];omega
   have hD:DeedsV H (nm.2.2.map (·.1)) (ws.map (hd1 H)):=prs_hd hps
   have wkd:∀ d∈nm.2.2.map (·.1),d.length≤1000∧∀ x∈d,WOk x:=fun d hd=>by
    obtain ⟨p,hp,e⟩:=List.mem_map.mp hd
    rw [← e];exact ⟨o.deed p hp,o.dk p hp⟩
   have hw5:=s5 _ _ (s4 _ _ (s3 _ _ hw2))
   have dl:(nm.2.2.map (·.1)).length=ws.length:=by rw [List.length_map];exact hwl
   refine ⟨_,rfl,tp,_,rfl,sq_or htp5,ws.length,rfl,by omega,by omega,for_runs runs_range (fun j σ H'=>∃ x7 x8:Option V,σ=[some (.ref l),some (.ref ln),some (.ref lw),some (.int ((i:Nat):Int)),some (.str nm.1),some (.int nm.2.1),some (.ref tp),x7,x8,x9]∧Same H5 H'∧(∀ d∈(nm.2.2.map (·.1)).take j,callB rows n d=true)∧((nm.2.2.map (·.1)).take j).Nodup)
    ⟨x7,x8,rfl,Same.refl _,(fun d hd=>by rw [List.take_zero] at hd;cases hd),by rw [List.take_zero];exact .nil⟩ (fun _ _ _ _ _=>trivial) ?_ ?_⟩
   ·rintro j v σ H6 hj ⟨x7',x8',rfl,s6,cb,ndk⟩
    obtain ⟨hj2,rfl⟩:=rangeV_get hj
    have hj:j<ws.length:=by simpa using hj2
    have hjx:ws[j]?=some ws[j]:=List.getElem?_eq_getElem hj
    obtain ⟨pr,hpr,tq,td,eq,hq1,hq2⟩:=paired_at hps hjx
    have s06:=s05.trans s6
    have htp6:=htp5.mono s6
    have hatj:atI ws (0 + ((j:Nat):Int))=some (.ref tq):=by rw [Int.zero_add,← eq];exact atI_nat hjx
    have hdj:(nm.2.2.map (·.1))[j]?=some pr.1:=by rw [List.getElem?_map,hpr];rfl
    have hmem:=List.mem_of_getElem? hdj
    have hq16:=s06 _ _ hq1
    have hq26:=s06 _ _ hq2
    have ix:rIxS2 K (.ref tp) (.int (0 + ((j:Nat):Int))) H6=rIxS2 K (.ref tp) (.int (0 + ((j:Nat):Int))) H6:=rfl
    have go:∀ {R:VK},R (.ref tq) H6→rIxS2 K (.ref tp) (.int (0 + ((j:Nat):Int))) H6 R:=fun {R} h=>by
     rcases sq_or htp6 with c | c
     ·exact .inl ⟨tp,_,_,_,rfl,rfl,c,hatj,h⟩
     ·exact .inr ⟨tp,_,_,_,rfl,rfl,c,hatj,h⟩
    have badd:callB rows n pr.1=false→BDue rows ns (some (.noD j)):=fun c=>bad (.bad (i:=4) (k:=j) hw hin (.bad n en (by omega) (by omega) few ⟨⟨pr.1,hdj,.inl ⟨rfl,c⟩⟩,cb,ndk⟩))
    refine ⟨_,rfl,_,rfl,go ⟨tq,_,_,_,rfl,rfl,SqT.of hq16,at0 _ _,?_⟩⟩
    refine ⟨_,rfl,td,_,rfl,.inr (SqT.of hq26),_,rfl,rfl,_,rfl,?_⟩
    have e:(!decide (V.int ((pr.1.map V.str).length:Nat)=V.int nm.2.1))=!decide (pr.1.length=n):=by
     rw [List.length_map]
     congr 1
     exact decide_eq_decide.mpr ⟨fun z=>by injection z with z;omega,fun z=>by rw [z,en]⟩
    rw [e]
    have ret:∀ (H':Hp) (d:DuB) (wd:Str),Same H H'→duW d=wd→duF d=.int ((j:Nat):Int)→BDue rows ns (some d)→∀ t',H' t'=none→Q (.ref t') (upd H' t' (.tup [.str wd,.int (0 + ((j:Nat):Int))])):=fun H' d wd s' e1 e2 bd t' ht'=>by
     have:=two H' d t' ht' s' bd
     rw [e1,e2] at this
     rw [Int.zero_add]
     exact this
    by_cases hn:¬ pr.1.length=n
    ·rw [decide_eq_false hn]
     exact iteT (iteT ⟨_,rfl,sL (by show 2≤100000;decide),fun t' ht'=>ret H6 (.noD j) _ s06 rfl rfl (badd (by unfold callB;rw [decide_eq_false hn];rfl)) t' ht'⟩)
    have hn:=Decidable.not_not.mp hn
    rw [decide_eq_true hn]
    have hw6:=s6 _ _ hw5
    refine iteF ⟨_,rfl,td,rfl,⟨_,SqT.of hq26⟩,comp_val (runs_tup (xs:=pr.1.map V.str)) (sL (by rw [List.length_map];have:=(wkd _ hmem).1;omega)) (fun _=>true) (strayV (rows.map (·.1))) (fun H' s'=>SqT.of (s' _ _ hq26)) ?_ ?_ ?_⟩
    ·intro v H' R s' _ hR
     exact hR H' (Same.refl _)
    ·intro v H' R s' hv _ hR
     obtain ⟨z,hz,rfl⟩:=List.mem_map.mp hv
     refine ⟨_,rfl,_,rfl,lw,_,rfl,.inl (SqL.of (s' _ _ hw6)),rfl,?_,?_⟩
     ·rw [List.all_map,List.all_eq_true];exact fun _ _=>rfl
     rw [if_pos rfl,in_strs]
     exact hR H' (Same.refl _)
    ·intro D H7 hD0 s7 hl7
     obtain ⟨ea,eb⟩:=stray_any (rows.map (·.1)) pr.1
     rw [ea] at hl7
     refine ⟨D,(pr.1.map fun x=>!decide (x∈rows.map (·.1))),rfl,SqL.of hl7,(pr.1.map fun x=>!decide (x∈rows.map (·.1))).any id,rfl,?_⟩
     rw [eb]
     have s07:=s06.trans s7
     have ec:callB rows n pr.1=pr.1.all fun x=>decide (x∈rows.map (·.1)):=by unfold callB;rw [decide_eq_true hn,Bool.true_and]
     rw [← ec]
     cases hc:callB rows n pr.1 with
     | false=>exact iteT ⟨_,rfl,sL (by show 2≤100000;decide),fun t' ht'=>ret H7 (.noD j) _ s07 rfl rfl (badd hc) t' ht'⟩
     | true =>
      refine iteF ⟨_,rfl,_,rfl,_,rfl,_,rfl,sl_of (htp6.mono s7) fun b' p H8 s8 hp8=>?_⟩
      rw [show (0 + ((j:Nat):Int))=((j:Nat):Int) by omega,cut_take] at hp8
      have s08:=s07.trans s8
      have hps8:PrsV H8 (nm.2.2.take j) (ws.take j):=Paired.takeD j (hps.mono (tupsS s08))
      refine ⟨b',p,_,rfl,hp8,comp_hd runs_seq (by rw [List.length_take];omega) (fun v hv=>?_) (fun H' s'=>hp8.mono s') fun lq H9 hlq s9 hq9=>?_⟩
      ·obtain ⟨m,hm⟩:=List.getElem?_of_mem hv
       obtain ⟨_,_,t',_,e,h1,_⟩:=paired_at hps8 hm
       exact ⟨t',_,_,e,h1⟩
      have s09:=s08.trans s9
      have hD9:DeedsV H9 ((nm.2.2.take j).map (·.1)) ((ws.take j).map (hd1 H8)):=(prs_hd hps8).mono s9
      rw [List.map_take] at hD9
      refine ⟨datC pr.1,((nm.2.2.map (·.1)).take j).map datC,rep_call (s09 _ _ hq2),.list (SqL.of hq9) (reps_deeds hD9),ok_callW 8 (wkd _ hmem).2,ok_deedsW 7 (fun d' hd'=>(wkd d' (List.mem_of_mem_take hd')).2),_,rfl,?_⟩
      rw [any_deed]
      by_cases hin2:pr.1∈(nm.2.2.map (·.1)).take j
      ·rw [show id (decide (pr.1∈(nm.2.2.map (·.1)).take j))=true from decide_eq_true hin2]
       exact iteT ⟨_,rfl,sL (by show 2≤100000;decide),fun t' ht'=>ret H9 (.same j) _ s09 rfl rfl (bad (.bad (i:=5) (k:=j) hw hin (.bad n en (by omega) (by omega) few ⟨⟨pr.1,hdj,.inr ⟨rfl,hc,hin2⟩⟩,cb,ndk⟩))) t' ht'⟩
      ·rw [show id (decide (pr.1∈(nm.2.2.map (·.1)).take j))=false from decide_eq_false hin2]
       have et':(nm.2.2.map (·.1)).take (j + 1)=(nm.2.2.map (·.1)).take j++[pr.1]:=by rw [List.take_add_one,hdj];rfl
       refine iteF ⟨_,_,rfl,((s6.trans s7).trans s8).trans s9,fun d' hd'=>?_,?_⟩
       ·rw [et'] at hd'
        rcases List.mem_append.mp hd' with z | z
        ·exact cb d' z
        ·rw [List.mem_singleton.mp z];exact hc
       ·rw [et',List.nodup_append]
        exact ⟨ndk,by simp,fun a ha b hb e=>hin2 (by rw [← List.mem_singleton.mp hb,← e];exact ha)⟩
   ·rintro σ H6 ⟨x7',x8',rfl,s6,cb,ndk⟩
    rw [rangeV_len,show (((ws.length:Nat):Int)).toNat=(nm.2.2.map (·.1)).length by omega,List.take_length] at cb ndk
    have gd:Due rows nm.2.1 (nm.2.2.map (·.1)) none:=.good n en (by omega) (by omega) ⟨fun d hd=>by
     have:=cb d hd
     unfold callB at this
     rw [Bool.and_eq_true,List.all_eq_true] at this
     exact ⟨of_decide_eq_true this.1,fun x hx=>of_decide_eq_true (this.2 x hx)⟩,ndk,few⟩
    have s06:=s05.trans s6
    have htp6:=htp5.mono s6
    have hps6:PrsV H6 nm.2.2 ws:=hps.mono (tupsS s06)
    have hw6:=s6 _ _ hw5
    refine ⟨_,rfl,bb,tp,_,rfl,htp6,comp_val runs_seq (sL (by omega)) (fun v=>match snP H6 v with | .str x=>decide (x∉rows.map (·.1)) | _=>false) (snP H6) (fun H' s'=>htp6.mono s') ?_ ?_ ?_⟩
    ·intro v H' R s' hv hR
     obtain ⟨m,hm⟩:=List.getElem?_of_mem hv
     obtain ⟨pp,_,t',tc,rfl,h1,_⟩:=paired_at hps6 hm
     rw [snP_at h1] at hR
     refine ⟨_,rfl,t',_,_,_,rfl,rfl,SqT.of (s' _ _ h1),atI_nat (j:=1) rfl,_,rfl,lw,_,rfl,.inl (SqL.of (s' _ _ hw6)),rfl,by rw [List.all_map,List.all_eq_true];exact fun _ _=>rfl,_,rfl,?_⟩
     rw [if_pos rfl,in_strs,← decide_not]
     exact hR H' (Same.refl _)
    ·intro v H' R s' hv _ hR
     obtain ⟨m,hm⟩:=List.getElem?_of_mem hv
     obtain ⟨pp,_,t',tc,rfl,h1,_⟩:=paired_at hps6 hm
     rw [snP_at h1] at hR
     exact ⟨_,rfl,t',_,_,_,rfl,rfl,SqT.of (s' _ _ h1),atI_nat (j:=1) rfl,hR H' (Same.refl _)⟩
    intro ls H7 hls s7 hl7
    have ef:(ws.filter fun v=>match snP H6 v with | .str x=>decide (x∉rows.map (·.1)) | _=>false).map (snP H6)=((nm.2.2.map (·.2)).filter fun x=>decide (x∉rows.map (·.1))).map V.str:=by
     have:∀ {ps:List (LS×Str)} {vs:List V},PrsV H6 ps vs→(vs.filter fun v=>match snP H6 v with | .str x=>decide (x∉rows.map (·.1)) | _=>false).map (snP H6)=((ps.map (·.2)).filter fun x=>decide (x∉rows.map (·.1))).map V.str:=fun {ps vs} h=>by
      induction h with
      | nil=>rfl
      | cons a _ ih =>
       have ea:=pairV_snd a
       rw [List.map_cons,List.filter_cons,List.filter_cons,ea]
       dsimp only
       split
       ·rw [List.map_cons,List.map_cons,ih,ea]
       ·exact ih
     exact this hps6
    rw [ef] at hl7
    have s07:=s06.trans s7
    have eM:strM rows nm.2.2=((nm.2.2.map (·.2)).filter fun x=>decide (x∉rows.map (·.1))).head?:=by unfold strM;rw [List.head?_filter]
    have fy:∀ y∈(nm.2.2.map (·.2)).filter (fun x=>decide (x∉rows.map (·.1))),WOk y:=fun y hy=>by
     obtain ⟨p,hp,e⟩:=List.mem_map.mp (List.mem_filter.mp hy).1
     rw [← e];exact o.ma p hp
    generalize (nm.2.2.map (·.2)).filter (fun x=>decide (x∉rows.map (·.1)))=ys at hl7 eM fy
    refine ⟨_,rfl,Nat.zero_le _,fun le hle=>?_⟩
    have s8:Same H7 (upd H7 le (.lst [])):=snew hle
    have h8':(upd H7 le (.lst [])) le=some (.lst []):=uS
    generalize upd H7 le (.lst [])=H8 at s8 h8' ⊢
    have s08:=s07.trans s8
    have okd:W.kqdOk 9 (.list (ys.map W.Dat.str))=true:=by
     show (ys.map W.Dat.str).all (W.kqdOk 8)=true
     rw [List.all_eq_true]
     intro d hd
     obtain ⟨x,hx,rfl⟩:=List.mem_map.mp hd
     exact fy x hx
    refine ⟨.list (ys.map W.Dat.str),.list [],.list (SqL.of (s8 _ _ hl7)) (reps_strs ys),.list (SqL.of h8') .nil,okd,by decide,_,rfl,?_⟩
    cases ys with
    | cons y r =>
     rw [dEq_neg (by simp)]
     exact iteT ⟨_,rfl,ls,_,_,_,rfl,rfl,SqL.of (s8 _ _ hl7),at0 _ _,sL (by show 2≤100000;decide),fun t' ht'=>two H8 (.noK y) t' ht' s08 (bad (.noK hw hin gd eM))⟩
    | nil =>
     rw [show W.Dat.list (([]:LS).map W.Dat.str)=.list [] from rfl,dEq_self]
     refine iteF ⟨_,_,_,_,_,_,_,rfl,((((s2.trans s3).trans s4).trans s5).trans s6).trans (s7.trans s8),fun j m hjm hm=>?_⟩
     rcases Nat.lt_or_eq_of_le (Nat.le_of_lt_succ hjm) with c | c
     ·exact ah j m c hm
     ·rw [c,hnm] at hm
      have em:=Option.some.inj hm
      rw [c,← em]
      exact .fine hw hin gd eM
  ·rintro σ H2 ⟨x3,x4,x5,x6,x7,x8,x9,rfl,s2,ah⟩
   rw [rangeV_len] at ah
   refine q none .non H2 (s1.trans s2) (.fine h8 fun j m hm=>ah j m ?_ hm) rfl
   have:=(List.getElem?_eq_some_iff.mp hm).1
   omega
def FitS (x:Str):Prop:=x.length≤20∧∀ c∈x.cps.toList,c<128
instance (x:Str):Decidable (FitS x):=by unfold FitS;infer_instance
def FitS.shows {x:Str}(h:FitS x):Shows x:=⟨by have:=h.1;omega,fun c hc=>by have:=h.2 c hc;exact Nat.lt_trans this (by decide)⟩
def FitS.ok {x:Str}(h:FitS x):PyData.strOk x=true:=by
 unfold PyData.strOk
 rw [Array.all_eq_true']
 intro c hc
 have:=h.2 c (Array.mem_toList_iff.mpr hc)
 exact decide_eq_true (by omega)
def FitS.word {x:Str}(h:isWord x=true):FitS x:=by
 have l:=(word_len h).2
 refine ⟨by omega,fun c hc=>?_⟩
 have:=((isWord_iff x).mp h).2 c hc
 unfold isLow at this
 have:=of_decide_eq_true this
 omega
def some12:LS:=["","abcdefghi","Abc","a b","a1","-","a_b"," a","a ","kinD","{","`a"]
def some12_fit:∀ x∈some12,FitS x:=by decide +kernel
def spNoWord:Sp:=fun vs H Q _=>∃ (p:Addr),vs=[.ref p]∧(∃ o,H p=some o∧PotO o)∧∀ x H',Drawn p H H'→FitS x→Q (.str x) H'
def rep_one (x:Str) (k:Nat):(List.replicate k [V.str x]).flatten=(List.replicate k x).map V.str:=by
 induction k with
 | zero=>rfl
 | succ k ih=>rw [List.replicate_succ,List.flatten_cons,ih,List.replicate_succ];rfl
def good_wok {rows:RS}(g:Good rows):WordsOk (rows.map (·.1)):=⟨fun x hx=>by
 obtain ⟨r,hr,rfl⟩:=List.mem_map.mp hx
 exact g.word r hr,g.nd⟩
def NameY (H:Hp) (n:NmX) (v:V):Prop:=∃ (t tp:Addr) (vs:List V),v=V.ref t∧H t=some (.tup [.str n.1,.int n.2.1,.ref tp])∧(H tp=some (.tup vs)∨H tp=some (.lst vs))∧PrsV H n.2.2 vs
def NameY.x {K:Fg}{H:Hp}{n:NmX}{v:V}(h:NameY H n v):NameX K H n v:=by
 obtain ⟨t,tp,vs,e,h1,h2 | h2,h3⟩:=h
 ·exact ⟨t,tp,false,vs,e,h1,SqT.of h2,h3⟩
 ·exact ⟨t,tp,true,vs,e,h1,SqL.of h2,h3⟩
def NameY.keep {H H':Hp}{z:Addr}{us:List V}(hz:H z=some (.lst us)) (no:∀ ps,¬ PrsV H ps us) (k:∀ b o,b≠z→H b=some o→H' b=some o) {n:NmX}{v:V}(h:NameY H n v):NameY H' n v:=by
 obtain ⟨t,tp,vs,e,h1,h2,h3⟩:=h
 have tu:∀ {b:Addr} {xs:List V},H b=some (.tup xs)→H' b=some (.tup xs):=fun {b xs} e=>k _ _ (fun c=>by rw [c,hz] at e;cases e) e
 refine ⟨t,tp,vs,e,tu h1,?_,h3.mono fun b xs e=>tu e⟩
 rcases h2 with h2 | h2
 ·exact .inl (tu h2)
 ·refine .inr (k _ _ (fun c=>?_) h2)
  rw [c,hz] at h2
  injection h2 with h2
  injection h2 with h2
  exact no _ (h2 ▸ h3)
abbrev NamesY (H:Hp) (ns:List NmX) (vs:List V):Prop:=Paired (NameY H) ns vs
def NameY.same {H H':Hp}(s:Same H H') {n:NmX}{v:V}(h:NameY H n v):NameY H' n v:=by
 obtain ⟨t,tp,vs,e,h1,h2,h3⟩:=h
 exact ⟨t,tp,vs,e,s _ _ h1,h2.elim (fun z=>.inl (s _ _ z)) (fun z=>.inr (s _ _ z)),h3.mono (tupsS s)⟩
def pot_no {H:Hp}{p:Addr}{o:HO}(hp:H p=some o) (ho:PotO o):∃ us,H p=some (.lst us)∧∀ ps,¬ PrsV H ps us:=by
 obtain ⟨r,b,e,_⟩:=ho
 refine ⟨_,by rw [hp,e],fun ps h=>?_⟩
 cases h with
 | cons a _=>obtain ⟨_,_,e,_⟩:=a;cases e
def NameY.drawn {p:Addr}{H H':Hp}{o:HO}(hp:H p=some o) (ho:PotO o) (d:Drawn p H H') {n:NmX}{v:V}(h:NameY H n v):NameY H' n v:=by
 obtain ⟨us,h1,h2⟩:=pot_no hp ho
 exact h.keep h1 h2 d.keep
def names_no {H:Hp}{ns:List NmX}{us:List V}(h:NamesY H ns us) (ne:us≠[]):∀ ps,¬ PrsV H ps us:=fun ps hp=>by
 cases h with
 | nil=>exact ne rfl
 | cons a _ =>
  cases hp with
  | cons b _ =>
   obtain ⟨t,tp,vs,rfl,h1,_⟩:=a
   obtain ⟨t',tc,e,h2,_⟩:=b
   injection e with e
   rw [← e,h1] at h2
   injection h2 with h2
   injection h2 with h2
   injection h2 with _ h2
   injection h2 with _ h2
   cases h2
def prD (p:LS×Str):Dt:=.tuple [datC p.1,.str p.2]
theorem prs_reps {K:Fg}{H:Hp}:∀ {ps:List (LS×Str)}{vs:List V},PrsV H ps vs→Reps K H vs (ps.map prD)
 | _,_,.nil=>.nil
 | _,_,.cons ⟨t,tc,e,h1,h2⟩ r=>by
  subst e
  exact .cons (.tuple (SqT.of h1) (.cons (rep_call h2) (.cons (.str _) .nil))) (prs_reps r)
structure FitP (p:LS×Str):Prop where
 le:p.1.length≤100
 ws:∀ x∈p.1,FitS x
 m:FitS p.2
def ok_prD (n:Nat) {p:LS×Str}(h:FitP p):W.kqdOk (n + 2) (prD p)=true:=by
 show (W.kqdOk (n + 1) (datC p.1)&&(W.kqdOk (n + 1) (.str p.2)&&true))=true
 rw [ok_callW n fun x hx=>(h.ws x hx).ok,ok_strW (n + 1) h.m.ok]
 rfl
def ok_prs (n:Nat) {ps:List (LS×Str)}(h:∀ p∈ps,FitP p):(ps.map prD).all (W.kqdOk (n + 2))=true:=by
 rw [List.all_eq_true]
 intro z hz
 obtain ⟨p,hp,rfl⟩:=List.mem_map.mp hz
 exact ok_prD n (h p hp)
structure FitY (n:NmX):Prop where
 w:FitS n.1
 ps:∀ p∈n.2.2,FitP p
theorem FitY.ok {n:NmX}(h:FitY n) (few:n.2.2.length≤200):OkN n :=
 ⟨⟨h.w.shows,few,fun p hp=>by have:=(h.ps p hp).le;omega,fun p hp=>(h.ps p hp).m.shows⟩,h.w.ok,fun p hp x hx=>((h.ps p hp).ws x hx).ok,fun p hp=>(h.ps p hp).m.ok⟩
def cut_strs (xs:LS) (lo hi:Option Int):∃ ys:LS,cutV (xs.map V.str) lo hi=ys.map V.str∧(∀ y∈ys,y∈xs)∧ys.length≤xs.length:=by
 unfold cutV
 rw [← List.map_drop,← List.map_take]
 exact ⟨_,rfl,fun y hy=>List.mem_of_mem_drop (List.mem_of_mem_take hy),by rw [List.length_take,List.length_drop];omega⟩
structure Bt (p:Addr) (H H':Hp) (lp:Addr) (ps:List (LS×Str)):Prop where
 d:Drawn p H H'
 n:H lp=none
 np:lp≠p
 at_:∃ vs,H' lp=some (.lst vs)∧PrsV H' ps vs
 fit:∀ q∈ps,FitP q
theorem Bt.same {p:Addr}{H H1 H2:Hp}{lp:Addr}{ps:List (LS×Str)}(b:Bt p H H1 lp ps) (s:Same H1 H2):Bt p H H2 lp ps:=by
 obtain ⟨vs,h1,h2⟩:=b.at_
 exact ⟨b.d.same s,b.n,b.np,⟨vs,s _ _ h1,h2.mono (tupsS s)⟩,b.fit⟩
def Bt.draw {p:Addr}{H H1 H2:Hp}{lp:Addr}{ps:List (LS×Str)}(b:Bt p H H1 lp ps) (d:Drawn p H1 H2):Bt p H H2 lp ps:=by
 obtain ⟨vs,h1,h2⟩:=b.at_
 obtain ⟨o,hp,ho⟩:=b.d.pot
 exact ⟨b.d.trans d,b.n,b.np,⟨vs,d.keep _ _ b.np h1,h2.mono fun _ _ e=>Drawn.tup d hp ho e⟩,b.fit⟩
def Bt.put {p:Addr}{H H1:Hp}{lp:Addr}{ps ps':List (LS×Str)}{vs':List V}(b:Bt p H H1 lp ps) (h:PrsV H1 ps' vs') (f:∀ q∈ps',FitP q):Bt p H (upd H1 lp (.lst vs')) lp ps':=by
 obtain ⟨vs,h1,_⟩:=b.at_
 obtain ⟨o,hp,ho⟩:=b.d.pot
 refine ⟨⟨fun c u hc e=>?_,o,?_,ho⟩,b.n,b.np,⟨vs',uS,h.mono fun c xs e=>?_⟩,f⟩
 ·rw [upd_ne (nNo e b.n)];exact b.d.keep _ _ hc e
 ·rw [upd_ne (Ne.symm b.np)];exact hp
 ·rw [upd_ne (fun z=>by rw [z,h1] at e;cases e)];exact e
def prs_ins {H:Hp}{ps:List (LS×Str)}{vs:List V}{p:LS×Str}{v:V}(h:PrsV H ps vs) (hp:PrV H p v) (j:Nat):PrsV H (ps.take j++p :: ps.drop j) (vs.take j++v :: vs.drop j):=by
 have:∀ {a c:List (LS×Str)} {b d:List V},PrsV H a b→PrsV H c d→PrsV H (a++c) (b++d):=fun {a c b d} h1 h2=>by
  induction h1 with
  | nil=>exact h2
  | cons x _ ih=>exact .cons x ih
 have dr:∀ {a:List (LS×Str)} {b:List V} (k:Nat),PrsV H a b→PrsV H (a.drop k) (b.drop k):=fun {a b} k h=>by
  induction k generalizing a b with
  | zero=>exact h
  | succ k ih =>
   cases h with
   | nil=>exact .nil
   | cons _ r=>exact ih r
 exact this (Paired.takeD j h) (.cons hp (dr j h))
def fit_ins {ps:List (LS×Str)}{p:LS×Str}(h:∀ q∈ps,FitP q) (hp:FitP p) (j:Nat):∀ q∈ps.take j++p :: ps.drop j,FitP q:=fun q hq=>by
 rcases List.mem_append.mp hq with c | c
 ·exact h q (List.mem_of_mem_take c)
 ·rcases List.mem_cons.mp c with c | c
  ·rw [c];exact hp
  ·exact h q (List.mem_of_mem_drop c)
theorem prs_set {H:Hp}:∀ {ps:List (LS×Str)}{vs:List V}{p:LS×Str}{v:V},PrsV H ps vs→PrV H p v→∀ j,PrsV H (ps.set j p) (vs.set j v)
 | _,_,_,_,.nil,_,_=>.nil
 | _,_,_,_,.cons _ r,hp,0=>.cons hp r
 | _,_,_,_,.cons x r,hp,j + 1=>.cons x (prs_set r hp j)
def prs_cat {H:Hp}{a:List (LS×Str)}{b:List V}(h:PrsV H a b) {p:LS×Str}{v:V}(hp:PrV H p v) (k:Nat):PrsV H (a++List.replicate k p) (b++(List.replicate k [v]).flatten):=by
 have rp:PrsV H (List.replicate k p) (List.replicate k [v]).flatten:=by
  induction k with
  | zero=>exact .nil
  | succ k ih=>exact .cons hp ih
 induction h with
 | nil=>exact rp
 | cons x _ ih=>exact .cons x ih
def spStrange:Sp:=fun vs H Q _=>∃ (p lw:Addr) (ws:LS),vs=[.ref p,.ref lw]∧p≠lw∧(∃ o,H p=some o∧PotO o)∧H lw=some (.lst (ws.map V.str))∧WordsOk ws∧ws.length≤24∧∀ x H',Drawn p H H'→FitS x→Q (.str x) H'
def spBentN:Sp:=fun vs H Q _=>∃ (p lw ln:Addr) (ws:LS) (ns:List NmX) (us:List V) (n:NmX) (v:V) (m:Nat),vs=[.ref p,.ref lw,.ref ln,v]∧p≠lw∧p≠ln∧(∃ o,H p=some o∧PotO o)∧H lw=some (.lst (ws.map V.str))∧WordsOk ws∧1≤ws.length∧ws.length≤24∧H ln=some (.lst us)∧NamesY H ns us∧(∀ n∈ns,FitY n)∧us≠[]∧us.length≤1000∧NameY H n v∧FitY n∧n.2.2.length≤m∧73≤m∧m≤100 ∧
 ∀ v' n' H',Drawn p H H'→NameY H' n' v'→FitY n'→n'.2.2.length≤m + 1→Q v' H'
abbrev nNw:LS:=["pot","some","way"]
def scNw:FnScope nNw ["pot"] (defScope s__law_no_word):=by nofun
def t12:TE:=tTup (fun _ H Q=>Q (some12.map V.str) H)
def s12:Stmt:=hdS (defBody s__law_no_word)
def e12x:Expr:=bodyE s12
def e12:tupStrs e12x=some some12:=by decide +kernel
def a12:asgs s12=some (("some":Str),e12x):=by rfl
def u12:isTup e12x=true:=by decide +kernel
def p12 {X:Cx}:PE X e12x t12:=@pe_tupOf X some12 e12x e12
def ps_12 {X:Cx}(hN:X.N.Nodup) (hi:X.N[1]?=some ("some":Str)) (hx:Loc X.env.scope ("some":Str)) (hf:X.fn ("some":Str)=true∨X.env.scope.names.lookup ("some":Str)=some NameKind.local):PS X s12 (tAsg t12 (gName 1)):=
 @ps_asgs X s12 1 ("some":Str) e12x t12 a12 (@p12 X) u12 hN hi hx hf
def n12:(defBody s__law_no_word).isEmpty=false:=by decide +kernel
def pss_12 {X:Cx}{u:TS}(hN:X.N.Nodup) (hi:X.N[1]?=some ("some":Str)) (hx:Loc X.env.scope ("some":Str)) (hf:X.fn ("some":Str)=true∨X.env.scope.names.lookup ("some":Str)=some NameKind.local) (h2:PSs X (tlS (defBody s__law_no_word)) u):PSs X (defBody s__law_no_word) (tSeq (tAsg t12 (gName 1)) u):=
 @pss_hd X (defBody s__law_no_word) (tAsg t12 (gName 1)) u n12 (@ps_12 X hN hi hx hf) h2
def ex_12 {X:Cx}{D:Ends}{σ:St}{H:Hp}(hN:X.N.Nodup) (hi:X.N[1]?=some ("some":Str)) (hx:Loc X.env.scope ("some":Str)) (hf:X.fn ("some":Str)=true∨X.env.scope.names.lookup ("some":Str)=some NameKind.local)
  (h:∃ u,PSs X (tlS (defBody s__law_no_word)) u∧tSeq (tAsg t12 (gName 1)) u D σ H):∃ t,PSs X (defBody s__law_no_word) t∧t D σ H:=by
 obtain ⟨u,h1,h2⟩:=h
 exact ⟨tSeq (tAsg t12 (gName 1)) u,@pss_12 X u hN hi hx hf h1,h2⟩
def ok_no_word(F:Def K mg "_law_no_word" s__law_no_word ["pot"] f fd) (DT:Def K mg "_law_take" s__law_take ["pot","many"] fT fdT) (GT:⋯ 1 fT fdT ["pot","many"] spTake) (DL:Def K mg "_law_letters" s__law_letters ["number"] fL fdL) (GL:⋯ 1 fL fdL ["number"] spLetters):⋯ 2 f fd ["pot"] spNoWord:=by
 nomatch F.fn.ok scNw
 ·obtain ⟨p,rfl,_⟩:=h
  rfl
 ·obtain ⟨p,rfl,⟨o,hp,ho⟩,q⟩:=h
  have nd:=scNw.nd
  refine @ex_12 _ _ _ _ nd rfl (Or.inl rfl) (Or.inl rfl) ?_
  refine' ⟨_,(pS (ps_set (i:=2) nd rfl (Or.inl rfl) (pe_callD DT GT hr (pC (pv 0) (pC pe_int pa_nil))))
   (pS (ps_if (pt_cmpR op_lt (pv 2) pe_int (nomark _)) (pss_one (ps_ret (pe_ix (r:=rIxT K) ix_tup (pv 1) (pv 2) (fun _ _=>rfl)))) pss_nil)
   (pss_one (ps_ret (pe_callD DL GL hr (pC (pe_op op_add (pe_op op_pow pe_int pe_int) (pe_callD DT GT hr (pC (pv 0) (pC (pe_op op_pow pe_int pe_int) pa_nil)))) pa_nil)))))),?_⟩
  refine ⟨sL (by show 12≤100000;decide),fun t ht=>?_⟩
  have d1:Drawn p H (upd H t (.tup (some12.map V.str))):=(Drawn.refl ⟨o,hp,ho⟩).new ht
  have ht1:(upd H t (.tup (some12.map V.str))) t=some (.tup (some12.map V.str)):=uS
  have tp:t≠p:=fun e=>by rw [e,hp] at ht;cases ht
  have hp1:(upd H t (.tup (some12.map V.str))) p=some o:=by rw [upd_ne (Ne.symm tp)];exact hp
  generalize upd H t (.tup (some12.map V.str))=H1 at d1 ht1 hp1 ⊢
  refine ⟨_,rfl,p,13,o,rfl,hp1,ho,by decide,by decide,fun v o2 v0 v1 ho2=>?_⟩
  have d2:Drawn p H (upd H1 p o2):=d1.trans (Drawn.upd ho2)
  have ht2:(upd H1 p o2) t=some (.tup (some12.map V.str)):=by rw [upd_ne tp];exact ht1
  have hp2:(upd H1 p o2) p=some o2:=uS
  generalize upd H1 p o2=H2 at d2 ht2 hp2 ⊢
  refine ⟨_,rfl,_,_,rfl,rfl,_,rfl,ite2 (fun z=>?_) (fun _=>?_)⟩
  ·have z:v<12:=of_decide_eq_true z
   obtain ⟨x,hx,hat⟩:=drawn_item (ws:=some12) v0 z
   exact ⟨_,rfl,_,rfl,t,_,v,_,rfl,rfl,SqT.of ht2,hat,q x H2 d2 (some12_fit x hx)⟩
  ·refine ⟨_,_,rfl,rfl,⟨by decide,by decide,by decide +kernel⟩,_,rfl,_,_,rfl,rfl,⟨by decide,by decide,by decide +kernel⟩,p,_,o2,rfl,hp2,ho2,by decide,by decide,fun u o3 u0 u1 ho3=>?_⟩
   have u1:u<1000000000:=u1
   have e8:(26:Int) ^ (8:Int).toNat=208827064576:=by decide +kernel
   refine ⟨_,_,rfl,rfl,?_⟩
   rw [e8]
   obtain ⟨n,hn⟩:∃ n:Nat,(208827064576:Int) + u=(n:Int):=⟨(208827064576 + u).toNat,by omega⟩
   have hl:n<26 ^ 9:=by
    have e9:(26:Nat) ^ 9=5429503678976:=by decide +kernel
    rw [e9];omega
   refine ⟨n,by show [V.int (208827064576 + u)]=_;rw [hn],hl,q _ _ (d2.trans (Drawn.upd ho3)) ?_⟩
   ·have h1:=lettersF_len 8 n hl
    refine ⟨?_,fun c hc=>?_⟩
    ·rw [← str_len,lettersS_list];omega
    ·rw [lettersS_list] at hc
     have:=lettersF_low n c hc
     unfold isLow at this
     have:=of_decide_eq_true this
     omega
def scSg:FnScope ["pot","words"] ["pot","words"] (defScope s__law_strange):=by nofun
def ok_strangeN(F:Def K mg "_law_strange" s__law_strange ["pot","words"] f fd) (DT:Def K mg "_law_take" s__law_take ["pot","many"] fT fdT) (GT:⋯ 1 fT fdT ["pot","many"] spTake)
  (DW:Def K mg "_law_word" s__law_word ["pot","words"] fW fdW) (GW:⋯ 2 fW fdW ["pot","words"] spWord) (DN:Def K mg "_law_no_word" s__law_no_word ["pot"] fN fdN) (GN:⋯ 2 fN fdN ["pot"] spNoWord):⋯ 3 f fd ["pot","words"] spStrange:=by
 nomatch F.fn.ok scSg
 ·obtain ⟨p,lw,ws,rfl,_⟩:=h
  rfl
 ·obtain ⟨p,lw,ws,rfl,pl,⟨o,hp,ho⟩,hw,wok,wl,q⟩:=h
  have hr1:Room 1 _:=hr.mono (by decide)
  refine' ⟨_,(pS (ps_if (pt_cmpR op_eq (pe_callD DT GT hr1 (pC (pv 0) (pC pe_int pa_nil))) pe_int (nomark _)) (pss_one (ps_ret (pe_callD DN GN hr (pC (pv 0) pa_nil)))) pss_nil)
   (pss_one (ps_ret (pe_callD DW GW hr (pC (pv 0) (pC (pv 1) pa_nil)))))),?_⟩
  refine ⟨_,rfl,p,2,o,rfl,hp,ho,by decide,by decide,fun v o1 v0 v1 ho1=>⟨rfl,_,rfl,?_⟩⟩
  have d1:Drawn p H (upd H p o1):=Drawn.upd ho1
  have hw1:=d1.keep _ _ (Ne.symm pl) hw
  generalize upd H p o1=H1 at d1 hw1 ⊢
  exact ite2 (fun _=>⟨_,rfl,p,rfl,d1.pot,fun x H2 d2 fx=>q x H2 (d1.trans d2) fx⟩) (fun _=>⟨_,rfl,_,rfl,p,lw,ws,rfl,pl,d1.pot,hw1,wok,wl,fun x H2 d2 wx _=>q x H2 (d1.trans d2) (FitS.word wx)⟩)
abbrev nBn:LS:=["pot","words","names","name","word","places","pairs","way","at","some","deed","number"]
abbrev pBn:LS:=["pot","words","names","name"]
def scBn:FnScope nBn pBn (defScope s__law_bent):=by nofun
structure TxtE (mg:Str→Option Value):Prop where
 len:mg "len"=none
 list:mg "list"=none
 tuple:mg "tuple"=none
 max:mg "max"=none
set_option maxHeartbeats 16000000 in
def ok_bentN(F:Def K mg "_law_bent" s__law_bent pBn f fd) (T:TxtE mg) (DT:Def K mg "_law_take" s__law_take ["pot","many"] fT fdT) (GT:⋯ 1 fT fdT ["pot","many"] spTake)
  (DS:Def K mg "_law_strange" s__law_strange ["pot","words"] fS fdS) (GS:⋯ 3 fS fdS ["pot","words"] spStrange) (DN:Def K mg "_law_no_word" s__law_no_word ["pot"] fN fdN) (GN:⋯ 2 fN fdN ["pot"] spNoWord):⋯ 4 f fd pBn spBentN:=by
 nomatch F.fn.ok scBn
 ·obtain ⟨p,lw,ln,ws,ns,us,n,v,m,rfl,_⟩:=h
  rfl
 ·obtain ⟨p,lw,ln,ws,ns,us,n,v,m,rfl,plw,pln,⟨o,hp,ho⟩,hw,wok,wl1,wl,hln,hN,fN,une,ul,hn,fn,le,m73,m100,q⟩:=h
  have nd:=scBn.nd
  have hu:=hr.units
  have hr1:Room 1 _:=hr.mono (by decide)
  have hr2:Room 2 _:=hr.mono (by decide)
  refine' ⟨_,(pS (ps_asg (pv 3) (pg_tup rfl (gC (pg_name (i:=4) nd rfl (Or.inl rfl)) (gC (pg_name (i:=5) nd rfl (Or.inl rfl)) (gC (pg_name (i:=6) nd rfl (Or.inl rfl)) pgs_nil)))))
   (pS (ps_set (i:=6) nd rfl (Or.inl rfl) (pe_callTy call_list_of (by rfl) T.list PyProof.Rows.boot_list (pC (pv 6) pa_nil)))
   (pS (ps_set (i:=7) nd rfl (Or.inl rfl) (pe_callD DT GT hr1 (pC (pv 0) (pC pe_int pa_nil))))
   (pS (ps_set (i:=8) nd rfl (Or.inl rfl) (pe_callD DT GT hr1 (pC (pv 0) (pC (pe_op op_add (pe_callB call_len_seq (by rfl) T.len PySem.boot_len (pC (pv 6) pa_nil)) pe_int) pa_nil))))
   (pS (ps_set (i:=9) nd rfl (Or.inl rfl) (pe_ix (r:=rIxL K) ix_list (pv 1) (pe_callD DT GT hr1 (pC (pv 0) (pC (pe_callB call_len_seq (by rfl) T.len PySem.boot_len (pC (pv 1) pa_nil)) pa_nil))) (fun _ _=>rfl)))
   (pss_cut (ps_if (pt_cmpR op_eq (pv 7) pe_int (nomark _)) (pss_one (ps_set (i:=4) nd rfl (Or.inl rfl) (pe_callD DN GN hr2 (pC (pv 0) pa_nil)))) pss_nil)
   (pss_cut (ps_if (pt_cmpR op_eq (pv 7) pe_int (nomark _)) (pss_one (ps_set (i:=4) nd rfl (Or.inl rfl) (pe_ix (r:=rIxT K) ix_tup (pe_ix (r:=rIxL K) ix_list (pv 2) (pe_callD DT GT hr1 (pC (pv 0) (pC (pe_callB call_len_seq (by rfl) T.len PySem.boot_len (pC (pv 2) pa_nil)) pa_nil))) (fun _ _=>rfl)) pe_int (fun _ _=>rfl)))) pss_nil)
   (pss_cut (ps_if (pt_cmpR op_eq (pv 7) pe_int (nomark _)) (pss_one (ps_set (i:=5) nd rfl (Or.inl rfl) (pe_ix (r:=rIxT K) ix_tup (pe_tup (pC pe_int (pC pe_int (pC (pe_un un_neg pe_int) (pC (pe_op op_pow pe_int pe_int) pa_nil))))) (pe_callD DT GT hr1 (pC (pv 0) (pC pe_int pa_nil))) (fun _ _=>rfl)))) pss_nil)
   (pss_cut (ps_if (pt_cmpR op_eq (pv 7) pe_int (nomark _)) (pss_one (ps_expr (pe_bm PySem.F.plainAttrs_list PySem.F.slot_list_insert PySem.F.type_list_insert mt_insert (pv 6) (pC (pv 8) (pC (pe_tup (pC (pe_callTy call_tuple_of (by rfl) T.tuple PyProof.Rows.boot_tuple (pC (pe_op op_rep (pe_lst (pC (pv 9) pa_nil)) (pe_op op_add (pe_op op_mod (pv 5) pe_int) pe_int)) pa_nil)) (pC (pv 9) pa_nil))) pa_nil))))) pss_nil)
   (pss_cut (ps_if (pt_cmpR op_eq (pv 7) pe_int (nomark _)) (pS (ps_set (i:=10) nd rfl (Or.inl rfl) (pe_op op_rep (pe_lst (pC (pv 9) pa_nil)) (pe_op op_mod (pv 5) pe_int)))
   (pS (ps_expr (pe_bm PySem.F.plainAttrs_list PySem.F.slot_list_insert PySem.F.type_list_insert mt_insert (pv 10) (pC (pe_callD DT GT hr1 (pC (pv 0) (pC (pe_op op_add (pe_callB call_len_seq (by rfl) T.len PySem.boot_len (pC (pv 10) pa_nil)) pe_int) pa_nil))) (pC (pe_callD DS GS hr (pC (pv 0) (pC (pv 1) pa_nil))) pa_nil))))
   (pss_one (ps_expr (pe_bm PySem.F.plainAttrs_list PySem.F.slot_list_insert PySem.F.type_list_insert mt_insert (pv 6) (pC (pv 8) (pC (pe_tup (pC (pe_callTy call_tuple_of (by rfl) T.tuple PyProof.Rows.boot_tuple (pC (pe_slice (r:=rSlL K) sl_list (pv 10) po_none (po_some (pe_callB (call_max2 rfl) (by rfl) T.max PyProof.Rows.boot_max (pC (pv 5) (pC pe_int pa_nil))))) pa_nil)) (pC (pv 9) pa_nil))) pa_nil))))))) pss_nil)
   (pss_cut (ps_if (PW.pt (pw_and (pt_cmpR op_eq (pv 7) pe_int (nomark _)) (pw_and1 (pt_cmpR (op_neD hu) (pv 6) (pe_lst pa_nil) (nomark _))))) (pss_one (ps_expr (pe_bm PySem.F.plainAttrs_list PySem.F.slot_list_insert PySem.F.type_list_insert mt_insert (pv 6) (pC (pv 8) (pC (pe_tup (pC (pe_ix (r:=rIxT K) ix_tup (pe_ix (r:=rIxL K) ix_list (pv 6) (pe_callD DT GT hr1 (pC (pv 0) (pC (pe_callB call_len_seq (by rfl) T.len PySem.boot_len (pC (pv 6) pa_nil)) pa_nil))) (fun _ _=>rfl)) pe_int (fun _ _=>rfl)) (pC (pv 9) pa_nil))) pa_nil))))) pss_nil)
   (pss_cut (ps_if (pt_cmpR op_eq (pv 7) pe_int (nomark _)) (pss_one (ps_set (i:=6) nd rfl (Or.inl rfl) (pe_op op_cat (pv 6) (pe_op op_rep (pe_lst (pC (pe_tup (pC (pe_tup (pC (pv 9) pa_nil)) (pC (pv 9) pa_nil))) pa_nil)) (pe_op op_sub (pe_op op_add pe_int (pe_callD DT GT hr1 (pC (pv 0) (pC pe_int pa_nil)))) (pe_callB call_len_seq (by rfl) T.len PySem.boot_len (pC (pv 6) pa_nil))))))) pss_nil)
   (pss_cut (ps_if (PW.pt (pw_and (pt_cmpR op_eq (pv 7) pe_int (nomark _)) (pw_and1 (pt_cmpR (op_neD hu) (pv 6) (pe_lst pa_nil) (nomark _))))) (pS (ps_set (i:=11) nd rfl (Or.inl rfl) (pe_callD DT GT hr1 (pC (pv 0) (pC (pe_callB call_len_seq (by rfl) T.len PySem.boot_len (pC (pv 6) pa_nil)) pa_nil))))
   (pss_one (ps_asg (pe_tup (pC (pe_ix (r:=rIxT K) ix_tup (pe_ix (r:=rIxL K) ix_list (pv 6) (pv 11) (fun _ _=>rfl)) pe_int (fun _ _=>rfl)) (pC (pe_callD DS GS hr (pC (pv 0) (pC (pv 1) pa_nil))) pa_nil))) (pg_sub (pv 6) (pv 11) set_list)))) pss_nil)
   (pss_one (ps_ret (pe_tup (pC (pv 4) (pC (pv 5) (pC (pv 6) pa_nil))))))))))))))))))),?_⟩
  obtain ⟨t0,tp,vs0,rfl,ht0,htp,hps⟩:=hn
  have hq0:SqL K H tp vs0∨SqT K H tp vs0:=htp.elim (fun z=>.inr (SqT.of z)) (fun z=>.inl (SqL.of z))
  refine ⟨_,rfl,t0,_,rfl,SqT.of ht0,rfl,_,_,rfl,_,_,rfl,_,_,rfl,rfl,?_⟩
  refine ⟨_,rfl,tp,_,rfl,hq0,fun lp hlp=>?_⟩
  have s1:Same H (upd H lp (.lst vs0)):=snew hlp
  have lpp:lp≠p:=fun z=>by rw [z,hp] at hlp;cases hlp
  have b1:Bt p H (upd H lp (.lst vs0)) lp n.2.2:=⟨⟨fun b u _ e=>s1 _ _ e,o,s1 _ _ hp,ho⟩,hlp,lpp,⟨vs0,uS,hps.mono (tupsS s1)⟩,fn.ps⟩
  have hp1:=s1 _ _ hp
  generalize upd H lp (.lst vs0)=H1 at b1 hp1 ⊢
  refine ⟨_,rfl,p,8,o,rfl,hp1,ho,by decide,by decide,fun way o2 w0 w1 ho2=>?_⟩
  have b2:=b1.draw (Drawn.upd ho2)
  have hp2:(upd H1 p o2) p=some o2:=uS
  generalize upd H1 p o2=H2 at b2 hp2 ⊢
  obtain ⟨vs2,hl2,hv2⟩:=b2.at_
  have vl2:=Paired.length hv2
  refine ⟨_,rfl,_,rfl,lp,_,rfl,.inl (SqL.of hl2),_,_,rfl,rfl,p,_,o2,rfl,hp2,ho2,by omega,by omega,fun at' o3 a0 a1 ho3=>?_⟩
  have b3:=b2.draw (Drawn.upd ho3)
  have hp3:(upd H2 p o3) p=some o3:=uS
  generalize upd H2 p o3=H3 at b3 hp3 ⊢
  have hw3:=b3.d.keep _ _ (Ne.symm plw) hw
  refine ⟨_,rfl,_,rfl,_,rfl,lw,_,rfl,.inl (SqL.of hw3),p,_,o3,rfl,hp3,ho3,by rw [List.length_map];omega,by rw [List.length_map];omega,fun u o4 u0 u1 ho4=>?_⟩
  obtain ⟨some',hsm,hat⟩:=drawn_item u0 u1
  have b4:=b3.draw (Drawn.upd ho4)
  generalize upd H3 p o4=H4 at b4 ⊢
  have hw4:=b4.d.keep _ _ (Ne.symm plw) hw
  refine ⟨lw,_,u,_,rfl,rfl,SqL.of hw4,hat,?_⟩
  have fs:FitS some':=FitS.word (wok.word _ hsm)
  have atl:at'≤n.2.2.length:=by omega
  let M:Int→St→Hp→Prop:=fun c σ' H'=>∃ (wd:Str) (pl:Int) (lq:Addr) (ps:List (LS×Str)) (x10 x11:Option V),σ'=[some (.ref p),some (.ref lw),some (.ref ln),some (.ref t0),some (.str wd),some (.int pl),some (.ref lq),some (.int way),some (.int at'),some (.str some'),x10,x11]∧Bt p H H' lq ps∧FitS wd∧at'≤ps.length∧ps.length≤m + 1∧(c≤way→ps.length≤m)
  have isW:∀ {c:Int},decide (V.int way=V.int c)=true→way=c:=fun z=>by have:=of_decide_eq_true z;injection this
  have noW:∀ {c:Int},¬ decide (V.int way=V.int c)=true→way≠c:=fun z e=>z (decide_eq_true (by rw [e]))
  have ins:∀ {c pl:Int} {wd:Str} {lq:Addr} {ps:List (LS×Str)} {vs:List V} {x10 x11:Option V} {Hb:Hp} {pr:LS×Str} {v:V},way=c→Bt p H Hb lq ps→Hb lq=some (.lst vs)→PrsV Hb ps vs→PrV Hb pr v→FitP pr→FitS wd→at'≤ps.length→ps.length≤m →
    M (c + 1) [some (.ref p),some (.ref lw),some (.ref ln),some (.ref t0),some (.str wd),some (.int pl),some (.ref lq),some (.int way),some (.int at'),some (.str some'),x10,x11] (upd Hb lq (.lst (vs.take at'.toNat++v :: vs.drop at'.toNat))):=fun {c pl wd lq ps vs x10 x11 Hb pr v} ew b hl hv hpr fp fw al le1=>by
   refine ⟨wd,pl,lq,ps.take at'.toNat++pr :: ps.drop at'.toNat,x10,x11,rfl,b.put (prs_ins hv hpr _) (fit_ins b.fit fp _),fw,?_,?_,fun h=>by omega⟩
   ·rw [List.length_append,List.length_cons,List.length_take,List.length_drop];omega
   ·rw [List.length_append,List.length_cons,List.length_take,List.length_drop];omega
  refine ⟨M 1,?_,?_⟩
  ·refine ⟨_,rfl,rfl,_,rfl,ite2 (fun _=>?_) (fun _=>⟨n.1,n.2.1,lp,n.2.2,none,none,rfl,b4,fn.w,atl,by omega,fun _=>le⟩)⟩
   exact ⟨_,rfl,p,rfl,b4.d.pot,fun x H' d fx=>⟨x,n.2.1,lp,n.2.2,none,none,rfl,b4.draw d,fx,atl,by omega,fun _=>le⟩⟩
  rintro σ' H5 ⟨wd,pl,lq,ps,x10,x11,rfl,b5,fw,al,le1,le2⟩
  refine ⟨M 2,?_,?_⟩
  ·refine ⟨_,rfl,rfl,_,rfl,ite2 (fun z=>?_) (fun z=>⟨wd,pl,lq,ps,x10,x11,rfl,b5,fw,al,le1,fun h=>le2 (by omega)⟩)⟩
   obtain ⟨o5,hp5,ho5⟩:=id b5.d.pot
   have hln5:=b5.d.keep _ _ (Ne.symm pln) hln
   have upos:0<us.length:=List.length_pos_iff.mpr une
   refine ⟨_,rfl,_,rfl,_,rfl,ln,_,rfl,.inl (SqL.of hln5),p,_,o5,rfl,hp5,ho5,by omega,by omega,fun u' o6 v0 v1 ho6=>?_⟩
   have b6:=b5.draw (Drawn.upd ho6)
   generalize upd H5 p o6=H6 at b6 ⊢
   obtain ⟨k,rfl⟩:=Int.eq_ofNat_of_zero_le v0
   have kl:k<us.length:=by omega
   have hk:us[k]?=some us[k]:=List.getElem?_eq_getElem kl
   obtain ⟨n',hn',t',tp',vs',e,h1,_⟩:=paired_at hN hk
   have hk':atI us (k:Int)=some (.ref t'):=by rw [← e];exact atI_nat hk
   exact ⟨ln,_,_,_,rfl,rfl,SqL.of (b6.d.keep _ _ (Ne.symm pln) hln),hk',t',_,_,_,rfl,rfl,SqT.of (Drawn.tup b6.d hp ho h1),at0 _ _,n'.1,pl,lq,ps,x10,x11,rfl,b6,(fN n' (List.mem_of_getElem? hn')).w,al,le1,fun h=>le2 (by omega)⟩
  clear b5 fw al le1 le2
  rintro σ' H5 ⟨wd,pl,lq,ps,x10,x11,rfl,b5,fw,al,le1,le2⟩
  refine ⟨M 3,?_,?_⟩
  ·refine ⟨_,rfl,rfl,_,rfl,ite2 (fun z=>?_) (fun z=>⟨wd,pl,lq,ps,x10,x11,rfl,b5,fw,al,le1,fun h=>le2 (by omega)⟩)⟩
   refine ⟨_,rfl,_,_,rfl,rfl,⟨by decide,by decide,by decide +kernel⟩,sL (by show 4≤100000;decide),fun t ht=>?_⟩
   have s6:=snew (o:=.tup [.int 0,.int 5,.int (-1),.int (10 ^ (40:Int).toNat)]) ht
   have h6:(upd H5 t (.tup [.int 0,.int 5,.int (-1),.int (10 ^ (40:Int).toNat)])) t=some (.tup [.int 0,.int 5,.int (-1),.int (10 ^ (40:Int).toNat)]):=uS
   have b6:=b5.same s6
   obtain ⟨o6,hp6,ho6⟩:=id b6.d.pot
   refine ⟨_,rfl,p,4,o6,rfl,hp6,ho6,by decide,by decide,fun u' o7 v0 v1 ho7=>?_⟩
   have d7:=Drawn.upd (p:=p) (H:=upd H5 t (.tup [.int 0,.int 5,.int (-1),.int (10 ^ (40:Int).toNat)])) ho7
   have h7:=Drawn.tup d7 hp6 ho6 h6
   have b7:=b6.draw d7
   have fin:∀ pl':Int,M 3 [some (.ref p),some (.ref lw),some (.ref ln),some (.ref t0),some (.str wd),some (.int pl'),some (.ref lq),some (.int way),some (.int at'),some (.str some'),x10,x11] (upd (upd H5 t (.tup [.int 0,.int 5,.int (-1),.int (10 ^ (40:Int).toNat)])) p o7):=fun pl'=>⟨wd,pl',lq,ps,x10,x11,rfl,b7,fw,al,le1,fun h=>le2 (by omega)⟩
   rcases (show u'=0∨u'=1∨u'=2∨u'=3 by omega) with e | e | e | e <;> subst e
   ·exact ⟨t,_,_,_,rfl,rfl,SqT.of h7,rfl,fin _⟩
   ·exact ⟨t,_,_,_,rfl,rfl,SqT.of h7,rfl,fin _⟩
   ·exact ⟨t,_,_,_,rfl,rfl,SqT.of h7,rfl,fin _⟩
   ·exact ⟨t,_,_,_,rfl,rfl,SqT.of h7,rfl,fin _⟩
  clear b5 fw al le1 le2
  rintro σ' H5 ⟨wd,pl,lq,ps,x10,x11,rfl,b5,fw,al,le1,le2⟩
  refine ⟨M 4,?_,?_⟩
  ·refine ⟨_,rfl,rfl,_,rfl,ite2 (fun z=>?_) (fun z=>⟨wd,pl,lq,ps,x10,x11,rfl,b5,fw,al,le1,fun h=>le2 (by omega)⟩)⟩
   have ew:=isW z
   obtain ⟨vs5,hl5,hv5⟩:=b5.at_
   have vl:=Paired.length hv5
   have lem:=le2 (by omega)
   refine ⟨_,rfl,.inl ⟨rfl,_,SqL.of hl5⟩,_,rfl,_,rfl,sL (by show 1≤100000;decide),fun l6 hl6=>?_⟩
   have s6:=snew (o:=.lst [.str some']) hl6
   have h6:(upd H5 l6 (.lst [.str some'])) l6=some (.lst [.str some']):=uS
   generalize upd H5 l6 (.lst [.str some'])=H6 at s6 h6 ⊢
   have m5:0≤pl % 5∧pl % 5<5:=⟨Int.emod_nonneg _ (by decide),Int.emod_lt_of_pos _ (by decide)⟩
   refine ⟨_,rfl,_,_,rfl,rfl,(by show (0:Int)<5;decide),_,_,rfl,rfl,l6,pl % 5 + 1,_,rfl,rfl,h6,by omega,by omega,sL (by show 1 * _≤100000;omega),fun l7 hl7=>?_⟩
   rw [rep_one]
   have kl:(pl % 5 + 1).toNat≤5:=by omega
   generalize (pl % 5 + 1).toNat=k at kl ⊢
   have s7:=snew (o:=.lst ((List.replicate k some').map V.str)) hl7
   have h7:(upd H6 l7 (.lst ((List.replicate k some').map V.str))) l7=some (.lst ((List.replicate k some').map V.str)):=uS
   generalize upd H6 l7 (.lst ((List.replicate k some').map V.str))=H7 at s7 h7 ⊢
   refine ⟨l7,_,rfl,.inl ⟨SqL.of h7,fun t8 ht8=>?_⟩⟩
   have s8:=snew (o:=.tup ((List.replicate k some').map V.str)) ht8
   have h8:(upd H7 t8 (.tup ((List.replicate k some').map V.str))) t8=some (.tup ((List.replicate k some').map V.str)):=uS
   generalize upd H7 t8 (.tup ((List.replicate k some').map V.str))=H8 at s8 h8 ⊢
   refine ⟨_,rfl,sL (by show 2≤100000;decide),fun t9 ht9=>?_⟩
   have s9:=snew (o:=.tup [.ref t8,.str some']) ht9
   have h9:(upd H8 t9 (.tup [.ref t8,.str some'])) t9=some (.tup [.ref t8,.str some']):=uS
   generalize upd H8 t9 (.tup [.ref t8,.str some'])=H9 at s9 h9 ⊢
   have s59:=((s6.trans s7).trans s8).trans s9
   exact ⟨lq,_,at',_,rfl,rfl,s59 _ _ hl5,a0,by omega,small_lt (by omega),ins (c:=3) (pr:=(List.replicate k some',some')) ew (b5.same s59) (s59 _ _ hl5) (hv5.mono (tupsS s59)) ⟨t9,t8,rfl,h9,s9 _ _ h8⟩ ⟨by show (List.replicate k some').length≤100;rw [List.length_replicate];omega,fun x hx=>by rw [List.eq_of_mem_replicate hx];exact fs,fs⟩ fw al lem⟩
  clear b5 fw al le1 le2
  rintro σ' H5 ⟨wd,pl,lq,ps,x10,x11,rfl,b5,fw,al,le1,le2⟩
  refine ⟨M 5,?_,?_⟩
  ·refine ⟨_,rfl,rfl,_,rfl,ite2 (fun z=>?_) (fun z=>⟨wd,pl,lq,ps,x10,x11,rfl,b5,fw,al,le1,fun h=>le2 (by omega)⟩)⟩
   have ew:=isW z
   have lem:=le2 (by omega)
   refine ⟨_,rfl,sL (by show 1≤100000;decide),fun l6 hl6=>?_⟩
   have s6:=snew (o:=.lst [.str some']) hl6
   have h6:(upd H5 l6 (.lst [.str some'])) l6=some (.lst [.str some']):=uS
   generalize upd H5 l6 (.lst [.str some'])=H6 at s6 h6 ⊢
   have m7:0≤pl % 7∧pl % 7<7:=⟨Int.emod_nonneg _ (by decide),Int.emod_lt_of_pos _ (by decide)⟩
   refine ⟨_,rfl,_,_,rfl,rfl,(by show (0:Int)<7;decide),l6,pl % 7,_,rfl,rfl,h6,by omega,by omega,sL (by show 1 * _≤100000;omega),fun l7 hl7=>?_⟩
   rw [rep_one]
   have kl:(pl % 7).toNat≤7:=by omega
   generalize (pl % 7).toNat=k at kl ⊢
   have s7:=snew (o:=.lst ((List.replicate k some').map V.str)) hl7
   have h7:(upd H6 l7 (.lst ((List.replicate k some').map V.str))) l7=some (.lst ((List.replicate k some').map V.str)):=uS
   have n7:H5 l7=none:=s6.free hl7
   generalize upd H6 l7 (.lst ((List.replicate k some').map V.str))=H7 at s7 h7 ⊢
   have b7:=b5.same (s6.trans s7)
   obtain ⟨o7,hp7,ho7⟩:=id b7.d.pot
   have l7p:l7≠p:=fun z=>by
    obtain ⟨o5,hp5,_⟩:=b5.d.pot
    rw [z,hp5] at n7;cases n7
   have n7H:H l7=none:=by
    cases z:H l7 with
    | none=>rfl
    | some u'=>rw [b5.d.keep _ _ l7p z] at n7;cases n7
   refine ⟨_,rfl,.inl ⟨rfl,_,SqL.of h7⟩,_,rfl,_,rfl,l7,_,rfl,.inl (SqL.of h7),_,_,rfl,rfl,p,_,o7,rfl,hp7,ho7,by rw [List.length_map,List.length_replicate];omega,by rw [List.length_map,List.length_replicate];omega,fun j o8 j0 j1 ho8=>?_⟩
   rw [List.length_map,List.length_replicate] at j1
   have d8:Drawn p H7 (upd H7 p o8):=Drawn.upd ho8
   have b8:=b7.draw d8
   have h8:=d8.keep _ _ l7p h7
   generalize upd H7 p o8=H8 at d8 b8 h8 ⊢
   refine ⟨_,rfl,_,rfl,p,lw,ws,rfl,plw,b8.d.pot,b8.d.keep _ _ (Ne.symm plw) hw,wok,wl,fun y H9 d9 fy=>?_⟩
   have b9:=b8.draw d9
   have h9:=d9.keep _ _ l7p h8
   refine ⟨l7,_,j,_,rfl,rfl,h9,j0,by rw [List.length_map,List.length_replicate];omega,small_lt (by rw [List.length_map,List.length_replicate];omega),?_⟩
   have e:((List.replicate k some').map V.str).take j.toNat++V.str y :: ((List.replicate k some').map V.str).drop j.toNat=((List.replicate k some').take j.toNat++y :: (List.replicate k some').drop j.toNat).map V.str:=by
    rw [List.map_append,List.map_cons,List.map_take,List.map_drop]
   rw [e]
   have ffd:∀ x∈(List.replicate k some').take j.toNat++y :: (List.replicate k some').drop j.toNat,FitS x:=fun x hx=>by
    rcases List.mem_append.mp hx with c | c
    ·rw [List.eq_of_mem_replicate (List.mem_of_mem_take c)];exact fs
    ·rcases List.mem_cons.mp c with c | c
     ·rw [c];exact fy
     ·rw [List.eq_of_mem_replicate (List.mem_of_mem_drop c)];exact fs
   have fdl:((List.replicate k some').take j.toNat++y :: (List.replicate k some').drop j.toNat).length≤8:=by
    rw [List.length_append,List.length_cons,List.length_take,List.length_drop,List.length_replicate];omega
   generalize (List.replicate k some').take j.toNat++y :: (List.replicate k some').drop j.toNat=dd at ffd fdl ⊢
   have b10:Bt p H (upd H9 l7 (.lst (dd.map V.str))) lq ps:=by
    obtain ⟨vs,g1,g2⟩:=b9.at_
    obtain ⟨o9,hp9,ho9⟩:=b9.d.pot
    have ql:lq≠l7:=fun z=>by
     obtain ⟨vs5,g5,_⟩:=b5.at_
     rw [z,n7] at g5;cases g5
    exact ⟨⟨fun c u' hc e=>by rw [upd_ne (nNo e n7H)];exact b9.d.keep _ _ hc e,o9,by rw [upd_ne (Ne.symm l7p)];exact hp9,ho9⟩,b9.n,b9.np,⟨vs,by rw [upd_ne ql];exact g1,g2.mono fun c xs e=>by rw [upd_ne (fun z=>by rw [z,h9] at e;cases e)];exact e⟩,b9.fit⟩
   have h10:(upd H9 l7 (.lst (dd.map V.str))) l7=some (.lst (dd.map V.str)):=uS
   generalize upd H9 l7 (.lst (dd.map V.str))=H10 at b10 h10 ⊢
   obtain ⟨vs10,hl10,hv10⟩:=b10.at_
   have vl:=Paired.length hv10
   obtain ⟨ee,ce,cs,cl⟩:=cut_strs dd none (some (if (0:Int) > pl then 0 else pl))
   refine ⟨_,rfl,.inl ⟨rfl,_,SqL.of hl10⟩,_,rfl,_,rfl,_,rfl,_,_,rfl,_,rfl,l7,_,rfl,SqL.of h10,fun l11 hl11=>?_⟩
   rw [ce]
   have s11:=snew (o:=.lst (ee.map V.str)) hl11
   have h11:(upd H10 l11 (.lst (ee.map V.str))) l11=some (.lst (ee.map V.str)):=uS
   generalize upd H10 l11 (.lst (ee.map V.str))=H11 at s11 h11 ⊢
   refine ⟨l11,_,rfl,.inl ⟨SqL.of h11,fun t12 ht12=>?_⟩⟩
   have s12:=snew (o:=.tup (ee.map V.str)) ht12
   have h12:(upd H11 t12 (.tup (ee.map V.str))) t12=some (.tup (ee.map V.str)):=uS
   generalize upd H11 t12 (.tup (ee.map V.str))=H12 at s12 h12 ⊢
   refine ⟨_,rfl,sL (by show 2≤100000;decide),fun t13 ht13=>?_⟩
   have s13:=snew (o:=.tup [.ref t12,.str some']) ht13
   have h13:(upd H12 t13 (.tup [.ref t12,.str some'])) t13=some (.tup [.ref t12,.str some']):=uS
   generalize upd H12 t13 (.tup [.ref t12,.str some'])=H13 at s13 h13 ⊢
   have s1013:=(s11.trans s12).trans s13
   exact ⟨lq,_,at',_,rfl,rfl,s1013 _ _ hl10,a0,by omega,small_lt (by omega),ins (c:=4) (pr:=(ee,some')) ew (b10.same s1013) (s1013 _ _ hl10) (hv10.mono (tupsS s1013)) ⟨t13,t12,rfl,h13,s13 _ _ h12⟩ ⟨by show ee.length≤100;omega,fun x hx=>ffd x (cs x hx),fs⟩ fw al lem⟩
  clear b5 fw al le1 le2
  rintro σ' H5 ⟨wd,pl,lq,ps,x10,x11,rfl,b5,fw,al,le1,le2⟩
  have nil:∀ {Hx:Hp} {lq:Addr} {ps:List (LS×Str)},Bt p H Hx lq ps→∀ le',Hx le'=none→∃ d1 d2,Rep K (upd Hx le' (.lst [])) (.ref lq) d1∧Rep K (upd Hx le' (.lst [])) (.ref le') d2∧W.kqdOk 9 d1=true∧W.kqdOk 9 d2=true∧(!dEq d1 d2)=!decide (ps=[])∧Same Hx (upd Hx le' (.lst [])):=fun {Hx lq ps} b le' hle=>by
   obtain ⟨vs,hl,hv⟩:=b.at_
   have s6:=snew (o:=.lst []) hle
   refine ⟨.list (ps.map prD),.list [],.list (SqL.of (s6 _ _ hl)) (prs_reps (hv.mono (tupsS s6))),.list (SqL.of uS) .nil,ok_prs 6 b.fit,by decide,?_,s6⟩
   cases ps with
   | nil=>rw [show W.Dat.list (([]:List (LS×Str)).map prD)=.list [] from rfl,dEq_self];rfl
   | cons a r=>rw [dEq_neg (by simp)];rfl
  refine ⟨M 6,?_,?_⟩
  ·refine ⟨_,rfl,rfl,_,rfl,ite2 (fun z=>?_) (fun z=>⟨wd,pl,lq,ps,x10,x11,rfl,b5,fw,al,le1,fun h=>le2 (by omega)⟩)⟩
   have ew:=isW z
   have lem:=le2 (by omega)
   refine ⟨_,rfl,Nat.zero_le _,fun le' hle=>?_⟩
   obtain ⟨d1,d2,r1,r2,k1,k2,e,s6⟩:=nil b5 le' hle
   refine ⟨d1,d2,r1,r2,k1,k2,_,rfl,?_⟩
   rw [e]
   have b6:=b5.same s6
   clear r1 r2 s6
   generalize upd H5 le' (.lst [])=H6 at b6 ⊢
   refine ite2 (fun nz=>?_) (fun _=>⟨wd,pl,lq,ps,x10,x11,rfl,b6,fw,al,le1,fun h=>le2 (by omega)⟩)
   have nz:ps≠[]:=fun c=>by rw [decide_eq_true c] at nz;cases nz
   have pp:0<ps.length:=List.length_pos_iff.mpr nz
   obtain ⟨vs6,hl6,hv6⟩:=b6.at_
   have vl:=Paired.length hv6
   obtain ⟨o6,hp6,ho6⟩:=id b6.d.pot
   refine ⟨_,rfl,.inl ⟨rfl,_,SqL.of hl6⟩,_,rfl,_,rfl,_,rfl,_,rfl,lq,_,rfl,.inl (SqL.of hl6),p,_,o6,rfl,hp6,ho6,by omega,by omega,fun u' o7 v0 v1 ho7=>?_⟩
   have b7:=b6.draw (Drawn.upd ho7)
   generalize upd H6 p o7=H7 at b7 ⊢
   obtain ⟨k,rfl⟩:=Int.eq_ofNat_of_zero_le v0
   obtain ⟨vs7,hl7,hv7⟩:=b7.at_
   have vl7:=Paired.length hv7
   have hk:vs7[k]?=some vs7[k]:=List.getElem?_eq_getElem (by omega)
   obtain ⟨pr,hpr,t',tc,e',h1,h2⟩:=paired_at hv7 hk
   have hk':atI vs7 (k:Int)=some (.ref t'):=by rw [← e'];exact atI_nat hk
   refine ⟨lq,_,_,_,rfl,rfl,SqL.of hl7,hk',t',_,_,_,rfl,rfl,SqT.of h1,at0 _ _,_,rfl,sL (by show 2≤100000;decide),fun t9 ht9=>?_⟩
   have s9:=snew (o:=.tup [.ref tc,.str some']) ht9
   have h9:(upd H7 t9 (.tup [.ref tc,.str some'])) t9=some (.tup [.ref tc,.str some']):=uS
   generalize upd H7 t9 (.tup [.ref tc,.str some'])=H9 at s9 h9 ⊢
   have fp:=b7.fit pr (List.mem_of_getElem? hpr)
   exact ⟨lq,_,at',_,rfl,rfl,s9 _ _ hl7,a0,by omega,small_lt (by omega),ins (c:=5) (pr:=(pr.1,some')) ew (b7.same s9) (s9 _ _ hl7) (hv7.mono (tupsS s9)) ⟨t9,tc,rfl,h9,s9 _ _ h2⟩ ⟨fp.le,fp.ws,fs⟩ fw al lem⟩
  clear b5 fw al le1 le2
  rintro σ' H5 ⟨wd,pl,lq,ps,x10,x11,rfl,b5,fw,al,le1,le2⟩
  refine ⟨M 7,?_,?_⟩
  ·refine ⟨_,rfl,rfl,_,rfl,ite2 (fun z=>?_) (fun z=>⟨wd,pl,lq,ps,x10,x11,rfl,b5,fw,al,le1,fun h=>le2 (by omega)⟩)⟩
   have ew:=isW z
   have lem:=le2 (by omega)
   refine ⟨_,rfl,_,rfl,sL (by show 1≤100000;decide),fun t6 ht6=>?_⟩
   have s6:=snew (o:=.tup [.str some']) ht6
   have h6:(upd H5 t6 (.tup [.str some'])) t6=some (.tup ([some'].map V.str)):=uS
   generalize upd H5 t6 (.tup [.str some'])=H6 at s6 h6 ⊢
   refine ⟨_,rfl,sL (by show 2≤100000;decide),fun t7 ht7=>⟨sL (by show 1≤100000;decide),fun l8 hl8=>?_⟩⟩
   have s7:=snew (o:=.tup [.ref t6,.str some']) ht7
   have h7:(upd H6 t7 (.tup [.ref t6,.str some'])) t7=some (.tup [.ref t6,.str some']):=uS
   generalize upd H6 t7 (.tup [.ref t6,.str some'])=H7 at s7 h7 hl8 ⊢
   have s8:=snew (o:=.lst [.ref t7]) hl8
   have h8:(upd H7 l8 (.lst [.ref t7])) l8=some (.lst [.ref t7]):=uS
   generalize upd H7 l8 (.lst [.ref t7])=H8 at s8 h8 ⊢
   have s58:=(s6.trans s7).trans s8
   have b8:=b5.same s58
   obtain ⟨o8,hp8,ho8⟩:=id b8.d.pot
   have l8p:l8≠p:=fun z=>by
    obtain ⟨o5,hp5,_⟩:=b5.d.pot
    have:=(s6.trans s7) _ _ hp5
    rw [← z,hl8] at this;cases this
   refine ⟨_,rfl,p,9,o8,rfl,hp8,ho8,by decide,by decide,fun u' o9 v0 v1 ho9=>?_⟩
   have d9:Drawn p H8 (upd H8 p o9):=Drawn.upd ho9
   have b9:=b8.draw d9
   have h9:=d9.keep _ _ l8p h8
   have pr9:PrV (upd H8 p o9) ([some'],some') (.ref t7):=⟨t7,t6,rfl,Drawn.tup d9 hp8 ho8 (s8 _ _ h7),Drawn.tup d9 hp8 ho8 (s8 _ _ (s7 _ _ h6))⟩
   generalize upd H8 p o9=H9 at b9 h9 pr9 ⊢
   obtain ⟨vs9,hl9,hv9⟩:=b9.at_
   have vl:=Paired.length hv9
   refine ⟨_,_,rfl,rfl,_,rfl,lq,_,rfl,.inl (SqL.of hl9),_,_,rfl,rfl,l8,65 + u' - (vs9.length:Int),_,rfl,rfl,h9,by omega,by omega,sL (by show 1 * _≤100000;omega),fun l10 hl10=>?_⟩
   have s10:=snew (o:=.lst (List.replicate (65 + u' - (vs9.length:Int)).toNat [V.ref t7]).flatten) hl10
   have h10:(upd H9 l10 (.lst (List.replicate (65 + u' - (vs9.length:Int)).toNat [V.ref t7]).flatten)) l10=some (.lst (List.replicate (65 + u' - (vs9.length:Int)).toNat [V.ref t7]).flatten):=uS
   generalize upd H9 l10 (.lst (List.replicate (65 + u' - (vs9.length:Int)).toNat [V.ref t7]).flatten)=H10 at s10 h10 ⊢
   refine ⟨lq,l10,_,_,rfl,rfl,s10 _ _ hl9,h10,sL (by rw [len_rep];show _ + _ * 1≤100000;omega),fun l11 hl11=>?_⟩
   have s11:=snew (o:=.lst (vs9++(List.replicate (65 + u' - (vs9.length:Int)).toNat [V.ref t7]).flatten)) hl11
   have s911:=s10.trans s11
   have b11:=b9.same s911
   have n11:H l11=none:=by
    have e9:H9 l11=none:=s10.free hl11
    cases z:H l11 with
    | none=>rfl
    | some w' =>
     by_cases c:l11=p
     ·obtain ⟨o9',hp9',_⟩:=b9.d.pot
      rw [c,hp9'] at e9;cases e9
     ·rw [b9.d.keep _ _ c z] at e9;cases e9
   have np11:l11≠p:=fun c=>by
    obtain ⟨o9',hp9',_⟩:=b9.d.pot
    have e9:H9 l11=none:=s10.free hl11
    rw [c,hp9'] at e9;cases e9
   refine ⟨wd,pl,l11,ps++List.replicate (65 + u' - (vs9.length:Int)).toNat ([some'],some'),x10,x11,rfl,⟨b11.d,n11,np11,⟨_,uS,(prs_cat hv9 pr9 _).mono (tupsS s911)⟩,fun q hq=>?_⟩,fw,?_,?_,fun h=>by omega⟩
   ·rcases List.mem_append.mp hq with c | c
    ·exact b9.fit q c
    ·rw [List.eq_of_mem_replicate c]
     exact ⟨by show 1≤100;decide,fun x hx=>by rw [List.mem_singleton.mp hx];exact fs,fs⟩
   ·rw [List.length_append];omega
   ·rw [List.length_append,List.length_replicate];omega
  clear b5 fw al le1 le2
  rintro σ' H5 ⟨wd,pl,lq,ps,x10,x11,rfl,b5,fw,al,le1,le2⟩
  refine ⟨M 8,?_,?_⟩
  ·refine ⟨_,rfl,rfl,_,rfl,ite2 (fun z=>?_) (fun z=>⟨wd,pl,lq,ps,x10,x11,rfl,b5,fw,al,le1,fun h=>le2 (by omega)⟩)⟩
   have ew:=isW z
   have lem:=le2 (by omega)
   refine ⟨_,rfl,Nat.zero_le _,fun le' hle=>?_⟩
   obtain ⟨d1,d2,r1,r2,k1,k2,e,s6⟩:=nil b5 le' hle
   refine ⟨d1,d2,r1,r2,k1,k2,_,rfl,?_⟩
   rw [e]
   have b6:=b5.same s6
   clear r1 r2 s6
   generalize upd H5 le' (.lst [])=H6 at b6 ⊢
   refine ite2 (fun nz=>?_) (fun _=>⟨wd,pl,lq,ps,x10,x11,rfl,b6,fw,al,le1,fun h=>le2 (by omega)⟩)
   have nz:ps≠[]:=fun c=>by rw [decide_eq_true c] at nz;cases nz
   have pp:0<ps.length:=List.length_pos_iff.mpr nz
   obtain ⟨vs6,hl6,hv6⟩:=b6.at_
   have vl:=Paired.length hv6
   obtain ⟨o6,hp6,ho6⟩:=id b6.d.pot
   refine ⟨_,rfl,_,rfl,lq,_,rfl,.inl (SqL.of hl6),p,_,o6,rfl,hp6,ho6,by omega,by omega,fun u' o7 v0 v1 ho7=>?_⟩
   have b7:=b6.draw (Drawn.upd ho7)
   generalize upd H6 p o7=H7 at b7 ⊢
   obtain ⟨k,rfl⟩:=Int.eq_ofNat_of_zero_le v0
   obtain ⟨vs7,hl7,hv7⟩:=b7.at_
   have vl7:=Paired.length hv7
   have hk:vs7[k]?=some vs7[k]:=List.getElem?_eq_getElem (by omega)
   obtain ⟨pr,hpr,t',tc,e',h1,h2⟩:=paired_at hv7 hk
   have hk':atI vs7 (k:Int)=some (.ref t'):=by rw [← e'];exact atI_nat hk
   refine ⟨_,rfl,_,rfl,lq,_,_,_,rfl,rfl,SqL.of hl7,hk',t',_,_,_,rfl,rfl,SqT.of h1,at0 _ _,_,rfl,_,rfl,p,lw,ws,rfl,plw,b7.d.pot,b7.d.keep _ _ (Ne.symm plw) hw,wok,wl,fun y H8 d8 fy=>⟨sL (by show 2≤100000;decide),fun t9 ht9=>?_⟩⟩
   have b8:=b7.draw d8
   obtain ⟨o7',hp7,ho7'⟩:=id b7.d.pot
   have h28:=Drawn.tup d8 hp7 ho7' h2
   have s9:=snew (o:=.tup [.ref tc,.str y]) ht9
   have h9:(upd H8 t9 (.tup [.ref tc,.str y])) t9=some (.tup [.ref tc,.str y]):=uS
   have b9:=b8.same s9
   generalize upd H8 t9 (.tup [.ref tc,.str y])=H9 at s9 h9 b9 ⊢
   have fp:=b7.fit pr (List.mem_of_getElem? hpr)
   obtain ⟨vs9,hl9,hv9⟩:=b9.at_
   have vl9:=Paired.length hv9
   refine ⟨_,rfl,_,rfl,lq,_,_,k,rfl,rfl,hl9,by unfold ixN;rw [if_pos (by omega),if_pos (by omega)];rfl,?_⟩
   refine ⟨wd,pl,lq,ps.set k (pr.1,y),_,_,rfl,b9.put (prs_set (p:=(pr.1,y)) hv9 ⟨t9,tc,rfl,h9,s9 _ _ h28⟩ k) (fun q hq=>?_),fw,by rw [List.length_set];exact al,by rw [List.length_set];exact le1,fun h=>by omega⟩
   rcases List.mem_or_eq_of_mem_set hq with c | c
   ·exact b9.fit q c
   ·rw [c];exact ⟨fp.le,fp.ws,fy⟩
  clear b5 fw al le1 le2
  rintro σ' H5 ⟨wd,pl,lq,ps,x10,x11,rfl,b5,fw,al,le1,le2⟩
  obtain ⟨vs5,hl5,hv5⟩:=b5.at_
  refine ⟨_,rfl,_,rfl,_,rfl,sL (by show 3≤100000;decide),fun t ht=>?_⟩
  have s6:=snew (o:=.tup [.str wd,.int pl,.ref lq]) ht
  exact q (.ref t) (wd,pl,ps) _ (b5.d.same s6) ⟨t,lq,vs5,rfl,uS,.inr (s6 _ _ hl5),hv5.mono (tupsS s6)⟩ ⟨fw,b5.fit⟩ le1
theorem namesY_of {H:Hp}:∀ {nms:List Nam}{us:List V},NamesT H nms us→NamesY H (nms.map fun n=>(n.1,(n.2.1:Int),n.2.2)) us
 | _,_,.nil=>.nil
 | _,_,.cons ⟨t,tp,vs,e,h1,h2,h3⟩ r=>.cons ⟨t,tp,vs,e,h1,.inl h2,h3⟩ (namesY_of r)
theorem namesY_reps {K:Fg}{H:Hp}:∀ {ns:List NmX}{us:List V},NamesY H ns us→(∀ n∈ns,FitY n)→∃ ds,Reps K H us ds∧ds.all (W.kqdOk 8)=true∧ds.length=us.length
 | _,_,.nil,_=>⟨[],.nil,rfl,rfl⟩
 | n :: ns',v :: us',.cons ⟨t,tp,vs,e,h1,h2,h3⟩ r,f=>by
  subst e
  obtain ⟨ds,r1,r2,r3⟩:=namesY_reps (K:=K) r fun m hm=>f m (.tail _ hm)
  have fn:=f n (.head _)
  have go:∀ d,Rep K H (.ref tp) d→W.kqdOk 7 d=true→∃ ds',Reps K H (.ref t :: us') ds'∧ds'.all (W.kqdOk 8)=true∧ds'.length=(V.ref t :: us').length:=fun d rd kd =>
   ⟨.tuple [.str n.1,.int n.2.1,d] :: ds,.cons (.tuple (SqT.of h1) (.cons (.str _) (.cons (.int _) (.cons rd .nil)))) r1,by
    rw [List.all_cons,r2,Bool.and_true]
    show (W.kqdOk 7 (.str n.1)&&(W.kqdOk 7 (.int n.2.1)&&(W.kqdOk 7 d&&true)))=true
    rw [ok_strW 7 fn.w.ok,kd,show W.kqdOk 7 (.int n.2.1)=true from rfl]
    rfl,by rw [List.length_cons,List.length_cons,r3]⟩
  rcases h2 with h2 | h2
  ·exact go (.tuple (n.2.2.map prD)) (.tuple (SqT.of h2) (prs_reps h3)) (by rw [W.kqdOk];exact ok_prs 4 fn.ps)
  ·exact go (.list (n.2.2.map prD)) (.list (SqL.of h2) (prs_reps h3)) (by rw [W.kqdOk];exact ok_prs 4 fn.ps)
theorem namesY_set {H:Hp}:∀ {ns:List NmX}{us:List V}{n:NmX}{v:V},NamesY H ns us→NameY H n v→∀ j,NamesY H (ns.set j n) (us.set j v)
 | _,_,_,_,.nil,_,_=>.nil
 | _,_,_,_,.cons _ r,hp,0=>.cons hp r
 | _,_,_,_,.cons x r,hp,j + 1=>.cons x (namesY_set r hp j)
def namesY_cat {H:Hp}{a:List NmX}{b:List V}(h:NamesY H a b) {n:NmX}{v:V}(hp:NameY H n v) (k:Nat):NamesY H (a++List.replicate k n) (b++(List.replicate k [v]).flatten):=by
 have rp:NamesY H (List.replicate k n) (List.replicate k [v]).flatten:=by
  induction k with
  | zero=>exact .nil
  | succ k ih=>exact .cons hp ih
 induction h with
 | nil=>exact rp
 | cons x _ ih=>exact .cons x ih
def ndue_ok {rows:RS}{ah:LS}{n:NmX}{d:DuB}(h:NDue rows ah n (some d)) (o:OkN n) (w:Str) (hw:duF d=.str w):WOk w:=by
 cases h with
 | noN _=>injection hw with hw;rw [← hw];exact o.wo
 | twice _ _=>injection hw with hw;rw [← hw];exact o.wo
 | bad _ _ h3 =>
  rcases h3.idx with e | e | e <;> subst e <;> cases hw
 | noK _ _ _ h4 =>
  injection hw with hw
  obtain ⟨p,hp,e⟩:=List.mem_map.mp (List.mem_of_find?_eq_some h4)
  rw [← hw,← e];exact o.ma p hp
def bdue_ok {rows:RS}{ns:List NmX}{d:DuB}(h:BDue rows ns (some d)) (o:∀ n∈ns,OkN n) (w:Str) (hw:duF d=.str w):WOk w:=by
 cases h with
 | many _=>cases hw
 | bad i n _ hi _ hn=>exact ndue_ok hn (o n (List.mem_of_getElem? hi)) w hw
def duDF:DuB→Dt
 | .many=>.none
 | .noN w=>.str w
 | .twice w=>.str w
 | .board=>.none
 | .noD k=>.int k
 | .same k=>.int k
 | .noK w=>.str w
def bkD (ns:List NmX):Option DuB→Dt
 | none=>.tuple [.str "made",.list ((ns.map (·.1)).map W.Dat.str)]
 | some d=>.tuple [.str (duW d),duDF d]
def duF_rep {K:Fg}{H:Hp}:∀ d:DuB,Rep K H (duF d) (duDF d)
 | .many=>.none
 | .noN w=>.str w
 | .twice w=>.str w
 | .board=>.none
 | .noD k=>.int k
 | .same k=>.int k
 | .noK w=>.str w
def bk_rep {K:Fg}{H:Hp}{ns:List NmX}{a:Addr}:∀ {r:Option DuB},BkV H ns r a→Rep K H (.ref a) (bkD ns r)
 | none,⟨l,h1,h2⟩=>.tuple (SqT.of h1) (.cons (.str _) (.cons (.list (SqL.of h2) (reps_strs _)) .nil))
 | some d,h=>.tuple (SqT.of h) (.cons (.str _) (.cons (duF_rep d) .nil))
def bk_ok {rows:RS}{ns:List NmX}(o:∀ n∈ns,OkN n):∀ {r:Option DuB},BDue rows ns r→W.kqdOk 9 (bkD ns r)=true
 | none,_=>by
  show (W.kqdOk 8 (.str "made")&&(((ns.map (·.1)).map W.Dat.str).all (W.kqdOk 7)&&true))=true
  have:((ns.map (·.1)).map W.Dat.str).all (W.kqdOk 7)=true:=by
   rw [List.all_eq_true]
   intro d hd
   obtain ⟨x,hx,rfl⟩:=List.mem_map.mp hd
   obtain ⟨n,hn,rfl⟩:=List.mem_map.mp hx
   exact ok_strW 7 (o n hn).wo
  rw [this]
  decide +kernel
 | some d,h=>by
  have k:=bdue_ok h o
  cases d with
  | many=>show W.kqdOk 9 (.tuple [.str "TooMany",.none])=true;decide +kernel
  | board=>show W.kqdOk 9 (.tuple [.str "NoBoard",.none])=true;decide +kernel
  | noD i =>
   show (W.kqdOk 8 (.str "NoDeed")&&(W.kqdOk 8 (.int i)&&true))=true
   rw [show W.kqdOk 8 (.int i)=true from rfl];decide +kernel
  | same i =>
   show (W.kqdOk 8 (.str "Same")&&(W.kqdOk 8 (.int i)&&true))=true
   rw [show W.kqdOk 8 (.int i)=true from rfl];decide +kernel
  | noN w =>
   show (W.kqdOk 8 (.str "NoName")&&(W.kqdOk 8 (.str w)&&true))=true
   rw [ok_strW 8 (k w rfl)];decide +kernel
  | twice w =>
   show (W.kqdOk 8 (.str "Twice")&&(W.kqdOk 8 (.str w)&&true))=true
   rw [ok_strW 8 (k w rfl)];decide +kernel
  | noK w =>
   show (W.kqdOk 8 (.str "NoKind")&&(W.kqdOk 8 (.str w)&&true))=true
   rw [ok_strW 8 (k w rfl)];decide +kernel
def at_nine {v:Int} (h0:0≤v) (h1:v<3):∃ m:Int,atI [V.int 9,V.int 10,V.int 60] v=some (.int m)∧9≤m∧m≤60:=by
 have:v=0∨v=1∨v=2:=by omega
 rcases this with rfl | rfl | rfl
 ·exact ⟨9,rfl,by decide,by decide⟩
 ·exact ⟨10,rfl,by decide,by decide⟩
 ·exact ⟨60,rfl,by decide,by decide⟩
def spLaw (K:Fg):Sp:=fun vs H Q _=>∃ (a:Addr) (ns:List Int),vs=[.ref a]∧SqL K H a (ns.map V.int)∧ns.length≤63∧∀ H',Q (.bl true) H'
structure Lo (ln pk:Addr) (H0 H':Hp) (lz:Addr) (ns:List NmX) (vs:List V) (i:Nat):Prop where
 keep:∀ b o,b≠ln→b≠pk→H0 b=some o→H' b=some o
 pot:∃ o,H' pk=some o∧PotO o
 old:lz=ln∨H0 lz=none
 np:lz≠pk
 at_:H' lz=some (.lst vs)
 nm:NamesY H' ns vs
 fit:∀ n∈ns,FitY n
 le:ns.length≤60
 few:∀ n∈ns,n.2.2.length≤73 + i
def Lo.draw {ln pk:Addr}{H0 H1 H2:Hp}{lz:Addr}{ns:List NmX}{vs:List V}{i:Nat}(b:Lo ln pk H0 H1 lz ns vs i) (d:Drawn pk H1 H2):Lo ln pk H0 H2 lz ns vs i:=by
 obtain ⟨o,hp,ho⟩:=b.pot
 exact ⟨fun c u h1 h2 e=>d.keep _ _ h2 (b.keep c u h1 h2 e),d.pot,b.old,b.np,d.keep _ _ b.np b.at_,Paired.mapP b.nm fun _ _ z=>z.drawn hp ho d,b.fit,b.le,b.few⟩
theorem Lo.same {ln pk:Addr}{H0 H1 H2:Hp}{lz:Addr}{ns:List NmX}{vs:List V}{i:Nat}(b:Lo ln pk H0 H1 lz ns vs i) (s:Same H1 H2):Lo ln pk H0 H2 lz ns vs i:=by
 obtain ⟨o,hp,ho⟩:=b.pot
 exact ⟨fun c u h1 h2 e=>s _ _ (b.keep c u h1 h2 e),⟨o,s _ _ hp,ho⟩,b.old,b.np,s _ _ b.at_,Paired.mapP b.nm fun _ _ z=>z.same s,b.fit,b.le,b.few⟩
def Lo.up {ln pk:Addr}{H0 H1:Hp}{lz:Addr}{ns:List NmX}{vs:List V}{i:Nat}(b:Lo ln pk H0 H1 lz ns vs i):Lo ln pk H0 H1 lz ns vs (i + 1):=
 ⟨b.keep,b.pot,b.old,b.np,b.at_,b.nm,b.fit,b.le,fun n hn=>Nat.le_succ_of_le (b.few n hn)⟩
abbrev nLaw:LS:=["script","pot","rows","words","names","k","at","due"]
def scLaw:FnScope nLaw ["script"] (defScope s_law):=by nofun
set_option maxHeartbeats 16000000 in
def ok_law(F:Def K mg "law" s_law ["script"] f fd) (len:mg "len"=none) (range:mg "range"=none)
  (M:Mk K C fI) (mgC:mg "Kinds"=some (.ref C)) (bI:Binds K fdI ["self","rows"] []) (GI:⋯ 4 fI fdI ["self","rows"] (spInit K C))
  (DP:Def K mg "_law_pot" s__law_pot ["script","k"] fP fdP) (GP:⋯ 1 fP fdP ["script","k"] (spPot K)) (DT:Def K mg "_law_take" s__law_take ["pot","many"] fT fdT) (GT:⋯ 1 fT fdT ["pot","many"] spTake)
  (DR:Def K mg "_law_rows" s__law_rows ["pot","most"] fR fdR) (GR:⋯ 4 fR fdR ["pot","most"] spRowsL) (DA:Def K mg "_law_above" s__law_above ["rows"] fA fdA) (GA:⋯ 1 fA fdA ["rows"] spLAbove)
  (DN:Def K mg "_law_names" s__law_names pNs fN fdN) (GN:⋯ 4 fN fdN pNs (spNames K)) (DBn:Def K mg "_law_bent" s__law_bent pBn fBn fdBn) (GBn:⋯ 4 fBn fdBn pBn spBentN)
  (DDu:Def K mg "_law_book_due" s__law_book_due ["rows","names"] fDu fdDu) (GDu:⋯ 2 fDu fdDu ["rows","names"] (spBkDue K)) (DH:Def K mg "_law_book_heard" s__law_book_heard ["kinds","names"] fH fdH) (GH:⋯ 8 fH fdH ["kinds","names"] (spHeardB K C)):
  ⋯ 9 f fd ["script"] (spLaw K):=by
 nomatch F.fn.ok scLaw
 ·obtain ⟨a,ns,rfl,_⟩:=h
  rfl
 ·obtain ⟨a,ns,rfl,hS,hlen,q⟩:=h
  have nd:=scLaw.nd
  have hu:=hr.units
  have hr1:Room 1 _:=hr.mono (by decide)
  have hr2:Room 2 _:=hr.mono (by decide)
  have hr4:Room 4 _:=hr.mono (by decide)
  have hr5:Room 5 _:=hr.mono (by decide)
  refine' ⟨_,(pS (ps_set (i:=1) nd rfl (Or.inl rfl) (pe_callD DP GP hr1 (pC (pv 0) (pC pe_int pa_nil))))
   (pS (ps_set (i:=2) nd rfl (Or.inl rfl) (pe_callD DR GR hr4 (pC (pv 1) (pC pe_int pa_nil))))
   (pS ?eW
   (pS (ps_set (i:=4) nd rfl (Or.inl rfl) (pe_callD DN GN hr4 (pC (pv 0) (pC pe_int (pC (pv 2) (pC (pe_callD DA GA hr1 (pC (pv 2) pa_nil)) (pC pe_int (pC pe_int (pC pe_int pa_nil)))))))))
   (pS (ps_set (i:=1) nd rfl (Or.inl rfl) (pe_callD DP GP hr1 (pC (pv 0) (pC pe_int pa_nil))))
   (pS (ps_for PassesOwn.never rfl (pi_range1 (by rfl) range (pC (pe_callD DT GT hr1 (pC (pv 1) (pC pe_int pa_nil))) pa_nil)) (pg_name (i:=5) nd rfl (Or.inl rfl))
    (pss_one (ps_if (pt_cmpR op_eq (pe_callD DT GT hr1 (pC (pv 1) (pC pe_int pa_nil))) pe_int (nomark _)) (pss_one (ps_set (i:=4) nd rfl (Or.inl rfl) (pe_op op_cat (pv 4) (pe_op op_rep (pe_lst (pC (pe_tup (pC pe_str (pC pe_int (pC (pe_tup pa_nil) pa_nil)))) pa_nil)) (pe_op op_sub (pe_ix (r:=rIxT K) ix_tup (pe_tup (pC pe_int (pC pe_int (pC pe_int pa_nil)))) (pe_callD DT GT hr1 (pC (pv 1) (pC pe_int pa_nil))) (fun _ _=>rfl)) (pe_callB call_len_seq (by rfl) len PySem.boot_len (pC (pv 4) pa_nil)))))))
     (pss_one (ps_if (pt_cmpR (op_neD hu) (pv 4) (pe_lst pa_nil) (nomark _)) (pS (ps_set (i:=6) nd rfl (Or.inl rfl) (pe_callD DT GT hr1 (pC (pv 1) (pC (pe_callB call_len_seq (by rfl) len PySem.boot_len (pC (pv 4) pa_nil)) pa_nil))))
   (pss_one (ps_asg (pe_callD DBn GBn hr4 (pC (pv 1) (pC (pv 3) (pC (pv 4) (pC (pe_ix (r:=rIxL K) ix_list (pv 4) (pv 6) (fun _ _=>rfl)) pa_nil))))) (pg_sub (pv 4) (pv 6) set_list)))) pss_nil)))))
   (pS (ps_set (i:=7) nd rfl (Or.inl rfl) (pe_callD DDu GDu hr2 (pC (pv 2) (pC (pv 4) pa_nil))))
   (pss_cut (ps_if (pt_cmpR op_isN (pv 7) pe_non (nomark _)) (pss_one (ps_set (i:=7) nd rfl (Or.inl rfl) (pe_tup (pC pe_str (pC ?eN pa_nil))))) pss_nil)
   (pss_one (ps_ret (pe_cmpR (op_eqD hu) (pe_callD DH GH hr (pC (pe_make M GI hr5 rfl mgC bI .nil pass0 (pC (pv 2) pa_nil)) (pC (pv 4) pa_nil))) (pv 7) (nomark _)))))))))))),?_⟩
  case eW=>exact (ps_setComp (k:=3) ["row"] [] [] nd rfl rfl (fun _=>compT_ok (osc:=defScope s_law) (on:=nLaw) (by decide +kernel) rfl rfl rfl) (pi_list (pv 2)) (fun C s H fp=>pg_name (i:=0) nd_rw rfl (Or.inl rfl) (Or.inr rfl)) (fun C s H fp=>pts_nil) (fun C s H fp=>pe_ix (r:=rIxT K) ix_tup (pv 0) pe_int (fun _ _=>rfl)))
  case eN=>exact (pe_comp ["name"] [] [] (fun _=>compT_ok (osc:=defScope s_law) (on:=nLaw) (by decide +kernel) rfl rfl rfl) (pi_list (pv 4)) (fun C s H fp=>pg_name (i:=0) nd_na rfl (Or.inl rfl) (Or.inr rfl)) (fun C s H fp=>pts_nil) (fun C s H fp=>pe_ix (r:=rIxT K) ix_tup (pv 0) pe_int (fun _ _=>rfl)))
  refine ⟨_,rfl,a,0,ns,rfl,hS,by omega,by decide,by decide,fun p o hp ho=>?_⟩
  have s1:Same H (upd H p o):=snew hp
  have hp1:(upd H p o) p=some o:=uS
  generalize upd H p o=H1 at s1 hp1
  refine ⟨_,rfl,p,12,rfl,⟨o,hp1,ho⟩,by decide,by decide,fun l rows H3 d13 hl hR3 g r12=>?_⟩
  have s03:Same H H3:=fun b u e=>d13.keep _ _ (nNo e hp) (s1 _ _ e)
  obtain ⟨rvs,hrvs,hrp⟩:=id hR3
  have gle:=g.le
  have gne:=g.ne
  refine ⟨_,rfl,l,rfl,⟨_,SqL.of hrvs⟩,comp_hd (runs_list (xs:=rvs)) (by rw [← hrp.length];omega) (fun v hv=>?_) (fun H' s'=>SqL.of (s' _ _ hrvs)) fun lw H4 hlw s34 hw4=>?_⟩
  ·obtain ⟨j,hj⟩:=List.getElem?_of_mem hv
   obtain ⟨r,_,t,u,e,h1,_⟩:=paired_at hrp hj
   exact ⟨t,_,_,e,h1⟩
  rw [hd_rowsX hrp] at hw4
  have s04:=s03.trans s34
  have hR4:=rowsAt_mono hR3 s34
  refine ⟨_,rfl,_,rfl,_,rfl,l,rows,rfl,hR4,g,fun aa avs H5 s45 haa hA=>?_⟩
  have s05:=s04.trans s45
  have hR5:=rowsAt_mono hR4 s45
  refine ⟨a,l,aa,1,8,5,20736,ns,rows,avs,rfl,s05.seq hS,by omega,by decide,hR5,g,haa,hA,by decide,by decide,by decide,fun ln nms us H6 s56 hln hln6 hN6 nm6 nl=>?_⟩
  have s06:=s05.trans s56
  have hR6:=rowsAt_mono hR5 s56
  have hw6:=s56 _ _ (s45 _ _ hw4)
  refine ⟨_,rfl,a,10,ns,rfl,s06.seq hS,by omega,by decide,by decide,fun pk ok hpk hok=>?_⟩
  have s67:Same H6 (upd H6 pk ok):=snew hpk
  have hpk7:(upd H6 pk ok) pk=some ok:=uS
  generalize upd H6 pk ok=H7 at s67 hpk7
  have hln7:=s67 _ _ hln6
  have hw7:=s67 _ _ hw6
  have hR7:=rowsAt_mono hR6 s67
  have wok:=good_wok g
  have lnpk:ln≠pk:=fun z=>by rw [z] at hln6;rw [hln6] at hpk;cases hpk
  have lwln:lw≠ln:=fun z=>by rw [← z,s45 _ _ hw4] at hln;cases hln
  have lwpk:lw≠pk:=fun z=>by rw [← z,hw6] at hpk;cases hpk
  have l_ln:l≠ln:=fun z=>by
   obtain ⟨v5,h5,_⟩:=hR5
   rw [← z,h5] at hln;cases hln
  have l_pk:l≠pk:=fun z=>by
   obtain ⟨v6,h6,_⟩:=hR6
   rw [← z,h6] at hpk;cases hpk
  have lo0:Lo ln pk H7 H7 ln (nms.map fun n=>(n.1,(n.2.1:Int),n.2.2)) us 0:=by
   refine ⟨fun _ _ _ _ e=>e,⟨ok,hpk7,hok⟩,.inl rfl,lnpk,hln7,namesY_of (hN6.mono (tupsS s67)),fun n hn=>?_,by rw [List.length_map];omega,fun n hn=>?_⟩
   ·obtain ⟨m,hm,rfl⟩:=List.mem_map.mp hn
    have gm:=nm6.each m hm
    refine ⟨FitS.word gm.word,fun p hp=>⟨?_,fun x hx=>?_,?_⟩⟩
    ·have:=(gm.deeds.call p.1 (List.mem_map.mpr ⟨p,hp,rfl⟩)).1
     have:=gm.four
     omega
    ·exact FitS.word (wok.word _ ((gm.deeds.call p.1 (List.mem_map.mpr ⟨p,hp,rfl⟩)).2 x hx))
    ·exact FitS.word (wok.word _ (gm.made p hp))
   ·obtain ⟨m,hm,rfl⟩:=List.mem_map.mp hn
    have:=nm6.few m hm
    show m.2.2.length≤73 + 0
    omega
  refine ⟨_,rfl,pk,4,ok,rfl,hpk7,hok,by decide,by decide,fun t o8 t0 t4 ho8=>?_⟩
  have lo1:=lo0.draw (Drawn.upd ho8)
  generalize upd H7 pk o8=H8 at lo1 ⊢
  obtain ⟨k,rfl⟩:=Int.eq_ofNat_of_zero_le t0
  refine ⟨k,rfl,by omega,by omega,for_runs runs_range (fun i σ H'=>∃ (lz:Addr) (ns':List NmX) (vs:List V) (x5 x6:Option V),σ=[some (.ref a),some (.ref pk),some (.ref l),some (.ref lw),some (.ref lz),x5,x6,none]∧Lo ln pk H7 H' lz ns' vs i)
   ⟨ln,_,us,none,none,rfl,lo1⟩ (fun _ _ _ _ _=>trivial) ?_ ?_⟩
  ·rintro i v' σ H9 hi ⟨lz,ns',vs,x5,x6,rfl,b9⟩
   obtain ⟨hi3,rfl⟩:=rangeV_get hi
   have hik:i<k:=by simpa using hi3
   have hi3:i<3:=by omega
   obtain ⟨o9,hp9,ho9⟩:=id b9.pot
   refine ⟨_,rfl,pk,9,o9,rfl,hp9,ho9,by decide,by decide,fun u o10 u0 u1 ho10=>⟨rfl,_,rfl,?_⟩⟩
   have b10:=b9.draw (Drawn.upd ho10)
   generalize upd H9 pk o10=H10 at b10 ⊢
   refine ite2 (fun _=>?_) (fun _=>?_)
   ·refine ⟨_,rfl,Nat.zero_le _,fun te hte=>⟨sL (by show 3≤100000;decide),fun t1 ht1=>⟨sL (by show 1≤100000;decide),fun l2 hl2=>⟨sL (by show 3≤100000;decide),fun t3 ht3=>?_⟩⟩⟩⟩
    have sa:=snew (o:=.tup []) hte
    have sb:=snew (o:=.tup [.str "abc",.int 1,.ref te]) ht1
    have sc:=snew (o:=.lst [.ref t1]) hl2
    have sd:=snew (o:=.tup [.int 9,.int 10,.int 60]) ht3
    have ha1:=sd _ _ (sc _ _ (sb _ _ (uS (H:=H10) (a:=te) (o:=.tup []))))
    have hb1:=sd _ _ (sc _ _ (uS (H:=upd H10 te (.tup [])) (a:=t1) (o:=.tup [.str "abc",.int 1,.ref te])))
    have hc1:=sd _ _ (uS (H:=upd (upd H10 te (.tup [])) t1 (.tup [.str "abc",.int 1,.ref te])) (a:=l2) (o:=.lst [.ref t1]))
    have hd1:=uS (H:=upd (upd (upd H10 te (.tup [])) t1 (.tup [.str "abc",.int 1,.ref te])) l2 (.lst [.ref t1])) (a:=t3) (o:=.tup [.int 9,.int 10,.int 60])
    have s11:=((sa.trans sb).trans sc).trans sd
    have n2:H10 l2=none:=(sa.trans sb).free hl2
    generalize upd (upd (upd (upd H10 te (.tup [])) t1 (.tup [.str "abc",.int 1,.ref te])) l2 (.lst [.ref t1])) t3 (.tup [.int 9,.int 10,.int 60])=H11 at ha1 hb1 hc1 hd1 s11 ⊢
    clear sa sb sc sd
    have b11:=b10.same s11
    obtain ⟨o11,hp11,ho11⟩:=id b11.pot
    have l2p:l2≠pk:=fun z=>by
     obtain ⟨o10',hp10,_⟩:=b10.pot
     rw [z,hp10] at n2;cases n2
    refine ⟨_,rfl,pk,3,o11,rfl,hp11,ho11,by decide,by decide,fun u2 o12 v0 v1 ho12=>?_⟩
    have d12:Drawn pk H11 (upd H11 pk o12):=Drawn.upd ho12
    have b12:=b11.draw d12
    have ha2:=Drawn.tup d12 hp11 ho11 ha1
    have hb2:=Drawn.tup d12 hp11 ho11 hb1
    have hd2:=Drawn.tup d12 hp11 ho11 hd1
    have hc2:=d12.keep _ _ l2p hc1
    generalize upd H11 pk o12=H12 at b12 ha2 hb2 hd2 hc2 ⊢
    obtain ⟨m,hm,m9,m60⟩:=at_nine v0 v1
    have vl:=Paired.length b12.nm
    have le:=b12.le
    refine ⟨t3,_,u2,_,rfl,rfl,SqT.of hd2,hm,_,rfl,lz,_,rfl,.inl (SqL.of b12.at_),_,_,rfl,rfl,l2,m - (vs.length:Int),_,rfl,rfl,hc2,by omega,by omega,sL (by show 1 * _≤100000;omega),fun l5 hl5=>?_⟩
    have s13:=snew (o:=.lst (List.replicate (m - (vs.length:Int)).toNat [V.ref t1]).flatten) hl5
    have h13:(upd H12 l5 (.lst (List.replicate (m - (vs.length:Int)).toNat [V.ref t1]).flatten)) l5=some (.lst (List.replicate (m - (vs.length:Int)).toNat [V.ref t1]).flatten):=uS
    generalize upd H12 l5 (.lst (List.replicate (m - (vs.length:Int)).toNat [V.ref t1]).flatten)=H13 at s13 h13 ⊢
    refine ⟨lz,l5,_,_,rfl,rfl,s13 _ _ b12.at_,h13,sL (by rw [len_rep];show _ + _ * 1≤100000;omega),fun l6 hl6=>?_⟩
    have s14:=snew (o:=.lst (vs++(List.replicate (m - (vs.length:Int)).toNat [V.ref t1]).flatten)) hl6
    have s1214:=s13.trans s14
    have b14:=b12.same s1214
    have n6:H12 l6=none:=s13.free hl6
    have n6p:l6≠pk:=fun c=>by
     obtain ⟨o',hp',_⟩:=b12.pot
     rw [c,hp'] at n6;cases n6
    have nz6:l6=ln∨H7 l6=none:=by
     by_cases c:l6=ln
     ·exact .inl c
     ·refine .inr ?_
      cases z:H7 l6 with
      | none=>rfl
      | some w'=>rw [b12.keep _ _ c n6p z] at n6;cases n6
    have ny:NameY H12 ((("abc":Str),(1:Int),([]:List (LS×Str))):NmX) (.ref t1):=⟨t1,te,[],rfl,hb2,.inl ha2,.nil⟩
    refine ⟨l6,ns'++List.replicate (m - (vs.length:Int)).toNat ((("abc":Str),(1:Int),([]:List (LS×Str))):NmX),_,_,_,rfl,⟨b14.keep,b14.pot,nz6,n6p,uS,Paired.mapP (namesY_cat b12.nm ny _) (fun _ _ z=>z.same s1214),fun n hn=>?_,?_,fun n hn=>?_⟩⟩
    ·rcases List.mem_append.mp hn with c | c
     ·exact b12.fit n c
     ·rw [List.eq_of_mem_replicate c]
      exact ⟨by decide +kernel,fun _ h=>nomatch h⟩
    ·rw [List.length_append,List.length_replicate];omega
    ·rcases List.mem_append.mp hn with c | c
     ·exact Nat.le_succ_of_le (b12.few n c)
     ·rw [List.eq_of_mem_replicate c];exact Nat.zero_le _
   ·refine ⟨_,rfl,Nat.zero_le _,fun le' hle=>?_⟩
    have s11:=snew (o:=.lst []) hle
    have h11:(upd H10 le' (.lst [])) le'=some (.lst []):=uS
    have b11:=b10.same s11
    generalize upd H10 le' (.lst [])=H11 at b11 h11 ⊢
    obtain ⟨ds,r1,r2,r3⟩:=namesY_reps (K:=K) b11.nm b11.fit
    refine ⟨.list ds,.list [],.list (SqL.of b11.at_) r1,.list (SqL.of h11) .nil,(by rw [W.kqdOk];exact r2),by decide,_,rfl,?_⟩
    by_cases ve:vs=[]
    ·have de:ds=[]:=List.length_eq_zero_iff.mp (by rw [r3,ve];rfl)
     rw [de,dEq_self]
     exact iteF ⟨lz,ns',vs,_,_,rfl,b11.up⟩
    have de:W.Dat.list ds≠.list []:=fun c=>by
     injection c with c
     exact ve (List.length_eq_zero_iff.mp (by rw [← r3,c];rfl))
    rw [dEq_neg de]
    have vp:0<vs.length:=List.length_pos_iff.mpr ve
    obtain ⟨o11,hp11,ho11⟩:=id b11.pot
    have vl:=Paired.length b11.nm
    have le:=b11.le
    refine iteT ⟨_,rfl,_,rfl,lz,_,rfl,.inl (SqL.of b11.at_),pk,_,o11,rfl,hp11,ho11,by omega,by omega,fun u2 o12 v0 v1 ho12=>?_⟩
    have b12:=b11.draw (Drawn.upd ho12)
    generalize upd H11 pk o12=H12 at b12 ⊢
    obtain ⟨j,rfl⟩:=Int.eq_ofNat_of_zero_le v0
    have hj:vs[j]?=some vs[j]:=List.getElem?_eq_getElem (by omega)
    obtain ⟨nn,hnn,hny⟩:=paired_at b12.nm hj
    have hmem:=List.mem_of_getElem? hnn
    refine ⟨_,rfl,_,rfl,_,rfl,_,rfl,_,rfl,lz,_,_,_,rfl,rfl,SqL.of b12.at_,atI_nat hj,?_⟩
    have lwz:lw≠lz:=by
     rcases b12.old with c | c
     ·rw [c];exact lwln
     ·exact fun z=>by rw [← z,hw7] at c;cases c
    refine ⟨pk,lw,lz,rows.map (·.1),ns',vs,nn,_,73 + i,rfl,Ne.symm lwpk,Ne.symm b12.np,b12.pot,b12.keep _ _ lwln lwpk hw7,wok,by rw [List.length_map];exact gne,by rw [List.length_map];exact gle,b12.at_,b12.nm,b12.fit,ve,by omega,hny,b12.fit nn hmem,b12.few nn hmem,by omega,by omega,fun v2 n2 H13 d13' hn2 fn2 le2=>?_⟩
    have b13:=b12.draw d13'
    refine ⟨_,rfl,_,rfl,lz,_,_,j,rfl,rfl,b13.at_,by unfold ixN;rw [if_pos (by omega),if_pos (by omega)];rfl,?_⟩
    have kp:∀ {n:NmX} {v:V},NameY H13 n v→NameY (upd H13 lz (.lst (vs.set j v2))) n v:=fun h=>h.keep b13.at_ (names_no b13.nm ve) fun b o hb e=>by rw [upd_ne hb];exact e
    refine ⟨lz,ns'.set j n2,vs.set j v2,_,_,rfl,⟨fun c w' h1 h2 e=>?_,?_,b13.old,b13.np,uS,Paired.mapP (namesY_set b13.nm hn2 j) (fun _ _ z=>kp z),fun n hn=>?_,by rw [List.length_set];exact b13.le,fun n hn=>?_⟩⟩
    ·rw [upd_ne]
     ·exact b13.keep c w' h1 h2 e
     ·rcases b13.old with z | z
      ·rw [z];exact h1
      ·exact nNo e z
    ·obtain ⟨o13,hp13,ho13⟩:=b13.pot
     exact ⟨o13,by rw [upd_ne (Ne.symm b13.np)];exact hp13,ho13⟩
    ·rcases List.mem_or_eq_of_mem_set hn with c | c
     ·exact b13.fit n c
     ·rw [c];exact fn2
    ·rcases List.mem_or_eq_of_mem_set hn with c | c
     ·exact Nat.le_succ_of_le (b13.few n c)
     ·rw [c];omega
  ·rintro σ H9 ⟨lz,ns',vs,x5,x6,rfl,b9⟩
   have few9:∀ n∈ns',n.2.2.length≤200:=fun n hn=>by
    have:=b9.few n hn
    rw [rangeV_len] at this
    omega
   have okN:∀ n∈ns',OkN n:=fun n hn=>(b9.fit n hn).ok (few9 n hn)
   have tu:∀ {b:Addr} {xs:List V},H7 b=some (.tup xs)→H9 b=some (.tup xs):=fun {b xs} e=>b9.keep _ _ (fun z=>by rw [z,hln7] at e;cases e) (fun z=>by
    obtain ⟨r',b',eo,_⟩:=hok
    rw [z,hpk7,eo] at e;cases e) e
   have hR9:RowsAt H9 l rows:=by
    obtain ⟨v7,h7,p7⟩:=hR7
    exact ⟨v7,b9.keep _ _ l_ln l_pk h7,Paired.mapP p7 fun _ _ ⟨t',u',e,h1,h2⟩=>⟨t',u',e,tu h1,tu h2⟩⟩
   have hN9:NamesX K H9 ns' vs:=Paired.mapP b9.nm fun _ _ z=>z.x
   refine ⟨_,rfl,_,rfl,l,lz,rows,ns',vs,rfl,hR9,g,b9.at_,hN9,okN,by have:=b9.le;omega,fun r v H10 s10 bd hv=>?_⟩
   refine ⟨(fun σ' H'=>∃ (dv:Addr),σ'=[some (.ref a),some (.ref pk),some (.ref l),some (.ref lw),some (.ref lz),x5,x6,some (.ref dv)]∧Same H9 H'∧BkV H' ns' r dv),?_,?_⟩
   ·refine ⟨_,rfl,rfl,_,rfl,?_⟩
    cases r with
    | none =>
     have hv:v=.non:=hv
     rw [hv]
     refine iteT ⟨_,rfl,lz,rfl,⟨_,SqL.of (s10 _ _ b9.at_)⟩,comp_hd (runs_list (xs:=vs)) (by rw [← Paired.length b9.nm];have:=b9.le;omega) (fun v hv=>?_) (fun H' s'=>SqL.of (s' _ _ (s10 _ _ b9.at_))) fun lh H11 hlh s11 hh11=>?_⟩
     ·obtain ⟨j,hj⟩:=List.getElem?_of_mem hv
      obtain ⟨_,_,t',_,_,e,h1,_⟩:=paired_at b9.nm hj
      exact ⟨t',_,_,e,s10 _ _ h1⟩
     rw [hd_names (hN9.mono s10)] at hh11
     exact ⟨sL (by show 2≤100000;decide),fun t' ht'=>⟨t',rfl,(s10.trans s11).trans (snew ht'),lh,uS,snew ht' _ _ hh11⟩⟩
    | some d =>
     obtain ⟨dv,rfl,hd⟩:=hv
     exact iteF ⟨dv,rfl,s10,hd⟩
   ·rintro σ' H11 ⟨dv,rfl,s11,hb11⟩
    refine ⟨_,rfl,?_⟩
    intro xb dxb nx ndx nex
    refine mk_kinds nx ndx (rowsAt_mono hR9 s11) g fun H12 s12 kd12=>?_
    have s912:=s11.trans s12
    refine ⟨_,rfl,xb,lz,true,rows,ns',vs,r,rfl,kd12,g,SqL.of (s912 _ _ b9.at_),hN9.mono s912,fun n hn=>(okN n hn).toFitN,bd,fun a1 H13 s13 hb13=>?_⟩
    have s1113:=s12.trans s13
    have hb11':BkV H13 ns' r dv:=by
     cases r with
     | none =>
      obtain ⟨lq,h1,h2⟩:=hb11
      exact ⟨lq,s1113 _ _ h1,s1113 _ _ h2⟩
     | some d=>exact s1113 _ _ hb11
    have okd:=bk_ok okN bd
    refine ⟨_,rfl,_,_,bk_rep hb13,bk_rep hb11',okd,okd,?_⟩
    rw [dEq_self]
    exact q H13
end K62
namespace K62
open PySem L2
variable {P:Program} {w:World} {K:Fg} {mg:Str→Option Value} {base:Heap}
def md {K:Fg}{m q:Str}{st:Stmt}{ps:LS}(T:Mp K C m q st f fd) (b:Binds K fd ps []):MDef K C m q st ps f fd:=⟨T.fn,b,T.a,T.i,T.fn.kp⟩
def tq:=@tp
set_option maxHeartbeats 4000000 in
def all_mk {l:W.OpenLaw}{w:World}{K:Fg}{h:Heap}{mg:Str→Option Value}(X:K.In h) (G:h.Ns mainGlobals mg) (hfa:mg "law"=some (.ref fa))
  {T_LETTERS T_MOST_LETTERS T_MOST_KINDS T_MOST_UPS T_MOST_PLACES T_MOST_DEEDS T_MOST_NAMES:Tok}
  (a_QD:W.nsIn K mainGlobals "DeedError"=some (some (.ref QD)))
  (cl_QD:W.isClsIn K QD=true)
  (ty_QD:W.typeIn K (.ref QD)=some (.type "type"))
  {nm_QD q_QD:Str} {N_QD:Addr} {bs_QD sub_QD:List Value} {ab_QD:Bool} {sn_QD:LS} {col_QD:Option Bool} {dd_QD:Option Addr} {k0_QD k1_QD k2_QD k3_QD k5_QD:Option Value}
  {bm_QD:List Value} {hd_QD:Bool}
  (l_QD:K.lookup QD=some (excClassObj nm_QD q_QD QD N_QD bs_QD bm_QD hd_QD sn_QD sub_QD ab_QD col_QD dd_QD k0_QD k1_QD k2_QD k3_QD k5_QD "ValueError.__new__"))
  (val_QD:W.subIn K (.ref QD) (.type "ValueError")=some true)
  (bas_QD:W.subIn K (.ref QD) (.type "BaseException")=some true)
  (att_QD:W.subIn K (.ref QD) (.type "AttributeError")=some false)
  (nam_QD:W.subIn K (.ref QD) (.type "NameError")=some false)
  (kp_QD:W.keepIn K (.ref QD)=true)
  (a_Q0:W.nsIn K mainGlobals "NoKind"=some (some (.ref Q0)))
  (cl_Q0:W.isClsIn K Q0=true)
  (ty_Q0:W.typeIn K (.ref Q0)=some (.type "type"))
  {nm_Q0 q_Q0:Str} {N_Q0:Addr} {bs_Q0 sub_Q0:List Value} {ab_Q0:Bool} {sn_Q0:LS} {col_Q0:Option Bool} {dd_Q0:Option Addr} {k0_Q0 k1_Q0 k2_Q0 k3_Q0 k5_Q0:Option Value}
  (l_Q0:K.lookup Q0=some (excClassObj nm_Q0 q_Q0 Q0 N_Q0 bs_Q0 [.ref QD,.type "ValueError",.type "Exception",.type "BaseException",.type "object"] true sn_Q0 sub_Q0 ab_Q0 col_Q0 dd_Q0 k0_Q0 k1_Q0 k2_Q0 k3_Q0 k5_Q0 "ValueError.__new__"))
  (val_Q0:W.subIn K (.ref Q0) (.type "ValueError")=some true)
  (bas_Q0:W.subIn K (.ref Q0) (.type "BaseException")=some true)
  (att_Q0:W.subIn K (.ref Q0) (.type "AttributeError")=some false)
  (nam_Q0:W.subIn K (.ref Q0) (.type "NameError")=some false)
  (kp_Q0:W.keepIn K (.ref Q0)=true)
  (a_Q1:W.nsIn K mainGlobals "Twice"=some (some (.ref Q1)))
  (cl_Q1:W.isClsIn K Q1=true)
  (ty_Q1:W.typeIn K (.ref Q1)=some (.type "type"))
  {nm_Q1 q_Q1:Str} {N_Q1:Addr} {bs_Q1 sub_Q1:List Value} {ab_Q1:Bool} {sn_Q1:LS} {col_Q1:Option Bool} {dd_Q1:Option Addr} {k0_Q1 k1_Q1 k2_Q1 k3_Q1 k5_Q1:Option Value}
  (l_Q1:K.lookup Q1=some (excClassObj nm_Q1 q_Q1 Q1 N_Q1 bs_Q1 [.ref QD,.type "ValueError",.type "Exception",.type "BaseException",.type "object"] true sn_Q1 sub_Q1 ab_Q1 col_Q1 dd_Q1 k0_Q1 k1_Q1 k2_Q1 k3_Q1 k5_Q1 "ValueError.__new__"))
  (val_Q1:W.subIn K (.ref Q1) (.type "ValueError")=some true)
  (bas_Q1:W.subIn K (.ref Q1) (.type "BaseException")=some true)
  (att_Q1:W.subIn K (.ref Q1) (.type "AttributeError")=some false)
  (nam_Q1:W.subIn K (.ref Q1) (.type "NameError")=some false)
  (kp_Q1:W.keepIn K (.ref Q1)=true)
  (a_Q2:W.nsIn K mainGlobals "NoName"=some (some (.ref Q2)))
  (cl_Q2:W.isClsIn K Q2=true)
  (ty_Q2:W.typeIn K (.ref Q2)=some (.type "type"))
  {nm_Q2 q_Q2:Str} {N_Q2:Addr} {bs_Q2 sub_Q2:List Value} {ab_Q2:Bool} {sn_Q2:LS} {col_Q2:Option Bool} {dd_Q2:Option Addr} {k0_Q2 k1_Q2 k2_Q2 k3_Q2 k5_Q2:Option Value}
  (l_Q2:K.lookup Q2=some (excClassObj nm_Q2 q_Q2 Q2 N_Q2 bs_Q2 [.ref QD,.type "ValueError",.type "Exception",.type "BaseException",.type "object"] true sn_Q2 sub_Q2 ab_Q2 col_Q2 dd_Q2 k0_Q2 k1_Q2 k2_Q2 k3_Q2 k5_Q2 "ValueError.__new__"))
  (val_Q2:W.subIn K (.ref Q2) (.type "ValueError")=some true)
  (bas_Q2:W.subIn K (.ref Q2) (.type "BaseException")=some true)
  (att_Q2:W.subIn K (.ref Q2) (.type "AttributeError")=some false)
  (nam_Q2:W.subIn K (.ref Q2) (.type "NameError")=some false)
  (kp_Q2:W.keepIn K (.ref Q2)=true)
  (a_Q3:W.nsIn K mainGlobals "Ring"=some (some (.ref Q3)))
  (cl_Q3:W.isClsIn K Q3=true)
  (ty_Q3:W.typeIn K (.ref Q3)=some (.type "type"))
  (a_Q4:W.nsIn K mainGlobals "NoDeed"=some (some (.ref Q4)))
  (cl_Q4:W.isClsIn K Q4=true)
  (ty_Q4:W.typeIn K (.ref Q4)=some (.type "type"))
  {nm_Q4 q_Q4:Str} {N_Q4:Addr} {bs_Q4 sub_Q4:List Value} {ab_Q4:Bool} {sn_Q4:LS} {col_Q4:Option Bool} {dd_Q4:Option Addr} {k0_Q4 k1_Q4 k2_Q4 k3_Q4 k5_Q4:Option Value}
  (l_Q4:K.lookup Q4=some (excClassObj nm_Q4 q_Q4 Q4 N_Q4 bs_Q4 [.ref QD,.type "ValueError",.type "Exception",.type "BaseException",.type "object"] true sn_Q4 sub_Q4 ab_Q4 col_Q4 dd_Q4 k0_Q4 k1_Q4 k2_Q4 k3_Q4 k5_Q4 "ValueError.__new__"))
  (val_Q4:W.subIn K (.ref Q4) (.type "ValueError")=some true)
  (bas_Q4:W.subIn K (.ref Q4) (.type "BaseException")=some true)
  (att_Q4:W.subIn K (.ref Q4) (.type "AttributeError")=some false)
  (nam_Q4:W.subIn K (.ref Q4) (.type "NameError")=some false)
  (kp_Q4:W.keepIn K (.ref Q4)=true)
  (a_Q5:W.nsIn K mainGlobals "Same"=some (some (.ref Q5)))
  (cl_Q5:W.isClsIn K Q5=true)
  (ty_Q5:W.typeIn K (.ref Q5)=some (.type "type"))
  {nm_Q5 q_Q5:Str} {N_Q5:Addr} {bs_Q5 sub_Q5:List Value} {ab_Q5:Bool} {sn_Q5:LS} {col_Q5:Option Bool} {dd_Q5:Option Addr} {k0_Q5 k1_Q5 k2_Q5 k3_Q5 k5_Q5:Option Value}
  (l_Q5:K.lookup Q5=some (excClassObj nm_Q5 q_Q5 Q5 N_Q5 bs_Q5 [.ref QD,.type "ValueError",.type "Exception",.type "BaseException",.type "object"] true sn_Q5 sub_Q5 ab_Q5 col_Q5 dd_Q5 k0_Q5 k1_Q5 k2_Q5 k3_Q5 k5_Q5 "ValueError.__new__"))
  (val_Q5:W.subIn K (.ref Q5) (.type "ValueError")=some true)
  (bas_Q5:W.subIn K (.ref Q5) (.type "BaseException")=some true)
  (att_Q5:W.subIn K (.ref Q5) (.type "AttributeError")=some false)
  (nam_Q5:W.subIn K (.ref Q5) (.type "NameError")=some false)
  (kp_Q5:W.keepIn K (.ref Q5)=true)
  (a_Q6:W.nsIn K mainGlobals "NoText"=some (some (.ref Q6)))
  (cl_Q6:W.isClsIn K Q6=true)
  (ty_Q6:W.typeIn K (.ref Q6)=some (.type "type"))
  (a_Q7:W.nsIn K mainGlobals "TooMany"=some (some (.ref Q7)))
  (cl_Q7:W.isClsIn K Q7=true)
  (ty_Q7:W.typeIn K (.ref Q7)=some (.type "type"))
  {nm_Q7 q_Q7:Str} {N_Q7:Addr} {bs_Q7 sub_Q7:List Value} {ab_Q7:Bool} {sn_Q7:LS} {col_Q7:Option Bool} {dd_Q7:Option Addr} {k0_Q7 k1_Q7 k2_Q7 k3_Q7 k5_Q7:Option Value}
  {bm_Q7:List Value} {hd_Q7:Bool}
  (l_Q7:K.lookup Q7=some (excClassObj nm_Q7 q_Q7 Q7 N_Q7 bs_Q7 bm_Q7 hd_Q7 sn_Q7 sub_Q7 ab_Q7 col_Q7 dd_Q7 k0_Q7 k1_Q7 k2_Q7 k3_Q7 k5_Q7 "ValueError.__new__"))
  (val_Q7:W.subIn K (.ref Q7) (.type "ValueError")=some true)
  (bas_Q7:W.subIn K (.ref Q7) (.type "BaseException")=some true)
  (att_Q7:W.subIn K (.ref Q7) (.type "AttributeError")=some false)
  (nam_Q7:W.subIn K (.ref Q7) (.type "NameError")=some false)
  (kp_Q7:W.keepIn K (.ref Q7)=true)
  (a_Q8:W.nsIn K mainGlobals "NoBoard"=some (some (.ref Q8)))
  (cl_Q8:W.isClsIn K Q8=true)
  (ty_Q8:W.typeIn K (.ref Q8)=some (.type "type"))
  {nm_Q8 q_Q8:Str} {N_Q8:Addr} {bs_Q8 sub_Q8:List Value} {ab_Q8:Bool} {sn_Q8:LS} {col_Q8:Option Bool} {dd_Q8:Option Addr} {k0_Q8 k1_Q8 k2_Q8 k3_Q8 k5_Q8:Option Value}
  {bm_Q8:List Value} {hd_Q8:Bool}
  (l_Q8:K.lookup Q8=some (excClassObj nm_Q8 q_Q8 Q8 N_Q8 bs_Q8 bm_Q8 hd_Q8 sn_Q8 sub_Q8 ab_Q8 col_Q8 dd_Q8 k0_Q8 k1_Q8 k2_Q8 k3_Q8 k5_Q8 "ValueError.__new__"))
  (val_Q8:W.subIn K (.ref Q8) (.type "ValueError")=some true)
  (bas_Q8:W.subIn K (.ref Q8) (.type "BaseException")=some true)
  (att_Q8:W.subIn K (.ref Q8) (.type "AttributeError")=some false)
  (nam_Q8:W.subIn K (.ref Q8) (.type "NameError")=some false)
  (kp_Q8:W.keepIn K (.ref Q8)=true)
  (a_Q9:W.nsIn K mainGlobals "NoCall"=some (some (.ref Q9)))
  (cl_Q9:W.isClsIn K Q9=true)
  (ty_Q9:W.typeIn K (.ref Q9)=some (.type "type"))
  (a_Q10:W.nsIn K mainGlobals "NoLine"=some (some (.ref Q10)))
  (cl_Q10:W.isClsIn K Q10=true)
  (ty_Q10:W.typeIn K (.ref Q10)=some (.type "type"))
  (a_Q11:W.nsIn K mainGlobals "NoPlace"=some (some (.ref Q11)))
  (cl_Q11:W.isClsIn K Q11=true)
  (ty_Q11:W.typeIn K (.ref Q11)=some (.type "type"))
  (a_Q12:W.nsIn K mainGlobals "NoWeights"=some (some (.ref Q12)))
  (cl_Q12:W.isClsIn K Q12=true)
  (ty_Q12:W.typeIn K (.ref Q12)=some (.type "type"))
  (a_Q13:W.nsIn K mainGlobals "NoTerm"=some (some (.ref Q13)))
  (cl_Q13:W.isClsIn K Q13=true)
  (ty_Q13:W.typeIn K (.ref Q13)=some (.type "type"))
  (a_Q14:W.nsIn K mainGlobals "NoRow"=some (some (.ref Q14)))
  (cl_Q14:W.isClsIn K Q14=true)
  (ty_Q14:W.typeIn K (.ref Q14)=some (.type "type"))
  (cg_Q:W.specialIn K (.builtin "object.__class__") "__get__"=some (some (.builtin "getset_descriptor.__get__")))
  (ct_Q:W.takesIn K (.builtin "object.__class__")=some true)
  (ga_Q0:W.findIn K (.ref Q0) "__getattribute__"=some (some (.builtin "BaseException.__getattribute__")))
  (gt_Q0:W.findIn K (.ref Q0) "__getattr__"=some none)
  (ca_Q0:W.findIn K (.ref Q0) "__class__"=some (some (.builtin "object.__class__")))
  (ob_Q0:W.mroIn K Q0 (.type "object")=some true)
  (sd_Q0:W.subIn K (.ref Q0) (.ref QD)=some true)
  (s_Q0_0:W.subIn K (.ref Q0) (.ref Q0)=some true)
  (s_Q0_1:W.subIn K (.ref Q0) (.ref Q1)=some false)
  (s_Q0_2:W.subIn K (.ref Q0) (.ref Q2)=some false)
  (s_Q0_3:W.subIn K (.ref Q0) (.ref Q3)=some false)
  (s_Q0_4:W.subIn K (.ref Q0) (.ref Q4)=some false)
  (s_Q0_5:W.subIn K (.ref Q0) (.ref Q5)=some false)
  (s_Q0_6:W.subIn K (.ref Q0) (.ref Q6)=some false)
  (s_Q0_7:W.subIn K (.ref Q0) (.ref Q7)=some false)
  (s_Q0_8:W.subIn K (.ref Q0) (.ref Q8)=some false)
  (s_Q0_9:W.subIn K (.ref Q0) (.ref Q9)=some false)
  (s_Q0_10:W.subIn K (.ref Q0) (.ref Q10)=some false)
  (s_Q0_11:W.subIn K (.ref Q0) (.ref Q11)=some false)
  (s_Q0_12:W.subIn K (.ref Q0) (.ref Q12)=some false)
  (s_Q0_13:W.subIn K (.ref Q0) (.ref Q13)=some false)
  (s_Q0_14:W.subIn K (.ref Q0) (.ref Q14)=some false)
  (ga_Q1:W.findIn K (.ref Q1) "__getattribute__"=some (some (.builtin "BaseException.__getattribute__")))
  (gt_Q1:W.findIn K (.ref Q1) "__getattr__"=some none)
  (ca_Q1:W.findIn K (.ref Q1) "__class__"=some (some (.builtin "object.__class__")))
  (ob_Q1:W.mroIn K Q1 (.type "object")=some true)
  (sd_Q1:W.subIn K (.ref Q1) (.ref QD)=some true)
  (s_Q1_0:W.subIn K (.ref Q1) (.ref Q0)=some false)
  (s_Q1_1:W.subIn K (.ref Q1) (.ref Q1)=some true)
  (s_Q1_2:W.subIn K (.ref Q1) (.ref Q2)=some false)
  (s_Q1_3:W.subIn K (.ref Q1) (.ref Q3)=some false)
  (s_Q1_4:W.subIn K (.ref Q1) (.ref Q4)=some false)
  (s_Q1_5:W.subIn K (.ref Q1) (.ref Q5)=some false)
  (s_Q1_6:W.subIn K (.ref Q1) (.ref Q6)=some false)
  (s_Q1_7:W.subIn K (.ref Q1) (.ref Q7)=some false)
  (s_Q1_8:W.subIn K (.ref Q1) (.ref Q8)=some false)
  (s_Q1_9:W.subIn K (.ref Q1) (.ref Q9)=some false)
  (s_Q1_10:W.subIn K (.ref Q1) (.ref Q10)=some false)
  (s_Q1_11:W.subIn K (.ref Q1) (.ref Q11)=some false)
  (s_Q1_12:W.subIn K (.ref Q1) (.ref Q12)=some false)
  (s_Q1_13:W.subIn K (.ref Q1) (.ref Q13)=some false)
  (s_Q1_14:W.subIn K (.ref Q1) (.ref Q14)=some false)
  (ga_Q2:W.findIn K (.ref Q2) "__getattribute__"=some (some (.builtin "BaseException.__getattribute__")))
  (gt_Q2:W.findIn K (.ref Q2) "__getattr__"=some none)
  (ca_Q2:W.findIn K (.ref Q2) "__class__"=some (some (.builtin "object.__class__")))
  (ob_Q2:W.mroIn K Q2 (.type "object")=some true)
  (sd_Q2:W.subIn K (.ref Q2) (.ref QD)=some true)
  (s_Q2_0:W.subIn K (.ref Q2) (.ref Q0)=some false)
  (s_Q2_1:W.subIn K (.ref Q2) (.ref Q1)=some false)
  (s_Q2_2:W.subIn K (.ref Q2) (.ref Q2)=some true)
  (s_Q2_3:W.subIn K (.ref Q2) (.ref Q3)=some false)
  (s_Q2_4:W.subIn K (.ref Q2) (.ref Q4)=some false)
  (s_Q2_5:W.subIn K (.ref Q2) (.ref Q5)=some false)
  (s_Q2_6:W.subIn K (.ref Q2) (.ref Q6)=some false)
  (s_Q2_7:W.subIn K (.ref Q2) (.ref Q7)=some false)
  (s_Q2_8:W.subIn K (.ref Q2) (.ref Q8)=some false)
  (s_Q2_9:W.subIn K (.ref Q2) (.ref Q9)=some false)
  (s_Q2_10:W.subIn K (.ref Q2) (.ref Q10)=some false)
  (s_Q2_11:W.subIn K (.ref Q2) (.ref Q11)=some false)
  (s_Q2_12:W.subIn K (.ref Q2) (.ref Q12)=some false)
  (s_Q2_13:W.subIn K (.ref Q2) (.ref Q13)=some false)
  (s_Q2_14:W.subIn K (.ref Q2) (.ref Q14)=some false)
  (ga_Q4:W.findIn K (.ref Q4) "__getattribute__"=some (some (.builtin "BaseException.__getattribute__")))
  (gt_Q4:W.findIn K (.ref Q4) "__getattr__"=some none)
  (ca_Q4:W.findIn K (.ref Q4) "__class__"=some (some (.builtin "object.__class__")))
  (ob_Q4:W.mroIn K Q4 (.type "object")=some true)
  (sd_Q4:W.subIn K (.ref Q4) (.ref QD)=some true)
  (s_Q4_0:W.subIn K (.ref Q4) (.ref Q0)=some false)
  (s_Q4_1:W.subIn K (.ref Q4) (.ref Q1)=some false)
  (s_Q4_2:W.subIn K (.ref Q4) (.ref Q2)=some false)
  (s_Q4_3:W.subIn K (.ref Q4) (.ref Q3)=some false)
  (s_Q4_4:W.subIn K (.ref Q4) (.ref Q4)=some true)
  (s_Q4_5:W.subIn K (.ref Q4) (.ref Q5)=some false)
  (s_Q4_6:W.subIn K (.ref Q4) (.ref Q6)=some false)
  (s_Q4_7:W.subIn K (.ref Q4) (.ref Q7)=some false)
  (s_Q4_8:W.subIn K (.ref Q4) (.ref Q8)=some false)
  (s_Q4_9:W.subIn K (.ref Q4) (.ref Q9)=some false)
  (s_Q4_10:W.subIn K (.ref Q4) (.ref Q10)=some false)
  (s_Q4_11:W.subIn K (.ref Q4) (.ref Q11)=some false)
  (s_Q4_12:W.subIn K (.ref Q4) (.ref Q12)=some false)
  (s_Q4_13:W.subIn K (.ref Q4) (.ref Q13)=some false)
  (s_Q4_14:W.subIn K (.ref Q4) (.ref Q14)=some false)
  (ga_Q5:W.findIn K (.ref Q5) "__getattribute__"=some (some (.builtin "BaseException.__getattribute__")))
  (gt_Q5:W.findIn K (.ref Q5) "__getattr__"=some none)
  (ca_Q5:W.findIn K (.ref Q5) "__class__"=some (some (.builtin "object.__class__")))
  (ob_Q5:W.mroIn K Q5 (.type "object")=some true)
  (sd_Q5:W.subIn K (.ref Q5) (.ref QD)=some true)
  (s_Q5_0:W.subIn K (.ref Q5) (.ref Q0)=some false)
  (s_Q5_1:W.subIn K (.ref Q5) (.ref Q1)=some false)
  (s_Q5_2:W.subIn K (.ref Q5) (.ref Q2)=some false)
  (s_Q5_3:W.subIn K (.ref Q5) (.ref Q3)=some false)
  (s_Q5_4:W.subIn K (.ref Q5) (.ref Q4)=some false)
  (s_Q5_5:W.subIn K (.ref Q5) (.ref Q5)=some true)
  (s_Q5_6:W.subIn K (.ref Q5) (.ref Q6)=some false)
  (s_Q5_7:W.subIn K (.ref Q5) (.ref Q7)=some false)
  (s_Q5_8:W.subIn K (.ref Q5) (.ref Q8)=some false)
  (s_Q5_9:W.subIn K (.ref Q5) (.ref Q9)=some false)
  (s_Q5_10:W.subIn K (.ref Q5) (.ref Q10)=some false)
  (s_Q5_11:W.subIn K (.ref Q5) (.ref Q11)=some false)
  (s_Q5_12:W.subIn K (.ref Q5) (.ref Q12)=some false)
  (s_Q5_13:W.subIn K (.ref Q5) (.ref Q13)=some false)
  (s_Q5_14:W.subIn K (.ref Q5) (.ref Q14)=some false)
  (ga_Q7:W.findIn K (.ref Q7) "__getattribute__"=some (some (.builtin "BaseException.__getattribute__")))
  (gt_Q7:W.findIn K (.ref Q7) "__getattr__"=some none)
  (ca_Q7:W.findIn K (.ref Q7) "__class__"=some (some (.builtin "object.__class__")))
  (ob_Q7:W.mroIn K Q7 (.type "object")=some true)
  (sd_Q7:W.subIn K (.ref Q7) (.ref QD)=some true)
  (s_Q7_0:W.subIn K (.ref Q7) (.ref Q0)=some false)
  (s_Q7_1:W.subIn K (.ref Q7) (.ref Q1)=some false)
  (s_Q7_2:W.subIn K (.ref Q7) (.ref Q2)=some false)
  (s_Q7_3:W.subIn K (.ref Q7) (.ref Q3)=some false)
  (s_Q7_4:W.subIn K (.ref Q7) (.ref Q4)=some false)
  (s_Q7_5:W.subIn K (.ref Q7) (.ref Q5)=some false)
  (s_Q7_6:W.subIn K (.ref Q7) (.ref Q6)=some false)
  (s_Q7_7:W.subIn K (.ref Q7) (.ref Q7)=some true)
  (s_Q7_8:W.subIn K (.ref Q7) (.ref Q8)=some false)
  (s_Q7_9:W.subIn K (.ref Q7) (.ref Q9)=some false)
  (s_Q7_10:W.subIn K (.ref Q7) (.ref Q10)=some false)
  (s_Q7_11:W.subIn K (.ref Q7) (.ref Q11)=some false)
  (s_Q7_12:W.subIn K (.ref Q7) (.ref Q12)=some false)
  (s_Q7_13:W.subIn K (.ref Q7) (.ref Q13)=some false)
  (s_Q7_14:W.subIn K (.ref Q7) (.ref Q14)=some false)
  (in_Q7:W.findIn K (.ref Q7) "__init__"=some (some (.builtin "ValueError.__init__")))
  (ga_Q8:W.findIn K (.ref Q8) "__getattribute__"=some (some (.builtin "BaseException.__getattribute__")))
  (gt_Q8:W.findIn K (.ref Q8) "__getattr__"=some none)
  (ca_Q8:W.findIn K (.ref Q8) "__class__"=some (some (.builtin "object.__class__")))
  (ob_Q8:W.mroIn K Q8 (.type "object")=some true)
  (sd_Q8:W.subIn K (.ref Q8) (.ref QD)=some true)
  (s_Q8_0:W.subIn K (.ref Q8) (.ref Q0)=some false)
  (s_Q8_1:W.subIn K (.ref Q8) (.ref Q1)=some false)
  (s_Q8_2:W.subIn K (.ref Q8) (.ref Q2)=some false)
  (s_Q8_3:W.subIn K (.ref Q8) (.ref Q3)=some false)
  (s_Q8_4:W.subIn K (.ref Q8) (.ref Q4)=some false)
  (s_Q8_5:W.subIn K (.ref Q8) (.ref Q5)=some false)
  (s_Q8_6:W.subIn K (.ref Q8) (.ref Q6)=some false)
  (s_Q8_7:W.subIn K (.ref Q8) (.ref Q7)=some false)
  (s_Q8_8:W.subIn K (.ref Q8) (.ref Q8)=some true)
  (s_Q8_9:W.subIn K (.ref Q8) (.ref Q9)=some false)
  (s_Q8_10:W.subIn K (.ref Q8) (.ref Q10)=some false)
  (s_Q8_11:W.subIn K (.ref Q8) (.ref Q11)=some false)
  (s_Q8_12:W.subIn K (.ref Q8) (.ref Q12)=some false)
  (s_Q8_13:W.subIn K (.ref Q8) (.ref Q13)=some false)
  (s_Q8_14:W.subIn K (.ref Q8) (.ref Q14)=some false)
  (in_Q8:W.findIn K (.ref Q8) "__init__"=some (some (.builtin "ValueError.__init__")))
  (sa_Q0:W.findIn K (.ref Q0) "__setattr__"=some (some (.builtin "object.__setattr__")))
  (na_Q0:W.findIn K (.ref Q0) "word"=some none)
  (sa_Q1:W.findIn K (.ref Q1) "__setattr__"=some (some (.builtin "object.__setattr__")))
  (na_Q1:W.findIn K (.ref Q1) "word"=some none)
  (sa_Q2:W.findIn K (.ref Q2) "__setattr__"=some (some (.builtin "object.__setattr__")))
  (na_Q2:W.findIn K (.ref Q2) "word"=some none)
  (sa_Q4:W.findIn K (.ref Q4) "__setattr__"=some (some (.builtin "object.__setattr__")))
  (na_Q4:W.findIn K (.ref Q4) "number"=some none)
  (sa_Q5:W.findIn K (.ref Q5) "__setattr__"=some (some (.builtin "object.__setattr__")))
  (na_Q5:W.findIn K (.ref Q5) "number"=some none)
  (ga_QD:W.specialIn K (.ref QD) "__getattribute__"=some (some (.builtin "type.__getattribute__")))
  (rd_QD:W.readsIn K QD (.type "type")=true)
  (fi_QD:W.findCls K (.ref QD) (.type "type") "__init__"=some (.val (.builtin "ValueError.__init__")))
  (TC:Cp K "Kinds" C)
  (TB:Cp K "Board" B)
  (TD:Cp K "Book" D)
  (T_mI:Mp K C "__init__" "Kinds.__init__" s_Kinds___init__ f_mI d_mI)
  (T_mH:Mp K C "has" "Kinds.has" s_Kinds_has f_mH d_mH)
  (T_bI:Mp K B "__init__" "Board.__init__" s_Board___init__ f_bI d_bI)
  (T_kI:Mp K D "__init__" "Book.__init__" s_Book___init__ f_kI d_kI)
  (T_kW:Mp K D "words" "Book.words" s_Book_words f_kW d_kW)
  (T_x0:Mp K Q0 "__init__" "NoKind.__init__" s_NoKind___init__ f_x0 d_x0)
  (T_x1:Mp K Q1 "__init__" "Twice.__init__" s_Twice___init__ f_x1 d_x1)
  (T_x2:Mp K Q2 "__init__" "NoName.__init__" s_NoName___init__ f_x2 d_x2)
  (T_x4:Mp K Q4 "__init__" "NoDeed.__init__" s_NoDeed___init__ f_x4 d_x4)
  (T_x5:Mp K Q5 "__init__" "Same.__init__" s_Same___init__ f_x5 d_x5)
  (tf_x0:W.typeIn K (.ref f_x0)=some (.type "function"))
  (tf_x1:W.typeIn K (.ref f_x1)=some (.type "function"))
  (tf_x2:W.typeIn K (.ref f_x2)=some (.type "function"))
  (tf_x4:W.typeIn K (.ref f_x4)=some (.type "function"))
  (tf_x5:W.typeIn K (.ref f_x5)=some (.type "function"))
  (T_w:Tp K "is_word" s_is_word f_w d_w)
  (T_cr:Tp K "check_rows" s_check_rows f_cr d_cr)
  (T_cu:Tp K "check_ups" s_check_ups f_cu d_cu)
  (T_fa:Tp K "first_among" s_first_among f_fa d_fa)
  (T_en:Tp K "endless" s_endless f_en d_en)
  (T_fr:Tp K "find_ring" s_find_ring f_fr d_fr)
  (T_aa:Tp K "all_above" s_all_above f_aa d_aa)
  (T_P:Tp K "_law_pot" s__law_pot f_P d_P)
  (T_T:Tp K "_law_take" s__law_take f_T d_T)
  (T_Le:Tp K "_law_letters" s__law_letters f_Le d_Le)
  (T_W:Tp K "_law_word" s__law_word f_W d_W)
  (T_Ws:Tp K "_law_words" s__law_words f_Ws d_Ws)
  (T_U:Tp K "_law_ups" s__law_ups f_U d_U)
  (T_R:Tp K "_law_rows" s__law_rows f_R d_R)
  (T_A:Tp K "_law_above" s__law_above f_A d_A)
  (T_ic:Tp K "is_call" s_is_call f_ic d_ic)
  (T_cd:Tp K "check_deeds" s_check_deeds f_cd d_cd)
  (T_de:Tp K "_law_deeds" s__law_deeds f_de d_de)
  (T_pl:Tp K "_law_places" s__law_places f_pl d_pl)
  (T_ch:Tp K "_law_chain" s__law_chain f_ch d_ch)
  (T_pa:Tp K "_law_pairs" s__law_pairs f_pa d_pa)
  (T_ns:Tp K "_law_names" s__law_names f_ns d_ns)
  (T_cm:Tp K "check_makes" s_check_makes f_cm d_cm)
  (T_cls:Tp K "_law_classes" s__law_classes f_cls d_cls)
  (T_rfu:Tp K "_law_refusal" s__law_refusal f_rfu d_rfu)
  (T_liw:Tp K "_law_is_word" s__law_is_word f_liw d_liw)
  (T_nwd:Tp K "_law_no_word" s__law_no_word f_nwd d_nwd)
  (T_bdu:Tp K "_law_book_due" s__law_book_due f_bdu d_bdu)
  (T_bhe:Tp K "_law_book_heard" s__law_book_heard f_bhe d_bhe)
  (T_stg:Tp K "_law_strange" s__law_strange f_stg d_stg)
  (T_bnt:Tp K "_law_bent" s__law_bent f_bnt d_bnt)
  (T_L:Tp K "law" s_law f_L d_L)
  (n_ups_of:W.findIn K (.ref C) "ups_of"=some none)
  (n_above_of:W.findIn K (.ref C) "above_of"=some none)
  (n_book_B:W.findIn K (.ref B) "book"=some none)
  (n_width_B:W.findIn K (.ref B) "width"=some none)
  (n_stands_B:W.findIn K (.ref B) "stands"=some none)
  (n_has_B:W.findIn K (.ref B) "has"=some none)
  (n_words_B:W.findIn K (.ref B) "words"=some none)
  (n_book_D:W.findIn K (.ref D) "book"=some none)
  (n_board_of_D:W.findIn K (.ref D) "board_of"=some none)
  (n_made_of_D:W.findIn K (.ref D) "made_of"=some none)
  (n_has_D:W.findIn K (.ref D) "has"=some none)
  (n_deeds_D:W.findIn K (.ref D) "deeds"=some none)
  (g_LETTERS:W.nsIn K mainGlobals "LETTERS"=some (some (.str Md.letters T_LETTERS)))
  (g_MOST_LETTERS:W.nsIn K mainGlobals "MOST_LETTERS"=some (some (.int 8 T_MOST_LETTERS)))
  (g_MOST_KINDS:W.nsIn K mainGlobals "MOST_KINDS"=some (some (.int 24 T_MOST_KINDS)))
  (g_MOST_UPS:W.nsIn K mainGlobals "MOST_UPS"=some (some (.int 8 T_MOST_UPS)))
  (g_MOST_PLACES:W.nsIn K mainGlobals "MOST_PLACES"=some (some (.int 4 T_MOST_PLACES)))
  (g_MOST_DEEDS:W.nsIn K mainGlobals "MOST_DEEDS"=some (some (.int 64 T_MOST_DEEDS)))
  (g_MOST_NAMES:W.nsIn K mainGlobals "MOST_NAMES"=some (some (.int 8 T_MOST_NAMES)))
  (z_len:W.nsIn K mainGlobals "len"=some none)
  (z_all:W.nsIn K mainGlobals "all"=some none)
  (z_any:W.nsIn K mainGlobals "any"=some none)
  (z_list:W.nsIn K mainGlobals "list"=some none)
  (z_tuple:W.nsIn K mainGlobals "tuple"=some none)
  (z_range:W.nsIn K mainGlobals "range"=some none)
  (z_int:W.nsIn K mainGlobals "int"=some none)
  (z_max:W.nsIn K mainGlobals "max"=some none)
  (z_isinstance:W.nsIn K mainGlobals "isinstance"=some none)
  (z_enumerate:W.nsIn K mainGlobals "enumerate"=some none)
  (z_zip:W.nsIn K mainGlobals "zip"=some none)
  (z_ValueError:W.nsIn K mainGlobals "ValueError"=some none)
  : ∃ fd:FuncData,(∀ (s:Shared) (v:Value),BindsTo s fd ⟨[v],[]⟩ [("script",v)])∧∀ base:Heap,K.In base→base.Ns mainGlobals mg→FnOk l.prog w K mg base CX0 9 fa fd ["script"] (spLaw K):=by
 have e:=hfa.symm.trans (W.mg_of X G T_L.a)
 cases e
 obtain ⟨_,_,_,_,_,_,rfl⟩:=Tp.ex T_L.fn
 have mgC_LETTERS:=W.mg_of X G g_LETTERS
 have mgC_MOST_LETTERS:=W.mg_of X G g_MOST_LETTERS
 have mgC_MOST_KINDS:=W.mg_of X G g_MOST_KINDS
 have mgC_MOST_UPS:=W.mg_of X G g_MOST_UPS
 have mgC_MOST_PLACES:=W.mg_of X G g_MOST_PLACES
 have mgC_MOST_DEEDS:=W.mg_of X G g_MOST_DEEDS
 have mgC_MOST_NAMES:=W.mg_of X G g_MOST_NAMES
 have mgN_len:=W.mg_none_of X G z_len
 have mgN_all:=W.mg_none_of X G z_all
 have mgN_any:=W.mg_none_of X G z_any
 have mgN_list:=W.mg_none_of X G z_list
 have mgN_tuple:=W.mg_none_of X G z_tuple
 have mgN_range:=W.mg_none_of X G z_range
 have mgN_int:=W.mg_none_of X G z_int
 have mgN_max:=W.mg_none_of X G z_max
 have mgN_isinstance:=W.mg_none_of X G z_isinstance
 have mgN_enumerate:=W.mg_none_of X G z_enumerate
 have mgN_zip:=W.mg_none_of X G z_zip
 have mgN_ValueError:=W.mg_none_of X G z_ValueError
 obtain ⟨aC,pg,hd,po,sa,mk,kc⟩:=TC
 have mgC:=W.mg_of X G aC
 have M:Mk K C f_mI:=⟨mk,T_mI.a,T_mI.i,kc⟩
 obtain ⟨aB,pg_B,hd_B,po_B,sa_B,mk_B,kc_B⟩:=TB
 have mgB:=W.mg_of X G aB
 have M_B:Mk K B f_bI:=⟨mk_B,T_bI.a,T_bI.i,kc_B⟩
 obtain ⟨aD,pg_D,hd_D,po_D,sa_D,mk_D,kc_D⟩:=TD
 have mgD:=W.mg_of X G aD
 have M_D:Mk K D f_kI:=⟨mk_D,T_kI.a,T_kI.i,kc_D⟩
 have F_mI:=T_mI.fn
 have b_mI:=bn2 "self" "rows" T_mI.fn
 have a_mH:=T_mH.a
 have M_mH:=md T_mH (bn2 "self" "word" T_mH.fn)
 have F_bI:=T_bI.fn
 have b_bI:=bn4 "self" "kinds" "places" "deeds" T_bI.fn
 have F_kI:=T_kI.fn
 have b_kI:=bn3 "self" "kinds" "names" T_kI.fn
 have a_kW:=T_kW.a
 have M_kW:=md T_kW (bn1 "self" T_kW.fn)
 have F_x0:=T_x0.fn
 have a_x0:=T_x0.a
 have b_x0:=bn2 "self" "word" T_x0.fn
 have F_x1:=T_x1.fn
 have a_x1:=T_x1.a
 have b_x1:=bn2 "self" "word" T_x1.fn
 have F_x2:=T_x2.fn
 have a_x2:=T_x2.a
 have b_x2:=bn2 "self" "word" T_x2.fn
 have F_x4:=T_x4.fn
 have a_x4:=T_x4.a
 have b_x4:=bn2 "self" "number" T_x4.fn
 have F_x5:=T_x5.fn
 have a_x5:=T_x5.a
 have b_x5:=bn2 "self" "number" T_x5.fn
 have D_w:=df X G T_w (bn1 "text" T_w.fn)
 have D_cr:=df X G T_cr (bn1 "rows" T_cr.fn)
 have D_cu:=df X G T_cu (bn1 "ups_of" T_cu.fn)
 have D_fa:=df X G T_fa (bn2 "words" "others" T_fa.fn)
 have D_en:=df X G T_en (bn1 "ups_of" T_en.fn)
 have D_fr:=df X G T_fr (bn1 "ups_of" T_fr.fn)
 have D_aa:=df X G T_aa (bn2 "ups_of" "word" T_aa.fn)
 have D_P:=df X G T_P (bn2 "script" "k" T_P.fn)
 have D_T:=df X G T_T (bn2 "pot" "many" T_T.fn)
 have D_Le:=df X G T_Le (bn1 "number" T_Le.fn)
 have D_W:=df X G T_W (bn2 "pot" "words" T_W.fn)
 have D_Ws:=df X G T_Ws (bn2 "pot" "many" T_Ws.fn)
 have D_U:=df X G T_U (bn3 "pot" "k" "shape" T_U.fn)
 have D_R:=df X G T_R (bn2 "pot" "most" T_R.fn)
 have D_A:=df X G T_A (bn1 "rows" T_A.fn)
 have D_ic:=df X G T_ic (bn3 "kinds" "places" "call" T_ic.fn)
 have D_cd:=df X G T_cd (bn3 "kinds" "places" "deeds" T_cd.fn)
 have D_de:=df X G T_de (bn5 "pot" "rows" "above" "places" "most" T_de.fn)
 have D_pl:=df X G T_pl (bn3 "pot" "many" "most" T_pl.fn)
 have D_ch:=df X G T_ch (bn4 "pot" "above" "call" "most" T_ch.fn)
 have D_pa:=df X G T_pa (bn5 "pot" "rows" "above" "places" "most" T_pa.fn)
 have D_ns:=df X G T_ns (bn7 "script" "at" "rows" "above" "most" "few" "calls" T_ns.fn)
 have D_cm:=df X G T_cm (bn2 "kinds" "makes" T_cm.fn)
 have D_cls:=df X G T_cls (bn1 "e" T_cls.fn)
 have D_rfu:=df X G T_rfu (bn1 "e" T_rfu.fn)
 have D_liw:=df X G T_liw (bn1 "text" T_liw.fn)
 have D_nwd:=df X G T_nwd (bn1 "pot" T_nwd.fn)
 have D_bdu:=df X G T_bdu (bn2 "rows" "names" T_bdu.fn)
 have D_bhe:=df X G T_bhe (bn2 "kinds" "names" T_bhe.fn)
 have D_stg:=df X G T_stg (bn2 "pot" "words" T_stg.fn)
 have D_bnt:=df X G T_bnt (bn4 "pot" "words" "names" "name" T_bnt.fn)
 have D_L:=df X G T_L (bn1 "script" T_L.fn)
 have DD:DIn K QD:=⟨ga_QD,rd_QD,fi_QD⟩
 have TD:ErrD K mg QD:=⟨W.mg_of X G a_QD,⟨⟨_,_,_,_,_,_,_,_,_,_,_,_,_,_,_,_,l_QD⟩,val_QD,bas_QD,att_QD,nam_QD,kp_QD⟩,cl_QD,ty_QD⟩
 have TF:Fifteen K mg (fif Q0 Q1 Q2 Q3 Q4 Q5 Q6 Q7 Q8 Q9 Q10 Q11 Q12 Q13 Q14):=⟨W.mg_of X G a_Q0,W.mg_of X G a_Q1,W.mg_of X G a_Q2,W.mg_of X G a_Q3,W.mg_of X G a_Q4,W.mg_of X G a_Q5,W.mg_of X G a_Q6,W.mg_of X G a_Q7,W.mg_of X G a_Q8,W.mg_of X G a_Q9,W.mg_of X G a_Q10,W.mg_of X G a_Q11,W.mg_of X G a_Q12,W.mg_of X G a_Q13,W.mg_of X G a_Q14,all15 cl_Q0 cl_Q1 cl_Q2 cl_Q3 cl_Q4 cl_Q5 cl_Q6 cl_Q7 cl_Q8 cl_Q9 cl_Q10 cl_Q11 cl_Q12 cl_Q13 cl_Q14,all15 ty_Q0 ty_Q1 ty_Q2 ty_Q3 ty_Q4 ty_Q5 ty_Q6 ty_Q7 ty_Q8 ty_Q9 ty_Q10 ty_Q11 ty_Q12 ty_Q13 ty_Q14⟩
 have O0:OneOf K QD (fif Q0 Q1 Q2 Q3 Q4 Q5 Q6 Q7 Q8 Q9 Q10 Q11 Q12 Q13 Q14) 0:=⟨⟨⟨⟨_,_,_,_,_,_,_,_,_,_,_,_,_,_,_,_,l_Q0⟩,val_Q0,bas_Q0,att_Q0,nam_Q0,kp_Q0⟩,ga_Q0,gt_Q0,ca_Q0,cg_Q,ct_Q,ob_Q0⟩,sd_Q0,all15 s_Q0_0 s_Q0_1 s_Q0_2 s_Q0_3 s_Q0_4 s_Q0_5 s_Q0_6 s_Q0_7 s_Q0_8 s_Q0_9 s_Q0_10 s_Q0_11 s_Q0_12 s_Q0_13 s_Q0_14⟩
 have I0:ExI K Q0 QD "word":=⟨⟨⟨⟨_,_,_,_,_,_,_,_,_,_,_,_,_,_,_,_,l_Q0⟩,val_Q0,bas_Q0,att_Q0,nam_Q0,kp_Q0⟩,ga_Q0,gt_Q0,ca_Q0,cg_Q,ct_Q,ob_Q0⟩,⟨_,_,_,_,_,_,_,_,_,_,_,_,_,_,l_Q0⟩,sa_Q0,na_Q0⟩
 have mgQ0:=W.mg_of X G a_Q0
 have O1:OneOf K QD (fif Q0 Q1 Q2 Q3 Q4 Q5 Q6 Q7 Q8 Q9 Q10 Q11 Q12 Q13 Q14) 1:=⟨⟨⟨⟨_,_,_,_,_,_,_,_,_,_,_,_,_,_,_,_,l_Q1⟩,val_Q1,bas_Q1,att_Q1,nam_Q1,kp_Q1⟩,ga_Q1,gt_Q1,ca_Q1,cg_Q,ct_Q,ob_Q1⟩,sd_Q1,all15 s_Q1_0 s_Q1_1 s_Q1_2 s_Q1_3 s_Q1_4 s_Q1_5 s_Q1_6 s_Q1_7 s_Q1_8 s_Q1_9 s_Q1_10 s_Q1_11 s_Q1_12 s_Q1_13 s_Q1_14⟩
 have I1:ExI K Q1 QD "word":=⟨⟨⟨⟨_,_,_,_,_,_,_,_,_,_,_,_,_,_,_,_,l_Q1⟩,val_Q1,bas_Q1,att_Q1,nam_Q1,kp_Q1⟩,ga_Q1,gt_Q1,ca_Q1,cg_Q,ct_Q,ob_Q1⟩,⟨_,_,_,_,_,_,_,_,_,_,_,_,_,_,l_Q1⟩,sa_Q1,na_Q1⟩
 have mgQ1:=W.mg_of X G a_Q1
 have O2:OneOf K QD (fif Q0 Q1 Q2 Q3 Q4 Q5 Q6 Q7 Q8 Q9 Q10 Q11 Q12 Q13 Q14) 2:=⟨⟨⟨⟨_,_,_,_,_,_,_,_,_,_,_,_,_,_,_,_,l_Q2⟩,val_Q2,bas_Q2,att_Q2,nam_Q2,kp_Q2⟩,ga_Q2,gt_Q2,ca_Q2,cg_Q,ct_Q,ob_Q2⟩,sd_Q2,all15 s_Q2_0 s_Q2_1 s_Q2_2 s_Q2_3 s_Q2_4 s_Q2_5 s_Q2_6 s_Q2_7 s_Q2_8 s_Q2_9 s_Q2_10 s_Q2_11 s_Q2_12 s_Q2_13 s_Q2_14⟩
 have I2:ExI K Q2 QD "word":=⟨⟨⟨⟨_,_,_,_,_,_,_,_,_,_,_,_,_,_,_,_,l_Q2⟩,val_Q2,bas_Q2,att_Q2,nam_Q2,kp_Q2⟩,ga_Q2,gt_Q2,ca_Q2,cg_Q,ct_Q,ob_Q2⟩,⟨_,_,_,_,_,_,_,_,_,_,_,_,_,_,l_Q2⟩,sa_Q2,na_Q2⟩
 have mgQ2:=W.mg_of X G a_Q2
 have O4:OneOf K QD (fif Q0 Q1 Q2 Q3 Q4 Q5 Q6 Q7 Q8 Q9 Q10 Q11 Q12 Q13 Q14) 4:=⟨⟨⟨⟨_,_,_,_,_,_,_,_,_,_,_,_,_,_,_,_,l_Q4⟩,val_Q4,bas_Q4,att_Q4,nam_Q4,kp_Q4⟩,ga_Q4,gt_Q4,ca_Q4,cg_Q,ct_Q,ob_Q4⟩,sd_Q4,all15 s_Q4_0 s_Q4_1 s_Q4_2 s_Q4_3 s_Q4_4 s_Q4_5 s_Q4_6 s_Q4_7 s_Q4_8 s_Q4_9 s_Q4_10 s_Q4_11 s_Q4_12 s_Q4_13 s_Q4_14⟩
 have I4:ExI K Q4 QD "number":=⟨⟨⟨⟨_,_,_,_,_,_,_,_,_,_,_,_,_,_,_,_,l_Q4⟩,val_Q4,bas_Q4,att_Q4,nam_Q4,kp_Q4⟩,ga_Q4,gt_Q4,ca_Q4,cg_Q,ct_Q,ob_Q4⟩,⟨_,_,_,_,_,_,_,_,_,_,_,_,_,_,l_Q4⟩,sa_Q4,na_Q4⟩
 have mgQ4:=W.mg_of X G a_Q4
 have O5:OneOf K QD (fif Q0 Q1 Q2 Q3 Q4 Q5 Q6 Q7 Q8 Q9 Q10 Q11 Q12 Q13 Q14) 5:=⟨⟨⟨⟨_,_,_,_,_,_,_,_,_,_,_,_,_,_,_,_,l_Q5⟩,val_Q5,bas_Q5,att_Q5,nam_Q5,kp_Q5⟩,ga_Q5,gt_Q5,ca_Q5,cg_Q,ct_Q,ob_Q5⟩,sd_Q5,all15 s_Q5_0 s_Q5_1 s_Q5_2 s_Q5_3 s_Q5_4 s_Q5_5 s_Q5_6 s_Q5_7 s_Q5_8 s_Q5_9 s_Q5_10 s_Q5_11 s_Q5_12 s_Q5_13 s_Q5_14⟩
 have I5:ExI K Q5 QD "number":=⟨⟨⟨⟨_,_,_,_,_,_,_,_,_,_,_,_,_,_,_,_,l_Q5⟩,val_Q5,bas_Q5,att_Q5,nam_Q5,kp_Q5⟩,ga_Q5,gt_Q5,ca_Q5,cg_Q,ct_Q,ob_Q5⟩,⟨_,_,_,_,_,_,_,_,_,_,_,_,_,_,l_Q5⟩,sa_Q5,na_Q5⟩
 have mgQ5:=W.mg_of X G a_Q5
 have O7:OneOf K QD (fif Q0 Q1 Q2 Q3 Q4 Q5 Q6 Q7 Q8 Q9 Q10 Q11 Q12 Q13 Q14) 7:=⟨⟨⟨⟨_,_,_,_,_,_,_,_,_,_,_,_,_,_,_,_,l_Q7⟩,val_Q7,bas_Q7,att_Q7,nam_Q7,kp_Q7⟩,ga_Q7,gt_Q7,ca_Q7,cg_Q,ct_Q,ob_Q7⟩,sd_Q7,all15 s_Q7_0 s_Q7_1 s_Q7_2 s_Q7_3 s_Q7_4 s_Q7_5 s_Q7_6 s_Q7_7 s_Q7_8 s_Q7_9 s_Q7_10 s_Q7_11 s_Q7_12 s_Q7_13 s_Q7_14⟩
 have TP7:ErrP K mg "TooMany" Q7:=⟨W.mg_of X G a_Q7,⟨⟨_,_,_,_,_,_,_,_,_,_,_,_,_,_,_,_,l_Q7⟩,val_Q7,bas_Q7,att_Q7,nam_Q7,kp_Q7⟩,in_Q7⟩
 have O8:OneOf K QD (fif Q0 Q1 Q2 Q3 Q4 Q5 Q6 Q7 Q8 Q9 Q10 Q11 Q12 Q13 Q14) 8:=⟨⟨⟨⟨_,_,_,_,_,_,_,_,_,_,_,_,_,_,_,_,l_Q8⟩,val_Q8,bas_Q8,att_Q8,nam_Q8,kp_Q8⟩,ga_Q8,gt_Q8,ca_Q8,cg_Q,ct_Q,ob_Q8⟩,sd_Q8,all15 s_Q8_0 s_Q8_1 s_Q8_2 s_Q8_3 s_Q8_4 s_Q8_5 s_Q8_6 s_Q8_7 s_Q8_8 s_Q8_9 s_Q8_10 s_Q8_11 s_Q8_12 s_Q8_13 s_Q8_14⟩
 have TP8:ErrP K mg "NoBoard" Q8:=⟨W.mg_of X G a_Q8,⟨⟨_,_,_,_,_,_,_,_,_,_,_,_,_,_,_,_,l_Q8⟩,val_Q8,bas_Q8,att_Q8,nam_Q8,kp_Q8⟩,in_Q8⟩
 have TK:TxtK mg:=⟨⟨_,mgC_LETTERS⟩,⟨_,mgC_MOST_LETTERS⟩,⟨_,mgC_MOST_KINDS⟩,⟨_,mgC_MOST_UPS⟩,mgN_len,mgN_all,mgN_list,mgN_tuple⟩
 have TR:TxtR mg:=⟨mgN_range,mgN_int,mgN_len,mgN_tuple,mgN_list⟩
 have TC:TxtC K C:=⟨⟨pg,hd,po,sa⟩,n_ups_of,n_above_of⟩
 have TBd:TxtBd K B:=⟨⟨pg_B,hd_B,po_B,sa_B⟩,n_book_B,n_width_B,n_stands_B⟩
 have TBm:TxtBm mg:=⟨⟨_,mgC_MOST_PLACES⟩,⟨_,mgC_MOST_DEEDS⟩,mgN_len,mgN_all,mgN_tuple,mgN_list,mgN_enumerate⟩
 have hBC:B≠C:=fun z=>by rw [z,a_mH] at n_has_B;cases n_has_B
 have TKn:TxtKn K D:=⟨⟨pg_D,hd_D,po_D,sa_D⟩,n_book_D,n_board_of_D,n_made_of_D⟩
 have hDC:D≠C:=fun z=>by rw [z,a_mH] at n_has_D;cases n_has_D
 have hDB:D≠B:=fun z=>by rw [← z,a_kW] at n_words_B;cases n_words_B
 have TDd:TxtD mg:=⟨mgN_len,mgN_range,mgN_tuple⟩
 exact ⟨_,fun s v=>.of_eq rfl,fun base _ _=>have GI:=ok_init (P:=l.prog) (w:=w) (base:=base) F_mI TK TC D_cr D_w D_cu D_fr D_en D_fa D_aa;have GB:=ok_binit (P:=l.prog) (w:=w) (base:=base) F_bI TBm TBd TC D_cd D_ic M_mH hBC;have GP:=ok_pot (P:=l.prog) (w:=w) (base:=base) D_P mgN_len;have GT:=ok_take (P:=l.prog) (w:=w) (base:=base) D_T;have GR:=ok_rowsL (P:=l.prog) (w:=w) (base:=base) D_R D_T D_U D_Ws D_W D_Le TR;have GW:=ok_word (P:=l.prog) (w:=w) (base:=base) D_W D_T D_Le mgN_len;have GLA:=ok_labove (P:=l.prog) (w:=w) (base:=base) D_A mgN_len;have GDe:=ok_deedsD (P:=l.prog) (w:=w) (base:=base) D_de D_T TDd;have GPl:=ok_places D_pl D_T GT;have GCh:=ok_chain D_ch TDd D_T GT;have GPa:=ok_pairs D_pa TDd D_T GT D_de GDe D_ch GCh;have GNs:=ok_names D_ns TDd D_P GP D_T GT D_W GW D_pl GPl D_pa GPa;have GKI:=ok_kinit F_kI TK ⟨_,mgC_MOST_NAMES⟩ TKn hDC hDB D_w M_B mgB b_bI GB D_cm (ok_cmakes D_cm TC M_mH);have E0:ErrI l.prog w K mg base "NoKind" ((fif Q0 Q1 Q2 Q3 Q4 Q5 Q6 Q7 Q8 Q9 Q10 Q11 Q12 Q13 Q14) 0) "word" (spXI ((fif Q0 Q1 Q2 Q3 Q4 Q5 Q6 Q7 Q8 Q9 Q10 Q11 Q12 Q13 Q14) 0) "word" okS) f_x0 _:=⟨mgQ0,I0.toExA.toExC,a_x0,tf_x0,b_x0,ok_xnk F_x0 I0 DD TD.m⟩;have E1:ErrI l.prog w K mg base "Twice" ((fif Q0 Q1 Q2 Q3 Q4 Q5 Q6 Q7 Q8 Q9 Q10 Q11 Q12 Q13 Q14) 1) "word" (spXI ((fif Q0 Q1 Q2 Q3 Q4 Q5 Q6 Q7 Q8 Q9 Q10 Q11 Q12 Q13 Q14) 1) "word" okS) f_x1 _:=⟨mgQ1,I1.toExA.toExC,a_x1,tf_x1,b_x1,ok_xtw F_x1 I1 DD TD.m⟩;have E2:ErrI l.prog w K mg base "NoName" ((fif Q0 Q1 Q2 Q3 Q4 Q5 Q6 Q7 Q8 Q9 Q10 Q11 Q12 Q13 Q14) 2) "word" (spXI ((fif Q0 Q1 Q2 Q3 Q4 Q5 Q6 Q7 Q8 Q9 Q10 Q11 Q12 Q13 Q14) 2) "word" okS) f_x2 _:=⟨mgQ2,I2.toExA.toExC,a_x2,tf_x2,b_x2,ok_xnn F_x2 I2 DD TD.m⟩;have E4:ErrI l.prog w K mg base "NoDeed" ((fif Q0 Q1 Q2 Q3 Q4 Q5 Q6 Q7 Q8 Q9 Q10 Q11 Q12 Q13 Q14) 4) "number" (spXI ((fif Q0 Q1 Q2 Q3 Q4 Q5 Q6 Q7 Q8 Q9 Q10 Q11 Q12 Q13 Q14) 4) "number" okN) f_x4 _:=⟨mgQ4,I4.toExA.toExC,a_x4,tf_x4,b_x4,ok_xnd F_x4 I4 DD TD.m⟩;have E5:ErrI l.prog w K mg base "Same" ((fif Q0 Q1 Q2 Q3 Q4 Q5 Q6 Q7 Q8 Q9 Q10 Q11 Q12 Q13 Q14) 5) "number" (spXI ((fif Q0 Q1 Q2 Q3 Q4 Q5 Q6 Q7 Q8 Q9 Q10 Q11 Q12 Q13 Q14) 5) "number" okN) f_x5 _:=⟨mgQ5,I5.toExA.toExC,a_x5,tf_x5,b_x5,ok_xsm F_x5 I5 DD TD.m⟩;have ER:Errs l.prog w K mg base (fif Q0 Q1 Q2 Q3 Q4 Q5 Q6 Q7 Q8 Q9 Q10 Q11 Q12 Q13 Q14) f_x0 f_x1 f_x2 f_x4 f_x5 _ _ _ _ _:=⟨E0,E1,E2,E4,E5,TP7,TP8⟩;have GBT:FnOk l.prog w K mg base (CX1 l.prog w) 4 f_bI _ nBI (spBTry K C B (fif Q0 Q1 Q2 Q3 Q4 Q5 Q6 Q7 Q8 Q9 Q10 Q11 Q12 Q13 Q14)):=(GB.any (CX:=CX1 l.prog w)).or (ok_binitX F_bI TBm TC D_cd D_ic M_mH E4 E5 TP8);have GKX:=ok_kinitX (D:=D) F_kI TK ⟨_,mgC_MOST_NAMES⟩ ER D_w M_B mgB b_bI GBT D_cm (FnOk.succ (ok_cmakes D_cm TC M_mH)) (ok_cmakesX D_cm TC M_mH E0);have GKT:FnOk l.prog w K mg base (CX1 l.prog w) 6 f_kI _ pKI (spKTry K C B D (fif Q0 Q1 Q2 Q3 Q4 Q5 Q6 Q7 Q8 Q9 Q10 Q11 Q12 Q13 Q14)):=(GKI.any (CX:=CX1 l.prog w)).or GKX;have OB:OnesB K QD (fif Q0 Q1 Q2 Q3 Q4 Q5 Q6 Q7 Q8 Q9 Q10 Q11 Q12 Q13 Q14):=⟨fun d=>(by cases d;exact O7;exact O2;exact O1;exact O8;exact O4;exact O5;exact O0),fun d x h=>(by cases d <;> cases h;exact I2;exact I1;exact I4;exact I5;exact I0)⟩;have GCl:=ok_classes (P:=l.prog) (w:=w) (base:=base) (D:=QD) D_cls TF mgN_isinstance mgN_ValueError;have GRf:=ok_refusalB D_rfu mgN_len OB D_cls GCl;have GHe:=ok_heardB (B:=B) D_bhe TD OB TKn M_D mgD b_kI GKT D_rfu GRf M_kW (ok_kwords M_kW.fn TKn mgN_list);have GIW:=ok_lisword (P:=l.prog) (w:=w) (base:=base) D_liw mgN_len mgN_all;have GDu:=ok_bkdue D_bdu mgN_len mgN_range mgN_any D_liw GIW;have GLe:=ok_letters (P:=l.prog) (w:=w) (base:=base) D_Le;have GNW:=ok_no_word D_nwd D_T GT D_Le GLe;have GSt:=ok_strangeN D_stg D_T GT D_W GW D_nwd GNW;have GBn:=ok_bentN D_bnt ⟨mgN_len,mgN_list,mgN_tuple,mgN_max⟩ D_T GT D_stg GSt D_nwd GNW;ok_law D_L mgN_len mgN_range M mgC b_mI GI D_P GP D_T GT D_R GR D_A GLA D_ns GNs D_bnt GBn D_bdu GDu D_bhe GHe⟩
def walk {l:W.OpenLaw}{q:Program}{loose:LS}{XP:(Str→Option Value)→Heap→Prop}{YP:World→Heap→Prop}{d:DefRec}{K:Params→Fg}(hn:l.most=some 63) (hdf:d.params.defaults=[])
  (hY:∀ (w:World) (h:Heap),YP w h→(K w.params).In h)
  (F:∀ (w:World) (mg:Str→Option Value) (fa:Addr) (h:Heap),(K w.params).In h→h.Ns mainGlobals mg→mg d.name=some (.ref fa) →
   ∃ fd:FuncData,(∀ (s:Shared) (u:Value),BindsTo s fd ⟨[u],[]⟩ [("script",u)])∧∀ base:Heap,(K w.params).In base→base.Ns mainGlobals mg→FnOk l.prog w (K w.params) mg base CX0 9 fa fd ["script"] (spLaw (K w.params))):
  W.WalkO q loose XP YP l.row.toRowW d [] (fun f vs=>PySem.call f vs):=
 L2.walk_of (n:=63) (k:=9) (x:="script") (CX:=fun _=>CX0) (sp:=fun w=>spLaw (K w.params)) hn (by decide) hdf ⟨rfl,by decide,by decide,rfl⟩ hY F (fun _ _ a ns hl _ hS=>⟨a,ns,rfl,hS,hl,fun _=>rfl⟩) fun _ _ _ _ _ z=>z
end K62
namespace PySem.W.Fast
def tw2402465041153792082:=0
def tw3635301131208073534:=0
def tw16409240998018390541:=0
def tw3780014244888730210:=0
def tw13982900137867656889:=0
def tw10664197767428579176:=0
def tw6980991695813809326:=0
def tw10546649892754586824:=0
def tw11734249486289642253:=0
def tw3977026742339801270:=0
def tw1133640687281657279:=0
def tw12018729224558824274:=0
def tw16595279137987653396:=0
def tw2921447419944370374:=0
def tw11509675363022857319:=0
def tw11423221791774268591:=0
def tw4508889470717243772:=0
def tw11263357775734791630:=0
def tw7840106235049167421:=0
def tw13692498461669635551:=0
def tw12847752190130480268:=0
def tw13943892143078758078:=0
def tw2485499782781816883:=0
def tw1499354076619849464:=0
def tw10657419167015015203:=0
def tw17220365460142383826:=0
def tw5342772303688791810:=0
def tw5800308610035935641:=0
def tw16224669760951013925:=0
def tw2490852430480242048:=0
def tw14404715305660738986:=0
def tw5857214622963927147:=0
def tw11735457408092144778:=0
def tw9899486740965687556:=0
def tw5294222814644928655:=0
def tw3947357492589513326:=0
def tw16124644829532278735:=0
def tw17956114436910703860:=0
def tw2183000161553688447:=0
def tw9150754169498904400:=0
def tw4734350445468159560:=0
def tw7050055627146843997:=0
def tw13748103878398525236:=0
def tw7192253388499992667:=0
def tw8691479242605389133:=0
def tw15465191298346460053:=0
def tw15800009445242150380:=0
def tw6227042224720217301:=0
def tw12980419555166385022:=0
def tw18325694339610205497:=0
def tw13193894699614660574:=0
def tw2904074591435218998:=0
def tw13650328662969843596:=0
def tw15458715602177855804:=0
def tw15876233544183106611:=0
def tw3591533415207764286:=0
def tw18103270428148146379:=0
def tw4316894488351496957:=0
def tw14827974209512499006:=0
def tw2459728363796893536:=0
def tw4726639278381403039:=0
def tw14697518612025555509:=0
def tw10733713461737662759:=0
def tw14414457935612704778:=0
def tw16678861249288632593:=0
def tw14139200170485927124:=0
def tw8801752564499865178:=0
def tw17720999429654224871:=0
def tw3930013948162892159:=0
def tw14658336520264256071:=0
def tw1807698369665223219:=0
def tw4770899146028229254:=0
def tw10747624741499149474:=0
def tw13542013433923270775:=0
def tw16620143340068011887:=0
def tw14595592546568903297:=0
def tw15390002221932089149:=0
def tw2618108593161011677:=0
def tw4534923665019350296:=0
def tw13146027017202952167:=0
def tw9550559194687832987:=0
def tw215491401742960351:=0
def tw2941388477813152358:=0
def tw17319372968679038706:=0
def tw10393168029302313303:=0
def tw9482810099726430301:=0
def tw9687133425029608069:=0
def tw17122779553804590844:=0
def tw1647821016187124866:=0
def tw6808855961301076583:=0
def tw9386629845785298051:=0
def tw16207194951774144947:=0
def tw3096168422267631907:=0
def tw17341089404515938383:=0
def tw10961755198314063866:=0
def tw15915250676665639379:=0
def tw17750328458707523808:=0
def tw682993965860064501:=0
def tw1951795504740498667:=0
def tw4054632165344404691:=0
def tw2949905507933372036:=0
def tw1292545147069632625:=0
def tw15963501593783915032:=0
def tw3728771490032592075:=0
def tw13179098629079465731:=0
def tw8020913230073551313:=0
def tw5303176940312610269:=0
def tw4646663415566918883:=0
def tw1403115359250881757:=0
def tw8758655510104239229:=0
def tw9574689342404949227:=0
def tw2847679749308125339:=0
def tw3953600813776748272:=0
def tw7494556106688618636:=0
def tw3915812565893195510:=0
def tw7961990895954404612:=0
def tw7175259670021499457:=0
def tw11213739273195029648:=0
def tw8660638851096825989:=0
def tw10151976999044861616:=0
def tw14491211285816269176:=0
def tw4904164110332747004:=0
def tw11268673122968092904:=0
def tw6891740572021981851:=0
def tw15425320370548556158:=0
def tw12753978750517423716:=0
def tw11203433000524828150:=0
def tw16738969996914996992:=0
def tw4114590664933592192:=0
def tw4115400696288155074:=0
def tw15278295126298121617:=0
def tw7546757158778929595:=0
def tw1432883711875640981:=0
def tw5993384601840727201:=0
def tw18390176166284052880:=0
def tw6917789432009740342:=0
def tw11202415609252586758:=0
def tw4301126752371733668:=0
def tw7088290956008677089:=0
def tw14654262964924229238:=0
def tw10536346653145207513:=0
def tw14976195837380610442:=0
def tw5783812744333677569:=0
def tw15101322198341595549:=0
def tw12027439712478910109:=0
def tw2070313107372615366:=0
def tw4483374446741873784:=0
def tw272734332018464877:=0
def tw8596195474257712321:=0
def tw15870875768401083146:=0
def tw6203857188841012026:=0
def tw622785613857143370:=0
def tw8435208372037389348:=0
def tw2065666486388330666:=0
def tw4027224799141886368:=0
def tw13399875348085966706:=0
def tw2582463147038352858:=0
def tw17415513020686053160:=0
def tw9084932194686221386:=0
def tw3118872005764937928:=0
def tw2076094297327268064:=0
def tw2469747904436977662:=0
def tw2372095020315778894:=0
def tw1028127406993749760:=0
def tw12658721539470069679:=0
def tw4124750279295362003:=0
def tw18235397262419566756:=0
def tw14291423482255330963:=0
def tw10636952110421782740:=0
def tw8108606018993572300:=0
def tw1398262316775672031:=0
def tw3161199153677371296:=0
def tw8469154693464448239:=0
def tw18148143800341289695:=0
def tw13530374757049236617:=0
def tw13698833657076376444:=0
def tw3744128800771925579:=0
def tw15451236509216654193:=0
def tw12173686146008123089:=0
def tw7175345465883473758:=0
def tw1889041125980213287:=0
def tw11040145054101498564:=0
def tw17870379315714623109:=0
def tw10496029494020019646:=0
def tw11169577876637102811:=0
def tw18020169782447822577:=0
def tw3626858497772104237:=0
def tw15846502562991065986:=0
def tw62272587886234796:=0
def tw4594931102529795485:=0
def tw7528099848180343136:=0
def tw4188630798585367795:=0
def tw3800313720377041188:=0
def tw9201848581587713879:=0
def tw11805394453944261836:=0
def tw3914586906428304404:=0
def tw4559399543732349358:=0
def tw8513210673517641852:=0
def tw13899024179704195812:=0
def tw17649301211960965953:=0
def tw15742323488898810489:=0
def tw13657338871720381541:=0
def tw2217422179632758007:=0
def tw9343360406382920025:=0
def tw16712170256946561005:=0
def tw17261335359470118860:=0
def tw16256605223183546677:=0
def tw10358731122779350824:=0
def tw10653527366823186939:=0
def tw14392371786000807925:=0
def tw6799513684783014454:=0
def tw6359360592582322061:=0
def tw13422410141554691214:=0
def tw785737111215096029:=0
def tw5496840447122624263:=0
def tw5400951137275853533:=0
def tw420921640068545883:=0
def tw2369196651695509987:=0
def tw15128737785343901765:=0
def tw14859549336972342953:=0
def tw13984680613018665228:=0
def tw13214976330825263654:=0
def tw11414940066392653227:=0
def tw8978806162845824523:=0
def tw16795670701327275074:=0
def tw16684554024833098969:=0
def tw11862448723034758017:=0
def tw8676959087956267723:=0
def tw3745374849154839662:=0
def tw2777331942245332456:=0
def tw5380751932020389395:=0
def tw4274212957027349800:=0
def tw18024031070448464890:=0
def tw16293619365242057933:=0
def tw4024982345648457501:=0
def tw8559735131572019148:=0
def tw16622922235213643639:=0
def tw13163841797740214380:=0
def tw12052112503566339185:=0
def tw3564729764331275659:=0
def tw17880409354095157534:=0
def tw17497861589125212733:=0
def tw17174007336143227377:=0
def tw15689190644393663122:=0
def tw153727898812801033:=0
def tw10174530643685117577:=0
def tw17952354110484375843:=0
def tw14212225875637722218:=0
def tw11372994900230511634:=0
def tw13722262272317795947:=0
def tw5563710832133404188:=0
def tw2838564848297279353:=0
def tw12887560388195367023:=0
def tw12757354915932709694:=0
def tw18415229225862828355:=0
def tw14191441219798769830:=0
def tw8358435954312087199:=0
def tw18100068264628167375:=0
def tw17652263594575178620:=0
def tw12243278086105154963:=0
def tw7929464624170299440:=0
def tw2214605496094443321:=0
def tw17659551486014173407:=0
def tw10405796104190061708:=0
def tw4242249160984827274:=0
def tw2281617727734038096:=0
def tw14377204689090361867:=0
def tw8915079538594886174:=0
def tw11170359338763866817:=0
def tw3062984962796355342:=0
def tw17775735306019994942:=0
def tw6951179666676061194:=0
def tw6954946850527269164:=0
def tw2778706821049648416:=0
def tw1564610751614784674:=0
def tw15871118544051720806:=0
def tw8496308559224265209:=0
def tw17569262242265283049:=0
def tw12728664874422967616:=0
def tw16534364032701850891:=0
def tw17852045035962918280:=0
def tw10436820887041434644:=0
def tw9736748543675504146:=0
def tw17925339252528362839:=0
def tw5984424839675691297:=0
def tw100021323983721580:=0
def tw5830342000211675766:=0
def tw5187620672819409189:=0
def tw4557444252050533825:=0
def tw3650986446987647448:=0
def tw10243036808273081147:=0
def tw4223457640712872351:=0
def tw3615891277636095514:=0
def tw3177919170233294694:=0
def tw2626224862108426904:=0
def tw14607218717639990227:=0
def tw114661045796159910:=0
def tw15758955489130213633:=0
def tw9102333726175641695:=0
def tw8189440483564367530:=0
def tw5438160849757142165:=0
def tw2402248764438728529:=0
def tw2529809790442220359:=0
def tw9820602615489671830:=0
def tw7891809462583774448:=0
def tw6938504812885962752:=0
def tw1809152099619106655:=0
def tw15341826700613041486:=0
def tw6521147709822050773:=0
def tw15418122559569087937:=0
def tw5072618286607908458:=0
def tw2119272258514934253:=0
def tw6209064788914400409:=0
def tw12038203799934795894:=0
def tw1789397516104426191:=0
def tw8917481959848230840:=0
def tw16724062361855180521:=0
def tw851867521975316984:=0
def tw18380121087520325233:=0
def tw9229560153383387716:=0
def tw5499029494335340742:=0
def tw5074266657990086189:=0
def tw6669011784809036667:=0
def tw6507712826503990833:=0
def tw3584140438656211732:=0
def tw7889979953688126810:=0
def tw12411270691936968917:=0
def tw1237764520191839670:=0
def tw11426359804845867682:=0
def tw15857033720782670353:=0
def tw13938546260162739035:=0
def tw13057314579655037257:=0
def tw12509336472353357620:=0
def tw12348363160816492039:=0
def tw11182571844341630015:=0
def tw89410588785506130:=0
def tw10891573630698674802:=0
def tw1377428084044112857:=0
def tw9754282586219624898:=0
def tw7748894507762162951:=0
def tw4732552382660696642:=0
def tw7420240461593787896:=0
def tw1629994063033207636:=0
def tw16928925122370258178:=0
def tw12339789681336114232:=0
def tw6263315134271134525:=0
def tw6599498784154731045:=0
def tw10433236564358631254:=0
def tw5145993627703271440:=0
def tw13526675177100166602:=0
def tw9635728884377713831:=0
def tw17022554675038167800:=0
def tw11551446651825851568:=0
def tw15284352342494134730:=0
def tw14035719941036590636:=0
def tw3046622335437026538:=0
def tw1385462740663153016:=0
def tw8690432017037509006:=0
def tw6512725757021696173:=0
def tw3306634355006867430:=0
def tw14778625273530498865:=0
def tw14096094403149779074:=0
def tw4780606001833484561:=0
def tw1973682621526194617:=0
def tw1255342413748635240:=0
def tw13329003903187428882:=0
def tw4781826441948209888:=0
def tw17244282404646037043:=0
def tw15014608835468371533:=0
def tw14050779368972776233:=0
def tw12424863976088433117:=0
def tw13897964360220872936:=0
def tw10158087054112443606:=0
def tw4126422695281889879:=0
def tw3930754022953084451:=0
def tw4458957705325858455:=0
def tw17940305621639326941:=0
def tw18325925073420828182:=0
def tw11264537856215060026:=0
def tw10606349055646281804:=0
def tw786585272179066326:=0
def tw4729317410267959205:=0
def tw9821261457487344064:=0
def tw1326010333351628856:=0
def tw2996428430623502611:=0
def tw9246778032733324495:=0
def tw8701033260768403778:=0
def tw7589686880667769718:=0
def tw14244852111580447983:=0
def tw12617138134340282293:=0
def tw3764339412578954071:=0
def tw9626253620062511841:=0
def tw3716225001258015059:=0
def tw13113495782717554517:=0
def tw5680098552867409232:=0
def tw3457066983685544548:=0
def tw4093541028254420466:=0
def tw2286510653750114817:=0
def tw6733083887599443486:=0
def tw14148726906666587390:=0
def tw9393593720748592052:=0
def tw4146916619170348685:=0
def tw17466224859077247662:=0
def tw8820210149422082995:=0
def tw8623820828348219422:=0
def tw8502984030582366817:=0
def tw7889568653015161718:=0
def tw3140613578213286030:=0
def tw8388485369534852110:=0
def tw8451989890412616665:=0
def tw7938727053334143878:=0
def tw6484577949664874947:=0
def tw4700642998895975636:=0
def tw4030688929301450790:=0
def tw2718659559596816486:=0
def tw2405447321067528788:=0
def tw2310607137640656472:=0
def tw14014720369790038343:=0
def tw13914224279921939840:=0
def tw13764721272974771064:=0
def tw13387557767925046178:=0
def tw12657656035757591929:=0
def tw12015738891336409997:=0
def tw2837733385989594117:=0
def tw8142732202989780096:=0
def tw2398316077571338576:=0
def tw11099925085632982408:=0
def tw9959364813789934975:=0
def tw9802476452237789712:=0
def tw8986617189738236964:=0
def tw8034441233347154214:=0
def tw7493322332557363197:=0
def tw3338232127369937299:=0
def tw16586613928564749269:=0
def tw15696589661557429915:=0
def tw14666297835031743501:=0
def tw13037943468476995764:=0
def tw12872770008501382768:=0
def tw1180012529743812391:=0
def tw18084615749592843859:=0
def tw16393584125036061397:=0
def tw15466954170987399267:=0
def tw13641525847203025581:=0
def tw14060543458222460750:=0
def tw9387446913955062719:=0
def tw1506805785580392926:=0
def tw11540327060173217805:=0
def tw4645483899126398615:=0
def tw9535953006993664444:=0
def tw15386446716262854654:=0
def tw9011482973733093264:=0
def tw8265751942919231231:=0
def tw7616913910503000271:=0
def tw7196267984906833345:=0
def tw4555904973227077108:=0
def tw4503418502834815657:=0
def tw3913888173504488632:=0
def tw3227770252959367943:=0
def tw2201172375814387645:=0
def tw2190586420035929997:=0
def tw15476712795310869231:=0
def tw15041156518758647796:=0
def tw1776427142338210794:=0
def tw5092154626724913377:=0
def tw9079899069166054397:=0
def tw8617156075259376493:=0
def tw856496554364276211:=0
def tw8132705005921943305:=0
def tw7053845348469898235:=0
def tw6670716956743626881:=0
def tw6080573021964742153:=0
def tw5635320436751583088:=0
def tw4407243674204114258:=0
def tw4042636371728181131:=0
def tw2758644171265477379:=0
def tw18062865876816714128:=0
def tw17934805131527813677:=0
def tw17092726739893586368:=0
def tw15315466208482414763:=0
def tw13635683415407141738:=0
def tw11520571319848808166:=0
def tw11406814539437360879:=0
def tw10730320641217176263:=0
def tw9501658731275100248:=0
def tw7818404530525548219:=0
def tw6164915051424878513:=0
def tw6092163118968242155:=0
def tw5763077374915001678:=0
def tw4605523308410051160:=0
def tw4262718549830336344:=0
def tw3773345309143437868:=0
def tw3459412367686829289:=0
def tw3381272643877341737:=0
def tw1637238355783965189:=0
def tw16346658111989501981:=0
def tw15861566034807753375:=0
def tw15792871346179494:=0
def tw15633294837378936769:=0
def tw14411390384038363155:=0
def tw13976501449841323345:=0
def tw107181482407689935:=0
def tw10283688383659350321:=0
def tw3592573071820286093:=0
def tw7729614876218891172:=0
def tw5806309621980032588:=0
def tw5410467341039837377:=0
def tw4584593352705532325:=0
def tw2645701633068647032:=0
def tw2635481508897620784:=0
def tw18243443786399511851:=0
def tw16353191638288220000:=0
def tw15730514944423534970:=0
def tw15121620988065092771:=0
def tw14939128698261116822:=0
def tw13516789226429537258:=0
def tw1195878909179878412:=0
def tw11560717345566073113:=0
def tw11326680121323365473:=0
def tw9947471400644987500:=0
def tw9436530217488533115:=0
def tw8967416387443854112:=0
def tw8325533472019972583:=0
def tw7620040457988661369:=0
def tw6946130403754223735:=0
def tw656415514219009828:=0
def tw6420451087720972198:=0
def tw5723538204839195495:=0
def tw4635711173383969867:=0
def tw2655556957511902817:=0
def tw15597617367261656063:=0
def tw15216243444562835549:=0
def tw15146668033659507439:=0
def tw13194317799335619539:=0
def tw11879187922898294400:=0
def tw1160799947945651070:=0
def tw11460494553831469026:=0
def tw10351017062446256632:=0
def tw9937698103929593800:=0
def tw9682030963563382362:=0
def tw9674333676879326119:=0
def tw950364506326347757:=0
def tw9362576854722309623:=0
def tw9241909964280091442:=0
def tw9230638890323652906:=0
def tw9175484301479223488:=0
def tw9131743941693112528:=0
def tw9112137893925533667:=0
def tw9080315746098982804:=0
def tw9078937548654816871:=0
def tw8955168278342463096:=0
def tw8953564675254912763:=0
def tw8948260559068389178:=0
def tw8635782495055288604:=0
def tw8600241299203151764:=0
def tw8599835083250453784:=0
def tw8347507336905910073:=0
def tw8201430569990930022:=0
def tw8049237620396898372:=0
def tw7926039255477375630:=0
def tw7781256766253261142:=0
def tw7578203579390770483:=0
def tw7537634149558248204:=0
def tw7500268241990471993:=0
def tw7066250824861596729:=0
def tw6951592727409982811:=0
def tw6944917471648125577:=0
def tw6943168265625228923:=0
def tw678057092958336413:=0
def tw6442729117473894849:=0
def tw639035174185233474:=0
def tw6380433977743450851:=0
def tw5878798246829043379:=0
def tw5865292623321717235:=0
def tw5858873818685330944:=0
def tw5835187614133985432:=0
def tw5702237642090489058:=0
def tw5654660991959000193:=0
def tw5512146595565578427:=0
def tw5379550662892082866:=0
def tw5358785115811671288:=0
def tw5227026095862840830:=0
def tw5219795488593326136:=0
def tw5110296580289022214:=0
def tw5076857123148440492:=0
def tw4847895546112175848:=0
def tw4800483708169747823:=0
def tw4715945907320440514:=0
def tw4660110412253210146:=0
def tw4626879629379956378:=0
def tw4618263955562374527:=0
def tw4602063966890817199:=0
def tw4517161883639521745:=0
def tw4443180478212846509:=0
def tw4387657662875879025:=0
def tw4374907403310514587:=0
def tw4000259181773620335:=0
def tw3982677834814157900:=0
def tw3731711483024137334:=0
def tw3564341722842027357:=0
def tw3188492456423592633:=0
def tw3185225270431219634:=0
def tw2849212580522045749:=0
def tw2849181050194952559:=0
def tw2837863301142293985:=0
def tw2779515603526220257:=0
def tw26538601384281381:=0
def tw2579020420634604698:=0
def tw2376665475750683952:=0
def tw2065948184151919393:=0
def tw1995293633038710746:=0
def tw18390815209314580654:=0
def tw18388281452164993683:=0
def tw18373610177420594078:=0
def tw18250154143554662949:=0
def tw18242542129987987677:=0
def tw18142264882554269836:=0
def tw17899749237039538949:=0
def tw17846044886823366086:=0
def tw17830229209898026434:=0
def tw17720678728454190838:=0
def tw17713866931597940677:=0
def tw17654004585993707712:=0
def tw17283559134342977941:=0
def tw17131002664814787324:=0
def tw17130693405503677496:=0
def tw16766697418126579303:=0
def tw16680434413252269332:=0
def tw16577359070532954894:=0
def tw1649058746153034352:=0
def tw16441164474327967596:=0
def tw16382122109633848014:=0
def tw16174848234945425947:=0
def tw16155498277455361589:=0
def tw16103917738880561519:=0
def tw16051532833323663049:=0
def tw15911166588396599150:=0
def tw15893279481329322585:=0
def tw15759256320640464472:=0
def tw15757638272967283077:=0
def tw1570173584068062669:=0
def tw15374892873823322658:=0
def tw15354024171184921723:=0
def tw15309450140411410957:=0
def tw1524980434848102859:=0
def tw15209898792607922810:=0
def tw15079354734385133176:=0
def tw14986809684398790289:=0
def tw1483238774381505609:=0
def tw14812579881861388944:=0
def tw14730979554154626552:=0
def tw14694487239758295724:=0
def tw14652962278248617174:=0
def tw14511208076058293481:=0
def tw14481312960804142215:=0
def tw14418721744929669962:=0
def tw14214234571341780090:=0
def tw14077073801529378493:=0
def tw13890932207653605087:=0
def tw13869912097670494145:=0
def tw13692797930580600184:=0
def tw13613466059747498366:=0
def tw1350174410172042904:=0
def tw13080152449170262022:=0
def tw13014259250110853064:=0
def tw1292309210492725844:=0
def tw12672133894288717034:=0
def tw12634644329967871599:=0
def tw12579380914189642728:=0
def tw12567185126689557137:=0
def tw12541072966161979285:=0
def tw1253720924321166538:=0
def tw12425860440236280253:=0
def tw12211785771230464626:=0
def tw12143323838124974187:=0
def tw11894505021006075670:=0
def tw11640084733109805593:=0
def tw11591738541687847464:=0
def tw11581623869369561088:=0
def tw11463533911994334983:=0
def tw11360345090123321534:=0
def tw11152731553569550585:=0
def tw11124007339573592619:=0
def tw11045715950426623477:=0
def tw10905667918564712716:=0
def tw10719213094060935035:=0
def tw10614228516787669735:=0
def tw10549264193727774525:=0
def tw10474840804487199237:=0
def tw10380386607513941110:=0
def tw10293740381808438832:=0
def tw10197927686704248408:=0
end PySem.W.Fast
open PySem PySem.W PyProof.Rows
set_option maxRecDepth 100000 in
set_option maxHeartbeats 0 in
theorem PySem.Challenge.cw_manydeeds_k62_books_refused_holds : PySem.Challenge.rw_manydeeds_k62_books_refused.Holds := by
 w_on;o_law;k_head;(case hw=>w_witness2)
 k_fill
 refine K62.walk (l:=PySem.Challenge.rw_manydeeds_k62_books_refused) rfl rfl (fun w h Y=>W.kIn_of Y) ?F
 case F =>
  intro w mg fa h KX G hmg
  refine' K62.all_mk KX G hmg ?_ ?_ ?_ ?_ ?_ ?_ ?_ ?_ ?_ ?_ ?_ ?_ ?_ ?_ ?_ ?_ ?_ ?_ ?_ ?_ ?_ ?_ ?_ ?_ ?_ ?_ ?_ ?_ ?_ ?_ ?_ ?_ ?_ ?_ ?_ ?_ ?_ ?_ ?_ ?_ ?_ ?_ ?_ ?_ ?_ ?_ ?_ ?_ ?_ ?_ ?_ ?_ ?_ ?_ ?_ ?_ ?_ ?_ ?_ ?_ ?_ ?_ ?_ ?_ ?_ ?_ ?_ ?_ ?_ ?_ ?_ ?_ ?_ ?_ ?_ ?_ ?_ ?_ ?_ ?_ ?_ ?_ ?_ ?_ ?_ ?_ ?_ ?_ ?_ ?_ ?_ ?_ ?_ ?_ ?_ ?_ ?_ ?_ ?_ ?_ ?_ ?_ ?_ ?_ ?_ ?_ ?_ ?_ ?_ ?_ ?_ ?_ ?_ ?_ ?_ ?_ ?_ ?_ ?_ ?_ ?_ ?_ ?_ ?_ ?_ ?_ ?_ ?_ ?_ ?_ ?_ ?_ ?_ ?_ ?_ ?_ ?_ ?_ ?_ ?_ ?_ ?_ ?_ ?_ ?_ ?_ ?_ ?_ ?_ ?_ ?_ ?_ ?_ ?_ ?_ ?_ ?_ ?_ ?_ ?_ ?_ ?_ ?_ ?_ ?_ ?_ ?_ ?_ ?_ ?_ ?_ ?_ ?_ ?_ ?_ ?_ ?_ ?_ ?_ ?_ ?_ ?_ ?_ ?_ ?_ ?_ ?_ ?_ ?_ ?_ ?_ ?_ ?_ ?_ ?_ ?_ ?_ ?_ ?_ ?_ ?_ ?_ ?_ ?_ ?_ ?_ ?_ ?_ ?_ ?_ ?_ ?_ ?_ ?_ ?_ ?_ ?_ ?_ ?_ ?_ ?_ ?_ ?_ ?_ ?_ ?_ ?_ ?_ ?_ ?_ ?_ ?_ ?_ ?_ ?_ ?_ ?_ ?_ ?_ ?_ ?_ ?_ ?_ ?_ ?_ ?_ ?_ ?_ ?_ ?_ ?_ ?_ ?_ ?_ ?_ ?_ ?_ ?_ ?_ ?_ ?_ ?_ ?_ ?_ ?_ ?_ ?_ ?_ ?_ ?_ ?_ ?_ ?_ ?_ ?_ ?_ ?_ ?_ ?_ ?_ ?_ ?_ ?_ ?_ ?_ ?_ ?_ ?_ ?_ ?_ ?_ ?_ ?_ ?_ ?_ ?_ ?_ ?_ ?_ ?_ ?_ ?_ ?_ ?_ ?_ ?_ ?_ ?_ ?_ ?_ ?_ ?_ ?_ ?_ ?_ ?_ ?_ ?_ ?_ ?_ ?_ ?_ ?_ ?_ ?_ ?_ ?_ ?_ ?_ ?_ ?_ ?_ ?_ ?_
  any_goals first | exact L2.tp (by k_is) (by k_is) (by k_is) (by k_is) | exact L2.mp (by k_is) (by k_is) (by k_is) (by k_is) (by k_is) | exact ⟨by k_is,by k_is,by k_is,by k_is,by k_is,by k_is,by k_is⟩ | k_is
