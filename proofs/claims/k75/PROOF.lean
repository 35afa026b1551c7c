import PyProof.Rows.All
import Wide.All
import OpenK.AllK
import Wide.FinOn
import Lean
import PyProof.EqAt
import PyProof.EqKinds
import PyProof.TupleCall
import PySem.Challenge.RW_manydeeds_k75_term_texts_refused
set_option Elab.async false
set_option linter.all false
set_option maxRecDepth 100000
/-! THE HAND LAYER, for ints, bools, texts, own classes, LISTS and tuples (index, slices, in, append, pop ..), calls, loops. Paste it whole ahead of your own text; what your proof does not reach may be deleted. -/
namespace L2
open PySem PySem.Spec PyProof.Rows

/-- a key: an int or a str -/
abbrev Key := Sum Int Str
def keyIs : Key → Value → Bool
  | .inl k, v => Value.isInt k v
  | .inr x, v => Value.isStrOf x v
def keyH (w : World) : Key → Int
  | .inl k => hashInt k
  | .inr x => hashStr w x
theorem keyIs_shape : ∀ {k : Key} {v : Value}, keyIs k v = true → (∃ i t, k = Sum.inl i ∧ v = Value.int i t) ∨ (∃ x t, k = Sum.inr x ∧ v = Value.str x t)
  | .inl i, v, h => by
    obtain ⟨t, e⟩ := Value.isInt_shape (k := i) (v := v) h
    exact .inl ⟨i, t, rfl, e⟩
  | .inr x, v, h => by
    obtain ⟨t, e⟩ := Value.isStrOf_shape (x := x) (v := v) h
    exact .inr ⟨x, t, rfl, e⟩
theorem key_ll (a b : Int) : decide ((Sum.inl a : Key) = Sum.inl b) = (a == b) := by
  by_cases e : a = b
  · subst e; simp
  · have h : ¬ (Sum.inl a : Key) = Sum.inl b := fun q => e (Sum.inl.inj q)
    rw [decide_eq_false h]
    exact (beq_eq_false_iff_ne.mpr e).symm
theorem key_rr (a b : Str) : decide ((Sum.inr a : Key) = Sum.inr b) = decide (a = b) := by
  by_cases e : a = b
  · subst e; simp
  · have h : ¬ (Sum.inr a : Key) = Sum.inr b := fun q => e (Sum.inr.inj q)
    rw [decide_eq_false h, decide_eq_false e]
theorem key_lr (a : Int) (b : Str) : decide ((Sum.inl a : Key) = Sum.inr b) = false := decide_eq_false (fun q => nomatch q)
theorem key_rl (a : Str) (b : Int) : decide ((Sum.inr a : Key) = Sum.inl b) = false := decide_eq_false (fun q => nomatch q)

def mixKind (prog : Program) (w : World) : PySem.KeyKind prog w Key where
  is := keyIs
  hash := keyH w
  inj := fun v a b ha hb => by
    rcases keyIs_shape ha with ⟨i, t, rfl, rfl⟩ | ⟨x, t, rfl, rfl⟩
    · rcases keyIs_shape hb with ⟨j, u, rfl, e⟩ | ⟨y, u, rfl, e⟩
      · injection e with e1 _; rw [e1]
      · exact nomatch e
    · rcases keyIs_shape hb with ⟨j, u, rfl, e⟩ | ⟨y, u, rfl, e⟩
      · exact nomatch e
      · injection e with e1 _; rw [e1]
  byValue := fun k v h => by
    rcases keyIs_shape h with ⟨i, t, rfl, rfl⟩ | ⟨x, t, rfl, rfl⟩ <;> rfl
  pyHash := fun hv h => by
    rcases keyIs_shape hv with ⟨i, t, rfl, rfl⟩ | ⟨x, t, rfl, rfl⟩
    · exact wpAny_pyHash_int h
    · exact wpAny_pyHash_str h
  eqBool := fun hu hv h => by
    rcases keyIs_shape hu with ⟨i, t, rfl, rfl⟩ | ⟨x, t, rfl, rfl⟩
    · rcases keyIs_shape hv with ⟨j, u, rfl, rfl⟩ | ⟨y, u, rfl, rfl⟩
      · rw [key_ll] at h; exact wpAny_eqBool_int h
      · rw [key_lr] at h; exact SeqAt.EqAt.int_str i t y u _ _ _ _ h
    · rcases keyIs_shape hv with ⟨j, u, rfl, rfl⟩ | ⟨y, u, rfl, rfl⟩
      · rw [key_rl] at h; exact SeqAt.EqAt.str_int x t j u _ _ _ _ h
      · rw [key_rr] at h; exact wpAny_eqBool_str h
  «strs» := fun k x t v h => by
    rcases keyIs_shape h with ⟨i, u, rfl, e⟩ | ⟨y, u, rfl, e⟩
    · exact nomatch e
    · injection e with e1 _
      subst e1
      cases v <;> rfl

end L2

namespace L2
open PySem PySem.Spec PyProof.Rows

/-- a value, without the heap -/
inductive V where
  | non | bl (b : Bool) | int (i : Int) | str (x : Str) | byt (b : Array UInt8) | flt (b : UInt64) | ref (a : Addr) | ty (n : String)
  deriving DecidableEq

def RelV : V → Value → Prop
  | .non, u => u = Value.none
  | .bl b, u => u = Value.bool b
  | .int i, u => ∃ t, u = Value.int i t
  | .str x, u => ∃ t, u = Value.str x t
  | .byt b, u => ∃ t, u = Value.bytes b t
  | .flt b, u => ∃ t, u = Value.float b t
  | .ref a, u => u = Value.ref a
  | .ty n, u => u = Value.type n

abbrev Vals : List V → List Value → Prop := Paired RelV
theorem Vals.length {xs : List V} {us : List Value} (r : Vals xs us) : xs.length = us.length := Paired.length r
theorem Vals.get : ∀ {xs : List V} {us : List Value} {i : Nat} {x : V}, Vals xs us → xs[i]? = some x → ∃ u, us[i]? = some u ∧ RelV x u
  | _, _, _, _, .nil, e => by simp at e
  | _, _, 0, _, .cons r _, e => by simp at e; subst e; exact ⟨_, rfl, r⟩
  | _, _, i + 1, x, .cons _ t, e => by
    obtain ⟨u, h1, h2⟩ := Vals.get (i := i) (x := x) t (by simpa using e)
    exact ⟨u, by simpa using h1, h2⟩
theorem Vals.set {x : V} {u : Value} (r : RelV x u) : ∀ {xs : List V} {us : List Value} (i : Nat), Vals xs us → Vals (xs.set i x) (us.set i u)
  | _, _, _, .nil => .nil
  | _, _, 0, .cons _ t => .cons r t
  | _, _, i + 1, .cons q t => .cons q (Vals.set r i t)
theorem Vals.append : ∀ {xs ys : List V} {us ws : List Value}, Vals xs us → Vals ys ws → Vals (xs ++ ys) (us ++ ws)
  | _, _, _, _, .nil, s => s
  | _, _, _, _, .cons r t, s => .cons r (Vals.append t s)
theorem Vals.take : ∀ {xs : List V} {us : List Value} (n : Nat), Vals xs us → Vals (xs.take n) (us.take n)
  | _, _, 0, _ => .nil
  | _, _, _ + 1, .nil => .nil
  | _, _, n + 1, .cons r t => .cons r (Vals.take n t)
theorem Vals.drop : ∀ {xs : List V} {us : List Value} (n : Nat), Vals xs us → Vals (xs.drop n) (us.drop n)
  | _, _, 0, r => r
  | _, _, _ + 1, .nil => .nil
  | _, _, n + 1, .cons _ t => Vals.drop n t
def RelO : Option V → Option Value → Prop
  | some v, some u => RelV v u
  | none, none => True
  | _, _ => False
def KV {κ : Type} : List (κ × V) → List (κ × Value) → Prop := Paired fun (p : κ × V) (q : κ × Value) => p.1 = q.1 ∧ RelV p.2 q.2

/-- a key of a dict (00_mix): an int or a text -/
def kV : Key → V
  | .inl i => .int i
  | .inr x => .str x

/-- what stands at a tracked address -/
inductive HO where
  /-- a list -/
  | lst (xs : List V)
  /-- a tuple (never changes) -/
  | tup (xs : List V)
  /-- a dict whose keys are ints and texts; one whose keys are tuples of ints and texts (the empty one is both) -/
  | dK (kvs : List (Key × V)) | dT (kvs : List (List Key × V))
  /-- a set of ints: its members, its size -/
  | set (S : Int → Bool) (n : Nat)
  /-- an instance of the class at C, its dict at dx, its attributes -/
  | ins (C dx : Addr) (fs : List (Str × V))
  /-- the dict of the instance at x -/
  | own (x : Addr)
  /-- the dict of an exception -/
  | xd (fs : List (Str × V))
  /-- a bound method, f of x -/
  | met (f x : Addr)
  /-- a range object lo, lo + 1, .. below hi -/
  | rng (lo hi : Int)
  /-- a thing that is known to the object (the script; a dict while a loop walks it): read, never written while it is so -/
  | frz (o : Obj) (u : HO)
  /-- a code object's table -/
  | tbl (ps : Array Value)
  /-- any other thing, by what is true of its one object (a def of one's own: SetO a S n := HO.ext fun h => ..) -/
  | ext (φ : Heap → Prop)

abbrev Hp := Addr → Option HO
def upd (H : Hp) (a : Addr) (o : HO) : Hp := fun b => if b = a then some o else H b
theorem upd_same {H : Hp} {a : Addr} {o : HO} : upd H a o a = some o := by unfold upd; rw [if_pos rfl]
theorem upd_ne {H : Hp} {a b : Addr} {o : HO} (h : b ≠ a) : upd H a o b = H b := by unfold upd; rw [if_neg h]
theorem upd_upd {H : Hp} {a : Addr} {o u : HO} : upd (upd H a o) a u = upd H a u := by
  funext b; unfold upd; split <;> rfl
theorem ne_of_none {H : Hp} {a b : Addr} {o : HO} (h : H a = some o) (h' : H b = none) : a ≠ b := by
  intro e; subst e; rw [h] at h'; cases h'

section
variable (P : Program) (w : World)
def ObjOk (H : Hp) (h : Heap) (a : Addr) : HO → Prop
  | .lst xs => xs.length ≤ sizeLine ∧ ∃ (its : List Value) (n : Nat), Vals xs its ∧ h.get? a = some { cls := .type "list", data := .seq its.toArray n }
  | .tup xs => xs.length ≤ sizeLine ∧ ∃ its : List Value, Vals xs its ∧ IsTup h a its.toArray
  | .dK kvs => kvs.length ≤ sizeLine ∧ (a == sysModules) = false ∧ ∃ vs, KV kvs vs ∧ h.DictOf (mixKind P w) a vs
  | .dT kvs => kvs.length ≤ sizeLine ∧ (a == sysModules) = false ∧ ∃ xs : List (List Key × Addr × Value),
      Paired (fun (p : List Key × V) (q : List Key × Addr × Value) => p.1 = q.1 ∧ H q.2.1 = some (.tup (p.1.map kV)) ∧ RelV p.2 q.2.2) kvs xs ∧
      ∃ o es ep, h.get? a = some o ∧ o.ExactDict ∧ o.data = .dict es ep ∧ es.toList = xs.map (entryOfKey (tupleKind (mixKind P w))) ∧ (xs.map (·.1)).Nodup
  | .set S n => h.SetOf (intKind P w) a S n
  | .ins C dx fs => H dx = some (.own a) ∧ fs.length ≤ 1000 ∧ dx ≠ a ∧ h.get? a = some (W.instObj C dx) ∧
      ∃ mA, h.Ns1 dx mA ∧ (∀ f, RelO (fs.lookup f) (mA f)) ∧ PySem.Within mA (fs.map (·.1))
  | .own _ => ∃ o, h.get? a = some o
  | .xd fs => ∃ mA, h.Ns1 a mA ∧ ∀ f, RelO (fs.lookup f) (mA f)
  | .rng lo hi => ∃ t u v, h.get? a = some { cls := .type "range", data := .fields #[.int lo t, .int hi u, .int 1 v] }
  | .frz o u => h.get? a = some o ∧ ObjOk H h a u
  | .tbl ps => h.get? a = some { cls := .none, data := .fields ps }
  | .met f x => h.get? a = some (W.methodObj (.ref f) (.ref x))
  | .ext φ => φ h ∧ (∃ o, h.get? a = some o) ∧ ∀ h1 h2 : Heap, φ h1 → (∀ o, h1.get? a = some o → h2.get? a = some o) → φ h2
/-- the abstract heap is held -/
def HOk (H : Hp) (h : Heap) : Prop := ∀ a o, H a = some o → ObjOk P w H h a o
end

section
variable {P : Program} {w : World} {H H' : Hp} {h h' : Heap} {a : Addr} {o : HO}
theorem ObjOk.lt (x : ObjOk P w H h a o) : a < h.objs.size := by
  cases o with
  | lst xs => obtain ⟨_, _, _, _, e⟩ := x; exact Heap.lt_size e
  | tup xs => obtain ⟨_, _, _, p⟩ := x; exact p.lt
  | dK kvs => obtain ⟨_, _, _, _, o, _, _, e, _⟩ := x; exact Heap.lt_size e
  | dT kvs => obtain ⟨_, _, _, _, o, _, _, e, _⟩ := x; exact Heap.lt_size e
  | set S n => obtain ⟨o, _, _, _, e, _⟩ := x; exact Heap.lt_size e
  | ins C dx fs => obtain ⟨_, _, _, e, _⟩ := x; exact Heap.lt_size e
  | own y => obtain ⟨_, e⟩ := x; exact Heap.lt_size e
  | xd fs => obtain ⟨_, ⟨_, _, _, e, _⟩, _⟩ := x; exact Heap.lt_size e
  | rng lo hi => obtain ⟨_, _, _, e⟩ := x; exact Heap.lt_size e
  | frz ob u => obtain ⟨e, _⟩ := x; exact Heap.lt_size e
  | tbl ps => exact Heap.lt_size (show h.get? a = some _ from x)
  | met f y => exact Heap.lt_size (show h.get? a = some _ from x)
  | ext φ => obtain ⟨_, ⟨_, e⟩, _⟩ := x; exact Heap.lt_size e
theorem Paired.mapP {α β : Type} {F G : α → β → Prop} : ∀ {l₁ : List α} {l₂ : List β}, Paired F l₁ l₂ → (∀ a b, F a b → G a b) → Paired G l₁ l₂
  | _, _, .nil, _ => .nil
  | _, _, .cons r t, f => .cons (f _ _ r) (Paired.mapP t f)
theorem Paired.imp' {α β : Type} {F G : α → β → Prop} (f : ∀ a b, F a b → G a b) {l₁ : List α} {l₂ : List β} (r : Paired F l₁ l₂) : Paired G l₁ l₂ := Paired.mapP r f
/-- what an object's description leans on: its own object, its own dict, the tuples -/
theorem ObjOk.stay (x : ObjOk P w H h a o) (k : ∀ b u, (b = a ∨ H b = some (.own a)) → h.get? b = some u → h'.get? b = some u)
    (ho : ∀ b, H b = some (.own a) → H' b = some (.own a)) (ht : ∀ b xs, H b = some (.tup xs) → H' b = some (.tup xs)) : ObjOk P w H' h' a o := by
  induction o with
  | lst xs => obtain ⟨z, its, n, r, e⟩ := x; exact ⟨z, its, n, r, k _ _ (.inl rfl) e⟩
  | tup xs => obtain ⟨z, its, r, ob, e, c⟩ := x; exact ⟨z, its, r, ob, k _ _ (.inl rfl) e, c⟩
  | dK kvs => obtain ⟨z, y, vs, r, ob, es, ep, e, c⟩ := x; exact ⟨z, y, vs, r, ob, es, ep, k _ _ (.inl rfl) e, c⟩
  | dT kvs =>
    obtain ⟨z, y, xs, r, ob, es, ep, e, c⟩ := x
    exact ⟨z, y, xs, Paired.mapP r fun p q z => ⟨z.1, ht _ _ z.2.1, z.2.2⟩, ob, es, ep, k _ _ (.inl rfl) e, c⟩
  | set S n => obtain ⟨ob, es, ep, t, e, c⟩ := x; exact ⟨ob, es, ep, t, k _ _ (.inl rfl) e, c⟩
  | ins C dx fs =>
    obtain ⟨d, z, ne, e, mA, ⟨od, es, ep, e2, c⟩, r⟩ := x
    exact ⟨ho _ d, z, ne, k _ _ (.inl rfl) e, mA, ⟨od, es, ep, k _ _ (.inr d) e2, c⟩, r⟩
  | own y => obtain ⟨ob, e⟩ := x; exact ⟨ob, k _ _ (.inl rfl) e⟩
  | xd fs => obtain ⟨mA, ⟨od, es, ep, e, c⟩, r⟩ := x; exact ⟨mA, ⟨od, es, ep, k _ _ (.inl rfl) e, c⟩, r⟩
  | rng lo hi => obtain ⟨t, u, v, e⟩ := x; exact ⟨t, u, v, k _ _ (.inl rfl) e⟩
  | frz ob u ih => obtain ⟨e, q⟩ := x; exact ⟨k _ _ (.inl rfl) e, ih q⟩
  | tbl ps =>
    have e : h.get? a = some { cls := .none, data := .fields ps } := x
    show h'.get? a = some { cls := .none, data := .fields ps }
    exact k a _ (.inl rfl) e
  | met f y =>
    have e : h.get? a = some (W.methodObj (.ref f) (.ref y)) := x
    show h'.get? a = some (W.methodObj (.ref f) (.ref y))
    exact k a _ (.inl rfl) e
  | ext φ => obtain ⟨p, ⟨o, e⟩, st⟩ := x; exact ⟨st _ _ p fun o q => k _ _ (.inl rfl) q, ⟨o, k _ _ (.inl rfl) e⟩, st⟩
theorem HOk.lt (x : HOk P w H h) (e : H a = some o) : a < h.objs.size := (x a o e).lt
theorem HOk.fresh (x : HOk P w H h) (e : h.objs.size ≤ a) : H a = none := by
  cases q : H a with
  | none => rfl
  | some u => exact absurd (Nat.lt_of_lt_of_le (x.lt q) e) (Nat.lt_irrefl _)
/-- every object of the heap is kept -/
theorem HOk.kept (x : HOk P w H h) (k : ∀ b u, h.get? b = some u → h'.get? b = some u) : HOk P w H h' := fun a o e =>
  (x a o e).stay (fun b u _ q => k b u q) (fun _ q => q) fun _ _ q => q
/-- a new object is laid and tracked -/
theorem HOk.laid (x : HOk P w H h) (k : ∀ b u, h.get? b = some u → h'.get? b = some u) (hp : h.objs.size ≤ a) (new : ObjOk P w (upd H a o) h' a o) : HOk P w (upd H a o) h' := fun b u e => by
  have hn := x.fresh hp
  by_cases hb : b = a
  · subst hb; rw [upd_same] at e; cases e; exact new
  · rw [upd_ne hb] at e
    exact (x b u e).stay (fun c v _ q => k c v q) (fun c q => by rw [upd_ne (ne_of_none q hn)]; exact q) fun c xs q => by rw [upd_ne (ne_of_none q hn)]; exact q
end

/-- what may be read as u: it is u, or a known u -/
def Rd (H : Hp) (a : Addr) (u : HO) : Prop := H a = some u ∨ ∃ o, H a = some (.frz o u)
theorem Rd.ok {P : Program} {w : World} {H : Hp} {h : Heap} {a : Addr} {u : HO} (r : Rd H a u) (x : HOk P w H h) : ObjOk P w H h a u := by
  rcases r with r | ⟨o, r⟩
  · exact x a u r
  · obtain ⟨_, q⟩ := x a _ r
    exact q
/-- what may be written -/
def Mut : Option HO → Prop
  | some (.lst _) => True
  | some (.dK _) => True
  | some (.dT _) => True
  | some (.set _ _) => True
  | some (.ins _ _ _) => True
  | some (.ext _) => True
  | _ => False
section
variable {P : Program} {w : World} {H : Hp} {h h' : Heap} {x e : Addr} {o' : HO}
/-- the object at e is changed: x itself, or the dict of the instance x -/
theorem HOk.write (ok : HOk P w H h) (mu : Mut (H x)) (he : e = x ∨ H e = some (.own x)) (k : ∀ b u, b ≠ e → h.get? b = some u → h'.get? b = some u) (heo : ∃ u, h'.get? e = some u)
    (new : ObjOk P w (upd H x o') h' x o') : HOk P w (upd H x o') h' := fun b u q => by
  have nown : ∀ c y, H c = some (.own y) → c ≠ x := fun c y r z => by subst z; rw [r] at mu; exact mu
  have ntup : ∀ c xs, H c = some (.tup xs) → c ≠ x := fun c xs r z => by subst z; rw [r] at mu; exact mu
  by_cases hb : b = x
  · subst hb; rw [upd_same] at q; cases q; exact new
  · rw [upd_ne hb] at q
    by_cases hbe : b = e
    · have q' : H b = some (.own x) := by
        rcases he with z | z
        · exact absurd (hbe.trans z) hb
        · rw [hbe]; exact z
      rw [q] at q'; cases q'
      obtain ⟨v, hv⟩ := heo
      exact ⟨v, by rw [hbe]; exact hv⟩
    · refine (ok b u q).stay (fun c v hc r => k c v ?_ r) (fun c r => by rw [upd_ne (nown c b r)]; exact r) fun c xs r => by rw [upd_ne (ntup c xs r)]; exact r
      rcases hc with rfl | hc
      · exact hbe
      · rintro rfl
        rcases he with z | z
        · exact nown c b hc z
        · rw [hc] at z; cases z; exact hb rfl
end

/-! ### kept unless tracked; of the frames at fs (the callers') the slots may change (an exception that passes writes there); of the records at ex (iterators) nothing is said -/
structure Un (fs ex : List Addr) (H H' : Hp) (h h' : Heap) : Prop where
  keep : ∀ b o, h.get? b = some o → H b = none → b ∉ fs → b ∉ ex → h'.get? b = some o
  slot : ∀ b o, h.get? b = some o → H b = none → b ∈ fs → b ∉ ex → ∃ sl, h'.get? b = some { o with slots := sl }
  free : ∀ b o, h.get? b = some o → H b = none → b ∉ ex → H' b = none
  there : ∀ b o, h.get? b = some o → b ∉ ex → ∃ o', h'.get? b = some o'
  tups : ∀ b xs, H b = some (.tup xs) → H' b = some (.tup xs)
  frzs : ∀ b o u, H b = some (.frz o u) → H' b = some (.frz o u)
  tbls : ∀ b ps, H b = some (.tbl ps) → ∃ more, H' b = some (.tbl (ps ++ more))
section
variable {fs fs' ex ex' : List Addr} {H H1 H2 : Hp} {h h1 h2 h' : Heap} {a x e : Addr} {o : HO}
theorem Un.any (u : Un fs ex H H1 h h1) {b : Addr} {ob : Obj} (q : h.get? b = some ob) (n : H b = none) (hx : b ∉ ex) : ∃ sl, h1.get? b = some { ob with slots := sl } := by
  by_cases hb : b ∈ fs
  · exact u.slot b ob q n hb hx
  · exact ⟨ob.slots, u.keep b ob q n hb hx⟩
theorem Un.kept (k : ∀ b u, h.get? b = some u → h'.get? b = some u) : Un fs ex H H h h' :=
  ⟨fun b ob q _ _ _ => k b ob q, fun b ob q _ _ _ => ⟨ob.slots, k b ob q⟩, fun _ _ _ n _ => n, fun b ob q _ => ⟨ob, k b ob q⟩, fun _ _ q => q, fun _ _ _ q => q, fun _ ps q => ⟨#[], by rw [q]; simp⟩⟩
theorem Un.refl : Un fs ex H H h h := Un.kept fun _ _ q => q
theorem Un.laid (k : ∀ b u, h.get? b = some u → h'.get? b = some u) (hp : h.objs.size ≤ a) (hn : H a = none) : Un fs ex H (upd H a o) h h' where
  keep := fun b u q _ _ _ => k b u q
  slot := fun b u q _ _ _ => ⟨u.slots, k b u q⟩
  free := fun b u q n _ => by rw [upd_ne (Nat.ne_of_lt (Nat.lt_of_lt_of_le (Heap.lt_size q) hp))]; exact n
  there := fun b u q _ => ⟨u, k b u q⟩
  tups := fun b xs q => by rw [upd_ne (ne_of_none q hn)]; exact q
  frzs := fun b u xs q => by rw [upd_ne (ne_of_none q hn)]; exact q
  tbls := fun b ps q => ⟨#[], by rw [upd_ne (ne_of_none q hn), q]; simp⟩
theorem Un.write (mu : Mut (H x)) (he : e = x ∨ H e = some (.own x)) (k : ∀ b u, b ≠ e → h.get? b = some u → h'.get? b = some u) (heo : ∃ u, h'.get? e = some u) : Un fs ex H (upd H x o) h h' := by
  have hx : ∀ b, H b = none → b ≠ x := fun b n z => by subst z; rw [n] at mu; exact mu
  have hb : ∀ b, H b = none → b ≠ e := fun b n z => by
    subst z
    rcases he with r | r
    · exact hx b n r
    · rw [n] at r; cases r
  have hm : ∀ b u, H b = some u → ¬ Mut (some u) → b ≠ x := fun b u q nm z => by subst z; rw [q] at mu; exact nm mu
  refine ⟨fun b u q n _ _ => k b u (hb b n) q, fun b u q n _ _ => ⟨u.slots, k b u (hb b n) q⟩, fun b u q n _ => by rw [upd_ne (hx b n)]; exact n, fun b u q _ => ?_,
    fun b xs q => by rw [upd_ne (hm b _ q fun z => z)]; exact q, fun b u xs q => by rw [upd_ne (hm b _ q fun z => z)]; exact q, fun b ps q => ⟨#[], by rw [upd_ne (hm b _ q fun z => z), q]; simp⟩⟩
  by_cases hbe : b = e
  · subst hbe; exact heo
  · exact ⟨u, k b u hbe q⟩
end

/-! ### the heap without what is tracked -/
def trk (h : Heap) (H : Hp) : List Addr := (List.range h.objs.size).filter fun a => (H a).isSome
def hidT (h : Heap) (H : Hp) : Heap := W.hideAll h (trk h H)
theorem hidT_size (h : Heap) (H : Hp) : (hidT h H).objs.size = h.objs.size := W.hideAll_size _ _
theorem hidT_get {h : Heap} {H : Hp} {b : Addr} {o : Obj} (e : h.get? b = some o) (n : H b = none) : (hidT h H).get? b = some o :=
  W.hideAll_get _ e fun hm => by
    have q : (H b).isSome = true := (List.mem_filter.mp hm).2
    rw [n] at q; simp at q
theorem of_hidT {h : Heap} {H : Hp} {b : Addr} {o : Obj} (e : (hidT h H).get? b = some o) : h.get? b = some o ∧ H b = none := by
  have e' : h.get? b = some o := W.of_hideAll (trk h H) e
  refine ⟨e', ?_⟩
  cases q : H b with
  | none => rfl
  | some x =>
    have hm : b ∈ trk h H := List.mem_filter.mpr ⟨List.mem_range.mpr (Heap.lt_size e'), by simp [q]⟩
    have z : (hidT h H).get? b = none := W.hideAll_none (trk h H) hm
    rw [z] at e; cases e

/-! ### OpenK's ledger, filled with every new object but one -/
def allNews (g h : Heap) (L : Addr) : List (Addr × Obj) := (List.range h.objs.size).filterMap fun a => if a = L ∨ (g.get? a).isSome = true then none else (h.get? a).map fun o => (a, o)
def rest (g h : Heap) (L d : Addr) : List (Addr × Obj) := (allNews g h L).filter fun p => decide (p.1 ≠ d)
end L2

namespace L2
open PySem PySem.Spec PyProof.Rows

/-- the module's facts, over the base: the heap at the law's entry without what is tracked there -/
structure Mod (K : W.Frag) (mg : Str → Option Value) (base : Heap) : Prop where
  kin : K.In base
  glob : base.Ns mainGlobals mg
  blt : ∃ mb, base.Ns builtinsNs mb ∧ ∀ x : Str, x ≠ "__name__" → mb x = bootBuiltins x
  nolimit : base.NoLimit

/-- the context: a def's body (or a comprehension's block) running. base: fixed through the whole law; s₀, H₀: the entry; outer: the frames whose slots others may change (a def's callers); stack: all frames that run;
   ex: iterators that were made ahead of the entry and are walked here (a comprehension's); fn: the names whose cells were made at the entry (a def: all; a comprehension's block: its own); calm: not within an except suite; pn: pins that every state bears; xe: what is wanted of an exception that leaves the code -/
structure Cx where
  prog : Program
  w : World
  K : W.Frag
  mg : Str → Option Value
  base : Heap
  A : Around
  N : List Str
  s₀ : Shared
  H₀ : Hp
  env : Env
  outer : List Env
  stack : List Env
  ex : List Addr
  fn : Str → Bool
  calm : Bool
  pn : List (Addr × Obj)
  xe : Value → Shared → Prop
/-- the callers' frames -/
def frs (l : List Env) : List Addr := l.filterMap (·.frame)
abbrev Cx.fs (X : Cx) : List Addr := frs X.outer

def Vis (sc : Scope) (x : Str) : Prop := sc.names.lookup x = some .local ∨ sc.names.lookup x = some .cell ∨ sc.names.lookup x = some .free
def Loc (sc : Scope) (x : Str) : Prop := sc.names.lookup x = some .local ∨ sc.names.lookup x = some .cell
def Look (env : Env) (h : Heap) (m : Str → Option Value) (x : Str) (u : Value) : Prop :=
  (env.kindOf x = some .local ∧ m x = some u) ∨ ((env.kindOf x = some .cell ∨ env.kindOf x = some .free) ∧ ∃ c, env.cells.lookup x = some c ∧ h.IsCell c (some u))

structure Cx.Ok (X : Cx) : Prop where
  mod : Mod X.K X.mg X.base
  kind : X.env.scope.kind = .function
  glob : X.env.globals = mainGlobals
  blt : X.env.builtins = builtinsNs
  above : X.s₀.heap.objs.size ≤ X.env.locals
  inj : ∀ x y c, X.env.cells.lookup x = some c → X.env.cells.lookup y = some c → x = y
  has : ∀ x, (X.env.kindOf x = some .cell ∨ X.env.kindOf x = some .free) → ∃ c, X.env.cells.lookup x = some c
  cab : ∀ x c, X.fn x = true → X.env.cells.lookup x = some c → X.s₀.heap.objs.size ≤ c
  hd : X.calm = true → X.A.handled = none
  frames : X.A.frames = some X.stack
  stk : X.stack = X.outer ∨ (X.stack = X.env :: X.outer ∧ X.env.frame = some X.env.locals)
  exf : ∀ b ∈ X.ex, b ≠ X.env.locals ∧ ∀ x c, X.env.cells.lookup x = some c → c ≠ b
  bs : ∀ b o, X.base.get? b = some o → X.s₀.heap.get? b = some o ∧ X.H₀ b = none
  bsz : X.base.objs.size ≤ X.s₀.heap.objs.size
  noex : ∀ b o, X.base.get? b = some o → b ∉ X.ex
  exfs : ∀ b ∈ X.ex, b ∉ X.fs
  funs : X.s₀.heap.FunFrames X.base X.outer
  frf : ∀ b ∈ X.fs, X.H₀ b = none

structure Inv (X : Cx) (pins : List (Addr × Obj)) (σ : List (Option V)) (H : Hp) (s : Shared) : Prop where
  ok : X.Ok
  os : s.os = X.s₀.os
  bare : AllBare s.gens
  base : Un X.fs X.ex X.H₀ H X.s₀.heap s.heap
  loc : ∃ m, s.heap.Ns X.env.locals m ∧ ∀ (i : Nat) (x : Str) (v : V), X.N[i]? = some x → σ[i]? = some (some v) → Vis X.env.scope x → ∃ u, RelV v u ∧ Look X.env s.heap m x u
  cell : ∀ x c, X.env.cells.lookup x = some c → ∃ v, s.heap.IsCell c v
  free : H X.env.locals = none
  freeC : ∀ x c, X.env.cells.lookup x = some c → H c = none
  pin : ∀ p ∈ X.pn ++ pins, s.heap.get? p.1 = some p.2 ∧ H p.1 = none ∧ p.1 ≠ X.env.locals ∧ p.1 ∉ X.fs ∧ ∀ v, p.2.data ≠ .cell v
  hok : HOk X.prog X.w H s.heap
  len : σ.length = X.N.length

section
variable {X : Cx} {pins : List (Addr × Obj)} {σ : List (Option V)} {H H' : Hp} {s : Shared} {h' : Heap}

theorem Cx.Ok.nofr (ok : X.Ok) {b : Addr} {o : Obj} (e : X.base.get? b = some o) : b ∉ X.fs := fun hb => by
  have := (ok.funs.mem hb).1
  rw [e] at this; cases this
theorem Inv.bs (I : Inv X pins σ H s) : ∀ b o, X.base.get? b = some o → s.heap.get? b = some o ∧ H b = none := fun b o e =>
  ⟨I.base.keep b o (I.ok.bs b o e).1 (I.ok.bs b o e).2 (I.ok.nofr e) (I.ok.noex b o e), I.base.free b o (I.ok.bs b o e).1 (I.ok.bs b o e).2 (I.ok.noex b o e)⟩
theorem Inv.bk (I : Inv X pins σ H s) : ∀ b o, X.base.get? b = some o → s.heap.get? b = some o := fun b o e => (I.bs b o e).1
theorem Inv.mod (I : Inv X pins σ H s) : Mod X.K X.mg X.base := I.ok.mod
theorem Inv.kIn (I : Inv X pins σ H s) : X.K.In s.heap := I.ok.mod.kin.keeps I.bk
theorem Inv.lt (I : Inv X pins σ H s) : X.env.locals < s.heap.objs.size := let ⟨_, hn, _⟩ := I.loc; hn.lt
theorem Inv.sz (I : Inv X pins σ H s) : X.s₀.heap.objs.size ≤ s.heap.objs.size := Nat.le_trans I.ok.above (Nat.le_of_lt I.lt)
theorem Inv.nofs (I : Inv X pins σ H s) {a : Addr} (h : s.heap.objs.size ≤ a) : a ∉ X.fs := fun hb => by
  obtain ⟨_, o, ho, _⟩ := I.ok.funs.mem hb
  exact absurd (Nat.lt_of_lt_of_le (Heap.lt_size ho) (Nat.le_trans I.sz h)) (Nat.lt_irrefl _)
theorem Inv.cne (I : Inv X pins σ H s) : ∀ x c, X.env.cells.lookup x = some c → c ≠ X.env.locals := fun x c e z => by
  obtain ⟨v, o, ho, hd⟩ := I.cell x c e
  obtain ⟨m, ⟨o', es, ep, ho', hd', _⟩, _⟩ := I.loc
  rw [z, ho'] at ho; cases ho; rw [hd'] at hd; cases hd
theorem Inv.funs (I : Inv X pins σ H s) : s.heap.FunFrames X.base X.outer := by
  have all : ∀ (l : List Env), (∀ b ∈ frs l, b ∈ X.fs) → X.s₀.heap.FunFrames X.base l → s.heap.FunFrames X.base l := by
    intro l
    induction l with
    | nil => intro _ _; trivial
    | cons env r ih =>
      intro hs hl
      obtain ⟨hk, ⟨L, o, hf, hn, ho, hd⟩, hr⟩ := hl
      have hL : L ∈ X.fs := hs L (by unfold frs; rw [List.filterMap_cons, hf]; exact List.mem_cons_self)
      obtain ⟨sl, e⟩ := I.base.slot L o ho (I.ok.frf L hL) hL fun z => I.ok.exfs L z hL
      exact ⟨hk, ⟨L, _, hf, hn, e, hd⟩, ih (fun b hb => hs b (by unfold frs; rw [List.filterMap_cons, hf]; exact List.mem_cons_of_mem _ hb)) hr⟩
  exact all X.outer (fun _ hb => hb) I.ok.funs

/-- the frames that run, for a call -/
theorem Inv.stack (I : Inv X pins σ H s) : s.heap.FunFrames X.base X.stack := by
  rcases I.ok.stk with e | ⟨e, hf⟩
  · rw [e]; exact I.funs
  · rw [e]
    obtain ⟨m, hn, _⟩ := I.loc
    refine .cons (by rw [I.ok.kind]; decide) hf hn ?_ I.funs
    exact Heap.get?_none_of_le (Nat.le_trans I.ok.bsz I.ok.above)
theorem Inv.stkSub (I : Inv X pins σ H s) : ∀ b ∈ frs X.stack, b ∈ X.env.locals :: X.fs := fun b hb => by
  rcases I.ok.stk with e | ⟨e, hf⟩
  · rw [e] at hb; exact List.mem_cons_of_mem _ hb
  · rw [e] at hb
    unfold frs at hb
    rw [List.filterMap_cons, hf] at hb
    exact hb
theorem Inv.stkFree (I : Inv X pins σ H s) : ∀ b ∈ frs X.stack, H b = none := fun b hb => by
  rcases List.mem_cons.mp (I.stkSub b hb) with e | hb
  · rw [e]; exact I.free
  · obtain ⟨_, o, ho, _⟩ := I.ok.funs.mem hb
    exact I.base.free b o ho (I.ok.frf b hb) fun z => I.ok.exfs b z hb

/-- THE STEP: the untracked objects but the frame and the records at ch are kept (the callers' frames up to slots), the frame's map is kept, the new abstract heap is held -/
theorem Inv.step {g' : Array GenState} {t' : Nat} {d' : Drawn} {ch : List Addr} (I : Inv X pins σ H s)
    (hch : ∀ b ∈ ch, (b ∈ X.ex ∨ X.s₀.heap.objs.size ≤ b) ∧ b ≠ X.env.locals ∧ (∀ x c, X.env.cells.lookup x = some c → c ≠ b) ∧ ∀ p ∈ X.pn ++ pins, p.1 ≠ b)
    (keep : ∀ b o, b ≠ X.env.locals → b ∉ X.fs → b ∉ ch → s.heap.get? b = some o → H b = none → h'.get? b = some o)
    (slot : ∀ b o, b ≠ X.env.locals → b ∈ X.fs → b ∉ ch → s.heap.get? b = some o → H b = none → ∃ sl, h'.get? b = some { o with slots := sl }) (free : ∀ b o, b ∉ ch → s.heap.get? b = some o → H b = none → H' b = none)
    (there : ∀ b o, b ∉ ch → s.heap.get? b = some o → ∃ o', h'.get? b = some o')
    (tups : ∀ b xs, H b = some (.tup xs) → H' b = some (.tup xs)) (frzs : ∀ b o u, H b = some (.frz o u) → H' b = some (.frz o u)) (tbls : ∀ b ps, H b = some (.tbl ps) → ∃ more, H' b = some (.tbl (ps ++ more)))
    (ns : ∀ m, s.heap.Ns X.env.locals m → h'.Ns X.env.locals m) (hok : HOk X.prog X.w H' h') (hg : AllBare g') :
    Inv X pins σ H' { s with heap := h', gens := g', drawn := d', toks := t' } := by
  have neL : ∀ b o, X.s₀.heap.get? b = some o → b ≠ X.env.locals := fun b o e => Nat.ne_of_lt (Nat.lt_of_lt_of_le (Heap.lt_size e) I.ok.above)
  have neC : ∀ b o, X.s₀.heap.get? b = some o → b ∉ X.ex → b ∉ ch := fun b o e hx hb => by
    rcases (hch b hb).1 with z | z
    · exact hx z
    · exact absurd (Nat.lt_of_lt_of_le (Heap.lt_size e) z) (Nat.lt_irrefl _)
  have cellK : ∀ x c, X.env.cells.lookup x = some c → ∀ v, s.heap.IsCell c v → h'.IsCell c v := fun x c e v ⟨o, ho, hd⟩ => by
    have nch : c ∉ ch := fun z => (hch c z).2.2.1 x c e rfl
    by_cases hc : c ∈ X.fs
    · obtain ⟨sl, q⟩ := slot c o (I.cne x c e) hc nch ho (I.freeC x c e)
      exact ⟨_, q, hd⟩
    · exact ⟨o, keep c o (I.cne x c e) hc nch ho (I.freeC x c e), hd⟩
  refine ⟨I.ok, I.os, hg, ⟨fun b o e n hb hx => ?_, fun b o e n hb hx => ?_, fun b o e n hx => ?_, fun b o e hx => ?_, fun b xs e => tups b xs (I.base.tups b xs e), fun b o xs e => frzs b o xs (I.base.frzs b o xs e), fun b ps e => ?_⟩, ?_, fun x c e => ?_, ?_, fun x c e => ?_, fun p hp => ?_, hok, I.len⟩
  · exact keep b o (neL b o e) hb (neC b o e hx) (I.base.keep b o e n hb hx) (I.base.free b o e n hx)
  · obtain ⟨sl, e1⟩ := I.base.slot b o e n hb hx
    obtain ⟨sl', e2⟩ := slot b _ (neL b o e) hb (neC b o e hx) e1 (I.base.free b o e n hx)
    exact ⟨sl', e2⟩
  · obtain ⟨o', e1⟩ := I.base.there b o e hx
    exact free b o' (neC b o e hx) e1 (I.base.free b o e n hx)
  · obtain ⟨o', e1⟩ := I.base.there b o e hx
    exact there b o' (neC b o e hx) e1
  · obtain ⟨m1, e1⟩ := I.base.tbls b ps e
    obtain ⟨m2, e2⟩ := tbls b _ e1
    exact ⟨m1 ++ m2, by rw [e2, Array.append_assoc]⟩
  · obtain ⟨m, hn, hl⟩ := I.loc
    refine ⟨m, ns m hn, fun i x v e1 e2 e3 => ?_⟩
    obtain ⟨u, r, l⟩ := hl i x v e1 e2 e3
    refine ⟨u, r, ?_⟩
    rcases l with l | ⟨k, c, e, z⟩
    · exact .inl l
    · exact .inr ⟨k, c, e, cellK x c e _ z⟩
  · obtain ⟨v, z⟩ := I.cell x c e
    exact ⟨v, cellK x c e v z⟩
  · obtain ⟨m, ⟨o, _, _, ho, _⟩, _⟩ := I.loc
    exact free _ o (fun z => (hch _ z).2.1 rfl) ho I.free
  · obtain ⟨v, o, ho, hd⟩ := I.cell x c e
    exact free c o (fun z => (hch c z).2.2.1 x c e rfl) ho (I.freeC x c e)
  · obtain ⟨e, n, ne, nf, d⟩ := I.pin p hp
    have nch : p.1 ∉ ch := fun z => (hch p.1 z).2.2.2 p hp rfl
    exact ⟨keep p.1 p.2 ne nf nch e n, free p.1 p.2 nch e n, ne, nf, d⟩
/-- .. where the frame's own object is kept too -/
theorem Inv.un {t' : Nat} (I : Inv X pins σ H s) (u : Un X.fs [] H H' s.heap h') (hok : HOk X.prog X.w H' h') : Inv X pins σ H' { s with heap := h', toks := t' } := by
  obtain ⟨m, ⟨o, es, ep, ho, r⟩, _⟩ := id I.loc
  obtain ⟨sl, hL⟩ := u.any ho I.free (by simp)
  exact I.step (g' := s.gens) (d' := s.drawn) (ch := []) (fun _ z => nomatch z) (fun b o _ hb _ e n => u.keep b o e n hb (by simp)) (fun b o _ hb _ e n => u.slot b o e n hb (by simp)) (fun b o _ e n => u.free b o e n (by simp)) (fun b o _ e => u.there b o e (by simp)) u.tups u.frzs u.tbls (fun m' hm => by
    obtain ⟨o', es', ep', ho', r'⟩ := hm
    rw [ho] at ho'; cases ho'
    exact ⟨_, es', ep', hL, r'⟩) hok I.bare
/-- behind a call (or a comprehension's block): the slots of this frame may have changed too, the records at ch may have turned -/
theorem Inv.call {g' : Array GenState} {t' : Nat} {d' : Drawn} {ch : List Addr} (I : Inv X pins σ H s) (u : Un (frs X.stack) ch H H' s.heap h') (hok : HOk X.prog X.w H' h') (hg : AllBare g')
    (hch : ∀ b ∈ ch, (b ∈ X.ex ∨ X.s₀.heap.objs.size ≤ b) ∧ b ≠ X.env.locals ∧ (∀ x c, X.env.cells.lookup x = some c → c ≠ b) ∧ ∀ p ∈ X.pn ++ pins, p.1 ≠ b) :
    Inv X pins σ H' { s with heap := h', gens := g', drawn := d', toks := t' } := by
  obtain ⟨m, ⟨o, es, ep, ho, r⟩, _⟩ := id I.loc
  obtain ⟨sl, hL⟩ := u.any ho I.free fun z => (hch _ z).2.1 rfl
  exact I.step (ch := ch) hch (fun b o hL hb hc e n => u.keep b o e n (fun z => (List.mem_cons.mp (I.stkSub b z)).elim hL hb) hc) (fun b o _ _ hc e n => u.any e n hc) (fun b o hc e n => u.free b o e n hc) (fun b o hc e => u.there b o e hc) u.tups u.frzs u.tbls (fun m' hm => by
    obtain ⟨o', es', ep', ho', r'⟩ := hm
    rw [ho] at ho'; cases ho'
    exact ⟨_, es', ep', hL, r'⟩) hok hg
/-- an untracked record of ours (an iterator) has turned -/
theorem Inv.turned {t' : Nat} {it : Addr} (I : Inv X pins σ H s) (k : ∀ b o, b ≠ it → s.heap.get? b = some o → h'.get? b = some o) (hn : H it = none) (hL : it ≠ X.env.locals)
    (h1 : it ∈ X.ex ∨ X.s₀.heap.objs.size ≤ it) (h2 : ∀ x c, X.env.cells.lookup x = some c → c ≠ it) (h3 : ∀ p ∈ X.pn ++ pins, p.1 ≠ it) : Inv X pins σ H { s with heap := h', toks := t' } := by
  have nit : ∀ b u, H b = some u → b ≠ it := fun b u e z => by rw [z, hn] at e; cases e
  refine I.step (g' := s.gens) (d' := s.drawn) (ch := [it]) (fun b hb => ?_) (fun b o _ _ hc e _ => k b o (fun z => hc (by simp [z])) e) (fun b o _ _ hc e _ => ⟨o.slots, k b o (fun z => hc (by simp [z])) e⟩) (fun _ _ _ _ n => n)
    (fun b o hc e => ⟨o, k b o (fun z => hc (by simp [z])) e⟩) (fun _ _ e => e) (fun _ _ _ e => e) (fun b ps e => ⟨#[], by rw [e]; simp⟩) (fun m hm => ?_) (fun b u e => ?_) I.bare
  · have e : b = it := by simpa using hb
    subst e
    exact ⟨h1, hL, h2, h3⟩
  · obtain ⟨o, es, ep, ho, r⟩ := hm
    exact ⟨o, es, ep, k _ o (Ne.symm hL) ho, r⟩
  · refine (I.hok b u e).stay (fun c v hc q => k c v ?_ q) (fun _ q => q) fun _ _ q => q
    rcases hc with z | z
    · rw [z]; exact nit b u e
    · exact nit c _ z
theorem Inv.tok (I : Inv X pins σ H s) (t : Nat) : Inv X pins σ H { s with toks := t } := I.un (h' := s.heap) (t' := t) Un.refl I.hok
/-- all objects kept -/
theorem Inv.kept {t' : Nat} (I : Inv X pins σ H s) (k : ∀ b u, s.heap.get? b = some u → h'.get? b = some u) : Inv X pins σ H { s with heap := h', toks := t' } := I.un (Un.kept k) (I.hok.kept k)
/-- a new object laid and tracked -/
theorem Inv.laid {a : Addr} {o : HO} {t' : Nat} (I : Inv X pins σ H s) (k : ∀ b u, s.heap.get? b = some u → h'.get? b = some u) (hp : s.heap.objs.size ≤ a) (new : ObjOk X.prog X.w (upd H a o) h' a o) :
    Inv X pins σ (upd H a o) { s with heap := h', toks := t' } := I.un (Un.laid k hp (I.hok.fresh hp)) (I.hok.laid k hp new)
/-- an object written -/
theorem Inv.write {x e : Addr} {o : HO} {t' : Nat} (I : Inv X pins σ H s) (mu : Mut (H x)) (he : e = x ∨ H e = some (.own x)) (k : ∀ b u, b ≠ e → s.heap.get? b = some u → h'.get? b = some u) (heo : ∃ u, h'.get? e = some u)
    (new : ObjOk X.prog X.w (upd H x o) h' x o) : Inv X pins σ (upd H x o) { s with heap := h', toks := t' } := I.un (Un.write mu he k heo) (I.hok.write mu he k heo new)
theorem Inv.pins_of {pins' : List (Addr × Obj)} (I : Inv X pins σ H s) (h : ∀ p ∈ pins', s.heap.get? p.1 = some p.2 ∧ H p.1 = none ∧ p.1 ≠ X.env.locals ∧ p.1 ∉ X.fs ∧ ∀ v, p.2.data ≠ .cell v) : Inv X pins' σ H s :=
  ⟨I.ok, I.os, I.bare, I.base, I.loc, I.cell, I.free, I.freeC, fun p hp => (List.mem_append.mp hp).elim (fun z => I.pin p (List.mem_append_left _ z)) (h p), I.hok, I.len⟩

theorem nodup_ix {N : List Str} (hN : N.Nodup) {i j : Nat} {x : Str} (a : N[i]? = some x) (b : N[j]? = some x) : i = j := by
  obtain ⟨h1, e1⟩ := List.getElem?_eq_some_iff.mp a
  obtain ⟨h2, e2⟩ := List.getElem?_eq_some_iff.mp b
  exact (List.getElem_inj hN).mp (e1.trans e2.symm)

/-- a name is stored; what changed -/
theorem store_ok2 {M : Model} {A : Around} {E : Value → Shared → Prop} {i : Nat} {x : Str} {v : V} {u : Value} {Q : Unit → Shared → Prop} (I : Inv X pins σ H s) (hN : X.N.Nodup) (hi : X.N[i]? = some x) (hx : Loc X.env.scope x) (r : RelV v u)
    (h : ∀ s', Inv X pins (σ.set i (some v)) H s' → (∃ a, Heap.SameBut a s.heap s'.heap ∧ (a = X.env.locals ∨ X.env.cells.lookup x = some a)) → Q () s') (hf : X.fn x = true ∨ X.env.scope.names.lookup x = some .local := by first | exact .inl rfl | exact .inr rfl | assumption) : wpAny M A (storeName X.env x u) Q E s := by
  obtain ⟨m, hn, hl⟩ := id I.loc
  have hcls : (X.env.scope.kind == .class || (X.env.scope.kind == .module && X.env.locals != X.env.globals)) = false := by rw [I.ok.kind]; rfl
  have hiσ : i < σ.length := by rw [I.len]; exact (List.getElem?_eq_some_iff.mp hi).1
  have cne := I.cne
  have tracked : ∀ {a : Addr} {h' : Heap}, (∃ o, s.heap.get? a = some o ∧ H a = none) → Heap.SameBut a s.heap h' → HOk X.prog X.w H h' := fun {a h'} ha hs b ob e => by
    obtain ⟨_, _, hfree⟩ := ha
    refine (I.hok b ob e).stay (fun c w' hc q => (hs.2 c ?_).trans q) (fun _ q => q) fun _ _ q => q
    rintro rfl
    rcases hc with rfl | hc
    · rw [hfree] at e; cases e
    · rw [hfree] at hc; cases hc
  rcases hx with hk | hk
  · refine wpAny_storeName_local hk hn (fun h' hn' hs => ?_) hcls
    obtain ⟨oL, _, _, hoL, _⟩ := id hn
    refine h _ ⟨I.ok, I.os, I.bare, ⟨fun b o e n hb hx => ?_, fun b o e n hb hx => ?_, I.base.free, fun b o e hx => ?_, I.base.tups, I.base.frzs, I.base.tbls⟩, ⟨_, hn', fun j y v' e1 e2 e3 => ?_⟩, fun y c e => ?_, I.free, I.freeC, fun p hp => ?_, tracked ⟨oL, hoL, I.free⟩ hs, by simpa using I.len⟩ ⟨_, hs, .inl rfl⟩
    · exact (hs.2 b (Nat.ne_of_lt (Nat.lt_of_lt_of_le (Heap.lt_size e) I.ok.above))).trans (I.base.keep b o e n hb hx)
    · obtain ⟨sl, e1⟩ := I.base.slot b o e n hb hx
      exact ⟨sl, (hs.2 b (Nat.ne_of_lt (Nat.lt_of_lt_of_le (Heap.lt_size e) I.ok.above))).trans e1⟩
    · obtain ⟨o', e1⟩ := I.base.there b o e hx
      exact ⟨o', (hs.2 b (Nat.ne_of_lt (Nat.lt_of_lt_of_le (Heap.lt_size e) I.ok.above))).trans e1⟩
    · by_cases hj : j = i
      · subst hj
        rw [hi] at e1; cases e1
        rw [List.getElem?_set_self hiσ] at e2
        cases e2
        exact ⟨u, r, .inl ⟨hk, by simp⟩⟩
      · rw [List.getElem?_set_ne (Ne.symm hj)] at e2
        obtain ⟨u', r', q⟩ := hl j y v' e1 e2 e3
        refine ⟨u', r', ?_⟩
        rcases q with ⟨k, e⟩ | ⟨k, c, e, z⟩
        · refine .inl ⟨k, ?_⟩
          have : y ≠ x := fun e => hj (nodup_ix hN e1 (e ▸ hi))
          simp [this, e]
        · exact .inr ⟨k, c, e, z.sameBut hs (cne y c e)⟩
    · obtain ⟨w', z⟩ := I.cell y c e
      exact ⟨w', z.sameBut hs (cne y c e)⟩
    · obtain ⟨e, n, ne, nf, d⟩ := I.pin p hp
      exact ⟨(hs.2 p.1 ne).trans e, n, ne, nf, d⟩
  · have hfn : X.fn x = true := by
      rcases hf with z | z
      · exact z
      · rw [z] at hk; cases hk
    obtain ⟨c, hc⟩ := I.ok.has x (.inl hk)
    obtain ⟨w', z⟩ := I.cell x c hc
    refine wpAny_storeName_cell I.ok.kind hk hc z (fun h' hc' hs => ?_)
    obtain ⟨oc, hoc, hocd⟩ := id z
    refine h { s with heap := h' } ⟨I.ok, I.os, I.bare, ⟨fun b o e n hb hx => ?_, fun b o e n hb hx => ?_, I.base.free, fun b o e hx => ?_, I.base.tups, I.base.frzs, I.base.tbls⟩, ⟨m, hn.sameBut hs (Ne.symm (cne x c hc)), fun j y v' e1 e2 e3 => ?_⟩, fun y c' e => ?_, I.free, I.freeC, fun p hp => ?_, tracked ⟨oc, hoc, I.freeC x c hc⟩ hs, by simpa using I.len⟩ ⟨c, hs, .inr hc⟩
    · exact (hs.2 b (Nat.ne_of_lt (Nat.lt_of_lt_of_le (Heap.lt_size e) (I.ok.cab x c hfn hc)))).trans (I.base.keep b o e n hb hx)
    · obtain ⟨sl, e1⟩ := I.base.slot b o e n hb hx
      exact ⟨sl, (hs.2 b (Nat.ne_of_lt (Nat.lt_of_lt_of_le (Heap.lt_size e) (I.ok.cab x c hfn hc)))).trans e1⟩
    · obtain ⟨o', e1⟩ := I.base.there b o e hx
      exact ⟨o', (hs.2 b (Nat.ne_of_lt (Nat.lt_of_lt_of_le (Heap.lt_size e) (I.ok.cab x c hfn hc)))).trans e1⟩
    · by_cases hj : j = i
      · subst hj
        rw [hi] at e1; cases e1
        rw [List.getElem?_set_self hiσ] at e2
        cases e2
        exact ⟨u, r, .inr ⟨.inl hk, c, hc, hc'⟩⟩
      · rw [List.getElem?_set_ne (Ne.symm hj)] at e2
        obtain ⟨u', r', q⟩ := hl j y v' e1 e2 e3
        refine ⟨u', r', ?_⟩
        rcases q with q | ⟨k, c', e, z'⟩
        · exact .inl q
        · refine .inr ⟨k, c', e, z'.sameBut hs ?_⟩
          rintro rfl
          exact hj (nodup_ix hN e1 (I.ok.inj _ _ _ e hc ▸ hi))
    · by_cases hcc : c' = c
      · subst hcc; exact ⟨_, hc'⟩
      · obtain ⟨w2, z2⟩ := I.cell y c' e
        exact ⟨w2, z2.sameBut hs hcc⟩
    · obtain ⟨e, n, ne, nf, d⟩ := I.pin p hp
      refine ⟨(hs.2 p.1 ?_).trans e, n, ne, nf, d⟩
      intro q
      rw [q, hoc] at e
      have q' : oc = p.2 := Option.some.inj e
      exact d w' (by rw [← q']; exact hocd)
theorem store_ok {M : Model} {A : Around} {E : Value → Shared → Prop} {i : Nat} {x : Str} {v : V} {u : Value} {Q : Unit → Shared → Prop} (I : Inv X pins σ H s) (hN : X.N.Nodup) (hi : X.N[i]? = some x) (hx : Loc X.env.scope x) (r : RelV v u)
    (h : ∀ s', Inv X pins (σ.set i (some v)) H s' → Q () s') (hf : X.fn x = true ∨ X.env.scope.names.lookup x = some .local := by first | exact .inl rfl | exact .inr rfl | assumption) : wpAny M A (storeName X.env x u) Q E s :=
  store_ok2 I hN hi hx r (fun s' I' _ => h s' I') hf
/-- behind a call or a block, the state as it is -/
theorem Inv.call' {s' : Shared} {ch : List Addr} (I : Inv X pins σ H s) (ho : s'.os = s.os) (u : Un (frs X.stack) ch H H' s.heap s'.heap) (hok : HOk X.prog X.w H' s'.heap) (hg : AllBare s'.gens)
    (hch : ∀ b ∈ ch, (b ∈ X.ex ∨ X.s₀.heap.objs.size ≤ b) ∧ b ≠ X.env.locals ∧ (∀ x c, X.env.cells.lookup x = some c → c ≠ b) ∧ ∀ p ∈ X.pn ++ pins, p.1 ≠ b) : Inv X pins σ H' s' := by
  obtain ⟨h', g', d', t', o'⟩ := s'
  have e : o' = s.os := ho
  subst e
  exact I.call (g' := g') (t' := t') (d' := d') u hok hg hch
end

/-! ### the judgements -/
/-- an exception: its class, its own dict's address (where it has one), the abstract heap behind it -/
abbrev XK := Value → Option Addr → Hp → Prop
abbrev St := List (Option V)
abbrev VK := V → Hp → Prop
/-- an expression's reading; a test's; an argument list's -/
abbrev TE := St → Hp → VK → Prop
abbrev TT := St → Hp → (Bool → Hp → Prop) → Prop
abbrev TA := St → Hp → (List V → Hp → Prop) → Prop
/-- what is wanted behind a statement -/
structure Ends where
  nx : St → Hp → Prop
  rt : VK
  bk : St → Hp → Prop := fun _ _ => False
  ct : St → Hp → Prop := fun _ _ => False
abbrev TS := Ends → St → Hp → Prop

def EP (X : Cx) (pins : List (Addr × Obj)) (σ : St) (Q : VK) (u : Value) (s' : Shared) : Prop := ∃ v H', Inv X pins σ H' s' ∧ RelV v u ∧ Q v H'
def TP (X : Cx) (pins : List (Addr × Obj)) (σ : St) (Q : Bool → Hp → Prop) (b : Bool) (s' : Shared) : Prop := ∃ H', Inv X pins σ H' s' ∧ Q b H'
def AP (X : Cx) (pins : List (Addr × Obj)) (σ : St) (Q : List V → Hp → Prop) (us : List Value) (s' : Shared) : Prop := ∃ vs H', Inv X pins σ H' s' ∧ Vals vs us ∧ Q vs H'
def SP (X : Cx) (pins : List (Addr × Obj)) (D : Ends) (f : Flow) (s' : Shared) : Prop :=
  match f with
  | .next => ∃ σ' H', Inv X pins σ' H' s' ∧ D.nx σ' H'
  | .brk => ∃ σ' H', Inv X pins σ' H' s' ∧ D.bk σ' H'
  | .cont => ∃ σ' H', Inv X pins σ' H' s' ∧ D.ct σ' H'
  | .ret u => ∃ v σ' H', Inv X pins σ' H' s' ∧ RelV v u ∧ D.rt v H'

def PE (X : Cx) (e : Expr) (t : TE) : Prop :=
  ∀ (pins : List (Addr × Obj)) (s : Shared) (σ : St) (H : Hp) (Q : VK), Inv X pins σ H s → t σ H Q → wpAny (model X.prog X.w) X.A (eval e X.env) (EP X pins σ Q) X.xe s
def PT (X : Cx) (e : Expr) (t : TT) : Prop :=
  ∀ (pins : List (Addr × Obj)) (s : Shared) (σ : St) (H : Hp) (Q : Bool → Hp → Prop), Inv X pins σ H s → t σ H Q → wpAny (model X.prog X.w) X.A (isTrue e X.env (eval e X.env)) (TP X pins σ Q) X.xe s
/-- a test whatever its 'whole' is (and, or) -/
def PW (X : Cx) (e : Expr) (t : TT) : Prop :=
  ∀ (whole : Sem Value) (pins : List (Addr × Obj)) (s : Shared) (σ : St) (H : Hp) (Q : Bool → Hp → Prop), Inv X pins σ H s → t σ H Q → wpAny (model X.prog X.w) X.A (isTrue e X.env whole) (TP X pins σ Q) X.xe s
theorem PW.pt {X : Cx} {e : Expr} {t : TT} (h : PW X e t) : PT X e t := h _
/-- an argument list (no star), from the left -/
def PA (X : Cx) (es : List Expr) (t : TA) : Prop :=
  ∀ (pos : Pos) (pins : List (Addr × Obj)) (s : Shared) (σ : St) (H : Hp) (Q : List V → Hp → Prop), Inv X pins σ H s → t σ H Q → wpAny (model X.prog X.w) X.A (spliced (backTo pos (starEach es X.env))) (AP X pins σ Q) X.xe s
def PS (X : Cx) (st : Stmt) (t : TS) : Prop :=
  ∀ (pins : List (Addr × Obj)) (s : Shared) (σ : St) (H : Hp) (D : Ends), Inv X pins σ H s → t D σ H → wpAny (model X.prog X.w) X.A (exec st X.env) (SP X pins D) X.xe s
def PSs (X : Cx) (st : List Stmt) (t : TS) : Prop :=
  ∀ (pins : List (Addr × Obj)) (s : Shared) (σ : St) (H : Hp) (D : Ends), Inv X pins σ H s → t D σ H → wpAny (model X.prog X.w) X.A (execs st X.env) (SP X pins D) X.xe s
/-- weaken the end -/
theorem thn {α : Type} {t : Sem α} {Q Q' : α → Shared → Prop} {M : Model} {A : Around} {E : Value → Shared → Prop} {s : Shared} (h : wpAny M A t Q E s) (hQ : ∀ a s, Q a s → Q' a s) : wpAny M A t Q' E s := wpAny_mono h hQ fun _ _ x => x
end L2

namespace L2
open PySem PySem.Spec PyProof.Rows
section
variable {X : Cx}

/-! ### names and constants -/
def tVar (i : Nat) : TE := fun σ H Q => ∃ v, σ[i]? = some (some v) ∧ Q v H
def tC (v : V) : TE := fun _ H Q => Q v H
theorem pe_var {i : Nat} {x : Str} {pos : Pos} (hN : X.N[i]? = some x) (hv : Vis X.env.scope x) (hd : (x == ("__debug__" : Str)) = false := by decide) (hcd : (x == ("__classdict__" : Str)) = false := by decide) : PE X (.Name x pos) (tVar i) := by
  intro pins s σ H Q I h
  obtain ⟨v, e, h⟩ := h
  obtain ⟨m, hn, hl⟩ := I.loc
  obtain ⟨u, r, l⟩ := hl i x v hN e hv
  have fin : EP X pins σ Q u s := ⟨v, H, I, r, h⟩
  rcases l with ⟨hk, hm⟩ | ⟨hk, c, hc, hcell⟩
  · exact wpAny_Name (wpAny_loadName_local I.ok.kind hk hn hm fin) hd
  · rcases hk with hk | hk
    · exact wpAny_Name (wpAny_loadName_cell I.ok.kind hk hc hcell fin) hd
    · exact wpAny_Name (wpAny_loadName_free I.ok.kind hk hc hcell fin hcd) hd
theorem pe_int {i j pos} : PE X (.Constant (.int i) j pos) (tC (.int i)) := fun _ _ _ H _ I h => wpAny_Constant_int ⟨.int i, H, I.tok _, ⟨_, rfl⟩, h⟩
theorem pe_bl {b j pos} : PE X (.Constant (.bool b) j pos) (tC (.bl b)) := fun _ _ _ H _ I h => Constant_bool ⟨.bl b, H, I, rfl, h⟩
theorem pe_non {j pos} : PE X (.Constant .none j pos) (tC .non) := fun _ _ _ H _ I h => Constant_none ⟨.non, H, I, rfl, h⟩
theorem pe_str {x j pos} : PE X (.Constant (.str x) j pos) (tC (.str x)) := fun _ _ _ H _ I h => Calls.Constant_str ⟨.str x, H, I.tok _, ⟨_, rfl⟩, h⟩

/-- a global name of the def -/
def Gl (X : Cx) (x : Str) : Prop := X.env.kindOf x = some .globalImplicit
theorem ld_glob {E : Value → Shared → Prop} {pins : List (Addr × Obj)} {s : Shared} {σ : St} {H : Hp} {x : Str} {u : Value} {pos : Pos} {Q : Value → Shared → Prop} (I : Inv X pins σ H s) (hg : Gl X x) (hm : X.mg x = some u) (h : Q u s)
    (hd : (x == ("__debug__" : Str)) = false := by decide) : wpAny (model X.prog X.w) X.A (eval (.Name x pos) X.env) Q E s :=
  Calls.Name_function_global I.ok.kind hg (Calls.loadGlobal_global (by rw [I.ok.glob]; exact I.mod.glob.keeps I.bk) hm h) hd
theorem ld_blt {E : Value → Shared → Prop} {pins : List (Addr × Obj)} {s : Shared} {σ : St} {H : Hp} {x : Str} {u : Value} {pos : Pos} {Q : Value → Shared → Prop} (I : Inv X pins σ H s) (hg : Gl X x) (hm : X.mg x = none) (hv : bootBuiltins x = some u) (h : Q u s)
    (hn : x ≠ "__name__" := by decide) (hd : (x == ("__debug__" : Str)) = false := by decide) : wpAny (model X.prog X.w) X.A (eval (.Name x pos) X.env) Q E s := by
  obtain ⟨mb, h1, h2⟩ := I.mod.blt
  exact Calls.Name_function_global I.ok.kind hg (Calls.loadGlobal_builtin (by rw [I.ok.glob]; exact I.mod.glob.keeps I.bk) hm (by rw [I.ok.blt]; exact h1.keeps I.bk) ((h2 x hn).trans hv) h) hd
/-- a module's constant, a class, a function, as a value -/
theorem pe_glob {x : Str} {v : V} {u : Value} {pos : Pos} (hg : Gl X x) (hm : X.mg x = some u) (r : RelV v u) (hd : (x == ("__debug__" : Str)) = false := by decide) : PE X (.Name x pos) (tC v) :=
  fun _ _ _ H _ I h => ld_glob I hg hm ⟨v, H, I, r, h⟩ hd
theorem pe_bltn {x : Str} {v : V} {u : Value} {pos : Pos} (hg : Gl X x) (hm : X.mg x = none) (hv : bootBuiltins x = some u) (r : RelV v u) (hn : x ≠ "__name__" := by decide) (hd : (x == ("__debug__" : Str)) = false := by decide) : PE X (.Name x pos) (tC v) :=
  fun _ _ _ H _ I h => ld_blt I hg hm hv ⟨v, H, I, r, h⟩ hn hd

/-! ### arithmetic -/
/-- two ints -/
def t2I (ta tb : TE) (k : Int → Int → Hp → Prop) : St → Hp → Prop := fun σ H => ta σ H fun x H1 => tb σ H1 fun y H2 => ∃ i j, x = .int i ∧ y = .int j ∧ k i j H2
def tAdd (ta tb : TE) : TE := fun σ H Q => t2I ta tb (fun i j H2 => Q (.int (i + j)) H2) σ H
def tSub (ta tb : TE) : TE := fun σ H Q => t2I ta tb (fun i j H2 => Q (.int (i - j)) H2) σ H
/-- the left factor below 2^64 -/
def tMul (ta tb : TE) : TE := fun σ H Q => t2I ta tb (fun i j H2 => (-(2 ^ 64) < i ∧ i < 2 ^ 64) ∧ Q (.int (i * j)) H2) σ H
variable {a b : Expr} {ta tb : TE} {pos : Pos}
/-! ### comparisons -/
def PC (X : Cx) (op : CmpOp) (a b : Expr) (t : TE) : Prop :=
  ∀ (pins : List (Addr × Obj)) (s : Shared) (σ : St) (H : Hp) (Q : VK), Inv X pins σ H s → t σ H Q →
    wpAny (model X.prog X.w) X.A (eval a X.env) (fun v s₁ => wpAny (model X.prog X.w) X.A (eval b X.env) (fun u s₂ => wpAny (model X.prog X.w) X.A (compareOp op v u) (EP X pins σ Q) X.xe s₂) X.xe s₁) X.xe s
def tCmp (p : Int → Int → Bool) (ta tb : TE) : TE := fun σ H Q => t2I ta tb (fun i j H2 => Q (.bl (p i j)) H2) σ H
abbrev tLt : TE → TE → TE := tCmp fun i j => decide (i < j)
abbrev tLe : TE → TE → TE := tCmp fun i j => decide (i ≤ j)
abbrev tGt : TE → TE → TE := tCmp fun i j => decide (j < i)
abbrev tGe : TE → TE → TE := tCmp fun i j => decide (j ≤ i)
abbrev tEqI : TE → TE → TE := tCmp fun i j => decide (i = j)
abbrev tNeI : TE → TE → TE := tCmp fun i j => !decide (i = j)
/-- is None -/
def tIsN (ta : TE) : TE := fun σ H Q => ta σ H fun x H1 => Q (.bl (decide (x = .non))) H1
def tNotN (ta : TE) : TE := fun σ H Q => ta σ H fun x H1 => Q (.bl (!decide (x = .non))) H1
/-- a comparison as a value, as a test -/
def tB (t : TE) : TT := fun σ H Q => t σ H fun x H1 => ∃ c, x = .bl c ∧ Q c H1
/-- an expression whose value is a bool, as a test -/
theorem pt_val {e : Expr} {t : TE} (h : PE X e t) (he : ∀ whole, isTrue e X.env whole = (do let v ← whole; standAt e.pos; holding [v] (truthy v)) := by intro _; rfl) : PT X e (tB t) := by
  intro pins s σ H Q I hw
  refine isTrue_plain (thn (h pins s σ H _ I hw) fun v s1 ⟨x, H1, I1, r1, q1⟩ => ?_) (he _)
  obtain ⟨d, rfl, q⟩ := q1
  cases r1
  exact wpAny_truthy_bool ⟨H1, I1, q⟩

/-! ### and, or, not -/
variable {tA tB' : TT} {rest : List Expr}
def tAnd (t u : TT) : TT := fun σ H Q => t σ H fun c H1 => if c = true then u σ H1 Q else Q false H1
def tOr (t u : TT) : TT := fun σ H Q => t σ H fun c H1 => if c = true then Q true H1 else u σ H1 Q
def tNot (t : TT) : TT := fun σ H Q => t σ H fun c H1 => Q (!c) H1
theorem pw_and1 (ha : PT X a tA) : PW X (.BoolOp .And [a] pos) tA := by
  intro wh pins s σ H Q I h
  refine isTrue_and (thn (ha pins s σ H Q I h) fun c s1 e => ?_)
  cases c with
  | true => exact isTrue_and_nil e
  | false => exact e
theorem pw_or1 (ha : PT X a tA) : PW X (.BoolOp .Or [a] pos) tA := by
  intro wh pins s σ H Q I h
  refine isTrue_or (thn (ha pins s σ H Q I h) fun c s1 e => ?_)
  cases c with
  | false => exact isTrue_or_nil e
  | true => exact e
theorem pw_and (ha : PT X a tA) (hb : PW X (.BoolOp .And (b :: rest) pos) tB') : PW X (.BoolOp .And (a :: b :: rest) pos) (tAnd tA tB') := by
  intro wh pins s σ H Q I h
  refine isTrue_and (thn (ha pins s σ H _ I h) fun c s1 ⟨H1, I1, q1⟩ => ?_)
  cases c with
  | true => exact hb wh pins s1 σ H1 Q I1 q1
  | false => exact ⟨H1, I1, q1⟩
theorem pw_or (ha : PT X a tA) (hb : PW X (.BoolOp .Or (b :: rest) pos) tB') : PW X (.BoolOp .Or (a :: b :: rest) pos) (tOr tA tB') := by
  intro wh pins s σ H Q I h
  refine isTrue_or (thn (ha pins s σ H _ I h) fun c s1 ⟨H1, I1, q1⟩ => ?_)
  cases c with
  | true => exact ⟨H1, I1, q1⟩
  | false => exact hb wh pins s1 σ H1 Q I1 q1
theorem pt_not (ha : PT X a tA) : PT X (.UnaryOp .Not a pos) (tNot tA) := by
  intro pins s σ H Q I h
  exact isTrue_not (ha pins s σ H (fun c H1 => Q (!c) H1) I h)
/-- .. as values (bools) -/
def tAndV (ta tb : TE) : TE := fun σ H Q => ta σ H fun x H1 => ∃ c, x = .bl c ∧ if c = true then tb σ H1 Q else Q (.bl false) H1
def tOrV (ta tb : TE) : TE := fun σ H Q => ta σ H fun x H1 => ∃ c, x = .bl c ∧ if c = true then Q (.bl true) H1 else tb σ H1 Q
def tNotV (ta : TE) : TE := fun σ H Q => ta σ H fun x H1 => ∃ c, x = .bl c ∧ Q (.bl (!c)) H1
theorem pe_one {op} {t : TE} (h : PE X a t) : PE X (.BoolOp op [a] pos) t := fun pins s σ H Q I hw => BoolOp_one (h pins s σ H Q I hw)
theorem pe_and (ha : PE X a ta) (hb : PE X (.BoolOp .And (b :: rest) pos) tb) : PE X (.BoolOp .And (a :: b :: rest) pos) (tAndV ta tb) := by
  intro pins s σ H Q I h
  refine BoolOp_and (thn (ha pins s σ H _ I h) fun v s1 ⟨x, H1, I1, r1, q1⟩ => ?_)
  obtain ⟨c, rfl, q1⟩ := q1
  cases r1
  refine wpAny_truthy_bool ?_
  cases c with
  | true => exact hb pins s1 σ H1 Q I1 q1
  | false => exact ⟨.bl false, H1, I1, rfl, q1⟩
theorem pe_or (ha : PE X a ta) (hb : PE X (.BoolOp .Or (b :: rest) pos) tb) : PE X (.BoolOp .Or (a :: b :: rest) pos) (tOrV ta tb) := by
  intro pins s σ H Q I h
  refine BoolOp_or (thn (ha pins s σ H _ I h) fun v s1 ⟨x, H1, I1, r1, q1⟩ => ?_)
  obtain ⟨c, rfl, q1⟩ := q1
  cases r1
  refine wpAny_truthy_bool ?_
  cases c with
  | false => exact hb pins s1 σ H1 Q I1 q1
  | true => exact ⟨.bl true, H1, I1, rfl, q1⟩
/-- a if t else b -/
def tIf (t : TT) (ta tb : TE) : TE := fun σ H Q => t σ H fun c H1 => if c = true then ta σ H1 Q else tb σ H1 Q
end
end L2

namespace L2
open PySem PySem.Spec PyProof.Rows

/-! ### a list, a tuple that is read: tracked, frozen, or an object of the module -/
def SqL (K : W.Frag) (H : Hp) (a : Addr) (xs : List V) : Prop :=
  Rd H a (.lst xs) ∨
    ∃ (o : Obj) (its : Array Value) (n : Nat), K.lookup a = some o ∧ o.cls = .type "list" ∧ o.dict = none ∧ o.data = .seq its n ∧ its.size ≤ sizeLine ∧ Vals xs its.toList
def SqT (K : W.Frag) (H : Hp) (a : Addr) (xs : List V) : Prop :=
  Rd H a (.tup xs) ∨
    ∃ (o : Obj) (its : Array Value) (n : Nat), K.lookup a = some o ∧ o.cls = .type "tuple" ∧ o.data = .seq its n ∧ its.size ≤ sizeLine ∧ Vals xs its.toList
def absV : Value → Option V
  | .none => some .non
  | .bool b => some (.bl b)
  | .int i _ => some (.int i)
  | .str x _ => some (.str x)
  | .bytes b _ => some (.byt b)
  | .float b _ => some (.flt b)
  | .ref a => some (.ref a)
  | .type n => some (.ty n)
  | _ => none
theorem RelV.abs {x : V} {u : Value} (r : RelV x u) : absV u = some x := by
  cases x with
  | non => cases r; rfl
  | bl _ => cases r; rfl
  | int _ => obtain ⟨t, rfl⟩ := r; rfl
  | str _ => obtain ⟨t, rfl⟩ := r; rfl
  | byt _ => obtain ⟨t, rfl⟩ := r; rfl
  | flt _ => obtain ⟨t, rfl⟩ := r; rfl
  | ref _ => cases r; rfl
  | ty _ => cases r; rfl
theorem RelV.inj {x y : V} {u : Value} (r : RelV x u) (q : RelV y u) : x = y := Option.some.inj (r.abs.symm.trans q.abs)
theorem Vals.inj : ∀ {xs ys : List V} {us : List Value}, Vals xs us → Vals ys us → xs = ys
  | _, _, _, .nil, .nil => rfl
  | _, _, _, .cons r t, .cons r' t' => by rw [r.inj r', Vals.inj t t']
section
variable {X : Cx} {pins : List (Addr × Obj)} {σ : St} {H : Hp} {s : Shared} {a : Addr} {xs ys : List V}
theorem SqL.of {K : W.Frag} (h : H a = some (.lst xs)) : SqL K H a xs := .inl (.inl h)
theorem SqT.of {K : W.Frag} (h : H a = some (.tup xs)) : SqT K H a xs := .inl (.inl h)
theorem Inv.list (I : Inv X pins σ H s) (h : SqL X.K H a xs) : ∃ its : List Value, Vals xs its ∧ PlainL s.heap a its.toArray ∧ xs.length ≤ sizeLine := by
  rcases h with h | ⟨o, its, n, hk, hc, hd, hs, hz, r⟩
  · obtain ⟨z, its, n, r, e⟩ := h.ok I.hok
    exact ⟨its, r, ⟨_, n, e, rfl, rfl, rfl⟩, z⟩
  · refine ⟨its.toList, r, ⟨o, n, I.kIn a o hk, hc, hd, by simpa using hs⟩, ?_⟩
    have e := r.length
    simp only [Array.length_toList] at e
    omega
theorem Inv.tuple (I : Inv X pins σ H s) (h : SqT X.K H a xs) : ∃ its : List Value, Vals xs its ∧ IsTup s.heap a its.toArray ∧ xs.length ≤ sizeLine := by
  rcases h with h | ⟨o, its, n, hk, hc, hs, hz, r⟩
  · obtain ⟨z, its, r, p⟩ := h.ok I.hok
    exact ⟨its, r, p, z⟩
  · refine ⟨its.toList, r, ⟨o, I.kIn a o hk, hc, n, by simpa using hs⟩, ?_⟩
    have e := r.length
    simp only [Array.length_toList] at e
    omega
theorem Inv.list_inj (I : Inv X pins σ H s) (h : SqL X.K H a xs) (h' : SqL X.K H a ys) : xs = ys := by
  obtain ⟨its, r, ⟨o, n, e, _, _, d⟩, _⟩ := I.list h
  obtain ⟨its', r', ⟨o', n', e', _, _, d'⟩, _⟩ := I.list h'
  rw [e] at e'; cases e'
  rw [d] at d'
  injection d' with d1 _
  have : its = its' := by simpa using congrArg Array.toList d1
  subst this
  exact r.inj r'
end

/-! ### another wish about exceptions -/
abbrev Cx.wish (X : Cx) (E : Value → Shared → Prop) : Cx := { X with xe := E }
/-- no exception leaves -/
abbrev Cx.nox (X : Cx) : Cx := X.wish fun _ _ => False
theorem Cx.Ok.wish {X : Cx} (ok : X.Ok) (E : Value → Shared → Prop) : (X.wish E).Ok :=
  ⟨ok.mod, ok.kind, ok.glob, ok.blt, ok.above, ok.inj, ok.has, ok.cab, ok.hd, ok.frames, ok.stk, ok.exf, ok.bs, ok.bsz, ok.noex, ok.exfs, ok.funs, ok.frf⟩
theorem Cx.Ok.unwish {X : Cx} {E : Value → Shared → Prop} (ok : (X.wish E).Ok) : X.Ok :=
  ⟨ok.mod, ok.kind, ok.glob, ok.blt, ok.above, ok.inj, ok.has, ok.cab, ok.hd, ok.frames, ok.stk, ok.exf, ok.bs, ok.bsz, ok.noex, ok.exfs, ok.funs, ok.frf⟩
section
variable {X : Cx} {pins : List (Addr × Obj)} {σ : St} {H : Hp} {s : Shared} {E : Value → Shared → Prop}
theorem Inv.wish (I : Inv X pins σ H s) (E : Value → Shared → Prop) : Inv (X.wish E) pins σ H s := ⟨I.ok.wish E, I.os, I.bare, I.base, I.loc, I.cell, I.free, I.freeC, I.pin, I.hok, I.len⟩
theorem Inv.unwish (I : Inv (X.wish E) pins σ H s) : Inv X pins σ H s := ⟨I.ok.unwish, I.os, I.bare, I.base, I.loc, I.cell, I.free, I.freeC, I.pin, I.hok, I.len⟩
theorem SP.unwish {D : Ends} {f : Flow} {s' : Shared} (h : SP (X.wish E) pins D f s') : SP X pins D f s' := by
  cases f with
  | next => obtain ⟨σ', H', I, q⟩ := h; exact ⟨σ', H', I.unwish, q⟩
  | brk => obtain ⟨σ', H', I, q⟩ := h; exact ⟨σ', H', I.unwish, q⟩
  | cont => obtain ⟨σ', H', I, q⟩ := h; exact ⟨σ', H', I.unwish, q⟩
  | ret u => obtain ⟨v, σ', H', I, r, q⟩ := h; exact ⟨v, σ', H', I.unwish, r, q⟩
theorem PSs.nox {st : List Stmt} {t : TS} (h : PSs X.nox st t) : PSs X st t := fun pins s σ H D I hw =>
  wpAny_mono (h pins s σ H D (I.wish _) hw) (fun _ _ q => q.unwish) fun _ _ z => False.elim z
end

/-! ### blocks and small statements -/
section
variable {X : Cx} {st : Stmt} {rest : List Stmt} {t u : TS} {e : Expr} {te : TE} {pos : Pos}
def tNext : TS := fun D σ H => D.nx σ H
def tSeq (t u : TS) : TS := fun D σ H => t { D with nx := u D } σ H
theorem pss_nil : PSs X [] tNext := fun _ _ σ H _ I h => wpAny_execs_nil ⟨σ, H, I, h⟩
theorem pss_cons (h1 : PS X st t) (h2 : PSs X rest u) : PSs X (st :: rest) (tSeq t u) := by
  intro pins s σ H D I h
  refine wpAny_execs_cons (thn (h1 pins s σ H { D with nx := u D } I h) fun f s1 q => ?_)
  cases f with
  | next =>
    obtain ⟨σ', H', I', q⟩ := q
    exact h2 pins s1 σ' H' D I' q
  | ret v => exact q
  | brk => exact q
  | cont => exact q
theorem pss_one (h1 : PS X st t) : PSs X [st] t := by
  intro pins s σ H D I h
  refine wpAny_execs_cons (thn (h1 pins s σ H D I h) fun f s1 q => ?_)
  cases f with
  | next => exact wpAny_execs_nil q
  | ret v => exact q
  | brk => exact q
  | cont => exact q
def tBreak : TS := fun D σ H => D.bk σ H
def tCont : TS := fun D σ H => D.ct σ H
/-- in a def's body nothing is shown -/
theorem Inv.quiet {pins : List (Addr × Obj)} {σ : St} {H : Hp} {s : Shared} (I : Inv X pins σ H s) : interactive X.env = false := by simp [interactive, I.ok.kind]
/-- an expression whose value is dropped -/
def tDrop (te : TE) : TS := fun D σ H => te σ H fun _ H1 => D.nx σ H1
theorem ps_expr (he : PE X e te) (hs : swapsWith e none pos.line X.env = pure false := by rfl) : PS X (.Expr e pos) (tDrop te) := by
  intro pins s σ H D I h
  exact wpAny_Expr_any (thn (he pins s σ H _ I h) fun v s1 ⟨x, H1, I1, r1, q1⟩ => ⟨σ, H1, I1, q1⟩) I.quiet hs
def tRet (te : TE) : TS := fun D σ H => te σ H D.rt
theorem ps_ret (he : PE X e te) : PS X (.Return (some e) pos) (tRet te) := by
  intro pins s σ H D I h
  exact wpAny_Return_some (thn (he pins s σ H _ I h) fun v s1 ⟨x, H1, I1, r1, q1⟩ => ⟨x, σ, H1, I1, r1, q1⟩)
def tRetN : TS := fun D _ H => D.rt .non H
def tIfS (c : TT) (t u : TS) : TS := fun D σ H => c σ H fun b H1 => if b = true then t D σ H1 else u D σ H1
theorem ps_if {c : Expr} {a b : List Stmt} {tc : TT} (hc : PT X c tc) (ha : PSs X a t) (hb : PSs X b u) : PS X (.If c a b pos) (tIfS tc t u) := by
  intro pins s σ H D I h
  refine wpAny_If (thn (hc pins s σ H _ I h) fun d s1 ⟨H1, I1, q1⟩ => ?_)
  cases d with
  | true => exact ha pins s1 σ H1 D I1 q1
  | false => exact hb pins s1 σ H1 D I1 q1
/-- code that the proof never comes to -/
def tNever : TS := fun _ _ _ => False
theorem pss_never {sts : List Stmt} : PSs X sts tNever := fun _ _ _ _ _ _ h => h.elim
end

/-! ### targets -/
abbrev TG := V → St → Hp → (St → Hp → Prop) → Prop
abbrev TGs := List V → St → Hp → (St → Hp → Prop) → Prop
def PG (X : Cx) (target : Expr) (t : TG) : Prop :=
  ∀ (pins : List (Addr × Obj)) (s : Shared) (σ : St) (H : Hp) (v : V) (u : Value) (Q : St → Hp → Prop), Inv X pins σ H s → RelV v u → t v σ H Q →
    wpAny (model X.prog X.w) X.A (assign target X.env u) (fun _ s' => ∃ σ' H', Inv X pins σ' H' s' ∧ Q σ' H') X.xe s
/-- several targets, one after another -/
def PGs (X : Cx) (ts : List Expr) (t : TGs) : Prop :=
  ∀ (pins : List (Addr × Obj)) (s : Shared) (σ : St) (H : Hp) (vs : List V) (us : List Value) (Q : St → Hp → Prop), Inv X pins σ H s → Vals vs us → t vs σ H Q →
    wpAny (model X.prog X.w) X.A (assignInOrder ((assignEach ts X.env).map (·.2)) us) (fun _ s' => ∃ σ' H', Inv X pins σ' H' s' ∧ Q σ' H') X.xe s
/-- o[i] = v, by values -/
abbrev TSet := V → V → V → Hp → (Hp → Prop) → Prop
def PSet (X : Cx) (t : TSet) : Prop :=
  ∀ (pins : List (Addr × Obj)) (s : Shared) (σ : St) (H : Hp) (o i v : V) (ov iv u : Value) (Q : Hp → Prop), Inv X pins σ H s → RelV o ov → RelV i iv → RelV v u → t o i v H Q →
    wpAny (model X.prog X.w) X.A (setItem ov iv u) (fun _ s' => ∃ H', Inv X pins σ H' s' ∧ Q H') X.xe s
/-- a op= b, by values -/
abbrev TIp := V → V → Hp → VK → Prop
def PIp (X : Cx) (op : Operator) (t : TIp) : Prop :=
  ∀ (pins : List (Addr × Obj)) (s : Shared) (σ : St) (H : Hp) (x y : V) (v u : Value) (Q : VK), Inv X pins σ H s → RelV x v → RelV y u → t x y H Q →
    wpAny (model X.prog X.w) X.A (inplaceOp op v u) (EP X pins σ Q) X.xe s
section
variable {X : Cx} {pos : Pos}
def gName (i : Nat) : TG := fun v σ H Q => Q (σ.set i (some v)) H
theorem pg_name {i : Nat} {x : Str} (hN : X.N.Nodup) (hi : X.N[i]? = some x) (hx : Loc X.env.scope x) (hf : X.fn x = true ∨ X.env.scope.names.lookup x = some .local := by first | exact .inl rfl | exact .inr rfl | assumption) : PG X (.Name x pos) (gName i) := by
  intro pins s σ H v u Q I r h
  exact wpAny_assign_Name (store_ok I hN hi hx r (fun s' I' => ⟨_, H, I', h⟩) hf)
def gNil : TGs := fun vs σ H Q => vs = [] ∧ Q σ H
def gCons (t : TG) (u : TGs) : TGs := fun vs σ H Q => ∃ v r, vs = v :: r ∧ t v σ H fun σ' H' => u r σ' H' Q
theorem pgs_nil : PGs X [] gNil := by
  intro pins s σ H vs us Q I r h
  obtain ⟨e, h⟩ := h
  subst e
  cases r
  exact assignInOrder_nil ⟨σ, H, I, h⟩
theorem pgs_cons {e : Expr} {es : List Expr} {t : TG} {u : TGs} (h1 : PG X e t) (h2 : PGs X es u)
    (hs : (assignEach (e :: es) X.env).map (·.2) = assign e X.env :: (assignEach es X.env).map (·.2) := by rfl) : PGs X (e :: es) (gCons t u) := by
  intro pins s σ H vs us Q I r h
  obtain ⟨v, vr, e1, h⟩ := h
  subst e1
  cases r with
  | cons r rr =>
    rw [hs]
    refine assignInOrder_cons (thn (h1 pins s σ H _ _ _ I r h) fun _ s1 ⟨σ1, H1, I1, q1⟩ => ?_)
    exact h2 pins s1 σ1 H1 _ _ Q I1 rr q1
/-- (a, b, ..) = a tuple of that length -/
def gTup (K : W.Frag) (n : Nat) (t : TGs) : TG := fun v σ H Q => ∃ a xs, v = .ref a ∧ SqT K H a xs ∧ xs.length = n ∧ t xs σ H Q
theorem pg_tup {es : List Expr} {k : Nat} {t : TGs} {n : Nat} (hc : X.calm = true) (h : PGs X es t)
    (hn : (assignEach es X.env).length = n := by rfl) (hst : (assignEach es X.env).findIdx? (·.1) = none := by rfl) : PG X (.Tuple es k pos) (gTup X.K n t) := by
  intro pins s σ H v u Q I r hw
  obtain ⟨a, xs, e1, hq, hl, hw⟩ := hw
  subst e1
  cases r
  obtain ⟨its, rv, ht, hz⟩ := I.tuple hq
  refine assign_Tuple_tuple (I.ok.hd hc) ht (by simp [hn, ← hl, rv.length]) hst fun h' hx => ?_
  have I1 : Inv X pins σ H { s with heap := h' } := I.kept (t' := s.toks) fun b o e => hx b o (Nat.ne_of_lt (Heap.lt_size e)) e
  exact h pins _ σ H xs _ Q I1 (by simpa using rv) hw
/-- o[i] = .. -/
def gSub (to ti : TE) (t : TSet) : TG := fun v σ H Q => to σ H fun o H1 => ti σ H1 fun i H2 => t o i v H2 fun H3 => Q σ H3
theorem pg_sub {o i : Expr} {to ti : TE} {t : TSet} (ho : PE X o to) (hi : PE X i ti) (hs : PSet X t)
    (ha : ∀ v, assign (.Subscript o i pos) X.env v = (do
      let ov ← holding [v] (eval o X.env)
      let iv ← holding [v, ov] (eval i X.env)
      standAt pos
      holding [v, ov, iv] (setItem ov iv v)
      release [v, ov, iv] []) := by intro _; rfl) : PG X (.Subscript o i pos) (gSub to ti t) := by
  intro pins s σ H v u Q I r h
  rw [ha]
  refine wpAny_bind (wpAny_holding (thn (ho pins s σ H _ I h) fun ov s1 ⟨x, H1, I1, r1, q1⟩ => ?_))
  refine wpAny_bind (wpAny_holding (thn (hi pins s1 σ H1 _ I1 q1) fun iv s2 ⟨y, H2, I2, r2, q2⟩ => ?_))
  refine wpAny_bind (wpAny_standAt (wpAny_bind (wpAny_holding (thn (hs pins s2 σ H2 x y v ov iv u _ I2 r1 r2 r q2) fun _ s3 ⟨H3, I3, q3⟩ => ?_))))
  exact wpAny_release ⟨σ, H3, I3, q3⟩
/-- target = value -/
def tAsg (te : TE) (g : TG) : TS := fun D σ H => te σ H fun x H1 => g x σ H1 D.nx
theorem ps_asg {tg e : Expr} {te : TE} {g : TG} (he : PE X e te) (hg : PG X tg g) (hs : swapsWithSole [tg] e pos.line X.env = pure false := by rfl) (hw : swappedStores [tg] e X.env = pure none := by rfl)
    (h1 : (assignEach [tg] X.env).map (·.2) = [assign tg X.env] := by rfl) : PS X (.Assign [tg] e pos) (tAsg te g) := by
  intro pins s σ H D I h
  refine wpAny_Assign_stores (thn (he pins s σ H _ I h) fun v s1 ⟨x, H1, I1, r1, q1⟩ => ?_) hs hw
  rw [h1]
  exact thn (hg pins s1 σ H1 x v _ I1 r1 q1) fun _ s2 q => q
/-- name = value -/
theorem ps_set {i : Nat} {x : Str} {e : Expr} {te : TE} {pos' : Pos} (hN : X.N.Nodup) (hi : X.N[i]? = some x) (hx : Loc X.env.scope x) (he : PE X e te) (hs : swapsWith e (some (.Name x pos')) pos.line X.env = pure false := by rfl) (hf : X.fn x = true ∨ X.env.scope.names.lookup x = some .local := by first | exact .inl rfl | exact .inr rfl | assumption) :
    PS X (.Assign [.Name x pos'] e pos) (tAsg te (gName i)) := by
  intro pins s σ H D I h
  refine wpAny_Assign_Name (thn (he pins s σ H _ I h) fun v s1 ⟨y, H1, I1, r1, q1⟩ => ?_) hs
  exact store_ok I1 hN hi hx r1 (fun s2 I2 => ⟨_, H1, I2, q1⟩) hf
/-- a, b = x, y with plain local names: stored from the right; the pair itself is not tracked (the opening rows as in PyProof/Rows/TupAssign.lean:23) -/
def tPar (i j : Nat) (ta : TA) : TS := fun D σ H => ta σ H fun vs H1 => ∃ v w, vs = [v, w] ∧ D.nx ((σ.set i (some v)).set j (some w)) H1
/-- name op= e -/
def tAug (i : Nat) (te : TE) (ti : TIp) : TS := fun D σ H => ∃ x, σ[i]? = some (some x) ∧ te σ H fun y H1 => ti x y H1 fun z H2 => D.nx (σ.set i (some z)) H2
/-- o[i] op= e -/
def tAugS (to ti te : TE) (tget : V → V → Hp → VK → Prop) (tip : TIp) (tset : TSet) : TS := fun D σ H => to σ H fun o H1 => ti σ H1 fun i H2 => tget o i H2 fun x H3 => te σ H3 fun y H4 => tip x y H4 fun z H5 => tset o i z H5 fun H6 => D.nx σ H6
/-- o[i], by values -/
def PGet (X : Cx) (t : V → V → Hp → VK → Prop) : Prop :=
  ∀ (pins : List (Addr × Obj)) (s : Shared) (σ : St) (H : Hp) (o i : V) (ov iv : Value) (Q : VK), Inv X pins σ H s → RelV o ov → RelV i iv → t o i H Q →
    wpAny (model X.prog X.w) X.A (getItem ov iv) (EP X pins σ Q) X.xe s
/-- ints -/
def ipI (f : Int → Int → Int) : TIp := fun x y H Q => ∃ i j, x = .int i ∧ y = .int j ∧ Q (.int (f i j)) H
end

/-! ### while -/
section
variable {X : Cx} {pos : Pos}
/-- the invariant W with its measure -/
def tWhile (c : TT) (tb : TS) : TS := fun D σ H => ∃ W : Nat → St → Hp → Prop, (∃ m, W m σ H) ∧ ∀ m σ H, W m σ H →
  c σ H fun b H1 => if b = true then ∃ N : St → Hp → Prop, (∀ σ' H', N σ' H' → ∃ m', m' < m ∧ W m' σ' H') ∧ tb { D with nx := N, ct := N, bk := D.nx } σ H1 else D.nx σ H1
theorem ps_while {c : Expr} {body : List Stmt} {tc : TT} {tb : TS} (hp : PassesOwn (model X.prog X.w) X.A X.env X.xe) (hc : PT X c tc) (hb : PSs X body tb) : PS X (.While c body [] pos) (tWhile tc tb) := by
  intro pins s σ H D I h
  obtain ⟨W, ⟨m0, w0⟩, turn⟩ := h
  refine wpAny_While (codeAny_whileLoop (fun n s' => ∃ σ' H', Inv X pins σ' H' s' ∧ W n σ' H') ?_ m0 ⟨σ, H, I, w0⟩)
  rintro n s1 ⟨σ1, H1, I1, w1⟩
  refine wpAny_passesOwn hp (thn (hc pins s1 σ1 H1 _ I1 (turn n σ1 H1 w1)) fun b s2 ⟨H2, I2, q2⟩ => ?_)
  cases b with
  | true =>
    obtain ⟨N, hN, q2⟩ := q2
    rw [if_pos rfl]
    refine wpAny_passesOwn hp (thn (hb pins s2 σ1 H2 _ I2 q2) fun f s3 q3 => ?_)
    cases f with
    | next =>
      obtain ⟨σ3, H3, I3, n3⟩ := q3
      obtain ⟨m', hm, w3⟩ := hN σ3 H3 n3
      exact ⟨m', hm, σ3, H3, I3, w3⟩
    | cont =>
      obtain ⟨σ3, H3, I3, n3⟩ := q3
      obtain ⟨m', hm, w3⟩ := hN σ3 H3 n3
      exact ⟨m', hm, σ3, H3, I3, w3⟩
    | brk => exact q3
    | ret v => exact q3
  | false =>
    rw [if_neg Bool.false_ne_true]
    exact wpAny_execs_nil ⟨σ1, H2, I2, q2⟩
end

/-! ### what a loop or a comprehension walks -/
/-- at turn i: it yields x (the heap may grow), or it stops -/
structure It where
  go : Nat → Hp → Prop
  yld : Nat → Hp → V → Hp → Prop
  stop : Nat → Hp → Prop
/-- the iterator's own objects may turn: they are not the frame's, not pinned, younger than the entry (or a comprehension's own) -/
def FpOk (X : Cx) (pins : List (Addr × Obj)) (H : Hp) (b : Addr) : Prop :=
  H b = none ∧ b ≠ X.env.locals ∧ b ∉ X.fs ∧ (b ∈ X.ex ∨ X.s₀.heap.objs.size ≤ b) ∧ (∀ x c, X.env.cells.lookup x = some c → c ≠ b) ∧ ∀ p ∈ X.pn ++ pins, p.1 ≠ b
theorem Inv.fpOk {X : Cx} {pins : List (Addr × Obj)} {σ : St} {H H' : Hp} {s : Shared} {b : Addr} (I : Inv X pins σ H s) (hb : s.heap.objs.size ≤ b) (hn : H' b = none) : FpOk X pins H' b := by
  refine ⟨hn, Nat.ne_of_gt (Nat.lt_of_lt_of_le I.lt hb), I.nofs hb, .inr (Nat.le_trans I.sz hb), fun x c e z => ?_, fun p hp z => ?_⟩
  · obtain ⟨v, q⟩ := I.cell x c e
    exact absurd (Nat.lt_of_lt_of_le q.lt (by rw [z]; exact hb)) (Nat.lt_irrefl _)
  · exact absurd (Nat.lt_of_lt_of_le (Heap.lt_size (I.pin p hp).1) (by rw [z]; exact hb)) (Nat.lt_irrefl _)
structure Turn (P : Program) (w : World) (K : W.Frag) (tg : Expr) (J : It) (fp : List Addr) (it : Addr) (tn : Nat → Heap → Prop) : Prop where
  mem : it ∈ fp
  obj : ∀ i h, tn i h → ∀ b ∈ fp, ∃ o, h.get? b = some o ∧ ∀ v, o.data ≠ .cell v
  keep : ∀ i h h', tn i h → (∀ b ∈ fp, ∀ o, h.get? b = some o → h'.get? b = some o) → tn i h'
  item : ∀ (X : Cx), X.prog = P → X.w = w → X.K = K → X.calm = true → ∀ (i : Nat) (pins : List (Addr × Obj)) (s : Shared) (σ : St) (H : Hp) (E : Value → Shared → Prop), Inv X pins σ H s → (∀ b ∈ fp, FpOk X pins H b) → tn i s.heap → J.go i H →
    wpAny (model P w) X.A (pyNext (.ref it)) (fun r s1 => ∃ u, r = some u ∧
      wpAny (model P w) X.A (letOwnedTupleGo tg (.ref it) u) (fun _ s2 => ∃ x H', Inv X pins σ H' s2 ∧ RelV x u ∧ J.yld i H x H' ∧ tn (i + 1) s2.heap ∧ ∀ b ∈ fp, H' b = none) E s1) E s
  done : ∀ (X : Cx), X.prog = P → X.w = w → X.K = K → X.calm = true → ∀ (i : Nat) (pins : List (Addr × Obj)) (s : Shared) (σ : St) (H : Hp) (E : Value → Shared → Prop), Inv X pins σ H s → (∀ b ∈ fp, FpOk X pins H b) → tn i s.heap → J.stop i H →
    wpAny (model P w) X.A (pyNext (.ref it)) (fun r s1 => r = none ∧ Inv X pins σ H s1) E s
  self : ∀ (A : Around) (i : Nat) (s : Shared) (Q : Value → Shared → Prop) (E : Value → Shared → Prop), tn i s.heap → Q (.ref it) s → wpAny (model P w) A (pyIter (.ref it)) Q E s
abbrev TI := St → Hp → (It → Hp → Prop) → Prop
/-- an iterator has come -/
def PIE (X : Cx) (pins : List (Addr × Obj)) (σ : St) (tg : Expr) (R : It → Hp → Prop) (itv : Value) (s2 : Shared) : Prop :=
  ∃ (it : Addr) (fp : List Addr) (tn : Nat → Heap → Prop) (J : It) (H' : Hp), itv = .ref it ∧ Inv X pins σ H' s2 ∧ Turn X.prog X.w X.K tg J fp it tn ∧ tn 0 s2.heap ∧ (∀ b ∈ fp, FpOk X pins H' b) ∧ R J H'
def PI (X : Cx) (tg iter : Expr) (wi : TI) : Prop :=
  ∀ (pins : List (Addr × Obj)) (s : Shared) (σ : St) (H : Hp) (R : It → Hp → Prop), Inv X pins σ H s → wi σ H R →
    wpAny (model X.prog X.w) X.A (eval iter X.env) (fun v s1 => wpAny (model X.prog X.w) X.A (pyIter v) (PIE X pins σ tg R) X.xe s1) X.xe s

/-- the step ahead of the store is nothing for an iterator that keeps no tuple -/
theorem go_of {M : Model} {A : Around} {E : Value → Shared → Prop} {s : Shared} {tg : Expr} {it : Addr} {u : Value} {o : Obj} {n : String} {vs : Array Value} {Q : Unit → Shared → Prop} (ho : s.heap.get? it = some o) (hc : o.cls = .type n) (hd : o.data = .fields vs)
    (hn : ["enumerate", "zip", "dict_itemiterator", "dict_reverseitemiterator", "odict_iterator", "itertools.zip_longest", "itertools.pairwise"].contains n = false) (hQ : Q () s) : wpAny M A (letOwnedTupleGo tg (.ref it) u) Q E s := by
  unfold letOwnedTupleGo
  cases tg <;> first
    | exact wpAny_pure hQ
    | (cases u <;> first
        | exact wpAny_pure hQ
        | (refine wpAny_bind (wpAny_load ho ?_)
           rw [hc, hd]
           show wpAny M A (if (["enumerate", "zip", "dict_itemiterator", "dict_reverseitemiterator", "odict_iterator", "itertools.zip_longest", "itertools.pairwise"].contains n && vs[0]? == some (rawInt _)) = true then _ else _) Q E s
           rw [if_neg (by intro h; rw [hn, Bool.false_and] at h; cases h)]
           exact wpAny_pure hQ))

/-- the list at a, as it stands at each turn (a loop may append to it) -/
def Itl (K : W.Frag) (a : Addr) : It :=
  ⟨fun i H => ∃ xs x, SqL K H a xs ∧ xs[i]? = some x, fun i H x H' => H' = H ∧ ∀ xs, SqL K H a xs → xs[i]? = some x, fun i H => ∃ xs, SqL K H a xs ∧ xs.length ≤ i⟩
def Itt (K : W.Frag) (a : Addr) : It :=
  ⟨fun i H => ∃ xs x, SqT K H a xs ∧ xs[i]? = some x, fun i H x H' => H' = H ∧ ∀ xs, SqT K H a xs → xs[i]? = some x, fun i H => ∃ xs, SqT K H a xs ∧ xs.length ≤ i⟩
/-- lo, lo + 1, .. (n of them) -/
def Itr (lo : Int) (n : Nat) : It := ⟨fun i _ => i < n, fun i H x H' => H' = H ∧ x = .int (lo + i), fun i _ => n ≤ i⟩
theorem turn_list {P : Program} {w : World} {K : W.Frag} {tg : Expr} (a it : Addr) : Turn P w K tg (Itl K a) [it] it (fun i h => h.IsListIter it a i) where
  mem := by simp
  obj := fun i h st b hb => by
    have e : b = it := by simpa using hb
    subst e
    obtain ⟨o, e, c, d⟩ := st
    exact ⟨o, e, fun v z => by rw [d] at z; cases z⟩
  keep := fun i h h' st k => st.at fun o e => k it (by simp) o e
  item := by
    intro X hP hw hK hc i pins s σ H E I hf st hg
    subst hP hw hK
    obtain ⟨xs, x, hq, hx⟩ := hg
    obtain ⟨its, rv, p, hz⟩ := I.list hq
    obtain ⟨u, hu, ru⟩ := rv.get hx
    obtain ⟨f0, f1, f2, f3, f4, f5⟩ := hf it (by simp)
    refine wpAny_pyNext_list_item st p.isList (x := u) (by simpa using hu) fun h' st' sb => ?_
    have I1 : Inv X pins σ H { s with heap := h' } := I.turned (t' := s.toks) (fun b o hb e => (sb.2 b hb).trans e) f0 f1 f3 f4 f5
    obtain ⟨o, e, c, d⟩ := id st'
    exact ⟨u, rfl, go_of (s := { s with heap := h' }) e c d (by decide) ⟨x, H, I1, ru, ⟨rfl, fun ys hy => by rw [I.list_inj hy hq]; exact hx⟩, st', fun b hb => (hf b hb).1⟩⟩
  done := by
    intro X hP hw hK hc i pins s σ H E I hf st hg
    subst hP hw hK
    obtain ⟨xs, hq, hx⟩ := hg
    obtain ⟨its, rv, p, hz⟩ := I.list hq
    obtain ⟨f0, f1, f2, f3, f4, f5⟩ := hf it (by simp)
    have hl := rv.length
    exact wpAny_pyNext_list_end (I.ok.hd hc) st p.isList (by simp; omega) fun h' eb => ⟨rfl, I.turned (t' := s.toks) (fun b o hb e => eb b o hb e) f0 f1 f3 f4 f5⟩
  self := fun _ _ _ _ _ st h => wpAny_pyIter_listiter st h
theorem turn_range {P : Program} {w : World} {K : W.Frag} {tg : Expr} (it : Addr) (lo : Int) (n : Nat) : Turn P w K tg (Itr lo n) [it] it (fun i h => IsRangeIter h it (lo + (i : Nat) * 1) ((n : Int) - (i : Nat)) 1) where
  mem := by simp
  obj := fun i h st b hb => by
    have e : b = it := by simpa using hb
    subst e
    exact ⟨_, st, fun v z => by
      have z' : Data.fields _ = Data.cell v := z
      cases z'⟩
  keep := fun i h h' st k => k it (by simp) _ st
  item := by
    intro X hP hw hK hc i pins s σ H E I hf st hg
    subst hP hw hK
    obtain ⟨f0, f1, f2, f3, f4, f5⟩ := hf it (by simp)
    have W := Walks.range (prog := X.prog) (w := X.w) (I.ok.hd hc) it lo 1 n
    refine W.item i s _ _ hg st fun v h' tk hv st' kk => ?_
    obtain ⟨t, rfl⟩ := hv
    have I1 : Inv X pins σ H { s with heap := h', toks := tk } := I.turned (fun b o hb e => kk b o (by simpa using hb) e) f0 f1 f3 f4 f5
    refine ⟨_, rfl, go_of (s := { s with heap := h', toks := tk }) (n := "range_iterator") st' rfl rfl (by decide) ⟨.int (lo + i), H, I1, ⟨t, ?_⟩, ⟨rfl, rfl⟩, st', fun b hb => (hf b hb).1⟩⟩
    rw [Int.mul_one]
  done := by
    intro X hP hw hK hc i pins s σ H E I hf st hg
    subst hP hw hK
    obtain ⟨f0, f1, f2, f3, f4, f5⟩ := hf it (by simp)
    exact wpAny_pyNext_range_end (I.ok.hd hc) st (by have : n ≤ i := hg; omega) fun h' eb => ⟨rfl, I.turned (t' := s.toks) (fun b o hb e => eb b o hb e) f0 f1 f3 f4 f5⟩
  self := fun _ _ _ _ _ st h => wpAny_pyIter_rangeiter st h
end L2

namespace L2
open PySem PySem.Spec PyProof.Rows
section
variable {X : Cx} {tg : Expr}
def iList (K : W.Frag) (tl : TE) : TI := fun σ H R => tl σ H fun x H1 => ∃ a, x = .ref a ∧ (∃ xs, SqL K H1 a xs) ∧ R (Itl K a) H1
def iTup (K : W.Frag) (tl : TE) : TI := fun σ H R => tl σ H fun x H1 => ∃ a, x = .ref a ∧ (∃ xs, SqT K H1 a xs) ∧ R (Itt K a) H1
theorem pi_list {l : Expr} {tl : TE} (hl : PE X l tl) : PI X tg l (iList X.K tl) := by
  intro pins s σ H R I h
  refine thn (hl pins s σ H _ I h) fun v s1 ⟨x, H1, I1, r1, q1⟩ => ?_
  obtain ⟨a, e, ⟨xs, hq⟩, q⟩ := q1
  subst e
  cases r1
  obtain ⟨its, rv, p, hz⟩ := I1.list hq
  refine wpAny_pyIter_list p.isList ?_
  refine ⟨s1.heap.objs.size, [s1.heap.objs.size], _, _, H1, rfl, I1.kept (t' := s1.toks) fun b o e => Heap.get?_push_of_some _ e, turn_list a _, ⟨_, Heap.get?_push_size _ rfl, rfl, rfl⟩, fun b hb => ?_, q⟩
  have e : b = s1.heap.objs.size := by simpa using hb
  subst e
  exact I1.fpOk (Nat.le_refl _) (I1.hok.fresh (Nat.le_refl _))
/-- a range object just made, walked -/
theorem range_it {pins : List (Addr × Obj)} {σ : St} {H : Hp} {s : Shared} {R : It → Hp → Prop} {E : Value → Shared → Prop} {lo hi : Int} {t u v : Tok} {tk : Nat} (I : Inv X pins σ H s) (h1 : -(2 ^ 62) ≤ lo) (h2 : lo < 2 ^ 62) (h3 : -(2 ^ 62) ≤ hi) (h4 : hi < 2 ^ 62)
    (q : R (Itr lo (hi - lo).toNat) H) : wpAny (model X.prog X.w) X.A (pyIter (.ref s.heap.objs.size)) (PIE X pins σ tg R) E { s with heap := s.heap.push { cls := .type "range", data := .fields #[.int lo t, .int hi u, .int 1 v] }, toks := tk } := by
  refine wpAny_pyIter_range (IsRange.new ..) (small_one h1 h2 h3 h4) ?_
  have I1 : Inv X pins σ H { s with heap := s.heap.push { cls := .type "range", data := .fields #[.int lo t, .int hi u, .int 1 v] }, toks := tk } := I.kept fun b o e => Heap.get?_push_of_some _ e
  refine ⟨(s.heap.push { cls := .type "range", data := .fields #[.int lo t, .int hi u, .int 1 v] }).objs.size, [(s.heap.push { cls := .type "range", data := .fields #[.int lo t, .int hi u, .int 1 v] }).objs.size], _, _, H, rfl,
    I1.kept (t' := tk) fun b o e => Heap.get?_push_of_some _ e, turn_range _ lo (hi - lo).toNat, ?_, fun b hb => ?_, q⟩
  · have e1 : lo + ((0 : Nat) : Int) * 1 = lo := by simp
    have e2 : (((hi - lo).toNat : Nat) : Int) - ((0 : Nat) : Int) = Builtin.Range.rangeSize lo hi 1 := by rw [rangeSize_one]; split <;> omega
    show IsRangeIter _ _ (lo + ((0 : Nat) : Int) * 1) ((((hi - lo).toNat : Nat) : Int) - ((0 : Nat) : Int)) 1
    rw [e1, e2]
    exact Heap.get?_push_size _ rfl
  · have e : b = (s.heap.push { cls := .type "range", data := .fields #[.int lo t, .int hi u, .int 1 v] }).objs.size := by simpa using hb
    subst e
    exact I1.fpOk (Nat.le_refl _) (I1.hok.fresh (Nat.le_refl _))
def iRng1 (ta : TA) : TI := fun σ H R => ta σ H fun vs H1 => ∃ j : Int, vs = [.int j] ∧ -(2 ^ 62) ≤ j ∧ j < 2 ^ 62 ∧ R (Itr 0 j.toNat) H1
def iRng2 (ta : TA) : TI := fun σ H R => ta σ H fun vs H1 => ∃ i j : Int, vs = [.int i, .int j] ∧ (-(2 ^ 62) ≤ i ∧ i < 2 ^ 62 ∧ -(2 ^ 62) ≤ j ∧ j < 2 ^ 62) ∧ R (Itr i (j - i).toNat) H1
theorem pi_range1 {a : Expr} {ta : TA} {p pos : Pos} (hg : Gl X "range") (hm : X.mg "range" = none) (ha : PA X [a] ta) (hs : starEach [a] X.env = [(false, eval a X.env)] := by rfl) : PI X tg (.Call (.Name "range" p) [a] [] pos) (iRng1 ta) := by
  intro pins s σ H R I h
  refine Call_ (ld_blt I hg hm boot_range (PyProof.Rows.callWith_type1 (thn (ha pos pins s σ H _ I h) fun us s1 ⟨vs, H1, I1, r1, q1⟩ => ?_) hs rfl))
  obtain ⟨j, e, q1, q2, q⟩ := q1
  subst e
  cases r1 with
  | cons r rr =>
    cases rr
    obtain ⟨t, rfl⟩ := r
    exact call_range_1 (range_it I1 (by omega) (by omega) q1 q2 (by simpa using q))
theorem pi_range2 {a b : Expr} {ta : TA} {p pos : Pos} (hg : Gl X "range") (hm : X.mg "range" = none) (ha : PA X [a, b] ta) (hs : starEach [a, b] X.env = [(false, eval a X.env), (false, eval b X.env)] := by rfl) (hs2 : starEach [b] X.env = [(false, eval b X.env)] := by rfl) :
    PI X tg (.Call (.Name "range" p) [a, b] [] pos) (iRng2 ta) := by
  intro pins s σ H R I h
  refine Call_ (ld_blt I hg hm boot_range (PyProof.Rows.callWith_type1 (thn (ha pos pins s σ H _ I h) fun us s1 ⟨vs, H1, I1, r1, q1⟩ => ?_) (by rw [hs, hs2]) (by rw [hs2]; rfl)))
  obtain ⟨i, j, e, ⟨q1, q2, q3, q4⟩, q⟩ := q1
  subst e
  cases r1 with
  | cons r rr =>
    cases rr with
    | cons r' rr =>
      cases rr
      obtain ⟨t, rfl⟩ := r
      obtain ⟨t', rfl⟩ := r'
      exact call_range_2 (range_it I1 q1 q2 q3 q4 q)

/-! ### for -/
/-- W: the invariant by the turn and a measure; N: what the body is to reach -/
def tFor (wi : TI) (g : TG) (tb : TS) : TS := fun D σ H => wi σ H fun J H1 => ∃ W : Nat → Nat → St → Hp → Prop, (∃ m, W 0 m σ H1) ∧ ∀ i m σ H, W i m σ H →
  (J.stop i H ∧ D.nx σ H) ∨ (J.go i H ∧ ∃ N : St → Hp → Prop, (∀ σ' H', N σ' H' → ∃ m', m' < m ∧ W (i + 1) m' σ' H') ∧ ∀ x H', J.yld i H x H' → g x σ H' fun σ2 H2 => tb { D with nx := N, ct := N, bk := D.nx } σ2 H2)
/-- the records at fp as they stand -/
def pinsAt (fp : List Addr) (h : Heap) : List (Addr × Obj) := fp.filterMap fun b => (h.get? b).map fun o => (b, o)
theorem mem_pinsAt {fp : List Addr} {h : Heap} {b : Addr} {o : Obj} (hb : b ∈ fp) (e : h.get? b = some o) : (b, o) ∈ pinsAt fp h := List.mem_filterMap.mpr ⟨b, hb, by rw [e]; rfl⟩
theorem of_pinsAt {fp : List Addr} {h : Heap} {p : Addr × Obj} (hp : p ∈ pinsAt fp h) : p.1 ∈ fp ∧ h.get? p.1 = some p.2 := by
  obtain ⟨b, hb, e⟩ := List.mem_filterMap.mp hp
  cases q : h.get? b with
  | none => rw [q] at e; cases e
  | some o =>
    rw [q] at e
    have e' : (b, o) = p := Option.some.inj e
    subst e'
    exact ⟨hb, q⟩
theorem Inv.pinned {pins : List (Addr × Obj)} {σ : St} {H : Hp} {s : Shared} {fp : List Addr} (I : Inv X pins σ H s) (hf : ∀ b ∈ fp, FpOk X pins H b) (ho : ∀ b ∈ fp, ∃ o, s.heap.get? b = some o ∧ ∀ v, o.data ≠ .cell v) : Inv X (pins ++ pinsAt fp s.heap) σ H s :=
  I.pins_of fun p hp => (List.mem_append.mp hp).elim (fun z => I.pin p (List.mem_append_right _ z)) fun z => by
    obtain ⟨hb, e⟩ := of_pinsAt z
    obtain ⟨f0, f1, f2, _⟩ := hf p.1 hb
    obtain ⟨o, e', d⟩ := ho p.1 hb
    rw [e] at e'; cases e'
    exact ⟨e, f0, f1, f2, d⟩
theorem Inv.unpinned {pins pl : List (Addr × Obj)} {σ : St} {H : Hp} {s : Shared} (I : Inv X (pins ++ pl) σ H s) : Inv X pins σ H s := I.pins_of fun p hp => I.pin p (List.mem_append_right _ (List.mem_append_left _ hp))
theorem ps_for {iter : Expr} {body : List Stmt} {wi : TI} {g : TG} {tb : TS} {pos : Pos} (hp : PassesOwn (model X.prog X.w) X.A X.env X.xe) (hc : X.calm = true) (hi : PI X tg iter wi) (hg : PG X tg g) (hb : PSs X body tb)
    (hs : ∀ x, foldedSetIterable iter X.env x = pure x := by intro _; rfl) : PS X (.For tg iter body [] pos) (tFor wi g tb) := by
  intro pins s σ H D I h
  refine wpAny_For (thn (hi pins s σ H _ I h) fun v s1 h1 => thn h1 fun itv s2 h2 => ?_) hs
  obtain ⟨it, fp, tn, J, H2, e, I2, T, st2, f2, W, ⟨m0, w0⟩, turn⟩ := h2
  subst e
  -- what stays true of the iterator's objects through the loop
  have stat : ∀ {H' : Hp}, (∀ b ∈ fp, H' b = none) → ∀ b ∈ fp, FpOk X pins H' b := fun hn b hb => ⟨hn b hb, (f2 b hb).2⟩
  refine codeAny_forLoop_any (fun n s' => ∃ i σ' H', Inv X pins σ' H' s' ∧ tn i s'.heap ∧ (∀ b ∈ fp, H' b = none) ∧ W i n σ' H') ?_ m0 ⟨0, σ, H2, I2, st2, fun b hb => (f2 b hb).1, w0⟩
  rintro n s3 ⟨i, σ3, H3, I3, st3, fr3, w3⟩
  rcases turn i n σ3 H3 w3 with ⟨stop, qn⟩ | ⟨go, N, hN, step⟩
  · refine wpAny_passesOwn hp (thn (T.done X rfl rfl rfl hc i pins s3 σ3 H3 X.xe I3 (stat fr3) st3 stop) fun r s4 ⟨hr, I4⟩ => ?_)
    subst hr
    exact wpAny_execs_nil ⟨σ3, H3, I4, qn⟩
  · refine wpAny_passesOwn hp (thn (T.item X rfl rfl rfl hc i pins s3 σ3 H3 X.xe I3 (stat fr3) st3 go) fun r s4 ⟨u, hr, h4⟩ => ?_)
    subst hr
    refine wpAny_passesOwn hp (thn h4 fun _ s5 ⟨x, H5, I5, r5, y5, st5, fr5⟩ => ?_)
    have I5' := I5.pinned (stat fr5) (T.obj _ _ st5)
    refine wpAny_passesOwn hp (thn (hg _ s5 σ3 H5 x u _ I5' r5 (step x H5 y5)) fun _ s6 ⟨σ6, H6, I6, q6⟩ => ?_)
    refine wpAny_passesOwn hp (thn (hb _ s6 σ6 H6 _ I6 q6) fun f s7 q7 => ?_)
    have again : ∀ {σ7 : St} {H7 : Hp}, Inv X (pins ++ pinsAt fp s5.heap) σ7 H7 s7 → N σ7 H7 → ∃ m, m < n ∧ ∃ i σ' H', Inv X pins σ' H' s7 ∧ tn i s7.heap ∧ (∀ b ∈ fp, H' b = none) ∧ W i m σ' H' := fun {σ7 H7} I7 n7 => by
      obtain ⟨m', hm, w7⟩ := hN σ7 H7 n7
      refine ⟨m', hm, i + 1, σ7, H7, I7.unpinned, T.keep _ _ _ st5 fun b hb o e => (I7.pin (b, o) (List.mem_append_right _ (List.mem_append_right _ (mem_pinsAt hb e)))).1, fun b hb => ?_, w7⟩
      obtain ⟨o, e, d⟩ := T.obj _ _ st5 b hb
      exact (I7.pin (b, o) (List.mem_append_right _ (List.mem_append_right _ (mem_pinsAt hb e)))).2.1
    cases f with
    | next => obtain ⟨σ7, H7, I7, n7⟩ := q7; exact again I7 n7
    | cont => obtain ⟨σ7, H7, I7, n7⟩ := q7; exact again I7 n7
    | brk => obtain ⟨σ7, H7, I7, q7⟩ := q7; exact ⟨σ7, H7, I7.unpinned, q7⟩
    | ret v => obtain ⟨x7, σ7, H7, I7, r7, q7⟩ := q7; exact ⟨x7, σ7, H7, I7.unpinned, r7, q7⟩
end

/-! ### the forms one uses -/
end L2

namespace L2
open PySem PySem.Spec PyProof.Rows

abbrev R2 := V → V → Hp → VK → Prop
/-- a two-place operation on values: f is binaryOp op, inplaceOp op or compareOp op -/
def OpR (X : Cx) (f : Value → Value → Sem Value) (r : R2) : Prop :=
  ∀ (pins : List (Addr × Obj)) (s : Shared) (σ : St) (H : Hp) (x y : V) (v u : Value) (Q : VK), Inv X pins σ H s → RelV x v → RelV y u → r x y H Q →
    wpAny (model X.prog X.w) X.A (f v u) (EP X pins σ Q) X.xe s
/-- a one-place operation -/
def UnR (X : Cx) (f : Value → Sem Value) (r : V → Hp → VK → Prop) : Prop :=
  ∀ (pins : List (Addr × Obj)) (s : Shared) (σ : St) (H : Hp) (x : V) (v : Value) (Q : VK), Inv X pins σ H s → RelV x v → r x H Q →
    wpAny (model X.prog X.w) X.A (f v) (EP X pins σ Q) X.xe s
/-- a call of a value that is known (a builtin, a type) with values -/
def CallR (X : Cx) (f : Value) (r : List V → Hp → VK → Prop) : Prop :=
  ∀ (pins : List (Addr × Obj)) (s : Shared) (σ : St) (H : Hp) (xs : List V) (us : List Value) (Q : VK), Inv X pins σ H s → Vals xs us → r xs H Q →
    wpAny (model X.prog X.w) X.A (call f us) (EP X pins σ Q) X.xe s
/-- a value's truth -/
def TruR (X : Cx) (r : V → Hp → (Bool → Hp → Prop) → Prop) : Prop :=
  ∀ (pins : List (Addr × Obj)) (s : Shared) (σ : St) (H : Hp) (x : V) (v : Value) (Q : Bool → Hp → Prop), Inv X pins σ H s → RelV x v → r x H Q →
    wpAny (model X.prog X.w) X.A (truthy v) (TP X pins σ Q) X.xe s

def tOp (r : R2) (ta tb : TE) : TE := fun σ H Q => ta σ H fun x H1 => tb σ H1 fun y H2 => r x y H2 Q
def tUn (r : V → Hp → VK → Prop) (ta : TE) : TE := fun σ H Q => ta σ H fun x H1 => r x H1 Q
/-- ints in, under C, and a value out -/
def rI (C : Int → Int → Prop) (g : Int → Int → V) : R2 := fun x y H Q => ∃ i j, x = .int i ∧ y = .int j ∧ C i j ∧ Q (g i j) H
def rI0 (g : Int → Int → V) : R2 := fun x y H Q => ∃ i j, x = .int i ∧ y = .int j ∧ Q (g i j) H
def rU (g : Int → V) : V → Hp → VK → Prop := fun x H Q => ∃ i, x = .int i ∧ Q (g i) H

section
variable {X : Cx} {a b c : Expr} {ta tb tc : TE} {pos : Pos}

theorem binT (ha : PE X a ta) (hb : PE X b tb) {pins : List (Addr × Obj)} {s : Shared} {σ : St} {H : Hp} {R : V → V → Hp → Prop} (I : Inv X pins σ H s)
    (h : ta σ H fun x H1 => tb σ H1 fun y H2 => R x y H2) {Q : Value → Shared → Prop} {f : Value → Value → Sem Value}
    (hf : ∀ v u s2 x y H2, Inv X pins σ H2 s2 → RelV x v → RelV y u → R x y H2 → wpAny (model X.prog X.w) X.A (f v u) Q X.xe s2) :
    wpAny (model X.prog X.w) X.A (eval a X.env) (fun v s₁ => wpAny (model X.prog X.w) X.A (eval b X.env) (fun u s₂ => wpAny (model X.prog X.w) X.A (f v u) Q X.xe s₂) X.xe s₁) X.xe s := by
  refine thn (ha pins s σ H _ I h) fun v s1 ⟨x, H1, I1, r1, q1⟩ => ?_
  refine thn (hb pins s1 σ H1 _ I1 q1) fun u s2 ⟨y, H2, I2, r2, q2⟩ => ?_
  exact hf v u s2 x y H2 I2 r1 r2 q2

theorem pe_op {op : Operator} {r : R2} (ho : OpR X (binaryOp op) r) (ha : PE X a ta) (hb : PE X b tb) : PE X (.BinOp a op b pos) (tOp r ta tb) := by
  intro pins s σ H Q I h
  exact wpAny_BinOp (binT ha hb I h fun v u s2 x y H2 I2 rx ry q => ho pins s2 σ H2 x y v u Q I2 rx ry q)
theorem pe_un {op : UnaryOp} {r : V → Hp → VK → Prop} (ho : UnR X (unaryOp op) r) (ha : PE X a ta) : PE X (.UnaryOp op a pos) (tUn r ta) := by
  intro pins s σ H Q I h
  exact UnaryOp_ (thn (ha pins s σ H _ I h) fun v s1 ⟨x, H1, I1, r1, q1⟩ => ho pins s1 σ H1 x v Q I1 r1 q1)
/-! ### ints -/
theorem opI {f : Value → Value → Sem Value} {C : Int → Int → Prop} {g : Int → Int → Int}
    (rule : ∀ (i j : Int) (t u : Tok) (s : Shared) (Q : Value → Shared → Prop) (E : Value → Shared → Prop), C i j → Q (.int (g i j) s.toks) { s with toks := s.toks + 1 } → wpAny (model X.prog X.w) X.A (f (.int i t) (.int j u)) Q E s) :
    OpR X f (rI C fun i j => .int (g i j)) := by
  intro pins s σ H x y v u Q I rx ry h
  obtain ⟨i, j, rfl, rfl, hc, q⟩ := h
  obtain ⟨t, rfl⟩ := rx
  obtain ⟨t', rfl⟩ := ry
  exact rule i j t t' s _ _ hc ⟨.int (g i j), H, I.tok _, ⟨_, rfl⟩, q⟩
theorem opI0 {f : Value → Value → Sem Value} {g : Int → Int → Int}
    (rule : ∀ (i j : Int) (t u : Tok) (s : Shared) (Q : Value → Shared → Prop) (E : Value → Shared → Prop), Q (.int (g i j) s.toks) { s with toks := s.toks + 1 } → wpAny (model X.prog X.w) X.A (f (.int i t) (.int j u)) Q E s) :
    OpR X f (rI0 fun i j => .int (g i j)) := by
  intro pins s σ H x y v u Q I rx ry h
  obtain ⟨i, j, rfl, rfl, q⟩ := h
  obtain ⟨t, rfl⟩ := rx
  obtain ⟨t', rfl⟩ := ry
  exact rule i j t t' s _ _ ⟨.int (g i j), H, I.tok _, ⟨_, rfl⟩, q⟩
theorem opB0 {f : Value → Value → Sem Value} {g : Int → Int → Bool}
    (rule : ∀ (i j : Int) (t u : Tok) (s : Shared) (Q : Value → Shared → Prop) (E : Value → Shared → Prop), Q (.bool (g i j)) s → wpAny (model X.prog X.w) X.A (f (.int i t) (.int j u)) Q E s) :
    OpR X f (rI0 fun i j => .bl (g i j)) := by
  intro pins s σ H x y v u Q I rx ry h
  obtain ⟨i, j, rfl, rfl, q⟩ := h
  obtain ⟨t, rfl⟩ := rx
  obtain ⟨t', rfl⟩ := ry
  exact rule i j t t' s _ _ ⟨.bl (g i j), H, I, rfl, q⟩

def CDiv (i j : Int) : Prop := 0 < j ∧ j < 1073741824
def CDivN (i j : Int) : Prop := j ≠ 0 ∧ j.natAbs < 1073741824
def CPow (i j : Int) : Prop := 0 ≤ j ∧ j ≤ 1000000 ∧ i.natAbs < 2 ^ 64
def CMul (i j : Int) : Prop := (-(2 ^ 64) < i ∧ i < 2 ^ 64) ∨ (-(2 ^ 64) < j ∧ j < 2 ^ 64)
theorem CMul.ok {i j : Int} (h : CMul i j) : IntMulOk i j := by
  rcases h with ⟨h1, h2⟩ | ⟨h1, h2⟩
  · exact .of_left (intBits_le_64 h1 h2)
  · exact .of_right (intBits_le_64 h1 h2)
theorem op_add : OpR X (binaryOp .Add) (rI0 fun i j => .int (i + j)) := opI0 fun _ _ _ _ _ _ _ q => add_int q
theorem op_sub : OpR X (binaryOp .Sub) (rI0 fun i j => .int (i - j)) := opI0 fun _ _ _ _ _ _ _ q => sub_int q
theorem op_mul : OpR X (binaryOp .Mult) (rI CMul fun i j => .int (i * j)) := opI fun _ _ _ _ _ _ _ hc q => mul_int q hc.ok
/-- // by a positive divisor -/
theorem op_fdiv : OpR X (binaryOp .FloorDiv) (rI CDiv fun i j => .int (i / j)) := opI fun i j _ _ _ _ _ hc q => by
  have h1 : (0 : Int) < j := hc.1
  have h2 : j < 1073741824 := hc.2
  exact floordiv_int (by omega) (by rw [Int.fdiv_eq_ediv_of_nonneg i (by omega)]; exact q) (.inl (PyProof.noPylong_small (by omega)))
/-- % by a positive divisor of any size -/
theorem op_mod : OpR X (binaryOp .Mod) (rI (fun _ j => 0 < j) fun i j => .int (i % j)) := opI fun i j _ _ _ _ _ hc q => by
  have h1 : (0 : Int) < j := hc
  exact mod_int' (by omega) (by rw [Int.fmod_eq_emod_of_nonneg i (by omega)]; exact q)
theorem op_pow : OpR X (binaryOp .Pow) (rI CPow fun i j => .int (i ^ j.toNat)) := opI fun _ _ _ _ _ _ _ hc q => pow_int_small hc.1 hc.2.1 hc.2.2 q
theorem unI {f : Value → Sem Value} {g : Int → Int}
    (rule : ∀ (i : Int) (t : Tok) (s : Shared) (Q : Value → Shared → Prop) (E : Value → Shared → Prop), Q (.int (g i) s.toks) { s with toks := s.toks + 1 } → wpAny (model X.prog X.w) X.A (f (.int i t)) Q E s) :
    UnR X f (rU fun i => .int (g i)) := by
  intro pins s σ H x v Q I rx h
  obtain ⟨i, rfl, q⟩ := h
  obtain ⟨t, rfl⟩ := rx
  exact rule i t s _ _ ⟨.int (g i), H, I.tok _, ⟨_, rfl⟩, q⟩
theorem un_neg : UnR X (unaryOp .USub) (rU fun i => .int (-i)) := unI fun _ _ _ _ _ q => neg_int q
/-! ### bools among ints: n += (a < b) -/
end

/-! ### comparisons -/
/-- the scalars that == tells apart as data does -/
def scal : V → V → Bool
  | .non, .non => true | .non, .int _ => true | .int _, .non => true | .non, .bl _ => true | .bl _, .non => true | .non, .str _ => true | .str _, .non => true
  | .int _, .int _ => true | .bl _, .bl _ => true | .str _, .str _ => true | .byt _, .byt _ => true
  | .int _, .str _ => true | .str _, .int _ => true | .bl _, .str _ => true | .str _, .bl _ => true
  | _, _ => false
def rEq : R2 := fun x y H Q => scal x y = true ∧ Q (.bl (decide (x = y))) H
def rNe : R2 := fun x y H Q => scal x y = true ∧ Q (.bl (!decide (x = y))) H

theorem dec_int {i j : Int} : decide (V.int i = V.int j) = (i == j) := by
  rw [Bool.eq_iff_iff]
  simp
theorem dec_bl {i j : Bool} : decide (V.bl i = V.bl j) = (i == j) := by
  rw [Bool.eq_iff_iff]
  simp
theorem dec_str {i j : Str} : decide (V.str i = V.str j) = (i == j) := by
  rw [Bool.eq_iff_iff]
  simp
theorem dec_byt {i j : Array UInt8} : decide (V.byt i = V.byt j) = (i.toList == j.toList) := by
  rw [Bool.eq_iff_iff]
  cases i
  cases j
  simp

section
variable {X : Cx} {a b c : Expr} {ta tb tc : TE} {pos : Pos}
theorem fin_bl {pins : List (Addr × Obj)} {σ : St} {H : Hp} {s : Shared} {Q : VK} {k k' : Bool} (I : Inv X pins σ H s) (q : Q (.bl k) H) (e : k = k') : EP X pins σ Q (.bool k') s := by
  subst e
  exact ⟨.bl k, H, I, rfl, q⟩
theorem op_eq : OpR X (compareOp .Eq) rEq := by
  intro pins s σ H x y v u Q I rx ry h
  obtain ⟨hs, q⟩ := h
  cases x with
  | non =>
    cases rx
    cases y with
    | non => cases ry; exact PySem.EqNone.eq_none_none (fin_bl I q (by simp))
    | bl j => cases ry; exact PySem.EqNone.eq_none_bool (fin_bl I q (by simp))
    | int j => obtain ⟨t', rfl⟩ := ry; exact PySem.EqNone.eq_none_int (fin_bl I q (by simp))
    | str j => obtain ⟨t', rfl⟩ := ry; exact PySem.EqNone.eq_none_str (fin_bl I q (by simp))
    | _ => exact absurd (show false = true from hs) Bool.false_ne_true
  | bl i =>
    cases rx
    cases y with
    | non => cases ry; exact PySem.EqNone.eq_bool_none (fin_bl I q (by simp))
    | bl j => cases ry; exact eq_bool (fin_bl I q dec_bl)
    | str j => obtain ⟨t', rfl⟩ := ry; exact PySem.EqMixed.eq_bool_str (fin_bl I q (by simp))
    | _ => exact absurd (show false = true from hs) Bool.false_ne_true
  | int i =>
    obtain ⟨t, rfl⟩ := rx
    cases y with
    | non => cases ry; exact PySem.EqNone.eq_int_none (fin_bl I q (by simp))
    | int j => obtain ⟨t', rfl⟩ := ry; exact eq_int (fin_bl I q dec_int)
    | str j => obtain ⟨t', rfl⟩ := ry; exact PySem.EqMixed.eq_int_str (fin_bl I q (by simp))
    | _ => exact absurd (show false = true from hs) Bool.false_ne_true
  | str i =>
    obtain ⟨t, rfl⟩ := rx
    cases y with
    | non => cases ry; exact PySem.EqNone.eq_str_none (fin_bl I q (by simp))
    | bl j => cases ry; exact PySem.EqMixed.eq_str_bool (fin_bl I q (by simp))
    | int j => obtain ⟨t', rfl⟩ := ry; exact PySem.EqMixed.eq_str_int (fin_bl I q (by simp))
    | str j => obtain ⟨t', rfl⟩ := ry; exact eq_str (fin_bl I q dec_str)
    | _ => exact absurd (show false = true from hs) Bool.false_ne_true
  | byt i =>
    obtain ⟨t, rfl⟩ := rx
    cases y with
    | byt j => obtain ⟨t', rfl⟩ := ry; exact W.eq_bytes (fin_bl I q dec_byt)
    | _ => exact absurd (show false = true from hs) Bool.false_ne_true
  | _ => cases y <;> exact absurd (show false = true from hs) Bool.false_ne_true
theorem op_ne : OpR X (compareOp .NotEq) rNe := by
  intro pins s σ H x y v u Q I rx ry h
  obtain ⟨hs, q⟩ := h
  cases x with
  | non =>
    cases rx
    cases y with
    | non => cases ry; exact PySem.EqNone.ne_none_none (fin_bl I q (by simp))
    | bl j => cases ry; exact PySem.EqNone.ne_none_bool (fin_bl I q (by simp))
    | int j => obtain ⟨t', rfl⟩ := ry; exact PySem.EqNone.ne_none_int (fin_bl I q (by simp))
    | str j => obtain ⟨t', rfl⟩ := ry; exact PySem.EqNone.ne_none_str (fin_bl I q (by simp))
    | _ => exact absurd (show false = true from hs) Bool.false_ne_true
  | bl i =>
    cases rx
    cases y with
    | non => cases ry; exact PySem.EqNone.ne_bool_none (fin_bl I q (by simp))
    | bl j => cases ry; exact ne_bool (fin_bl I q (congrArg not dec_bl))
    | str j => obtain ⟨t', rfl⟩ := ry; exact PySem.EqMixed.ne_bool_str (fin_bl I q (by simp))
    | _ => exact absurd (show false = true from hs) Bool.false_ne_true
  | int i =>
    obtain ⟨t, rfl⟩ := rx
    cases y with
    | non => cases ry; exact PySem.EqNone.ne_int_none (fin_bl I q (by simp))
    | int j => obtain ⟨t', rfl⟩ := ry; exact ne_int (fin_bl I q (congrArg not dec_int))
    | str j => obtain ⟨t', rfl⟩ := ry; exact PySem.EqMixed.ne_int_str (fin_bl I q (by simp))
    | _ => exact absurd (show false = true from hs) Bool.false_ne_true
  | str i =>
    obtain ⟨t, rfl⟩ := rx
    cases y with
    | non => cases ry; exact PySem.EqNone.ne_str_none (fin_bl I q (by simp))
    | bl j => cases ry; exact PySem.EqMixed.ne_str_bool (fin_bl I q (by simp))
    | int j => obtain ⟨t', rfl⟩ := ry; exact PySem.EqMixed.ne_str_int (fin_bl I q (by simp))
    | str j => obtain ⟨t', rfl⟩ := ry; exact ne_str (fin_bl I q (congrArg not dec_str))
    | _ => exact absurd (show false = true from hs) Bool.false_ne_true
  | byt i =>
    obtain ⟨t, rfl⟩ := rx
    cases y with
    | byt j => obtain ⟨t', rfl⟩ := ry; exact W.ne_bytes (fin_bl I q (congrArg not dec_byt))
    | _ => exact absurd (show false = true from hs) Bool.false_ne_true
  | _ => cases y <;> exact absurd (show false = true from hs) Bool.false_ne_true

theorem op_lt : OpR X (compareOp .Lt) (rI0 fun i j => .bl (decide (i < j))) := opB0 fun _ _ _ _ _ _ _ q => lt_int q
theorem op_le : OpR X (compareOp .LtE) (rI0 fun i j => .bl (decide (i ≤ j))) := opB0 fun _ _ _ _ _ _ _ q => le_int q
theorem op_gt : OpR X (compareOp .Gt) (rI0 fun i j => .bl (decide (j < i))) := opB0 fun _ _ _ _ _ _ _ q => gt_int q
theorem op_ge : OpR X (compareOp .GtE) (rI0 fun i j => .bl (decide (j ≤ i))) := opB0 fun _ _ _ _ _ _ _ q => ge_int q
/-- the one string within the other -/
theorem op_in_str : OpR X (compareOp .In) (fun x y H Q => ∃ i j, x = .str i ∧ y = .str j ∧ Q (.bl (!(Builtin.Str.occurrences j i 0 j.length 1).isEmpty)) H) := by
  intro pins s σ H x y v u Q I rx ry h
  obtain ⟨i, j, rfl, rfl, q⟩ := h
  obtain ⟨t, rfl⟩ := rx
  obtain ⟨t', rfl⟩ := ry
  exact in_str (fin_bl I q rfl)

/-- is None, is not None: the right side a value none -/
theorem op_isN : OpR X (compareOp .Is) (fun x y H Q => y = .non ∧ Q (.bl (decide (x = .non))) H) := by
  intro pins s σ H x y v u Q I rx ry h
  obtain ⟨rfl, q⟩ := h
  cases ry
  refine is_none_gen (fin_bl I q ?_)
  cases x <;> first
    | (cases rx; rfl)
    | (obtain ⟨t, rfl⟩ := rx; rfl)
theorem op_notN : OpR X (compareOp .IsNot) (fun x y H Q => y = .non ∧ Q (.bl (!decide (x = .non))) H) := by
  intro pins s σ H x y v u Q I rx ry h
  obtain ⟨rfl, q⟩ := h
  cases ry
  refine isnot_none_gen (fin_bl I q ?_)
  cases x <;> first
    | (cases rx; rfl)
    | (obtain ⟨t, rfl⟩ := rx; rfl)

/-- is, is not of two objects that are tracked lists or instances -/
def isObj : HO → Bool
  | .lst _ => true
  | .ins _ _ _ => true
  | _ => false
theorem nomark (b : Expr) {op : CmpOp} (h : op ≠ .In := by decide) (h2 : op ≠ .NotIn := by decide) : behindInMarks op b = false := by
  have e1 : (op == CmpOp.In) = false := by cases op <;> first | rfl | exact absurd rfl h
  have e2 : (op == CmpOp.NotIn) = false := by cases op <;> first | rfl | exact absurd rfl h2
  cases b <;> simp [behindInMarks, e1, e2]
/-- a comparison as a value; hm: nomark b, or (for in, not in) by with_unfolding_all rfl -/
theorem pe_cmpR {op : CmpOp} {r : R2} (ho : OpR X (compareOp op) r) (ha : PE X a ta) (hb : PE X b tb) (hm : behindInMarks op b = false) : PE X (.Compare a [op] [b] pos) (tOp r ta tb) := by
  intro pins s σ H Q I h
  exact wpAny_Compare1 (binT ha hb I h fun v u s2 x y H2 I2 rx ry q => ho pins s2 σ H2 x y v u Q I2 rx ry q) hm
/-- a reading of a value as a test -/
def tTest (t : TE) : TT := fun σ H Q => t σ H fun x H' => ∃ k, x = .bl k ∧ Q k H'
theorem pt_cmpR {op : CmpOp} {r : R2} (ho : OpR X (compareOp op) r) (ha : PE X a ta) (hb : PE X b tb) (hm : behindInMarks op b = false) : PT X (.Compare a [op] [b] pos) (tTest (tOp r ta tb)) := by
  intro pins s σ H Q I h
  refine wpAny_isTrue_Compare1 (thn (ha pins s σ H _ I h) fun v s1 ⟨x, H1, I1, r1, q1⟩ => thn (hb pins s1 σ H1 _ I1 q1) fun u s2 ⟨y, H2, I2, r2, q2⟩ =>
    thn (ho pins s2 σ H2 x y v u _ I2 r1 r2 q2) fun c s3 ⟨z, H3, I3, r3, k, e, q3⟩ => ?_) hm
  subst e
  cases r3
  exact wpAny_truthy_bool ⟨H3, I3, q3⟩
/-- a op1 b op2 c -/
def tChain (r r' : R2) (ta tb tc : TE) : TE := fun σ H Q => ta σ H fun x H1 => tb σ H1 fun y H2 => r x y H2 fun z H3 => ∃ k, z = .bl k ∧
  (if k = true then tc σ H3 fun w' H4 => r' y w' H4 Q else Q (.bl false) H3)
theorem pe_chain {op op' : CmpOp} {r r' : R2} (ho : OpR X (compareOp op) r) (ho' : OpR X (compareOp op') r') (ha : PE X a ta) (hb : PE X b tb) (hc : PE X c tc)
    (hm : lastMarks [op, op'] [b, c] = false := by with_unfolding_all rfl) : PE X (.Compare a [op, op'] [b, c] pos) (tChain r r' ta tb tc) := by
  intro pins s σ H Q I h
  refine Compare_chain (thn (ha pins s σ H _ I h) fun v s1 ⟨x, H1, I1, r1, q1⟩ => chain_link (thn (hb pins s1 σ H1 _ I1 q1) fun u s2 ⟨y, H2, I2, r2, q2⟩ =>
    thn (ho pins s2 σ H2 x y v u _ I2 r1 r2 q2) fun d s3 ⟨z, H3, I3, r3, k, e, q3⟩ => ?_)) hm
  subst e
  cases r3
  refine wpAny_truthy_bool ?_
  cases k with
  | false => exact ite_ff ⟨.bl false, H3, I3, rfl, q3⟩
  | true => exact ite_tt (chain_last (thn (hc pins s3 σ H3 _ I3 q3) fun w' s4 ⟨z', H4, I4, r4, q4⟩ => ho' pins s4 σ H4 y z' u w' Q I4 r2 r4 q4))
theorem pt_chain {op op' : CmpOp} {r r' : R2} (ho : OpR X (compareOp op) r) (ho' : OpR X (compareOp op') r') (ha : PE X a ta) (hb : PE X b tb) (hc : PE X c tc)
    (hm : lastMarks [op, op'] [b, c] = false := by with_unfolding_all rfl) : PT X (.Compare a [op, op'] [b, c] pos) (tTest (tChain r r' ta tb tc)) := by
  intro pins s σ H Q I h
  refine isTrue_chain (thn (ha pins s σ H _ I h) fun v s1 ⟨x, H1, I1, r1, q1⟩ => test_link (thn (hb pins s1 σ H1 _ I1 q1) fun u s2 ⟨y, H2, I2, r2, q2⟩ =>
    thn (ho pins s2 σ H2 x y v u _ I2 r1 r2 q2) fun d s3 ⟨z, H3, I3, r3, k, e, q3⟩ => ?_)) hm
  subst e
  cases r3
  refine wpAny_truthy_bool ?_
  cases k with
  | false =>
    obtain ⟨k', e', q'⟩ := q3
    cases e'
    exact ite_ff ⟨H3, I3, q'⟩
  | true =>
    refine ite_tt (test_last (thn (hc pins s3 σ H3 _ I3 q3) fun w' s4 ⟨z', H4, I4, r4, q4⟩ => thn (ho' pins s4 σ H4 y z' u w' _ I4 r2 r4 q4) fun d' s5 ⟨z2, H5, I5, r5, k2, e2, q5⟩ => ?_))
    subst e2
    cases r5
    exact wpAny_truthy_bool ⟨H5, I5, q5⟩

/-! ### truth -/
/-- a value's truth by the abstract heap -/
def TruV (K : W.Frag) (x : V) (H : Hp) (k : Bool) : Prop :=
  match x with
  | .non => k = false
  | .bl b => k = b
  | .int i => k = (i != 0)
  | .str y => y.length ≤ sizeLine ∧ k = ((y.length : Int) != 0)
  | .byt y => y.size ≤ sizeLine ∧ k = ((y.size : Int) != 0)
  | .ref p => (∃ xs, SqL K H p xs ∧ k = !xs.isEmpty) ∨ (∃ xs, SqT K H p xs ∧ k = !xs.isEmpty) ∨ ∃ kvs, H p = some (.dK kvs) ∧ k = !kvs.isEmpty
  | _ => False
theorem isEmpty_kv {κ : Type} {kvs : List (κ × V)} {vs : List (κ × Value)} (r : KV kvs vs) : (!vs.isEmpty) = !kvs.isEmpty := by
  cases r <;> rfl
theorem isEmpty_of {xs : List V} {its : List Value} (r : Vals xs its) : (!its.toArray.isEmpty) = !xs.isEmpty := by
  cases r <;> simp
theorem line63 : (sizeLine : Nat) < 2 ^ 63 := by rw [sizeLine_eq]; decide
theorem tru_ok : TruR X (fun x H Q => ∃ k, TruV X.K x H k ∧ Q k H) := by
  intro pins s σ H x v Q I rx h
  obtain ⟨k, e, q⟩ := h
  have hl := line63
  have hs : sizeLine = 16777216 := sizeLine_eq
  cases x with
  | non =>
    cases rx
    have e' : k = false := e
    subst e'
    exact truthy_none ⟨H, I, q⟩
  | bl b =>
    cases rx
    have e' : k = b := e
    subst e'
    exact wpAny_truthy_bool ⟨H, I, q⟩
  | int i =>
    obtain ⟨t, rfl⟩ := rx
    have e' : k = (i != 0) := e
    subst e'
    exact PySem.P.truthy_int ⟨H, I, q⟩
  | str y =>
    obtain ⟨t, rfl⟩ := rx
    obtain ⟨hy, e'⟩ : y.length ≤ sizeLine ∧ k = ((y.length : Int) != 0) := e
    subst e'
    exact PySem.P.truthy_str (by omega) ⟨H, I.tok _, q⟩
  | byt y =>
    obtain ⟨t, rfl⟩ := rx
    obtain ⟨hy, e'⟩ : y.size ≤ sizeLine ∧ k = ((y.size : Int) != 0) := e
    subst e'
    exact W.truthy_bytes (by omega) ⟨H, I.tok _, q⟩
  | ref p =>
    cases rx
    have e' : (∃ xs, SqL X.K H p xs ∧ k = !xs.isEmpty) ∨ (∃ xs, SqT X.K H p xs ∧ k = !xs.isEmpty) ∨ ∃ kvs, H p = some (.dK kvs) ∧ k = !kvs.isEmpty := e
    rcases e' with ⟨xs, hx, e'⟩ | ⟨xs, hx, e'⟩ | ⟨kvs, hx, e'⟩
    · subst e'
      obtain ⟨its, r, pl, hz⟩ := I.list hx
      have hlen := r.length
      exact wpAny_truthy_list pl.isList (by simp only [List.size_toArray]; omega) ⟨H, I.tok _, by rw [isEmpty_of r]; exact q⟩
    · subst e'
      obtain ⟨its, r, pl, hz⟩ := I.tuple hx
      have hlen := r.length
      exact truthy_tuple pl (by simp only [List.size_toArray]; omega) ⟨H, I.tok _, by rw [isEmpty_of r]; exact q⟩
    · subst e'
      obtain ⟨hz, hS, vs, r, m⟩ : kvs.length ≤ sizeLine ∧ (p == sysModules) = false ∧ ∃ vs, KV kvs vs ∧ s.heap.DictOf (mixKind X.prog X.w) p vs := I.hok p _ hx
      have hlen : kvs.length = vs.length := Paired.length r
      exact wpAny_truthy_dict hS m (by omega) ⟨H, I.tok _, by rw [isEmpty_kv r]; exact q⟩
  | _ => exact (show False from e).elim
/-! ### strs and bytes -/
theorem op_add_str : OpR X (binaryOp .Add) (fun x y H Q => ∃ i j, x = .str i ∧ y = .str j ∧ i.length + j.length ≤ sizeLine ∧ Q (.str (i ++ j)) H) := by
  intro pins s σ H x y v u Q I rx ry h
  obtain ⟨i, j, rfl, rfl, hz, q⟩ := h
  obtain ⟨t, rfl⟩ := rx
  obtain ⟨t', rfl⟩ := ry
  exact add_str (fun t' tk => ⟨.str (i ++ j), H, I.tok _, ⟨_, rfl⟩, q⟩) hz
def PlainIxT (b : Expr) : Prop := ∀ o i, subscripted b false o i = operate [o, i] (getItem o i)
/-! ### scalar builtins, by CallR -/
theorem vals1 {x : V} {us : List Value} (r : Vals [x] us) : ∃ u, us = [u] ∧ RelV x u := by
  cases r with
  | cons r1 r2 => cases r2; exact ⟨_, rfl, r1⟩
theorem vals2 {x y : V} {us : List Value} (r : Vals [x, y] us) : ∃ u w', us = [u, w'] ∧ RelV x u ∧ RelV y w' := by
  cases r with
  | cons r1 r2 =>
    cases r2 with
    | cons r3 r4 => cases r4; exact ⟨_, _, rfl, r1, r3⟩
theorem call_min2 (hc : X.calm = true) : CallR X (.builtin "min") (fun xs H Q => ∃ i j, xs = [.int i, .int j] ∧ Q (.int (if j < i then j else i)) H) := by
  intro pins s σ H xs us Q I r h
  obtain ⟨i, j, rfl, q⟩ := h
  obtain ⟨u, w', rfl, ⟨t, rfl⟩, ⟨t', rfl⟩⟩ := vals2 r
  refine min_two_ints (I.ok.hd hc) fun h' tk k => ⟨_, H, I.kept k, ?_, q⟩
  by_cases hj : j < i
  · rw [if_pos hj, if_pos hj]; exact ⟨_, rfl⟩
  · rw [if_neg hj, if_neg hj]; exact ⟨_, rfl⟩
theorem call_int1 : CallR X (.type "int") (fun xs H Q => (∃ i, xs = [.int i] ∧ Q (.int i) H) ∨ ∃ k, xs = [.bl k] ∧ Q (.int (if k then 1 else 0)) H) := by
  intro pins s σ H xs us Q I r h
  rcases h with ⟨i, rfl, q⟩ | ⟨k, rfl, q⟩
  · obtain ⟨u, rfl, t, rfl⟩ := vals1 r
    exact call_int_int ⟨.int i, H, I, ⟨_, rfl⟩, q⟩
  · obtain ⟨u, rfl, r1⟩ := vals1 r
    cases r1
    exact call_int_bool ⟨.int (if k then 1 else 0), H, I.tok _, ⟨_, rfl⟩, q⟩
theorem call_str_int : CallR X (.type "str") (fun xs H Q => ∃ i, xs = [.int i] ∧ i.natAbs.log2 < 1920 ∧ Q (.str (toString i)) H) := by
  intro pins s σ H xs us Q I r h
  obtain ⟨i, rfl, hz, q⟩ := h
  obtain ⟨u, rfl, t, rfl⟩ := vals1 r
  exact PySem.P.str_of_int hz ⟨.str _, H, I.tok _, ⟨_, rfl⟩, q⟩
/-- len of a str, a bytes, a list, a tuple -/
def LenV (K : W.Frag) (x : V) (H : Hp) (n : Nat) : Prop :=
  match x with
  | .str y => y.length ≤ sizeLine ∧ n = y.length
  | .byt y => y.size ≤ sizeLine ∧ n = y.size
  | .ref p => (∃ xs, SqL K H p xs ∧ n = xs.length) ∨ ∃ xs, SqT K H p xs ∧ n = xs.length
  | _ => False
theorem call_len : CallR X (.builtin "len") (fun xs H Q => ∃ x n, xs = [x] ∧ LenV X.K x H n ∧ Q (.int n) H) := by
  intro pins s σ H xs us Q I r h
  obtain ⟨x, n, rfl, e, q⟩ := h
  obtain ⟨u, rfl, rx⟩ := vals1 r
  have hl := line63
  have hs : sizeLine = 16777216 := sizeLine_eq
  cases x with
  | str y =>
    obtain ⟨t, rfl⟩ := rx
    obtain ⟨hy, e'⟩ : y.length ≤ sizeLine ∧ n = y.length := e
    subst e'
    exact len_str (by omega) ⟨.int _, H, I.tok _, ⟨_, rfl⟩, q⟩
  | byt y =>
    obtain ⟨t, rfl⟩ := rx
    obtain ⟨hy, e'⟩ : y.size ≤ sizeLine ∧ n = y.size := e
    subst e'
    exact W.len_bytes (by omega) ⟨.int _, H, I.tok _, ⟨_, rfl⟩, q⟩
  | ref p =>
    cases rx
    have e' : (∃ xs, SqL X.K H p xs ∧ n = xs.length) ∨ ∃ xs, SqT X.K H p xs ∧ n = xs.length := e
    rcases e' with ⟨xs, hx, e'⟩ | ⟨xs, hx, e'⟩
    · subst e'
      obtain ⟨its, r', pl, hz⟩ := I.list hx
      have hlen := r'.length
      exact Calls.call_len_list pl.isList (by simp only [List.size_toArray]; omega) ⟨.int xs.length, H, I.tok _, ⟨_, by simp only [List.size_toArray]; rw [hlen]⟩, q⟩
    · subst e'
      obtain ⟨its, r', pl, hz⟩ := I.tuple hx
      have hlen := r'.length
      exact len_tuple pl (by simp only [List.size_toArray]; omega) ⟨.int xs.length, H, I.tok _, ⟨_, by simp only [List.size_toArray]; rw [hlen]⟩, q⟩
  | _ => exact (show False from e).elim
end
end L2

namespace L2
open PySem PySem.Spec PyProof.Rows

/-! ### an instance, its attributes a map -/
structure ObjM (h : Heap) (x dx C : Addr) (mA : Str → Option Value) : Prop where
  obj : h.get? x = some (W.instObj C dx)
  ns : h.Ns1 dx mA
  ne : dx ≠ x

theorem lookIn_ns {h : Heap} {dx : Addr} {mA : Str → Option Value} (n : h.Ns1 dx mA) : ∃ od, h.get? dx = some od ∧ ∀ name, W.lookIn name od = some (mA name) := by
  obtain ⟨o, es, ep, ho, hd, hk, _, hm⟩ := n
  refine ⟨o, ho, fun name => ?_⟩
  have e := hm name
  unfold nsFind findBy at e
  rw [← Array.find?_toList] at e
  unfold W.lookIn
  rw [hd]
  dsimp only
  split
  · rename_i y q
    rw [q] at e
    exact congrArg some e
  · rename_i q
    rw [q] at e
    have a : es.toList.any (·.refKey) = false := by
      rw [List.any_eq_false]
      intro y hy
      obtain ⟨z, t, hkey⟩ := hk y (Array.mem_toList_iff.mp hy)
      simp [DictEntry.refKey, hkey]
    have a' : ¬ es.toList.any (·.refKey) = true := by rw [a]; exact Bool.false_ne_true
    rw [if_neg a']
    exact congrArg some e

theorem ObjM.look {h : Heap} {x dx C : Addr} {mA : Str → Option Value} (I : ObjM h x dx C mA) : ∃ od, W.InstAt h x (W.instObj C dx) C (some od) ∧ ∀ name, W.lookIn name od = some (mA name) :=
  let ⟨od, ho, hl⟩ := lookIn_ns I.ns
  ⟨od, ⟨I.obj, rfl, rfl, ho⟩, hl⟩

section
variable {prog : Program} {w : World} {A : Around} {E : Value → Shared → Prop} {s : Shared} {K : W.Frag} {x dx C f : Addr} {mA : Str → Option Value} {name : Str} {v : Value}

end

/-! ### the attributes as a list of pairs -/
def putF (f : Str) (v : V) : List (Str × V) → List (Str × V)
  | [] => [(f, v)]
  | (g, x) :: r => if g = f then (g, v) :: r else (g, x) :: putF f v r
section
variable {P : Program} {w : World} {H H' : Hp} {h h' : Heap} {a C dx : Addr} {fs fs' : List (Str × V)}
theorem ins_get (hok : HOk P w H h) (e : H a = some (.ins C dx fs)) : ∃ mA, ObjM h a dx C mA ∧ (∀ f, RelO (fs.lookup f) (mA f)) ∧ PySem.Within mA (fs.map (·.1)) ∧ fs.length ≤ 1000 ∧ H dx = some (.own a) := by
  obtain ⟨d, z, ne, ob, mA, n, r, q⟩ := (show ObjOk P w H h a (.ins C dx fs) from hok a _ e)
  exact ⟨mA, ⟨ob, n, ne⟩, r, q, z, d⟩
end

/-! ### what of the text a class must have -/
structure Cls (K : W.Frag) (C : Addr) : Prop where
  pg : W.plainGet K C Str.empty = true
  hd : W.hasDictIn K C = true
  po : W.plainOver K C = true
  sa : W.findIn K (.ref C) "__setattr__" = some (some (.builtin "object.__setattr__"))
theorem Cls.get {K : W.Frag} {C : Addr} (c : Cls K C) (f : Str) : W.plainGet K C f = true := c.pg
/-- no class of it has the name -/
def NoAttr (K : W.Frag) (C : Addr) (f : Str) : Prop := W.findIn K (.ref C) f = some none
/-- a constant of the class -/
structure Con (K : W.Frag) (C : Addr) (f : Str) (v : V) (u : Value) : Prop where
  at_ : W.findIn K (.ref C) f = some (some u)
  rel : RelV v u
  get : W.specialIn K u "__get__" = some none
  cp : W.copiedNames.contains f = false
/-- a method: a plain def of the class or of one above it -/
structure Meth (K : W.Frag) (C : Addr) (m : Str) (f : Addr) : Prop where
  at_ : W.findIn K (.ref C) m = some (some (.ref f))
  fn : W.isFn K (.ref f) = true
  kp : W.keepIn K (.ref f) = true

section
variable {X : Cx} {pins : List (Addr × Obj)} {σ : St} {H : Hp} {s : Shared} {a C dx : Addr} {fs : List (Str × V)} {f : Str} {v : V} {A : Around} {E : Value → Shared → Prop}

end

/-! ### readings and rules -/
/-- e.f, an attribute of the instance -/
def tFld (K : W.Frag) (ta : TE) (f : Str) : TE := fun σ H Q => ta σ H fun x H1 => ∃ a C dx fs v, x = .ref a ∧ H1 a = some (.ins C dx fs) ∧ Cls K C ∧ NoAttr K C f ∧ fs.lookup f = some v ∧ Q v H1
/-- e.f, a constant of the class -/
def tCon (K : W.Frag) (ta : TE) (f : Str) : TE := fun σ H Q => ta σ H fun x H1 => ∃ a C dx fs v u, x = .ref a ∧ H1 a = some (.ins C dx fs) ∧ Cls K C ∧ Con K C f v u ∧ fs.lookup f = none ∧ Q v H1
/-- e.f = value -/
def sFld (K : W.Frag) (ta tv : TE) (f : Str) : TS := fun D σ H => tv σ H fun y H1 => ta σ H1 fun x H2 => ∃ a C dx fs, x = .ref a ∧ H2 a = some (.ins C dx fs) ∧ Cls K C ∧ NoAttr K C f ∧ fs.length < 1000 ∧
  D.nx σ (upd H2 a (.ins C dx (putF f y fs)))
/-- an augmented operator on two values -/
def InOp (X : Cx) (op : Operator) (rd : V → V → Hp → VK → Prop) : Prop :=
  ∀ (pins : List (Addr × Obj)) (s : Shared) (σ : St) (H : Hp) (x y : V) (u v : Value) (Q : VK), Inv X pins σ H s → RelV x u → RelV y v → rd x y H Q → wpAny (model X.prog X.w) X.A (inplaceOp op u v) (EP X pins σ Q) X.xe s
/-- e.f op= value -/
def sFldAug (K : W.Frag) (ta tv : TE) (rd : V → V → Hp → VK → Prop) (f : Str) : TS := fun D σ H => ta σ H fun x H1 => ∃ a C dx fs v, x = .ref a ∧ H1 a = some (.ins C dx fs) ∧ Cls K C ∧ NoAttr K C f ∧ fs.lookup f = some v ∧
  tv σ H1 fun y H2 => rd v y H2 fun z H3 => ∃ dx' fs', H3 a = some (.ins C dx' fs') ∧ fs'.length < 1000 ∧ D.nx σ (upd H3 a (.ins C dx' (putF f z fs')))

section
variable {X : Cx} {o e value : Expr} {f : Str} {pos pos' tpos : Pos} {ta tv : TE}
def rAdd : V → V → Hp → VK → Prop := fun x y H Q => ∃ i j, x = .int i ∧ y = .int j ∧ Q (.int (i + j)) H
def rSub : V → V → Hp → VK → Prop := fun x y H Q => ∃ i j, x = .int i ∧ y = .int j ∧ Q (.int (i - j)) H
end

/-! ### isinstance -/
section
variable {X : Cx} {pins : List (Addr × Obj)} {σ : St} {H : Hp} {s : Shared} {A : Around} {E : Value → Shared → Prop} {Q : Value → Shared → Prop} {c : Value} {b : Bool}
/-- the type of a value, as the fragment's deciders take it; for an instance its class -/
inductive TyOf (K : W.Frag) (H : Hp) : V → Value → Prop where
  | non : TyOf K H .non (.type "NoneType")
  | bl (x : Bool) : TyOf K H (.bl x) (.type "bool")
  | int (i : Int) : TyOf K H (.int i) (.type "int")
  | str (x : Str) : TyOf K H (.str x) (.type "str")
  | flt (x : UInt64) : TyOf K H (.flt x) (.type "float")
  | lst {a : Addr} {xs : List V} (e : H a = some (.lst xs)) : TyOf K H (.ref a) (.type "list")
  | frz {a : Addr} {o : Obj} {xs : List V} (e : H a = some (.frz o (.lst xs))) : TyOf K H (.ref a) (.type "list")
  | tup {a : Addr} {xs : List V} (e : H a = some (.tup xs)) : TyOf K H (.ref a) (.type "tuple")
  | dK {a : Addr} {kvs : List (Key × V)} (e : H a = some (.dK kvs)) : TyOf K H (.ref a) (.type "dict")
  | dT {a : Addr} {kvs : List (List Key × V)} (e : H a = some (.dT kvs)) : TyOf K H (.ref a) (.type "dict")
  | ins {a C dx : Addr} {fs : List (Str × V)} (e : H a = some (.ins C dx fs)) (cl : Cls K C) (ha : W.findIn K (.ref C) "__class__" = some (some (.builtin "object.__class__")))
      (hn : W.specialIn K (.builtin "object.__class__") "__get__" = some (some (.builtin "getset_descriptor.__get__"))) (htk : W.takesIn K (.builtin "object.__class__") = some true)
      (hm : W.mroIn K C (.type "object") = some true) : TyOf K H (.ref a) (.ref C)
/-- isinstance(x, c) for one class c, a built-in or an own one: kitOne's answer -/
theorem isinst_ok {x : V} {u t : Value} (I : Inv X pins σ H s) (rx : RelV x u) (ty : TyOf X.K H x t) (e : W.kitOne X.K t c = some b) (h : ∀ tk, Q (.bool b) { s with toks := tk }) :
    wpAny (model X.prog X.w) A (call (.builtin "isinstance") [u, c]) Q E s := by
  cases ty with
  | non => cases (show u = Value.none from rx); exact W.kia_one W.kitx_none I.kIn True.intro e (fun z => nomatch z) h
  | bl y => cases (show u = Value.bool y from rx); exact W.kia_one W.kitx_bool I.kIn True.intro e (fun z => nomatch z) h
  | int i => obtain ⟨t, q⟩ := (show ∃ t, u = Value.int i t from rx); cases q; exact W.kia_one W.kitx_int I.kIn True.intro e (fun z => nomatch z) h
  | str y => obtain ⟨t, q⟩ := (show ∃ t, u = Value.str y t from rx); cases q; exact W.kia_one W.kitx_str I.kIn True.intro e (fun z => nomatch z) h
  | flt y => obtain ⟨t, q⟩ := (show ∃ t, u = Value.float y t from rx); cases q; exact W.kia_one W.kitx_float I.kIn True.intro e (fun z => nomatch z) h
  | @lst a xs ea =>
    cases (show u = Value.ref a from rx)
    obtain ⟨_, _, n, _, h1⟩ := (show ObjOk X.prog X.w H s.heap a (.lst xs) from I.hok a _ ea)
    exact W.kia_one W.kitx_list I.kIn ⟨_, h1, rfl⟩ e (fun z => nomatch z) h
  | @frz a ob xs ea =>
    cases (show u = Value.ref a from rx)
    obtain ⟨_, _, _, n, _, h1⟩ := (show ObjOk X.prog X.w H s.heap a (.frz ob (.lst xs)) from I.hok a _ ea)
    exact W.kia_one W.kitx_list I.kIn ⟨_, h1, rfl⟩ e (fun z => nomatch z) h
  | @tup a xs ea =>
    cases (show u = Value.ref a from rx)
    obtain ⟨_, _, _, p⟩ := (show ObjOk X.prog X.w H s.heap a (.tup xs) from I.hok a _ ea)
    obtain ⟨o, h1, h2, _⟩ := p
    exact W.kia_one W.kitx_tuple I.kIn ⟨o, h1, h2⟩ e (fun z => nomatch z) h
  | @dK a kvs ea =>
    cases (show u = Value.ref a from rx)
    obtain ⟨_, _, vs, _, p⟩ := (show ObjOk X.prog X.w H s.heap a (.dK kvs) from I.hok a _ ea)
    obtain ⟨o, es, ep, h1, h2, _⟩ := p
    exact W.kia_one W.kitx_dict I.kIn ⟨o, h1, h2.1⟩ e (fun z => nomatch z) h
  | @dT a kvs ea =>
    cases (show u = Value.ref a from rx)
    obtain ⟨_, _, xs, _, o, es, ep, h1, h2, _⟩ := (show ObjOk X.prog X.w H s.heap a (.dT kvs) from I.hok a _ ea)
    exact W.kia_one W.kitx_dict I.kIn ⟨o, h1, h2.1⟩ e (fun z => nomatch z) h
  | @ins a C dx fs ea cl ha hn htk hm =>
    cases (show u = Value.ref a from rx)
    obtain ⟨mA, O, _⟩ := ins_get I.hok ea
    obtain ⟨od, J, _⟩ := O.look
    exact W.kia_one (W.kitx_own (cl.get _) cl.hd ha hn htk hm) I.kIn J e (fun z => nomatch z) h
end
end L2

namespace L2
open PySem PySem.Spec PyProof.Rows

/-! ### room -/
structure Room (k : Nat) (A : Around) : Prop where
  hd : A.handled = none
  dp : A.depth + 3 * k + 5 < recursionLimit
  un : A.units + 16 * k + 200 < cLine
  gd : A.guards = some []
theorem Room.mono {j k : Nat} {A : Around} (r : Room k A) (h : j ≤ k) : Room j A := ⟨r.hd, by have := r.dp; omega, by have := r.un; omega, r.gd⟩
theorem Room.deeper {k : Nat} {A : Around} (r : Room (k + 1) A) (env : Env) : Room k (A.deeper env) :=
  ⟨r.hd, by have := r.dp; show A.depth + 1 + 3 * k + 5 < _; omega, by have := r.un; show A.units + 3 + 16 * k + 200 < _; omega, r.gd⟩
theorem Room.depth {k : Nat} {A : Around} (r : Room k A) : A.depth < recursionLimit := by have := r.dp; omega
theorem Room.units {k : Nat} {A : Around} (r : Room k A) : A.units + 64 < cLine := by have := r.un; omega
/-! ### argument lists and displays -/
def tNil : TA := fun _ H Q => Q [] H
def tCons (ta : TE) (tr : TA) : TA := fun σ H Q => ta σ H fun x H1 => tr σ H1 fun xs H2 => Q (x :: xs) H2
section
variable {X : Cx} {e : Expr} {es : List Expr} {te : TE} {t : TA} {pos : Pos}
theorem pa_nil : PA X [] tNil := fun _ _ _ _ H Q I h => Calls.spliced_nil ⟨[], H, I, .nil, h⟩
theorem pa_cons (ha : PE X e te) (hr : PA X es t) (hs : starEach (e :: es) X.env = (false, eval e X.env) :: starEach es X.env := by rfl) : PA X (e :: es) (tCons te t) := by
  intro pos pins s σ H Q I h
  rw [hs]
  show wpAny _ _ (spliced ((false, eval e X.env) :: backTo pos (starEach es X.env))) _ _ s
  refine Calls.spliced_cons (thn (ha pins s σ H _ I h) fun u s1 ⟨x, H1, I1, r1, q1⟩ => ?_)
  exact thn (hr pos pins s1 σ H1 _ I1 q1) fun us s2 ⟨xs, H2, I2, r2, q2⟩ => ⟨x :: xs, H2, I2, .cons r1 r2, q2⟩

/-- a tuple, a list of written items -/
def tTup (t : TA) : TE := fun σ H Q => t σ H fun xs H1 => xs.length ≤ sizeLine ∧ ∀ p, H1 p = none → Q (.ref p) (upd H1 p (.tup xs))
def tLst (t : TA) : TE := fun σ H Q => t σ H fun xs H1 => xs.length ≤ sizeLine ∧ ∀ p, H1 p = none → Q (.ref p) (upd H1 p (.lst xs))
theorem pe_tup {x1} (h : PA X es t) : PE X (.Tuple es x1 pos) (tTup t) := by
  intro pins s σ H Q I hq
  refine wpAny_Tuple_spliced (thn (h pos pins s σ H _ I hq) fun us s1 ⟨xs, H1, I1, r, z, q⟩ => ⟨by rw [← r.length]; exact z, ?_⟩)
  have hf : H1 s1.heap.objs.size = none := I1.hok.fresh (Nat.le_refl _)
  refine ⟨.ref s1.heap.objs.size, upd H1 s1.heap.objs.size (.tup xs), I1.laid (t' := s1.toks) (fun b u e => Heap.get?_push_of_some _ e) (Nat.le_refl _) ?_, rfl, q _ hf⟩
  exact ⟨z, us, r, ⟨_, Heap.get?_push_size _ rfl, rfl, _, rfl⟩⟩
theorem pe_lst (h : PA X es t) : PE X (.List es pos) (tLst t) := by
  intro pins s σ H Q I hq
  refine wpAny_List_spliced (thn (h pos pins s σ H _ I hq) fun us s1 ⟨xs, H1, I1, r, z, q⟩ => ⟨by rw [← r.length]; exact z, ?_⟩)
  have hf : H1 s1.heap.objs.size = none := I1.hok.fresh (Nat.le_refl _)
  refine ⟨.ref s1.heap.objs.size, upd H1 s1.heap.objs.size (.lst xs), I1.laid (t' := s1.toks) (fun b u e => Heap.get?_push_of_some _ e) (Nat.le_refl _) ?_, rfl, q _ hf⟩
  exact ⟨z, us, 0, r, Heap.get?_push_size _ rfl⟩
end

/-! ### what a def promises -/
/-- a def's promise: the bound arguments in the parameters' order, the heap, the wanted end, the wanted exception -/
abbrev Sp := List V → Hp → VK → XK → Prop
/-- how an exception lies behind a call (file 08 gives it): the callers' frames, abstract heap and state ahead of the call, the wish, the exception, the state -/
abbrev CXT := List Env → Hp → Shared → XK → Value → Shared → Prop

/-- the state at a call -/
structure Env0 (P : Program) (w : World) (K : W.Frag) (mg : Str → Option Value) (base : Heap) (A : Around) (outer : List Env) (s : Shared) (H : Hp) : Prop where
  frames : A.frames = some outer
  mod : Mod K mg base
  bs : ∀ b o, base.get? b = some o → s.heap.get? b = some o ∧ H b = none
  bsz : base.objs.size ≤ s.heap.objs.size
  funs : s.heap.FunFrames base outer
  frf : ∀ b ∈ frs outer, H b = none
  hok : HOk P w H s.heap
  bare : AllBare s.gens
/-- a call's end -/
def CE (outer : List Env) (P : Program) (w : World) (H : Hp) (s : Shared) (Q : VK) (u : Value) (s' : Shared) : Prop :=
  ∃ v H', s'.os = s.os ∧ AllBare s'.gens ∧ Un (frs outer) [] H H' s.heap s'.heap ∧ HOk P w H' s'.heap ∧ RelV v u ∧ Q v H'
def CR (CX : CXT) (outer : List Env) (P : Program) (w : World) (H : Hp) (s : Shared) (Q : VK) (E : XK) (r : Result) (s' : Shared) : Prop :=
  match r with
  | .ok (.ret u) => CE outer P w H s Q u s'
  | .ok _ => False
  | .error e => CX outer H s E e s'
structure FnOk (P : Program) (w : World) (K : W.Frag) (mg : Str → Option Value) (base : Heap) (CX : CXT) (k : Nat) (f : Addr) (fd : FuncData) (ps : List Str) (sp : Sp) : Prop where
  len : ∀ vs H Q E, sp vs H Q E → vs.length = ps.length
  run : ∀ (A : Around) (outer : List Env) (s : Shared) (H : Hp) (args : Args) (us : List Value) (vs : List V) (Q : VK) (E : XK), Room k A → Env0 P w K mg base A outer s H → BindsTo s fd args (ps.zip us) → Vals vs us → sp vs H Q E →
    codeAny (model P w) A (.call (.ref f) args) (CR CX outer P w H s Q E) s
section
variable {X : Cx} {pins : List (Addr × Obj)} {σ : St} {H : Hp} {s s' : Shared}
/-- from a body: what a callee wants -/
theorem Inv.env0 (I : Inv X pins σ H s) : Env0 X.prog X.w X.K X.mg X.base X.A X.stack s H :=
  ⟨I.ok.frames, I.ok.mod, I.bs, Nat.le_trans I.ok.bsz I.sz, I.stack, I.stkFree, I.hok, I.bare⟩
/-- behind a call -/
theorem Inv.after {Q : VK} {u : Value} (I : Inv X pins σ H s) (h : CE X.stack X.prog X.w H s Q u s') : EP X pins σ Q u s' := by
  obtain ⟨v, H', os, bare, un, hok, r, q⟩ := h
  obtain ⟨hh, g, d, t, os'⟩ := s'
  obtain rfl : os' = s.os := os
  exact ⟨v, H', I.call (h' := hh) (g' := g) (d' := d) (t' := t) (ch := []) un hok bare (fun b z => absurd z (by simp)), r, q⟩
end

/-! ### calls -/
/-- f(..): the written arguments, then the defaults dvs; E: what is wanted of an exception -/
def tCall (sp : Sp) (dvs : List V) (E : XK) (t : TA) : TE := fun σ H Q => t σ H fun vs H1 => sp (vs ++ dvs) H1 Q E
/-- o.m(..) of an instance of the class at C -/
def tMeth (C : Addr) (m : Str) (sp : Sp) (dvs : List V) (E : XK) (ta : TE) (t : TA) : TE := fun σ H Q => ta σ H fun x H1 => ∃ a dx fs, x = .ref a ∧ H1 a = some (.ins C dx fs) ∧ fs.lookup m = none ∧
  t σ H1 fun vs H2 => sp (x :: (vs ++ dvs)) H2 Q E
/-- C(..): a new instance and its dict, then __init__ -/
def tMake (C : Addr) (sp : Sp) (dvs : List V) (E : XK) (t : TA) : TE := fun σ H Q => t σ H fun vs H1 => ∀ x dx, H1 x = none → H1 dx = none → dx ≠ x →
  sp (.ref x :: (vs ++ dvs)) (upd (upd H1 dx (.own x)) x (.ins C dx [])) (fun v H2 => v = .non ∧ Q (.ref x) H2) E

/-- how the parameters are bound: us the positional arguments, kw the keywords' values by name, ds the defaults that fill up -/
def Binds (K : W.Frag) (fd : FuncData) (ps : List Str) (ds : List Value) : Prop :=
  ∀ (s : Shared) (us : List Value), K.In s.heap → (us ++ ds).length = ps.length → BindsTo s fd ⟨us, []⟩ (ps.zip (us ++ ds))
/-- every parameter is given -/
theorem Binds.all {K : W.Frag} {fd : FuncData} {ps : List Str} (h : ∀ us : List Value, us.length = ps.length → bindArgs fd ⟨us, []⟩ = pure (ps.zip us)) : Binds K fd ps [] := fun s us _ hl => by
  rw [List.append_nil] at hl ⊢
  exact .of_eq (h us hl)

/-- an exception of a callee reaches what this body wants of exceptions -/
def Passes (CX : CXT) (X : Cx) (E : XK) : Prop := ∀ (pins : List (Addr × Obj)) (σ : St) (H : Hp) (s : Shared) (e : Value) (s' : Shared), Inv X pins σ H s → CX X.stack H s E e s' → X.xe e s'

section
variable {X : Cx} {CX : CXT} {k : Nat} {f C : Addr} {fd : FuncData} {ps : List Str} {sp : Sp} {dvs : List V} {ds : List Value} {E : XK} {x m : Str} {p pos apos : Pos} {e o : Expr} {es : List Expr} {ta : TE} {t : TA}

/-- the callee runs -/
theorem run_fn {pins : List (Addr × Obj)} {σ : St} {H : Hp} {s : Shared} {Q : VK} {us : List Value} {vs : List V} (F : FnOk X.prog X.w X.K X.mg X.base CX k f fd ps sp) (hr : Room k X.A) (hb : Binds X.K fd ps ds) (hd : Vals dvs ds) (hx : Passes CX X E)
    (I : Inv X pins σ H s) (r : Vals vs us) (h : sp (vs ++ dvs) H Q E) : wpAny (model X.prog X.w) X.A (call (.ref f) us) (EP X pins σ Q) X.xe s := by
  have r2 : Vals (vs ++ dvs) (us ++ ds) := r.append hd
  have hl : (us ++ ds).length = ps.length := by rw [← r2.length]; exact F.len _ _ _ _ h
  refine wpAny_call (codeAny_mono (F.run X.A X.stack s H ⟨us, []⟩ (us ++ ds) (vs ++ dvs) Q E hr I.env0 (hb s us I.kIn hl) r2 h) fun r s' hq => ?_)
  cases r with
  | error e => exact hx pins σ H s e s' I hq
  | ok fl =>
    cases fl with
    | ret u => exact I.after hq
    | next => exact False.elim hq
    | brk => exact False.elim hq
    | cont => exact False.elim hq

theorem pe_call (F : FnOk X.prog X.w X.K X.mg X.base CX k f fd ps sp) (hr : Room k X.A) (hg : Gl X x) (hm : X.mg x = some (.ref f)) (hk : W.keepIn X.K (.ref f) = true) (hb : Binds X.K fd ps ds) (hd : Vals dvs ds) (hx : Passes CX X E)
    (ha : PA X (e :: es) t) (hdb : (x == ("__debug__" : Str)) = false := by decide) (he : starEach (e :: es) X.env = (false, eval e X.env) :: starEach es X.env := by rfl) (hpl : (backTo pos (starEach es X.env)).any (·.1) = false := by rfl) :
    PE X (.Call (.Name x p) (e :: es) [] pos) (tCall sp dvs E t) := by
  intro pins s σ H Q I h
  refine wpAny_Call_Name_kw (ld_glob I hg hm ?_ hdb)
  refine W.callWith_K (h₀ := X.base) I.ok.mod.kin hk (thn (ha pos pins s σ H _ I h) fun us s1 ⟨vs, H1, I1, r, q⟩ => ⟨I1.kIn, ?_⟩) he hpl
  exact run_fn F hr hb hd hx I1 r q
/-- what a class must have to be made -/
structure Mk (K : W.Frag) (C f : Addr) : Prop where
  makes : W.makesIn K C = true
  init : W.findIn K (.ref C) "__init__" = some (some (.ref f))
  fn : W.isFn K (.ref f) = true
  kp : W.keepIn K (.ref C) = true

end

/-! ### keywords -/
/-- the values of the keywords, from the left -/
def PK (X : Cx) (kws : List Keyword) (t : TA) : Prop :=
  ∀ (pos : Pos) (pins : List (Addr × Obj)) (s : Shared) (σ : St) (H : Hp) (Q : List V → Hp → Prop), Inv X pins σ H s → t σ H Q → wpAny (model X.prog X.w) X.A (evalAll ((backToKw pos (keywordEach kws X.env)).map (·.2))) (AP X pins σ Q) X.xe s
section
variable {X : Cx} {CX : CXT} {k : Nat} {f C : Addr} {fd : FuncData} {ps ks : List Str} {sp : Sp} {E : XK} {x m : Str} {p pos apos kpos : Pos} {e o : Expr} {es : List Expr} {kws : List Keyword} {te ta : TE} {t tk : TA} {nm : Option Str}
/-- how a call with keywords binds: g puts the positional values us and the keywords' values ws (names ks) in the parameters' order, defaults among them -/
structure KBinds (K : W.Frag) (fd : FuncData) (ps ks : List Str) (g : List Value → List Value → List Value) (gV : List V → List V → List V) : Prop where
  to : ∀ (s : Shared) (us ws : List Value), K.In s.heap → (g us ws).length = ps.length → BindsTo s fd ⟨us, ks.zip ws⟩ (ps.zip (g us ws))
  rel : ∀ {vs : List V} {us : List Value} {zs : List V} {ws : List Value}, Vals vs us → Vals zs ws → Vals (gV vs zs) (g us ws)
def tCallK (sp : Sp) (gV : List V → List V → List V) (E : XK) (t tk : TA) : TE := fun σ H Q => t σ H fun vs H1 => tk σ H1 fun zs H2 => sp (gV vs zs) H2 Q E
variable {g : List Value → List Value → List Value} {gV : List V → List V → List V}
end

/-! ### a def's body keeps its promise -/
/-- names: the parameters first -/
structure FnScope (N P : List Str) (sc : Scope) : Prop where
  kind : sc.kind = .function
  co : sc.isCoroutine = false
  gen : sc.isGenerator = false
  nd : N.Nodup
  pre : N.take P.length = P
  par : ∀ x ∈ P, sc.names.lookup x = some .local ∨ sc.names.lookup x = some .cell
  nofree : ∀ y ∈ sc.names, y.2 ≠ .free

theorem bindL_out {kindOf : Str → Option NameKind} {x : Str} : ∀ {binds : List (Str × Value)} {m : Str → Option Value}, (∀ v, (x, v) ∉ binds) → bindL kindOf binds m x = m x
  | [], _, _ => rfl
  | (n, v) :: r, m, h => by
    unfold bindL
    rw [bindL_out fun w hw => h w (List.mem_cons_of_mem _ hw)]
    split
    · have : x ≠ n := by rintro rfl; exact h v List.mem_cons_self
      simp [this]
    · rfl
theorem bindC_out {kindOf : Str → Option NameKind} {x : Str} : ∀ {binds : List (Str × Value)} {m : Str → Option Value}, (∀ v, (x, v) ∉ binds) → bindC kindOf binds m x = m x
  | [], _, _ => rfl
  | (n, v) :: r, m, h => by
    unfold bindC
    rw [bindC_out fun w hw => h w (List.mem_cons_of_mem _ hw)]
    split
    · rfl
    · have : x ≠ n := by rintro rfl; exact h v List.mem_cons_self
      simp [this]
theorem bindL_get {kindOf : Str → Option NameKind} {x : Str} {v : Value} : ∀ {P : List Str} {vs : List Value} {i : Nat} {m : Str → Option Value}, P.Nodup → P[i]? = some x → vs[i]? = some v → kindOf x = some .local →
    bindL kindOf (P.zip vs) m x = some v
  | [], _, _, _, _, h, _, _ => by simp at h
  | _ :: _, [], _, _, _, _, h, _ => by simp at h
  | p :: P, w :: vs, 0, m, nd, h1, h2, hk => by
    simp at h1 h2; subst h1; subst h2
    show bindL kindOf ((p, w) :: P.zip vs) m p = _
    unfold bindL
    rw [bindL_out fun v hv => (List.nodup_cons.mp nd).1 (List.of_mem_zip hv).1, if_pos hk]
    simp
  | p :: P, w :: vs, i + 1, m, nd, h1, h2, hk => by
    show bindL kindOf ((p, w) :: P.zip vs) m x = _
    unfold bindL
    exact bindL_get (i := i) (List.nodup_cons.mp nd).2 (by simpa using h1) (by simpa using h2) hk
theorem bindC_get {kindOf : Str → Option NameKind} {x : Str} {v : Value} : ∀ {P : List Str} {vs : List Value} {i : Nat} {m : Str → Option Value}, P.Nodup → P[i]? = some x → vs[i]? = some v → kindOf x ≠ some .local →
    bindC kindOf (P.zip vs) m x = some v
  | [], _, _, _, _, h, _, _ => by simp at h
  | _ :: _, [], _, _, _, _, h, _ => by simp at h
  | p :: P, w :: vs, 0, m, nd, h1, h2, hk => by
    simp at h1 h2; subst h1; subst h2
    show bindC kindOf ((p, w) :: P.zip vs) m p = _
    unfold bindC
    rw [bindC_out fun v hv => (List.nodup_cons.mp nd).1 (List.of_mem_zip hv).1, if_neg hk]
    simp
  | p :: P, w :: vs, i + 1, m, nd, h1, h2, hk => by
    show bindC kindOf ((p, w) :: P.zip vs) m x = _
    unfold bindC
    exact bindC_get (i := i) (List.nodup_cons.mp nd).2 (by simpa using h1) (by simpa using h2) hk

/-- the names' values at the entry -/
def start (N : List Str) (vs : List V) : St := vs.map some ++ List.replicate (N.length - vs.length) none

/-- the context of a def's body, at its entry; an exception leaves the frame, then lies as CX says -/
def cxOf (CX : CXT) (P : Program) (w : World) (K : W.Frag) (mg : Str → Option Value) (base : Heap) (N : List Str) (qual : Str) (scope : Scope) (f : Addr) (cd : Value) (A : Around) (outer : List Env) (s : Shared) (H : Hp) (E : XK) : Cx where
  prog := P
  w := w
  K := K
  mg := mg
  base := base
  A := A.deeper (envOfC qual scope s.heap.objs.size f cd)
  N := N
  s₀ := s
  H₀ := H
  env := envOfC qual scope s.heap.objs.size f cd
  outer := outer
  stack := envOfC qual scope s.heap.objs.size f cd :: outer
  ex := []
  calm := true
  fn := fun _ => true
  pn := []
  xe := fun e s' => wpAny (model P w) (A.deeper (envOfC qual scope s.heap.objs.size f cd)) (leaving (envOfC qual scope s.heap.objs.size f cd) e) (fun _ s'' => CX outer H s E e s'') (fun e' s'' => CX outer H s E e' s'') s'

theorem cell_has {sc : Scope} {n : Nat} {x : Str} (h : sc.names.lookup x = some .cell) : ∃ c, (cellsFrom n sc.names []).lookup x = some c := by
  have q := W.cellsFrom_some sc.names n [] (.inl h)
  exact Option.isSome_iff_exists.mp q

theorem inv_start {CX : CXT} {P : Program} {w : World} {K : W.Frag} {mg : Str → Option Value} {base : Heap} {N ps : List Str} {qual : Str} {scope : Scope} {f : Addr} {cd : Value} {A : Around} {outer : List Env} {s s1 : Shared} {H : Hp} {E : XK} {us : List Value} {vs : List V}
    (S : FnScope N ps scope) (hd : A.handled = none) (e0 : Env0 P w K mg base A outer s H) (hl : vs.length = ps.length) (r : Vals vs us)
    (x : InCallC s s.heap.objs.size (bindL (envOfC qual scope s.heap.objs.size f cd).kindOf (ps.zip us) fun _ => none) (cellsFrom (s.heap.objs.size + 1) scope.names []) (bindC (envOfC qual scope s.heap.objs.size f cd).kindOf (ps.zip us) fun _ => none) s1) :
    Inv (cxOf CX P w K mg base N qual scope f cd A outer s H E) [] (start N vs) H s1 := by
  have hpl : ps.length ≤ N.length := by have := congrArg List.length S.pre; rw [List.length_take] at this; omega
  obtain ⟨h1, tk, rfl, hk⟩ := x.done
  have noA : ∀ b : Addr, b ∉ (cxOf CX P w K mg base N qual scope f cd A outer s H E).ex := fun b z => absurd (show b ∈ ([] : List Addr) from z) (by simp)
  refine ⟨⟨e0.mod, S.kind, rfl, rfl, Nat.le_refl _, fun y z c h1 h2 => ?_, fun y hy => ?_, fun y c _ h => ?_, fun _ => hd, Around.frames_deeper e0.frames, .inr ⟨rfl, rfl⟩, fun b z => absurd z (noA b), e0.bs, e0.bsz, fun b _ _ => noA b, fun b z => absurd z (noA b), e0.funs, e0.frf⟩,
    rfl, e0.bare, Un.kept hk, ⟨_, x.toInCall.ns, fun i y v h1 h2 h3 => ?_⟩, fun y c h => ⟨_, x.cell y c h⟩, e0.hok.fresh (Nat.le_refl _), fun y c h => ?_, fun p hp => absurd (show p ∈ ([] : List (Addr × Obj)) from hp) (by simp), e0.hok.kept hk, ?_⟩
  · exact name_of_addr x.apart (PySem.mem_of_lookup h1) (PySem.mem_of_lookup h2)
  · have hy : scope.names.lookup y = some .cell ∨ scope.names.lookup y = some .free := hy
    rcases hy with hy | hy
    · exact cell_has hy
    · exact absurd rfl (S.nofree _ (PySem.mem_of_lookup hy))
  · exact Nat.le_of_lt (x.above y c (PySem.mem_of_lookup h))
  · have hi : i < vs.length := by
      unfold start at h2
      by_cases hi : i < vs.length
      · exact hi
      · rw [List.getElem?_append_right (by simpa using hi)] at h2
        rw [List.getElem?_replicate] at h2
        split at h2 <;> cases h2
    have ha : vs[i]? = some v := by
      unfold start at h2
      rw [List.getElem?_append_left (by simpa using hi), List.getElem?_map] at h2
      cases e : vs[i]? with
      | none => rw [e] at h2; cases h2
      | some a => rw [e] at h2; cases h2; rfl
    obtain ⟨u, hu, rv⟩ := r.get ha
    have hp : ps[i]? = some y := by
      rw [← S.pre, List.getElem?_take_of_lt (by omega)]; exact h1
    have ndP : ps.Nodup := by rw [← S.pre]; exact S.nd.sublist (List.take_sublist _ _)
    refine ⟨u, rv, ?_⟩
    rcases S.par y (List.mem_of_getElem? hp) with k | k
    · exact .inl ⟨k, bindL_get ndP hp hu k⟩
    · obtain ⟨c, e⟩ := cell_has (n := s.heap.objs.size + 1) k
      refine .inr ⟨.inl k, c, e, ?_⟩
      have q := x.cell y c e
      rw [bindC_get ndP hp hu (by show scope.names.lookup y ≠ _; rw [k]; decide)] at q
      exact q
  · exact e0.hok.fresh (Nat.le_of_lt (x.above y c (PySem.mem_of_lookup h)))
  · unfold start
    show _ = N.length
    rw [List.length_append, List.length_map, List.length_replicate]
    omega

/-- THE RULE: a def (or a method) of the text, by its body. The body's reading t is chosen for each entry; it is run at the parameters' values -/
theorem fn_of {CX : CXT} {P : Program} {w : World} {K : W.Frag} {mg : Str → Option Value} {base : Heap} {k : Nat} {f : Addr} {name qual : Str} {params : Arguments} {body : List Stmt} {scope : Scope} {dV kV doc pm cdv ct oc : Value} {an od : Option Addr}
    {osl : Array (Option Value)} {N ps : List Str} {sp : Sp} (lk : K.lookup f = some ⟨oc, od, .func (W.fnOf name qual params body scope dV kV doc pm an cdv ct), osl⟩) (hcd : W.codeIn K cdv qual = true) (S : FnScope N ps scope)
    (len : ∀ vs H Q E, sp vs H Q E → vs.length = ps.length)
    (hbody : ∀ (A : Around) (outer : List Env) (s : Shared) (H : Hp) (vs : List V) (Q : VK) (E : XK), Room k (A.deeper (envOfC qual scope s.heap.objs.size f cdv)) → sp vs H Q E →
      ∃ t, PSs (cxOf CX P w K mg base N qual scope f cdv A outer s H E) body t ∧ t { nx := fun _ H' => Q .non H', rt := Q } (start N vs) H) :
    FnOk P w K mg base CX (k + 1) f (W.fnOf name qual params body scope dV kV doc pm an cdv ct) ps sp := by
  refine ⟨len, fun A outer s H args us vs Q E hr e0 hb r hsp => ?_⟩
  have hl := len _ _ _ _ hsp
  have KX : K.In s.heap := e0.mod.kin.keeps fun b o e => (e0.bs b o e).1
  have lim : s.heap.NoLimit := e0.mod.nolimit.keeps fun b o e => (e0.bs b o e).1
  have hkind : ∀ y ∈ ps.zip us, scope.names.lookup y.1 = some .local ∨ (scope.names.lookup y.1 = some .cell ∧ ((cellsFrom (s.heap.objs.size + 1) scope.names []).lookup y.1).isSome = true) := fun ⟨n, v⟩ hy => by
    rcases S.par n (List.of_mem_zip hy).1 with q | q
    · exact .inl q
    · exact .inr ⟨q, W.cellsFrom_some _ _ _ (.inl q)⟩
  refine codeAny_call_function hr.depth (KX _ _ lk) rfl S.co S.gen rfl (W.codeRec_of KX hcd) (hb _ _ _ _ ?_)
  refine wpAny_newFunctionEnv_cells S.kind hkind fun env he s1 x => ?_
  subst he
  refine ⟨lim.keeps x.toInCall.keep, codeAny_func ?_⟩
  obtain ⟨t, ht, hq⟩ := hbody A outer s H vs Q E (hr.deeper _) hsp
  have I : Inv (cxOf CX P w K mg base N qual scope f cdv A outer s H E) [] (start N vs) H s1 := inv_start S hr.hd e0 hl r x
  refine wpAny_mono (ht [] s1 (start N vs) H _ I hq) (fun fl s' hs => ?_) fun e s' hs => hs
  have fin : ∀ {σ' : St} {H' : Hp} {v : V} {u : Value}, Inv (cxOf CX P w K mg base N qual scope f cdv A outer s H E) [] σ' H' s' → RelV v u → Q v H' → CE outer P w H s Q u s' :=
    fun {σ' H' v u} J rv q => ⟨v, H', J.os, J.bare, J.base, J.hok, rv, q⟩
  cases fl with
  | ret u =>
    obtain ⟨v, σ', H', J, rv, q⟩ := hs
    exact fin J rv q
  | next =>
    obtain ⟨σ', H', J, q⟩ := hs
    exact fin (v := V.non) (u := Value.none) J rfl q
  | brk =>
    obtain ⟨_, _, _, q⟩ := hs
    exact False.elim q
  | cont =>
    obtain ⟨_, _, _, q⟩ := hs
    exact False.elim q
end L2

namespace L2
open PySem PySem.Spec PyProof.Rows
section
variable {X : Cx} {x : Str} {p pos : Pos} {e : Expr} {es : List Expr} {t : TA} {id T : String} {r : List V → Hp → VK → Prop}

def tCB (r : List V → Hp → VK → Prop) (t : TA) : TE := fun σ H Q => t σ H fun vs H1 => r vs H1 Q
/-- f(e, ..), f a built-in function -/
theorem pe_callB (hc : CallR X (.builtin id) r) (hg : Gl X x) (hm : X.mg x = none) (hv : bootBuiltins x = some (.builtin id)) (ha : PA X (e :: es) t) (hn : x ≠ "__name__" := by decide) (hdb : (x == ("__debug__" : Str)) = false := by decide)
    (he : starEach (e :: es) X.env = (false, eval e X.env) :: starEach es X.env := by rfl) (hpl : (backTo pos (starEach es X.env)).any (·.1) = false := by rfl) : PE X (.Call (.Name x p) (e :: es) [] pos) (tCB r t) := by
  intro pins s σ H Q I h
  refine wpAny_Call_Name_kw (ld_blt I hg hm hv ?_ hn hdb)
  exact PyProof.Rows.callWith_builtin1 (thn (ha pos pins s σ H _ I h) fun us s1 ⟨vs, H1, I1, r1, q1⟩ => hc pins s1 σ H1 vs us Q I1 r1 q1) he hpl
/-- T(e, ..), T a built-in type -/
theorem pe_callTy (hc : CallR X (.type T) r) (hg : Gl X x) (hm : X.mg x = none) (hv : bootBuiltins x = some (.type T)) (ha : PA X (e :: es) t) (hn : x ≠ "__name__" := by decide) (hdb : (x == ("__debug__" : Str)) = false := by decide)
    (he : starEach (e :: es) X.env = (false, eval e X.env) :: starEach es X.env := by rfl) (hpl : (backTo pos (starEach es X.env)).any (·.1) = false := by rfl) : PE X (.Call (.Name x p) (e :: es) [] pos) (tCB r t) := by
  intro pins s σ H Q I h
  refine wpAny_Call_Name_kw (ld_blt I hg hm hv ?_ hn hdb)
  exact PyProof.Rows.callWith_type1 (thn (ha pos pins s σ H _ I h) fun us s1 ⟨vs, H1, I1, r1, q1⟩ => hc pins s1 σ H1 vs us Q I1 r1 q1) he hpl
end
end L2

namespace HT
open PySem PyProof.Rows

/-- t < u of tuples of ints -/
def lexLt : List Int → List Int → Bool
  | [], [] => false
  | [], _ :: _ => true
  | _ :: _, [] => false
  | x :: xs, y :: ys => if x = y then lexLt xs ys else decide (x < y)
section
open PySem.SeqAt
open PySem.AutoSeq1 (wpAny_loadPart')
open PySem.MeetsSeq PySem.MeetsSeq2 PySem.MeetsSeq3

end

section
variable {prog : Program} {w : World} {A : Around} {E : Value → Shared → Prop} {s : Shared}

/-- t + u, t not empty -/
theorem cat_tup {t b : Addr} {vs ws : List Value} {Q : Value → Shared → Prop} (ht : IsTup s.heap t vs.toArray) (hb : IsTup s.heap b ws.toArray) (hv : vs ≠ [])
    (h1 : ws = [] → Q (.ref t) s) (h2 : ws ≠ [] → Q (.ref s.heap.objs.size) { s with heap := s.heap.push { cls := .type "tuple", data := .seq (vs ++ ws).toArray } })
    (hsz : vs.length + ws.length ≤ sizeLine) : wpAny (model prog w) A (binaryOp .Add (.ref t) (.ref b)) Q E s := by
  obtain ⟨⟨cls, dd, data, sl⟩, ho, hc, n, hd⟩ := id ht
  obtain ⟨⟨cls2, dd2, data2, sl2⟩, ho2, hc2, n2, hd2⟩ := id hb
  simp only at hc hd hc2 hd2
  subst hc hd hc2 hd2
  have e : vs.toArray ++ ws.toArray = (vs ++ ws).toArray := by simp
  by_cases hw : ws = []
  · exact concat_meets ⟨_, ho, rfl⟩ ⟨_, ho2, rfl⟩ noFill_tuple_add seq_tuple_add PySem.F.slot_tuple_add PySem.F.entry_tuple_add (PySem.F.args_tuple_add_2 _ _)
      (tuple_addW1 t b vs.toArray ws.toArray n n2 dd dd2 sl sl2 (by simpa using hv) (by simp [hw])) ⟨ho, ho2, h1 hw⟩
  · refine concat_meets ⟨_, ho, rfl⟩ ⟨_, ho2, rfl⟩ noFill_tuple_add seq_tuple_add PySem.F.slot_tuple_add PySem.F.entry_tuple_add (PySem.F.args_tuple_add_2 _ _)
      (tuple_addW2 t b vs.toArray ws.toArray n n2 dd dd2 sl sl2 (by simpa using hv) (by simpa using hw) (by rw [List.size_toArray, List.size_toArray]; exact hsz)) ⟨ho, ho2, ?_⟩
    rw [e]
    exact h2 hw

/-! ### t[a:b], not the whole -/
/-- a slice's bound as a place among n (d where it is left out) -/
def sIx (n d : Nat) : Option Int → Nat
  | none => d
  | some v => if v < 0 then (v + (n : Int)).toNat else min v.toNat n
theorem sIx_none (n d : Nat) : sIx n d none = d := rfl
theorem sIx_nat (n d k : Nat) : sIx n d (some (k : Int)) = min k n := by
  show (if (k : Int) < 0 then ((k : Int) + (n : Int)).toNat else min (k : Int).toNat n) = min k n
  rw [if_neg (by omega), Int.toNat_natCast]
theorem sIx_le (n d : Nat) (hd : d ≤ n) (o : Option Int) : sIx n d o ≤ n := by
  cases o with
  | none => exact hd
  | some v =>
    show (if v < 0 then (v + (n : Int)).toNat else min v.toNat n) ≤ n
    by_cases hv : v < 0
    · rw [if_pos hv]; omega
    · rw [if_neg hv]; exact Nat.min_le_right _ _
theorem clip_eq (v : Int) (n d : Nat) : (if v < 0 then max (v + (n : Int)) 0 else min v (n : Int)) = ((sIx n d (some v) : Nat) : Int) := by
  show (if v < 0 then max (v + (n : Int)) 0 else min v (n : Int)) = (((if v < 0 then (v + (n : Int)).toNat else min v.toNat n) : Nat) : Int)
  by_cases hv : v < 0
  · simp only [if_pos hv]; omega
  · simp only [if_neg hv]; omega
theorem adjust_gen (lo hi : Option Int) (n : Nat) : Builtin.Slice.sliceAdjust lo hi 1 (n : Int) = (((sIx n 0 lo : Nat) : Int), ((sIx n n hi : Nat) : Int)) := by
  have h1 : ¬ ((1 : Int) < 0) := by omega
  unfold Builtin.Slice.sliceAdjust
  simp only [h1, if_false]
  refine Prod.ext ?_ ?_
  · cases lo with
    | none => rfl
    | some v => exact clip_eq v n 0
  · cases hi with
    | none => rfl
    | some v => exact clip_eq v n n
theorem places_gen (i j : Nat) : Builtin.Slice.slicePlaces (i : Int) (j : Int) 1 = j - i := by
  unfold Builtin.Slice.slicePlaces
  have h1 : (1 : Int) > 0 := by omega
  simp only [h1, if_true, Int.ediv_one]
  split <;> omega
theorem slicePart_ {v : Value} {o : Option Int} {Q : Option Int → Shared → Prop} (p : IsPart v o) (h : Q o s) : wpAny (model prog w) A (Builtin.Slice.slicePartIndex v) Q E s := by
  cases p with
  | none => exact slicePart_none h
  | int i t => exact slicePart_int h
theorem sliceApplied_gen {sl : Addr} {vl vu : Value} {lo hi : Option Int} {n : Nat} {Q : Int × Int × Nat → Shared → Prop} (hs : s.heap.IsSliceOf sl vl vu .none) (pl : IsPart vl lo) (pu : IsPart vu hi)
    (h : Q (((sIx n 0 lo : Nat) : Int), 1, sIx n n hi - sIx n 0 lo) s) : wpAny (model prog w) A (Builtin.Slice.sliceApplied (.ref sl) (pure (n : Int))) Q E s := by
  obtain ⟨os, hos, hcs, hds⟩ := id hs
  unfold Builtin.Slice.sliceApplied Builtin.Slice.sliceFields
  refine wpAny_bind (wpAny_bind (wpAny_field hos hds (x := vl) rfl (wpAny_bind (wpAny_field hos hds (x := vu) rfl (wpAny_bind (wpAny_field hos hds (x := .none) rfl (wpAny_pure ?_)))))))
  refine wpAny_bind (slicePart_none ?_)
  show wpAny _ _ (if ((1 : Int) == 0) = true then _ else _) _ _ s
  rw [if_neg (by decide)]
  refine wpAny_bind (slicePart_ pl (wpAny_bind (slicePart_ pu (wpAny_bind (wpAny_pure ?_)))))
  show wpAny _ _ (match Builtin.Slice.sliceAdjust lo hi 1 (n : Int) with | (lo, hi) => pure (lo, (1 : Int), Builtin.Slice.slicePlaces lo hi 1)) _ _ s
  rw [adjust_gen lo hi n]
  show wpAny _ _ (pure (((sIx n 0 lo : Nat) : Int), (1 : Int), Builtin.Slice.slicePlaces ((sIx n 0 lo : Nat) : Int) ((sIx n n hi : Nat) : Int) 1)) _ _ s
  rw [places_gen]
  exact wpAny_pure h
theorem pick_gen (xs : Array Value) (i k : Nat) : ((List.range k).filterMap fun (m : Nat) => xs[((i : Int) + (m : Int) * 1).toNat]?).toArray = ((xs.toList.drop i).take k).toArray := by
  have e : (fun (m : Nat) => xs[((i : Int) + (m : Int) * 1).toNat]?) = fun m => xs[i + m]? := by
    funext m
    have : ((i : Int) + (m : Int) * 1).toNat = i + m := by omega
    rw [this]
  rw [e]
  have := pick_run xs i k
  rw [List.filterMap_map] at this
  have e2 : ((fun x => xs[x]?) ∘ fun x => i + x) = fun m => xs[i + m]? := rfl
  rw [e2] at this
  rw [this]

theorem getItem_tuple_cut {t sl : Addr} {items : Array Value} {vl vu : Value} {lo hi : Option Int} {Q : Value → Shared → Prop} (ht : IsTup s.heap t items) (hs : s.heap.IsSliceOf sl vl vu .none) (pl : IsPart vl lo) (pu : IsPart vu hi)
    (hw : ¬ (sIx items.size 0 lo = 0 ∧ sIx items.size items.size hi = items.size))
    (h : Q (.ref s.heap.objs.size) { s with heap := s.heap.push { cls := .type "tuple", data := .seq ((items.toList.drop (sIx items.size 0 lo)).take (sIx items.size items.size hi - sIx items.size 0 lo)).toArray } })
    (hsz : items.size ≤ sizeLine) : wpAny (model prog w) A (getItem (.ref t) (.ref sl)) Q E s := by
  have htake : sizeOk (.seq ((items.toList.drop (sIx items.size 0 lo)).take (sIx items.size items.size hi - sIx items.size 0 lo)).toArray) := by
    show ((items.toList.drop (sIx items.size 0 lo)).take (sIx items.size items.size hi - sIx items.size 0 lo)).toArray.size ≤ sizeLine
    rw [List.size_toArray, List.length_take, List.length_drop, Array.length_toList]
    omega
  have hj : sIx items.size items.size hi ≤ items.size := sIx_le _ _ (Nat.le_refl _) hi
  obtain ⟨os, hos, hcs, hds⟩ := id hs
  have hTs : s.TypeIs (.ref sl) "slice" := ⟨os, hos, hcs⟩
  unfold getItem
  try with_reducible refine wpAny_holding ?_
  first | refine wpAny_bind (wpAny_pure ?_) | skip
  refine wpAny_bind (wpAny_sequenceKey ht.typeIs (by decide) ?_)
  refine wpAny_bind (wpAny_callSpecial?_slot (name := Str.ofString "__getitem__") ht.typeIs PyProof.Rows.slot_tuple_getitem
    (wpAny_call_entry PyProof.Rows.slot_tuple_getitem ht.typeIs entry_tuple_getitem ?_ (args_tuple_getitem _ _)))
  show wpAny _ _ (Builtin.Tuple.tupleItemsOf (.ref t) >>= _) _ _ s
  refine wpAny_bind (tupleItemsOf_ ht ?_)
  refine wpAny_bind (wpAny_typeOf hTs ?_)
  rw [if_pos (by decide)]
  refine wpAny_bind (sliceApplied_gen hs pl pu ?_)
  have hno : ¬ ((((sIx items.size 0 lo : Nat) : Int) == 0 && (1 : Int) == 1 && (sIx items.size items.size hi - sIx items.size 0 lo) == items.size) = true) := by
    intro q
    rw [Bool.and_eq_true, Bool.and_eq_true] at q
    have q1 : ((sIx items.size 0 lo : Nat) : Int) = 0 := eq_of_beq q.1.1
    have q2 : sIx items.size items.size hi - sIx items.size 0 lo = items.size := eq_of_beq q.2
    exact hw ⟨by omega, by omega⟩
  show wpAny _ _ (if (((sIx items.size 0 lo : Nat) : Int) == 0 && (1 : Int) == 1 && (sIx items.size items.size hi - sIx items.size 0 lo) == items.size) = true then _ else _) _ _ s
  rw [if_neg hno, pick_gen]
  first
    | exact wpAny_bind (m := Builtin.Tuple.tupleExact _) (wpAny_newObj_type (wpAny_pure ⟨_, rfl, wpAny_pure h⟩) htake)
    | exact wpAny_bind (m := Builtin.Tuple.tupleExact _) (wpAny_newObj_type (wpAny_bind (wpAny_pure (wpAny_pure ⟨_, rfl, wpAny_pure h⟩))) htake)
    | exact wpAny_bind (wpAny_bind (m := Builtin.Tuple.tupleExact _) (wpAny_newObj_type (wpAny_pure (wpAny_pure ⟨_, rfl, wpAny_pure h⟩)) htake))
    | exact wpAny_bind (wpAny_bind (m := Builtin.Tuple.tupleExact _) (wpAny_newObj_type (wpAny_pure ⟨_, rfl, wpAny_pure h⟩) htake))
end
end HT

namespace L2
open PySem PySem.Spec PyProof.Rows

/-! ### the parts of a slice -/
abbrev TO := St → Hp → (Option Int → Hp → Prop) → Prop
/-- a slice's part (left out, or an int) -/
def PO (X : Cx) (e : Option Expr) (t : TO) : Prop :=
  ∀ (pins : List (Addr × Obj)) (s : Shared) (σ : St) (H : Hp) (Q : Option Int → Hp → Prop), Inv X pins σ H s → t σ H Q →
    wpAny (model X.prog X.w) X.A (evalPart e X.env) (fun u s' => ∃ o H', Inv X pins σ H' s' ∧ IsPart u o ∧ Q o H') X.xe s
def tNoPart : TO := fun _ H Q => Q none H
def tPart (t : TE) : TO := fun σ H Q => t σ H fun x H1 => ∃ i, x = .int i ∧ Q (some i) H1

section
variable {X : Cx} {e : Expr} {te : TE} {lo hi : Option Expr} {tl th : TO} {pos p2 : Pos}

theorem po_none : PO X none tNoPart := by
  intro pins s σ H Q I h
  rw [evalPart_none]
  exact wpAny_pure ⟨none, H, I, .none, h⟩
theorem po_some (h : PE X e te) : PO X (some e) (tPart te) := by
  intro pins s σ H Q I hw
  rw [evalPart_some]
  refine thn (h pins s σ H _ I hw) fun u s1 ⟨x, H1, I1, r1, q1⟩ => ?_
  obtain ⟨i, rfl, q⟩ := q1
  obtain ⟨t, rfl⟩ := r1
  exact ⟨some i, H1, I1, .int i t, q⟩

/-- what a slice of a value is, by values: the slice object stands at sl -/
def SlR (X : Cx) (r : V → Option Int → Option Int → Hp → VK → Prop) : Prop :=
  ∀ (pins : List (Addr × Obj)) (s : Shared) (σ : St) (H : Hp) (x : V) (v vl vu : Value) (lo hi : Option Int) (sl : Addr) (Q : VK), Inv X pins σ H s → RelV x v → s.heap.IsSliceOf sl vl vu .none → IsPart vl lo → IsPart vu hi → r x lo hi H Q →
    ∃ T id, typeLookup (.type T) "__getitem__" = pure (some (.builtin id)) ∧ s.TypeIs v T ∧ wpAny (model X.prog X.w) X.A (getItem v (.ref sl)) (EP X pins σ Q) X.xe s
def tSl (r : V → Option Int → Option Int → Hp → VK → Prop) (te : TE) (tl th : TO) : TE := fun σ H Q => te σ H fun x H1 => tl σ H1 fun l H2 => th σ H2 fun u H3 => r x l u H3 Q
/-- a[lo:hi], any a -/
theorem pe_slice {r : V → Option Int → Option Int → Hp → VK → Prop} (hr : SlR X r) (he : PE X e te) (hl : PO X lo tl) (hu : PO X hi th) : PE X (.Subscript e (.Slice lo hi none p2) pos) (tSl r te tl th) := by
  intro pins s σ H Q I h
  refine Subscript_ (thn (he pins s σ H _ I h) fun v s1 ⟨x, H1, I1, r1, q1⟩ => ?_)
  refine wpAny_Slice (thn (hl pins s1 σ H1 _ I1 q1) fun vl s2 ⟨l, H2, I2, pl, q2⟩ => thn (hu pins s2 σ H2 _ I2 q2) fun vu s3 ⟨u, H3, I3, pu, q3⟩ => ?_)
  rw [evalPart_none]
  refine wpAny_pure ?_
  have I4 : Inv X pins σ H3 { s3 with heap := s3.heap.push { cls := .type "slice", data := .fields #[vl, vu, .none] } } := I3.kept (t' := s3.toks) fun b ob q => Heap.get?_push_of_some _ q
  obtain ⟨T, id, hT, ht, hg⟩ := hr pins { s3 with heap := s3.heap.push { cls := .type "slice", data := .fields #[vl, vu, .none] } } σ H3 x v vl vu l u s3.heap.objs.size Q I4 r1 (Heap.IsSliceOf.new ..) pl pu q3
  show wpAny (model X.prog X.w) X.A (subscriptTail e (.Slice lo hi none p2) v (.ref s3.heap.objs.size)) (EP X pins σ Q) X.xe { s3 with heap := s3.heap.push { cls := .type "slice", data := .fields #[vl, vu, .none] } }
  exact tail_any (ops := [.ref s3.heap.objs.size, v]) ht hT hg (by with_unfolding_all rfl)

/-- the items of xs[lo:hi] -/
def cutV (xs : List V) (lo hi : Option Int) : List V := (xs.drop (HT.sIx xs.length 0 lo)).take (HT.sIx xs.length xs.length hi - HT.sIx xs.length 0 lo)
theorem cutV_length (xs : List V) (lo hi : Option Int) : (cutV xs lo hi).length ≤ xs.length := by
  unfold cutV
  rw [List.length_take, List.length_drop]
  omega
/-- t[lo:hi], not the whole of it (the whole would be t itself) -/
def rSlT (K : W.Frag) : V → Option Int → Option Int → Hp → VK → Prop := fun x lo hi H Q => ∃ a xs, x = .ref a ∧ SqT K H a xs ∧
  ¬ (HT.sIx xs.length 0 lo = 0 ∧ HT.sIx xs.length xs.length hi = xs.length) ∧ ∀ p, H p = none → Q (.ref p) (upd H p (.tup (cutV xs lo hi)))
theorem sl_tup : SlR X (rSlT X.K) := by
  intro pins s σ H x v vl vu lo hi sl Q I rx hs pl pu h
  obtain ⟨a, xs, rfl, hx, hw, q⟩ := h
  cases rx
  obtain ⟨its, r, ht, hz⟩ := I.tuple hx
  have hlen : its.toArray.size = xs.length := by rw [List.size_toArray]; exact r.length.symm
  refine ⟨"tuple", _, PyProof.Rows.slot_tuple_getitem.lookup, ht.typeIs, ?_⟩
  refine HT.getItem_tuple_cut ht hs pl pu (by rw [hlen]; exact hw) ?_ (by rw [hlen]; exact hz)
  rw [hlen]
  refine ⟨.ref s.heap.objs.size, _, I.laid (t' := s.toks) (o := .tup (cutV xs lo hi)) (fun b ob q => Heap.get?_push_of_some _ q) (Nat.le_refl _) ?_, rfl, q _ (I.hok.fresh (Nat.le_refl _))⟩
  exact ⟨Nat.le_trans (cutV_length xs lo hi) hz, _, (r.drop (HT.sIx xs.length 0 lo)).take (HT.sIx xs.length xs.length hi - HT.sIx xs.length 0 lo), IsTup.new _ _⟩

/-! ### t < u, t + u -/
def rLtT (K : W.Frag) : R2 := fun x y H Q => ∃ a b ns ms, x = .ref a ∧ y = .ref b ∧ SqT K H a (ns.map V.int) ∧ SqT K H b (ms.map V.int) ∧ Q (.bl (HT.lexLt ns ms)) H
/-- t + u, t not empty: u empty gives t itself -/
def rCatT (K : W.Frag) : R2 := fun x y H Q => ∃ a b xs ys, x = .ref a ∧ y = .ref b ∧ SqT K H a xs ∧ SqT K H b ys ∧ xs ≠ [] ∧ xs.length + ys.length ≤ sizeLine ∧
  (ys = [] → Q (.ref a) H) ∧ (ys ≠ [] → ∀ p, H p = none → Q (.ref p) (upd H p (.tup (xs ++ ys))))
theorem Vals.nil_iff {xs : List V} {us : List Value} (r : Vals xs us) : us = [] ↔ xs = [] := by
  cases r with
  | nil => simp
  | cons _ _ => simp
theorem op_catT : OpR X (binaryOp .Add) (rCatT X.K) := by
  intro pins s σ H x y v u Q I rx ry h
  obtain ⟨a, b, xs, ys, rfl, rfl, ha, hb, hx, hz, q1, q2⟩ := h
  cases rx
  cases ry
  obtain ⟨its, r1, p1, _⟩ := I.tuple ha
  obtain ⟨its2, r2, p2, _⟩ := I.tuple hb
  refine HT.cat_tup p1 p2 (fun z => hx (r1.nil_iff.mp z)) (fun z => ⟨.ref a, H, I, rfl, q1 (r2.nil_iff.mp z)⟩) (fun z => ?_) (by rw [← r1.length, ← r2.length]; exact hz)
  refine ⟨.ref s.heap.objs.size, _, I.laid (t' := s.toks) (o := .tup (xs ++ ys)) (fun b ob q => Heap.get?_push_of_some _ q) (Nat.le_refl _) ?_, rfl, q2 (fun w => z (r2.nil_iff.mpr w)) _ (I.hok.fresh (Nat.le_refl _))⟩
  exact ⟨by rw [List.length_append]; exact hz, _, r1.append r2, IsTup.new _ _⟩
end
end L2

namespace L2
open PySem PySem.Spec PyProof.Rows

/-! ### places -/
/-- the place that an index of any sign means -/
def ixN (n : Nat) (i : Int) : Option Nat := if 0 ≤ i then (if i < n then some i.toNat else none) else if -(n : Int) ≤ i then some (i + n).toNat else none
def atI {α : Type} (xs : List α) (i : Int) : Option α := (ixN xs.length i).bind fun j => xs[j]?
theorem ixN_seq {n : Nat} {i : Int} {j : Nat} (h : ixN n i = some j) : seqIndex? i n = some j ∧ j < n ∧ -(n : Int) ≤ i ∧ i < n := by
  unfold ixN at h
  by_cases h0 : 0 ≤ i
  · rw [if_pos h0] at h
    by_cases h1 : i < n
    · rw [if_pos h1] at h
      have e : i.toNat = j := Option.some.inj h
      exact ⟨by rw [seqIndex_of h0 h1, e], by omega, by omega, h1⟩
    · rw [if_neg h1] at h; cases h
  · rw [if_neg h0] at h
    by_cases h1 : -(n : Int) ≤ i
    · rw [if_pos h1] at h
      have e : (i + n).toNat = j := Option.some.inj h
      exact ⟨by rw [seqIndex_neg (by omega) h1, e], by omega, h1, by omega⟩
    · rw [if_neg h1] at h; cases h
theorem atI_get {α : Type} {xs : List α} {i : Int} {v : α} (h : atI xs i = some v) : ∃ j, seqIndex? i xs.length = some j ∧ xs[j]? = some v ∧ j < xs.length ∧ -(xs.length : Int) ≤ i ∧ i < xs.length := by
  unfold atI at h
  cases e : ixN xs.length i with
  | none => rw [e] at h; cases h
  | some j =>
    rw [e] at h
    obtain ⟨h1, h2, h3, h4⟩ := ixN_seq e
    exact ⟨j, h1, h, h2, h3, h4⟩
theorem atI_nat {α : Type} {xs : List α} {j : Nat} {v : α} (h : xs[j]? = some v) : atI xs (j : Int) = some v := by
  have hj : j < xs.length := (List.getElem?_eq_some_iff.mp h).1
  have e : ixN xs.length (j : Int) = some j := by
    unfold ixN
    rw [if_pos (by omega), if_pos (by omega)]; simp
  unfold atI; rw [e]; exact h
theorem atI_last {α : Type} (xs : List α) (v : α) : atI (xs ++ [v]) (-1) = some v := by
  have hl : (xs ++ [v]).length = xs.length + 1 := by simp
  have e : ixN (xs ++ [v]).length (-1) = some xs.length := by
    unfold ixN
    rw [hl, if_neg (by decide), if_pos (by omega)]
    congr 1
    omega
  unfold atI
  rw [e]
  show (xs ++ [v])[xs.length]? = some v
  simp

/-! ### what may be subscripted -/
/-- what stands as an index of a plain subscript -/
def PlainIx (b : Expr) : Prop := ∀ o i, subscripted b false o i = operate [o, i] (getItem o i)
/-- a subscript by values -/
def IxR (X : Cx) (r : R2) : Prop :=
  ∀ (value slice : Expr) (pins : List (Addr × Obj)) (s : Shared) (σ : St) (H : Hp) (x y : V) (v u : Value) (Q : VK), Inv X pins σ H s → RelV x v → RelV y u → r x y H Q →
    subscripted slice false v u = operate [v, u] (getItem v u) → wpAny (model X.prog X.w) X.A (subscriptTail value slice v u) (EP X pins σ Q) X.xe s
/-- a call of a builtin's method by values: the receiver, the arguments -/
def MtR (X : Cx) (id : String) (r : V → List V → Hp → VK → Prop) : Prop :=
  ∀ (pins : List (Addr × Obj)) (s : Shared) (σ : St) (H : Hp) (x : V) (xs : List V) (v : Value) (us : List Value) (Q : VK), Inv X pins σ H s → RelV x v → Vals xs us → r x xs H Q →
    wpAny (model X.prog X.w) X.A (call (.builtin id) (v :: us)) (EP X pins σ Q) X.xe s
section
variable {X : Cx} {a b : Expr} {ta tb : TE} {pos : Pos}
/-- a[b] -/
theorem pe_ix {r : R2} (hr : IxR X r) (ha : PE X a ta) (hb : PE X b tb) (hs : PlainIx b) : PE X (.Subscript a b pos) (tOp r ta tb) := by
  intro pins s σ H Q I h
  exact Subscript_ (binT ha hb I h fun v u s2 x y H2 I2 rx ry q => hr a b pins s2 σ H2 x y v u Q I2 rx ry q (hs _ _))

def rIxL (K : W.Frag) : R2 := fun x y H Q => ∃ p xs i v, x = .ref p ∧ y = .int i ∧ SqL K H p xs ∧ atI xs i = some v ∧ Q v H
def rIxT (K : W.Frag) : R2 := fun x y H Q => ∃ p xs i v, x = .ref p ∧ y = .int i ∧ SqT K H p xs ∧ atI xs i = some v ∧ Q v H
def rIxS : R2 := fun x y H Q => ∃ z i c, x = .str z ∧ y = .int i ∧ z.length ≤ sizeLine ∧ atI z.cps.toList i = some c ∧ Q (.str ⟨#[c]⟩) H
theorem ix_list : IxR X (rIxL X.K) := by
  intro value slice pins s σ H x y v u Q I rx ry h hs
  obtain ⟨p, xs, i, z, rfl, rfl, hq, he, q⟩ := h
  cases rx
  obtain ⟨t, rfl⟩ := ry
  obtain ⟨its, r, pl, hz⟩ := I.list hq
  obtain ⟨j, h1, h2, h3, h4, h5⟩ := atI_get he
  obtain ⟨w, ew, rw'⟩ := r.get h2
  have hl := r.length
  have hn := line63
  have fin : EP X pins σ Q w s := ⟨z, H, I, rw', q⟩
  by_cases h0 : 0 ≤ i
  · have hj : i.toNat = j := by
      rw [seqIndex_of h0 h5] at h1
      exact Option.some.inj h1
    exact item_listR pl.isList h0 (by omega) (by rw [hj]; simpa using ew) fin hs
  · have hj : (i + (its.toArray.size : Int)).toNat = j := by
      rw [seqIndex_neg (by omega) h4] at h1
      rw [List.size_toArray, ← hl]
      exact Option.some.inj h1
    exact subscriptTail_builtinR (x := w) pl.isList.typeIs slot_list_getitem.lookup
      (wpAny_getItem_list_neg (Q := fun r s' => r = w ∧ EP X pins σ Q r s') pl.isList (by omega) (by rw [List.size_toArray] <;> omega) (by omega) (by rw [hj]; simpa using ew) ⟨rfl, fin⟩) hs
theorem ix_tup : IxR X (rIxT X.K) := by
  intro value slice pins s σ H x y v u Q I rx ry h hs
  obtain ⟨p, xs, i, z, rfl, rfl, hq, he, q⟩ := h
  cases rx
  obtain ⟨t, rfl⟩ := ry
  obtain ⟨its, r, pl, hz⟩ := I.tuple hq
  obtain ⟨j, h1, h2, h3, h4, h5⟩ := atI_get he
  obtain ⟨w, ew, rw'⟩ := r.get h2
  have hl := r.length
  have hn := line63
  have fin : EP X pins σ Q w s := ⟨z, H, I, rw', q⟩
  exact subscriptTail_builtinR (x := w) pl.typeIs slot_tuple_getitem.lookup
    (getItem_tuple (j := j) (Q := fun r s' => r = w ∧ EP X pins σ Q r s') pl (by omega) (by omega) (by rw [List.size_toArray, ← hl]; exact h1) (by simpa using ew) ⟨rfl, fin⟩) hs
theorem ix_str : IxR X rIxS := by
  intro value slice pins s σ H x y v u Q I rx ry h hs
  obtain ⟨z, i, c, rfl, rfl, hz, he, q⟩ := h
  obtain ⟨t, rfl⟩ := rx
  obtain ⟨t', rfl⟩ := ry
  obtain ⟨j, h1, h2, h3, h4, h5⟩ := atI_get he
  have hl : z.cps.toList.length = z.length := by simp [Str.length]
  rw [hl] at h1 h4 h5
  have hn := line63
  exact tail_any (typeIs_str s z t) slot_str_getitem.lookup (getItem_str (c := c) (by
    have e1 : decide (i < -(2 ^ 63 : Int)) = false := decide_eq_false (by omega)
    have e2 : decide (i ≥ 2 ^ 63) = false := decide_eq_false (by omega)
    rw [e1, e2, Bool.or_false]) (by rw [h1]; simpa using h2) ⟨.str ⟨#[c]⟩, H, I.tok _, ⟨_, rfl⟩, q⟩) hs
/-- list, tuple or str -/
def rIx (K : W.Frag) : R2 := fun x y H Q => rIxL K x y H Q ∨ rIxT K x y H Q ∨ rIxS x y H Q
/-! ### xs[i] = v, any sign -/
/-- the list's object behind a store -/
theorem mapSeq_set (its : List Value) (n j : Nat) (u : Value) : Obj.mapSeq (·.setIfInBounds j u) { cls := .type "list", data := .seq its.toArray n } = { cls := .type "list", data := .seq (its.set j u).toArray n } := by
  simp [Obj.mapSeq]
theorem Inv.lst {pins : List (Addr × Obj)} {σ : St} {H : Hp} {s : Shared} {p : Addr} {xs : List V} (I : Inv X pins σ H s) (h : H p = some (.lst xs)) :
    ∃ (its : List Value) (n : Nat), Vals xs its ∧ s.heap.get? p = some { cls := .type "list", data := .seq its.toArray n } ∧ xs.length ≤ sizeLine := by
  obtain ⟨z, its, n, r, e⟩ := I.hok p _ h
  exact ⟨its, n, r, e, z⟩
/-- the list at p is written by an update of its object -/
theorem Inv.lstUpd {pins : List (Addr × Obj)} {σ : St} {H : Hp} {s : Shared} {p : Addr} {xs ys : List V} {its its' : List Value} {n n' : Nat} {f : Obj → Obj} (I : Inv X pins σ H s) (h : H p = some (.lst xs))
    (ho : s.heap.get? p = some { cls := .type "list", data := .seq its.toArray n }) (hf : f { cls := .type "list", data := .seq its.toArray n } = { cls := .type "list", data := .seq its'.toArray n' }) (r : Vals ys its') (hz : ys.length ≤ sizeLine) (t : Nat) :
    Inv X pins σ (upd H p (.lst ys)) { s with heap := s.heap.update p f, toks := t } := by
  have e : (s.heap.update p f).get? p = some { cls := .type "list", data := .seq its'.toArray n' } := by
    rw [Heap.get?_update_self f ho (by rw [hf] <;> rfl), hf]
  refine I.write (x := p) (e := p) (by rw [h]; trivial) (.inl rfl) (fun b u hb q => (Heap.get?_update_other _ _ (Ne.symm hb)).trans q) ⟨_, e⟩ ?_
  exact ⟨hz, its', n', r, e⟩
def rSetL : V → V → V → Hp → (Hp → Prop) → Prop := fun o i v H Q => ∃ p xs k j, o = .ref p ∧ i = .int k ∧ H p = some (.lst xs) ∧ ixN xs.length k = some j ∧ Q (upd H p (.lst (xs.set j v)))
theorem set_list : PSet X rSetL := by
  intro pins s σ H o i v ov iv u Q I ro ri rv h
  obtain ⟨p, xs, k, j, rfl, rfl, hp, hj, q⟩ := h
  cases ro
  obtain ⟨t, rfl⟩ := ri
  obtain ⟨its, n, r, ho, hz⟩ := I.lst hp
  obtain ⟨h1, h2, h3, h4⟩ := ixN_seq hj
  have hl := r.length
  have hn := line63
  have I' : Inv X pins σ (upd H p (.lst (xs.set j v))) { s with heap := s.heap.update p (Obj.mapSeq (·.setIfInBounds j u)) } :=
    I.lstUpd hp ho (mapSeq_set its n j u) (r.set rv j) (by rw [List.length_set]; exact hz) s.toks
  by_cases h0 : 0 ≤ k
  · have hk : k.toNat = j := by
      rw [seqIndex_of h0 h4] at h1
      exact Option.some.inj h1
    exact W.ki_setAt ho h0 (by omega) (by rw [List.size_toArray, ← hl]; exact h4) (by rw [hk]; exact ⟨_, I', q⟩)
  · have hk : (k + (its.toArray.size : Int)).toNat = j := by
      rw [seqIndex_neg (by omega) h3] at h1
      rw [List.size_toArray, ← hl]
      exact Option.some.inj h1
    exact W.ki_setBack ho (by omega) (by rw [List.size_toArray, ← hl]; exact h3) (by omega) (by rw [hk]; exact ⟨_, I', q⟩)

/-! ### slices -/
theorem slice_bounds (lo hi : Option Int) (n : Nat) : (sliceBounds lo hi none n).1 = ((HT.sIx n 0 lo : Nat) : Int) ∧ (sliceBounds lo hi none n).2.1 = ((HT.sIx n n hi : Nat) : Int) ∧ (sliceBounds lo hi none n).2.2 = 1 := by
  refine ⟨?_, ?_, rfl⟩
  · cases lo with
    | none => simp [sliceBounds, HT.sIx]
    | some i =>
      simp only [sliceBounds, HT.sIx, Option.getD_none, show (1 : Int) > 0 by decide, if_true]
      by_cases h : i < 0
      · simp only [h, if_true] <;> omega
      · simp only [h, if_false] <;> omega
  · cases hi with
    | none => simp [sliceBounds, HT.sIx]
    | some i =>
      simp only [sliceBounds, HT.sIx, Option.getD_none, show (1 : Int) > 0 by decide, if_true]
      by_cases h : i < 0
      · simp only [h, if_true] <;> omega
      · simp only [h, if_false] <;> omega
theorem slicePick_cut (its : List Value) (lo hi : Option Int) : slicePick its.toArray lo hi none = ((its.drop (HT.sIx its.length 0 lo)).take (HT.sIx its.length its.length hi - HT.sIx its.length 0 lo)).toArray := by
  obtain ⟨h1, h2, h3⟩ := slice_bounds lo hi its.toArray.size
  unfold slicePick
  rw [h1, h2, h3]
  simp only [sliceRange_one, pick_run, List.size_toArray] <;> rfl
/-- xs[lo:hi] of a list: a new list -/
def rSlL (K : W.Frag) : V → Option Int → Option Int → Hp → VK → Prop := fun x lo hi H Q => ∃ a xs, x = .ref a ∧ SqL K H a xs ∧ ∀ p, H p = none → Q (.ref p) (upd H p (.lst (cutV xs lo hi)))
theorem sl_list : SlR X (rSlL X.K) := by
  intro pins s σ H x v vl vu lo hi sl Q I rx hs pl pu h
  obtain ⟨a, xs, rfl, hx, q⟩ := h
  cases rx
  obtain ⟨its, r, ht, hz⟩ := I.list hx
  have hlen := r.length
  refine ⟨"list", _, slot_list_getitem.lookup, ht.isList.typeIs, ?_⟩
  refine wpAny_getItem_list_slice ht.isList hs pl pu .none (by simp) ?_ (by rw [List.size_toArray] <;> omega)
  rw [slicePick_cut, ← hlen]
  refine ⟨.ref s.heap.objs.size, _, I.laid (t' := s.toks) (o := .lst (cutV xs lo hi)) (fun b ob q => Heap.get?_push_of_some _ q) (Nat.le_refl _) ?_, rfl, q _ (I.hok.fresh (Nat.le_refl _))⟩
  exact ⟨Nat.le_trans (cutV_length xs lo hi) hz, _, 0, (r.drop (HT.sIx xs.length 0 lo)).take (HT.sIx xs.length xs.length hi - HT.sIx xs.length 0 lo), Heap.get?_push_size _ rfl⟩

/-! ### in, not in: flat items -/
def flatV : V → Bool
  | .non => true
  | .bl _ => true
  | .int _ => true
  | .str _ => true
  | _ => false
/-- == of flat values -/
def eqV : V → V → Bool
  | .non, .non => true
  | .bl a, .bl b => a == b
  | .bl a, .int b => (if a then 1 else 0) == b
  | .int a, .bl b => a == (if b then 1 else 0)
  | .int a, .int b => a == b
  | .str a, .str b => a == b
  | _, _ => false
theorem eqAt_V {A : Around} {s : Shared} {y x : V} {u v : Value} (ry : RelV y u) (rx : RelV x v) (fy : flatV y = true) (fx : flatV x = true) : SeqAt.EqAt A s u v (eqV y x) := by
  cases y with
  | non =>
    cases ry
    cases x with
    | non => cases rx; exact SeqAt.EqAt.same _
    | bl b => cases rx; exact SeqAt.EqAt.none_bool b
    | int b => obtain ⟨t, rfl⟩ := rx; exact SeqAt.EqAt.none_int b t
    | str b => obtain ⟨t, rfl⟩ := rx; exact SeqAt.EqAt.none_str b t
    | _ => exact absurd (show false = true from fx) Bool.false_ne_true
  | bl a =>
    cases ry
    cases x with
    | non => cases rx; exact SeqAt.EqAt.bool_none a
    | bl b => cases rx; exact SeqAt.EqAt.bool_bool a b
    | int b => obtain ⟨t, rfl⟩ := rx; exact SeqAt.EqAt.bool_int a b t
    | str b => obtain ⟨t, rfl⟩ := rx; exact SeqAt.EqAt.bool_str a b t
    | _ => exact absurd (show false = true from fx) Bool.false_ne_true
  | int a =>
    obtain ⟨t', rfl⟩ := ry
    cases x with
    | non => cases rx; exact SeqAt.EqAt.int_none a t'
    | bl b => cases rx; exact SeqAt.EqAt.int_bool a t' b
    | int b => obtain ⟨t, rfl⟩ := rx; exact SeqAt.EqAt.int_int a t' b t
    | str b => obtain ⟨t, rfl⟩ := rx; exact SeqAt.EqAt.int_str a t' b t
    | _ => exact absurd (show false = true from fx) Bool.false_ne_true
  | str a =>
    obtain ⟨t', rfl⟩ := ry
    cases x with
    | non => cases rx; exact SeqAt.EqAt.str_none a t'
    | bl b => cases rx; exact SeqAt.EqAt.str_bool a t' b
    | int b => obtain ⟨t, rfl⟩ := rx; exact SeqAt.EqAt.str_int a t' b t
    | str b => obtain ⟨t, rfl⟩ := rx; exact SeqAt.EqAt.str_str a t' b t
    | _ => exact absurd (show false = true from fx) Bool.false_ne_true
  | _ => exact absurd (show false = true from fy) Bool.false_ne_true
/-- the items' answers, read off the values (a value's own answer does not lean on its token) -/
def eqU (x : V) (u : Value) : Bool := match u with
  | .none => eqV .non x
  | .bool b => eqV (.bl b) x
  | .int i _ => eqV (.int i) x
  | .str z _ => eqV (.str z) x
  | _ => false
theorem eqU_of {x y : V} {u : Value} (r : RelV y u) (f : flatV y = true) : eqU x u = eqV y x := by
  cases y with
  | non => cases r; rfl
  | bl b => cases r; rfl
  | int i => obtain ⟨t, rfl⟩ := r; rfl
  | str z => obtain ⟨t, rfl⟩ := r; rfl
  | _ => exact absurd (show false = true from f) Bool.false_ne_true
theorem any_eqU {x : V} : ∀ {xs : List V} {us : List Value}, Vals xs us → xs.all flatV = true → us.any (eqU x) = xs.any fun y => eqV y x
  | _, _, .nil, _ => rfl
  | y :: xs, u :: us, .cons r t, f => by
    rw [List.all_cons, Bool.and_eq_true] at f
    rw [List.any_cons, List.any_cons, eqU_of r f.1, any_eqU t f.2]
theorem mem_eqAt {A : Around} {s : Shared} {x : V} {v : Value} (rx : RelV x v) (fx : flatV x = true) : ∀ {xs : List V} {us : List Value}, Vals xs us → xs.all flatV = true → ∀ u ∈ us, SeqAt.EqAt A s u v (eqU x u)
  | _, _, .nil, _ => fun u hu => by cases hu
  | y :: xs, u :: us, .cons r t, f => fun u' hu => by
    rw [List.all_cons, Bool.and_eq_true] at f
    rcases List.mem_cons.mp hu with rfl | hu
    · rw [eqU_of r f.1]; exact eqAt_V r rx f.1 fx
    · exact mem_eqAt rx fx t f.2 u' hu
def inV (x : V) (xs : List V) : Bool := xs.any fun y => eqV y x
/-- x in a list or tuple of flat items -/
def rIn (K : W.Frag) (neg : Bool) : R2 := fun x y H Q => ∃ p xs, y = .ref p ∧ (SqL K H p xs ∨ SqT K H p xs) ∧ flatV x = true ∧ xs.all flatV = true ∧ Q (.bl (if neg then !inV x xs else inV x xs)) H
theorem op_in_seq : OpR X (compareOp .In) (rIn X.K false) := by
  intro pins s σ H x y v u Q I rx ry h
  obtain ⟨p, xs, rfl, hq, fx, fs, q⟩ := h
  cases ry
  rcases hq with hq | hq
  · obtain ⟨its, r, pl, hz⟩ := I.list hq
    refine SeqAt.in_listAt (eqU x) pl.isList (fun w hw => mem_eqAt rx fx r fs w (by simpa using hw)) ⟨.bl _, H, I, rfl, ?_⟩
    rw [show its.toArray.any (eqU x) = its.any (eqU x) by simp, any_eqU r fs]
    exact q
  · obtain ⟨its, r, pl, hz⟩ := I.tuple hq
    refine SeqAt.in_tupleAt (eqU x) pl (fun w hw => mem_eqAt rx fx r fs w (by simpa using hw)) ⟨.bl _, H, I, rfl, ?_⟩
    rw [show its.toArray.any (eqU x) = its.any (eqU x) by simp, any_eqU r fs]
    exact q
/-! ### len, list(x), tuple(x) of any list or tuple that is read -/
theorem call_len_seq : CallR X (.builtin "len") (fun xs H Q => ∃ p ys, xs = [.ref p] ∧ (SqL X.K H p ys ∨ SqT X.K H p ys) ∧ Q (.int ys.length) H) := by
  intro pins s σ H xs us Q I r h
  obtain ⟨p, ys, rfl, hq, q⟩ := h
  obtain ⟨u, rfl, rx⟩ := vals1 r
  cases rx
  have hn := line63
  rcases hq with hq | hq
  · obtain ⟨its, r', pl, hz⟩ := I.list hq
    have hlen := r'.length
    exact Calls.call_len_list pl.isList (by simp only [List.size_toArray] <;> omega) ⟨.int ys.length, H, I.tok _, ⟨s.toks + 1, by rw [List.size_toArray, hlen]⟩, q⟩
  · obtain ⟨its, r', pl, hz⟩ := I.tuple hq
    have hlen := r'.length
    exact len_tuple pl (by simp only [List.size_toArray] <;> omega) ⟨.int ys.length, H, I.tok _, ⟨s.toks + 1, by rw [List.size_toArray, hlen]⟩, q⟩
theorem call_list_of : CallR X (.type "list") (fun xs H Q => ∃ p ys, xs = [.ref p] ∧ (SqL X.K H p ys ∨ SqT X.K H p ys) ∧ ∀ l, H l = none → Q (.ref l) (upd H l (.lst ys))) := by
  intro pins s σ H xs us Q I r h
  obtain ⟨p, ys, rfl, hq, q⟩ := h
  obtain ⟨u, rfl, rx⟩ := vals1 r
  cases rx
  have fin : ∀ (its : List Value), Vals ys its → ys.length ≤ sizeLine → ∀ (h' : Heap) (c' : Nat), (∀ b o', s.heap.get? b = some o' → h'.get? b = some o') →
      h'.get? s.heap.objs.size = some { cls := .type "list", dict := none, data := .seq its.toArray c', slots := #[] } → EP X pins σ Q (.ref s.heap.objs.size) { s with heap := h' } := fun its r' hz h' c' kp e =>
    ⟨.ref s.heap.objs.size, _, I.laid (t' := s.toks) kp (Nat.le_refl _) (show ObjOk X.prog X.w _ h' _ (.lst ys) from ⟨hz, its, c', r', e⟩), rfl, q _ (I.hok.fresh (Nat.le_refl _))⟩
  rcases hq with hq | hq
  · obtain ⟨its, r', pl, hz⟩ := I.list hq
    have hlen := r'.length
    obtain ⟨o, ho, hc, n, hd⟩ := pl.isList
    exact call_list_seq p (.inl rfl) ho hc hd (fun h' c' kp e => fin its r' hz h' c' kp e) (by simp only [List.size_toArray] <;> omega)
  · obtain ⟨its, r', pl, hz⟩ := I.tuple hq
    have hlen := r'.length
    obtain ⟨o, ho, hc, n, hd⟩ := pl
    exact call_list_seq p (.inr rfl) ho hc hd (fun h' c' kp e => fin its r' hz h' c' kp e) (by simp only [List.size_toArray] <;> omega)
theorem call_tuple_of : CallR X (.type "tuple") (fun xs H Q => ∃ p ys, xs = [.ref p] ∧ ((SqL X.K H p ys ∧ ∀ l, H l = none → Q (.ref l) (upd H l (.tup ys))) ∨ (SqT X.K H p ys ∧ Q (.ref p) H))) := by
  intro pins s σ H xs us Q I r h
  obtain ⟨p, ys, rfl, h⟩ := h
  obtain ⟨u, rfl, rx⟩ := vals1 r
  cases rx
  rcases h with ⟨hq, q⟩ | ⟨hq, q⟩
  · obtain ⟨its, r', pl, hz⟩ := I.list hq
    have hlen := r'.length
    refine call_tuple_list pl.isList (fun h' kp => ?_) (by simp only [List.size_toArray] <;> omega)
    have I1 : Inv X pins σ H { s with heap := h' } := I.kept (t' := s.toks) kp
    have I2 : Inv X pins σ (upd H h'.objs.size (.tup ys)) { s with heap := h'.push { cls := .type "tuple", data := .seq its.toArray } } :=
      I1.laid (t' := s.toks) (fun b o e => Heap.get?_push_of_some _ e) (Nat.le_refl _) (show ObjOk X.prog X.w _ _ _ (.tup ys) from ⟨hz, its, r', IsTup.new _ _⟩)
    exact ⟨.ref h'.objs.size, _, I2, rfl, q _ (I1.hok.fresh (Nat.le_refl _))⟩
  · obtain ⟨its, r', pl, hz⟩ := I.tuple hq
    exact call_tuple_same pl ⟨.ref p, H, I, rfl, q⟩

/-! ### the call of a builtin's method: o.m(..) -/
/-- the value is of that builtin type -/
def tyV (K : W.Frag) (T : String) (x : V) (H : Hp) : Prop := match x with
  | .str _ => T = "str"
  | .int _ => T = "int"
  | .ref p => (T = "list" ∧ ∃ xs, SqL K H p xs) ∨ (T = "tuple" ∧ ∃ o, K.lookup p = some o ∧ o.cls = .type "tuple" ∧ o.dict = none) ∨
      (T = "dict" ∧ ((∃ kvs, H p = some (.dK kvs)) ∨ ∃ kvs, H p = some (.dT kvs))) ∨ (T = "set" ∧ ∃ S n, H p = some (.set S n))
  | _ => False
theorem tyV_is {pins : List (Addr × Obj)} {σ : St} {H : Hp} {s : Shared} {T : String} {x : V} {v : Value} (I : Inv X pins σ H s) (r : RelV x v) (ty : tyV X.K T x H) :
    s.TypeIs v T ∧ ∀ a, v = .ref a → ∃ ob, s.heap.get? a = some ob ∧ ob.dict = none := by
  cases x with
  | str z =>
    obtain ⟨t, rfl⟩ := r
    cases (show T = "str" from ty)
    exact ⟨typeIs_str s z t, fun _ e => nomatch e⟩
  | int i =>
    obtain ⟨t, rfl⟩ := r
    cases (show T = "int" from ty)
    exact ⟨typeIs_int s i t, fun _ e => nomatch e⟩
  | ref p =>
    cases r
    rcases ty with ⟨rfl, xs, hq⟩ | ⟨rfl, o, hk, hc, hd⟩ | ⟨rfl, hk⟩ | ⟨rfl, S, n, hk⟩
    · obtain ⟨its, _, pl, _⟩ := I.list hq
      refine ⟨pl.isList.typeIs, fun a e => ?_⟩
      cases e
      obtain ⟨o, n, e, c, hd, _⟩ := pl
      exact ⟨o, e, hd⟩
    · refine ⟨⟨o, I.kIn p o hk, hc⟩, fun a e => ?_⟩
      cases e
      exact ⟨o, I.kIn _ o hk, hd⟩
    · have z : ∃ o, s.heap.get? p = some o ∧ o.ExactDict := by
        rcases hk with ⟨kvs, hk⟩ | ⟨kvs, hk⟩
        · obtain ⟨_, _, _, _, o, _, _, e, ex, _⟩ := I.hok p _ hk
          exact ⟨o, e, ex⟩
        · obtain ⟨_, _, _, _, o, _, _, e, ex, _⟩ := I.hok p _ hk
          exact ⟨o, e, ex⟩
      obtain ⟨o, e, ex⟩ := z
      refine ⟨⟨o, e, ex.1⟩, fun a e2 => ?_⟩
      cases e2
      exact ⟨o, e, ex.2.1⟩
    · obtain ⟨o, _, _, _, e, ex, _⟩ := I.hok p _ hk
      refine ⟨⟨o, e, ex.1⟩, fun a e2 => ?_⟩
      cases e2
      exact ⟨o, e, ex.2.1⟩
  | _ => exact False.elim ty
def tBM0 (K : W.Frag) (T : String) (r : V → List V → Hp → VK → Prop) (to : TE) : TE := fun σ H Q => to σ H fun x H1 => tyV K T x H1 ∧ r x [] H1 Q
def tBM (K : W.Frag) (T : String) (r : V → List V → Hp → VK → Prop) (to : TE) (t : TA) : TE := fun σ H Q => to σ H fun x H1 => tyV K T x H1 ∧ t σ H1 fun xs H2 => r x xs H2 Q
variable {o e : Expr} {es : List Expr} {to : TE} {t : TA} {name : Str} {apos cpos : Pos} {T id : String} {r : V → List V → Hp → VK → Prop}
theorem pe_bm0 (pa : PlainAttrs T) (slot : Slot T name id) (hty : typeOf (.builtin id) = pure (.type "method_descriptor")) (hm : MtR X id r) (ho : PE X o to)
    (hbase : attributeBase o name X.env (eval o X.env) = eval o X.env := by rfl) (hline : (apos.endLine == cpos.line) = true := by rfl) : PE X (.Call (.Attribute o name apos) [] [] cpos) (tBM0 X.K T r to) := by
  intro pins s σ H Q I h
  refine wpAny_Call_method0_late hbase hline (thn (ho pins s σ H _ I h) fun v s1 ⟨x, H1, I1, r1, ty, q1⟩ => ?_)
  obtain ⟨h1, h2⟩ := tyV_is I1 r1 ty
  exact ⟨T, id, pa, slot, hty, h1, h2, Calls.callWith_builtin rfl (PySem.evalArgs_none (hm pins s1 σ H1 x [] v [] Q I1 r1 .nil q1))⟩
theorem pe_bm (pa : PlainAttrs T) (slot : Slot T name id) (hty : typeOf (.builtin id) = pure (.type "method_descriptor")) (hm : MtR X id r) (ho : PE X o to) (ha : PA X (e :: es) t)
    (hbase : attributeBase o name X.env (eval o X.env) = eval o X.env := by rfl)
    (hfew : ((backTo cpos (starEach (e :: es) X.env)).all (fun x => !x.1) && (backToKw cpos (keywordEach [] X.env)).all (fun x => x.1.isSome)
      && decide ((e :: es).length + ([] : List Keyword).length + (if ([] : List Keyword).isEmpty then 0 else 1) < 30)) = true := by rfl)
    (hline : (apos.endLine == cpos.line) = true := by rfl) (hs : starEach (e :: es) X.env = (false, eval e X.env) :: starEach es X.env := by rfl) (hplain : (backTo cpos (starEach es X.env)).any (·.1) = false := by rfl) :
    PE X (.Call (.Attribute o name apos) (e :: es) [] cpos) (tBM X.K T r to t) := by
  intro pins s σ H Q I h
  refine wpAny_Call_method_late hbase hfew hline rfl (thn (ho pins s σ H _ I h) fun v s1 ⟨x, H1, I1, r1, ty, q1⟩ => ?_)
  obtain ⟨h1, h2⟩ := tyV_is I1 r1 ty
  refine ⟨T, id, pa, slot, hty, h1, h2, ?_⟩
  have hA := ha cpos pins s1 σ H1 _ I1 q1
  rw [hs] at hA ⊢
  refine Calls.callWith_builtin (by show (false || (backTo cpos (starEach es X.env)).any (·.1)) = false; rw [hplain] <;> rfl) (Calls.evalArgs_plain ?_)
  exact thn hA fun us s2 ⟨vs, H2, I2, r2, q2⟩ => hm pins s2 σ H2 x vs v us Q I2 r1 r2 q2
/- xs.append(e), list.index on a module's tuple .. are MtR facts of 06m -/
end
end L2

namespace L2
open PySem PySem.Spec PyProof.Rows

def MtM (X : Cx) (id : String) (r : V → List V → Hp → VK → Prop) : Prop :=
  ∀ (pins : List (Addr × Obj)) (s : Shared) (σ : St) (H : Hp) (x : V) (xs : List V) (v : Value) (us : List Value) (Q : VK), Inv X pins σ H s → RelV x v → Vals xs us → r x xs H Q →
    wpAny (model X.prog X.w) X.A (call (.builtin id) (v :: us)) (EP X pins σ Q) X.xe s

/-! ### lists of values -/
theorem Vals.one : ∀ {x : V} {us : List Value}, Vals [x] us → ∃ u, us = [u] ∧ RelV x u
  | _, _, .cons r .nil => ⟨_, rfl, r⟩
theorem Vals.zero : ∀ {us : List Value}, Vals [] us → us = []
  | _, .nil => rfl
theorem Vals.dropLast {xs : List V} {us : List Value} (h : Vals xs us) : Vals xs.dropLast us.dropLast := by
  induction h with
  | nil => exact .nil
  | cons r t ih =>
    cases t with
    | nil => exact .nil
    | cons q t' => exact .cons r ih
theorem erase_last {α : Type} (l : List α) : l.eraseIdx (l.length - 1) = l.dropLast := by
  induction l with
  | nil => rfl
  | cons a r ih =>
    cases r with
    | nil => rfl
    | cons b r =>
      have e : (a :: b :: r).length - 1 = ((b :: r).length - 1) + 1 := by
        have h1 : (a :: b :: r).length = r.length + 2 := rfl
        have h2 : (b :: r).length = r.length + 1 := rfl
        omega
      rw [e, List.eraseIdx_cons_succ, ih]
      all_goals rfl
section
variable {X : Cx} {pins : List (Addr × Obj)} {σ : St} {H : Hp} {s : Shared} {l b : Addr} {xs ys zs : List V}

/-! ### the two steps: a tracked list is rewritten, a new list is laid -/
theorem Inv.lset {its its' : List Value} {n : Nat} {f : Array Value → Array Value} {t' : Nat} (I : Inv X pins σ H s) (hH : H l = some (.lst xs))
    (e : s.heap.get? l = some { cls := .type "list", data := .seq its.toArray n }) (hf : f its.toArray = its'.toArray) (hv : Vals ys its') (hz : ys.length ≤ sizeLine) :
    Inv X pins σ (upd H l (.lst ys)) { s with heap := s.heap.update l (Obj.mapSeq f), toks := t' } := by
  have q := PySem.IsL.update e f
  rw [hf] at q
  refine I.write (x := l) (e := l) (by rw [hH]; exact trivial) (.inl rfl) (fun b' u hb hu => (Heap.get?_update_other s.heap (Obj.mapSeq f) (Ne.symm hb)).trans hu) ⟨_, q⟩ ?_
  exact ⟨hz, its', _, hv, q⟩
theorem Inv.lnew {its : List Value} {t' : Nat} (I : Inv X pins σ H s) (hv : Vals ys its) (hz : ys.length ≤ sizeLine) :
    Inv X pins σ (upd H s.heap.objs.size (.lst ys)) { s with heap := s.heap.push { cls := .type "list", data := .seq its.toArray }, toks := t' } :=
  I.laid (fun _ _ q => Heap.get?_push_of_some _ q) (Nat.le_refl _) ⟨hz, its, 0, hv, Heap.get?_push_size _ rfl⟩
theorem Inv.fresh (I : Inv X pins σ H s) : H s.heap.objs.size = none := I.hok.fresh (Nat.le_refl _)
theorem Inv.lstM (I : Inv X pins σ H s) (hH : H l = some (.lst xs)) : xs.length ≤ sizeLine ∧ ∃ (its : List Value) (n : Nat), Vals xs its ∧ xs.length = its.length ∧ s.heap.get? l = some { cls := .type "list", data := .seq its.toArray n } := by
  obtain ⟨z, its, n, r, e⟩ := I.hok l _ hH
  exact ⟨z, its, n, r, r.length, e⟩

theorem notLongL {n : Nat} (h : n ≤ sizeLine) : Builtin.List.listTooLong n = false := by
  unfold Builtin.List.listTooLong
  exact decide_eq_false (by omega)
end

section
variable {X : Cx}

/-! ### methods -/
def rAppend : V → List V → Hp → VK → Prop := fun x vs H Q => ∃ l xs y, x = .ref l ∧ vs = [y] ∧ H l = some (.lst xs) ∧ xs.length < sizeLine ∧ Q .non (upd H l (.lst (xs ++ [y])))
theorem mt_append : MtM X "list.append" rAppend := by
  intro pins s σ H x vs v us Q I rx rv h
  obtain ⟨l, xs, y, rfl, rfl, hH, hz, q⟩ := h
  cases rx
  obtain ⟨u, rfl, ru⟩ := rv.one
  obtain ⟨z, its, n, r, hl, e⟩ := I.lstM hH
  refine call_meets F.slot_list_append ⟨_, e, rfl⟩ F.entry_list_append (F.args_list_append_2 _ _) (PySem.list_append l its.toArray n u (by rw [List.size_toArray]; omega)) ⟨e, ?_⟩
  refine ⟨.non, _, I.lset (its' := its ++ [u]) hH e (by simp) (r.append (.cons ru .nil)) ?_, rfl, q⟩
  rw [List.length_append, List.length_singleton]
  omega

def rExtend : V → List V → Hp → VK → Prop := fun x vs H Q => ∃ l b xs zs, x = .ref l ∧ vs = [.ref b] ∧ H l = some (.lst xs) ∧ H b = some (.lst zs) ∧ xs.length + zs.length ≤ sizeLine ∧ Q .non (upd H l (.lst (xs ++ zs)))
theorem mt_extend : MtM X "list.extend" rExtend := by
  intro pins s σ H x vs v us Q I rx rv h
  obtain ⟨l, b, xs, zs, rfl, rfl, hH, hB, hz, q⟩ := h
  cases rx
  obtain ⟨u, rfl, ru⟩ := rv.one
  cases ru
  obtain ⟨z, its, n, r, hl, e⟩ := I.lstM hH
  obtain ⟨z2, its2, n2, r2, hl2, e2⟩ := I.lstM hB
  have hsz : its.toArray.size + its2.toArray.size ≤ sizeLine := by rw [List.size_toArray, List.size_toArray]; omega
  have hlong : ¬ (!its.toArray.isEmpty && Builtin.List.listTooLong (its.toArray.size + its2.toArray.size)) = true := by
    rw [notLongL hsz, Bool.and_false]
    exact Bool.false_ne_true
  refine call_meets F.slot_list_extend ⟨_, e, rfl⟩ F.entry_list_extend (F.args_list_extend_2 _ _)
    (AutoSeq1.list_extend_list_list_0 l its.toArray n b its2.toArray n2 hlong (by rw [List.size_toArray]; omega) (by omega)) ⟨e, e2, ?_⟩
  refine ⟨.non, _, I.lset (its' := its ++ its2) hH e (by simp) (r.append r2) ?_, rfl, q⟩
  rw [List.length_append]
  omega

def rPop : V → List V → Hp → VK → Prop := fun x vs H Q => ∃ l xs y, x = .ref l ∧ vs = [] ∧ H l = some (.lst xs) ∧ xs[xs.length - 1]? = some y ∧ Q y (upd H l (.lst xs.dropLast))
theorem mt_pop : MtM X "list.pop" rPop := by
  intro pins s σ H x vs v us Q I rx rv h
  obtain ⟨l, xs, y, rfl, rfl, hH, hy, q⟩ := h
  cases rx
  have hus := rv.zero
  subst hus
  obtain ⟨z, its, n, r, hl, e⟩ := I.lstM hH
  obtain ⟨u, hu, ru⟩ := r.get hy
  have hy' : its.toArray[its.toArray.size - 1]? = some u := by
    show its.toArray[its.length - 1]? = some u
    rw [← Array.getElem?_toList, ← hl]
    exact hu
  refine call_meets F.slot_list_pop ⟨_, e, rfl⟩ F.entry_list_pop (F.args_list_pop_1 _) (MeetsSeq.list_pop_last l its.toArray n u hy' (by rw [List.size_toArray]; omega)) ⟨e, ?_⟩
  refine ⟨y, _, I.lset (its' := its.dropLast) hH e ?_ r.dropLast ?_, ru, q⟩
  · show its.toArray.eraseIdxIfInBounds (its.toArray.size - 1) = its.dropLast.toArray
    rw [List.size_toArray, List.eraseIdxIfInBounds_toArray, erase_last]
  · rw [List.length_dropLast]
    omega

def rPopAt : V → List V → Hp → VK → Prop := fun x vs H Q => ∃ l xs i k y, x = .ref l ∧ vs = [.int i] ∧ H l = some (.lst xs) ∧ -(2 ^ 63) ≤ i ∧ i < 2 ^ 63 ∧ seqIndex? i xs.length = some k ∧ xs[k]? = some y ∧ Q y (upd H l (.lst (xs.eraseIdx k)))
def rReverse : V → List V → Hp → VK → Prop := fun x vs H Q => ∃ l xs, x = .ref l ∧ vs = [] ∧ H l = some (.lst xs) ∧ Q .non (upd H l (.lst xs.reverse))
def rClear : V → List V → Hp → VK → Prop := fun x vs H Q => ∃ l xs, x = .ref l ∧ vs = [] ∧ H l = some (.lst xs) ∧ Q .non (upd H l (.lst []))
/-! ### list + list, list += list, list * int -/
def rCat : R2 := fun x y H Q => ∃ l b xs zs, x = .ref l ∧ y = .ref b ∧ H l = some (.lst xs) ∧ H b = some (.lst zs) ∧ xs.length + zs.length ≤ sizeLine ∧ ∀ p, H p = none → Q (.ref p) (upd H p (.lst (xs ++ zs)))
theorem op_cat : OpR X (binaryOp .Add) rCat := by
  intro pins s σ H x y v u Q I rx ry h
  obtain ⟨l, b, xs, zs, rfl, rfl, hH, hB, hz, q⟩ := h
  cases rx
  cases ry
  obtain ⟨z, its, n, r, hl, e⟩ := I.lstM hH
  obtain ⟨z2, its2, n2, r2, hl2, e2⟩ := I.lstM hB
  refine PySem.P.add_list e e2 ?_ (by rw [List.size_toArray, List.size_toArray]; omega)
  have ea : its.toArray ++ its2.toArray = (its ++ its2).toArray := by simp
  rw [ea]
  exact ⟨.ref _, _, I.lnew (t' := s.toks) (r.append r2) (by rw [List.length_append]; omega), rfl, q _ I.fresh⟩
/-- a list times an int (a negative one is nothing) -/
def rRep : R2 := fun x y H Q => ∃ l k xs, x = .ref l ∧ y = .int k ∧ H l = some (.lst xs) ∧ -(2 ^ 63) ≤ k ∧ k < 2 ^ 63 ∧ xs.length * k.toNat ≤ sizeLine ∧
  ∀ p, H p = none → Q (.ref p) (upd H p (.lst (List.replicate k.toNat xs).flatten))
/-! ### del xs[i] -/
end

/-! ### xs[a:b] = ys -/
section
variable {prog : Program} {w : World} {A : Around} {E : Value → Shared → Prop} {s : Shared}
end

section
variable {X : Cx}
end
end L2

namespace L2
open PySem PySem.Spec PyProof.Rows

/-! ### lists of pairs as tables -/
section
variable {κ : Type} [DecidableEq κ]
def valV (kvs : List (κ × V)) (k : κ) : Option V := (kvs.find? fun kv => decide (kv.1 = k)).map (·.2)
/-- in its place, or at the end -/
def putK (kvs : List (κ × V)) (k : κ) (v : V) : List (κ × V) :=
  if (kvs.any fun kv => decide (kv.1 = k)) = true then kvs.map (fun kv => if kv.1 = k then (kv.1, v) else kv) else kvs ++ [(k, v)]
def dropK (kvs : List (κ × V)) (k : κ) : List (κ × V) := kvs.filter fun kv => decide (kv.1 ≠ k)

end


/-! ### a tracked dict, its keys ints and texts or tuples of these -/
/-- raw entries of a dict with tuple keys -/
abbrev KT (H : Hp) : List (List Key × V) → List (List Key × Addr × Value) → Prop := Paired fun p q => p.1 = q.1 ∧ H q.2.1 = some (.tup (p.1.map kV)) ∧ RelV p.2 q.2.2
section
variable {P : Program} {w : World} {H : Hp} {h : Heap} {a : Addr}
end

/-- what the dict at a holds at the key y -/
def DGet (H : Hp) (a : Addr) (y : V) (r : Option V) : Prop :=
  (∃ kvs k, Rd H a (.dK kvs) ∧ y = kV k ∧ r = valV kvs k) ∨ ∃ kvs k b, Rd H a (.dT kvs) ∧ y = .ref b ∧ H b = some (.tup (k.map kV)) ∧ r = valV kvs k
/-- the heap behind a[y] = v -/
def DPut (H : Hp) (a : Addr) (y v : V) (H' : Hp) : Prop :=
  (∃ kvs k, H a = some (.dK kvs) ∧ y = kV k ∧ kvs.length < sizeLine ∧ H' = upd H a (.dK (putK kvs k v))) ∨
  ∃ kvs k b, H a = some (.dT kvs) ∧ y = .ref b ∧ H b = some (.tup (k.map kV)) ∧ kvs.length < sizeLine ∧ H' = upd H a (.dT (putK kvs k v))
section
variable {X : Cx} {pins : List (Addr × Obj)} {σ : St} {H : Hp} {s : Shared} {a : Addr} {y v : V} {u r : Value} {o : Option V} {A : Around} {E : Value → Shared → Prop}

end

section
variable {X : Cx} {pins : List (Addr × Obj)} {σ : St} {H : Hp} {s : Shared} {a : Addr} {kvs : List (Key × V)} {k : Key} {u : Value} {A : Around} {E : Value → Shared → Prop}
end


/-! ### readings and rules -/
/-- the element of a subscription, not a slice -/
def NoSl (i : Expr) : Prop := ∀ ov iv, subscripted i false ov iv = operate [ov, iv] (getItem ov iv)
/-- d[y] -/
def tDGet (td ty : TE) : TE := fun σ H Q => td σ H fun x H1 => ty σ H1 fun y H2 => ∃ a v, x = .ref a ∧ DGet H2 a y (some v) ∧ Q v H2
/-- y in d, y not in d -/
def tDIn (ty td : TE) : TE := fun σ H Q => ty σ H fun y H1 => td σ H1 fun x H2 => ∃ a o, x = .ref a ∧ DGet H2 a y o ∧ Q (.bl o.isSome) H2
def tDNotIn (ty td : TE) : TE := fun σ H Q => ty σ H fun y H1 => td σ H1 fun x H2 => ∃ a o, x = .ref a ∧ DGet H2 a y o ∧ Q (.bl (!o.isSome)) H2
/-- d[y] = v -/
def sDPut (td ty tv : TE) : TS := fun D σ H => tv σ H fun v H1 => td σ H1 fun x H2 => ty σ H2 fun y H3 => ∃ a H4, x = .ref a ∧ DPut H3 a y v H4 ∧ D.nx σ H4
/-- d[y] op= v -/
def sDAug (td ty tv : TE) (rd : V → V → Hp → VK → Prop) : TS := fun D σ H => td σ H fun x H1 => ty σ H1 fun y H2 => ∃ a v, x = .ref a ∧ DGet H2 a y (some v) ∧
  tv σ H2 fun y2 H3 => rd v y2 H3 fun z H4 => ∃ H5, DPut H4 a y z H5 ∧ D.nx σ H5
/-- del d[y] -/
def sDDel (td ty : TE) : TS := fun D σ H => td σ H fun x H1 => ty σ H1 fun y H2 => ∃ a kvs k, x = .ref a ∧ H2 a = some (.dK kvs) ∧ y = kV k ∧ (valV kvs k).isSome = true ∧ D.nx σ (upd H2 a (.dK (dropK kvs k)))

section
variable {X : Cx} {o i e value : Expr} {pos pos' tpos : Pos} {td ty tv : TE}
end


/-! ### displays -/
/-- {}, to be a dict of the kind that is wanted -/
def tDNewK : TE := fun _ H Q => ∀ p, H p = none → Q (.ref p) (upd H p (.dK []))
def tDNewT : TE := fun _ H Q => ∀ p, H p = none → Q (.ref p) (upd H p (.dT []))
section
variable {X : Cx} {pos : Pos}
end

/-- the pairs of a display, from the left -/
def tPairs : List (TE × TE) → St → Hp → (List (V × V) → Hp → Prop) → Prop
  | [], _, H, Q => Q [] H
  | (tk, tv) :: r, σ, H, Q => tk σ H fun x H1 => tv σ H1 fun y H2 => tPairs r σ H2 fun ps H3 => Q ((x, y) :: ps) H3
abbrev VV : List (V × V) → List (Value × Value) → Prop := Paired fun p q => RelV p.1 q.1 ∧ RelV p.2 q.2
def PPs (X : Cx) (pos : Pos) (keys : List (Option Expr)) (values : List Expr) (trs : List (TE × TE)) : Prop :=
  ∀ (pins : List (Addr × Obj)) (s : Shared) (σ : St) (H : Hp) (Q : List (V × V) → Hp → Prop), Inv X pins σ H s → tPairs trs σ H Q →
    wpAny (model X.prog X.w) X.A (evalPairs (pairTrees keys values X.env pos)) (fun vs s' => ∃ ps H', Inv X pins σ H' s' ∧ VV ps vs ∧ Q ps H') X.xe s
def mergeK (kvs more : List (Key × V)) : List (Key × V) := more.foldl (fun acc kv => putK acc kv.1 kv.2) kvs
/-- {k: v, ..} with keys ints and texts; the new dict stands empty while the pairs are made -/
def tDisp (trs : List (TE × TE)) : TE := fun σ H Q => ∀ p, H p = none → tPairs trs σ (upd H p (.dK [])) fun ps H2 => H2 p = some (.dK []) ∧ ∃ kvs : List (Key × V), ps = kvs.map (fun kv => (kV kv.1, kv.2)) ∧ kvs.length ≤ 15 ∧ Q (.ref p) (upd H2 p (.dK (mergeK [] kvs)))
/-! ### methods -/
/-- a method call o.m(e) of a built-in, with one argument: what must be seen of the text -/
structure M1 (X : Cx) (o : Expr) (m : Str) (apos : Pos) (e : Expr) (cpos : Pos) : Prop where
  base : attributeBase o m X.env (eval o X.env) = eval o X.env
  few : ((backTo cpos (starEach [e] X.env)).all (fun x => !x.1) && (backToKw cpos (keywordEach [] X.env)).all (fun x => x.1.isSome)
    && decide (([e] : List Expr).length + ([] : List Keyword).length + (if ([] : List Keyword).isEmpty then 0 else 1) < 30)) = true
  line : (apos.endLine == cpos.line) = true
  trees : backTo cpos (starEach [e] X.env) = [(false, eval e X.env)]
structure M2 (X : Cx) (o : Expr) (m : Str) (apos : Pos) (e f : Expr) (cpos : Pos) : Prop where
  base : attributeBase o m X.env (eval o X.env) = eval o X.env
  few : ((backTo cpos (starEach [e, f] X.env)).all (fun x => !x.1) && (backToKw cpos (keywordEach [] X.env)).all (fun x => x.1.isSome)
    && decide (([e, f] : List Expr).length + ([] : List Keyword).length + (if ([] : List Keyword).isEmpty then 0 else 1) < 30)) = true
  line : (apos.endLine == cpos.line) = true
  trees : backTo cpos (starEach [e, f] X.env) = [(false, eval e X.env), (false, eval f X.env)]

/-- a is a dict, whatever its keys -/
def IsD (H : Hp) (a : Addr) : Prop := (∃ kvs, Rd H a (.dK kvs)) ∨ ∃ kvs, Rd H a (.dT kvs)
section
variable {X : Cx} {pins : List (Addr × Obj)} {σ : St} {H : Hp} {s : Shared} {a : Addr} {y d : V} {u r : Value} {o : Option V} {A : Around} {E : Value → Shared → Prop}
end

def tDGet1 (td ty : TE) : TE := fun σ H Q => td σ H fun x H1 => ∃ a, x = .ref a ∧ IsD H1 a ∧ ty σ H1 fun y H2 => ∃ o, DGet H2 a y o ∧ Q (o.getD .non) H2
def tDGet2 (td ty tx : TE) : TE := fun σ H Q => td σ H fun x H1 => ∃ a, x = .ref a ∧ IsD H1 a ∧ ty σ H1 fun y H2 => tx σ H2 fun z H3 => ∃ o, DGet H3 a y o ∧ Q (o.getD z) H3
/-- d.pop(k): there; d.pop(k, x): there or not -/
def tDPop1 (td ty : TE) : TE := fun σ H Q => td σ H fun x H1 => ∃ a, x = .ref a ∧ IsD H1 a ∧ ty σ H1 fun y H2 => ∃ kvs k v, H2 a = some (.dK kvs) ∧ y = kV k ∧ valV kvs k = some v ∧ Q v (upd H2 a (.dK (dropK kvs k)))
def tDPop2 (td ty tx : TE) : TE := fun σ H Q => td σ H fun x H1 => ∃ a, x = .ref a ∧ IsD H1 a ∧ ty σ H1 fun y H2 => tx σ H2 fun z H3 => ∃ kvs k, H3 a = some (.dK kvs) ∧ y = kV k ∧
  (∀ v, valV kvs k = some v → Q v (upd H3 a (.dK (dropK kvs k)))) ∧ (valV kvs k = none → Q z H3)
section
variable {X : Cx} {o e f : Expr} {apos cpos : Pos} {td ty tx : TE}
end

/-! ### dict(d): a copy -/
section
variable {X : Cx} {pins : List (Addr × Obj)} {σ : St} {H : Hp} {s : Shared} {a : Addr} {kvs : List (Key × V)} {A : Around} {E : Value → Shared → Prop}
end


section
variable {X : Cx} {pins : List (Addr × Obj)} {σ : St} {H : Hp} {s : Shared} {a : Addr} {y : V} {u : Value} {A : Around} {E : Value → Shared → Prop}
end
end L2

namespace Att
open PySem PySem.W PySem.Calls PyProof.Rows

/-! ### the script -/
theorem ints_of_wellAll {P : Params} {h : Heap} : ∀ (ns : List Int) (vs : List Value), WellAll P h vs (ns.map WData.int) → IntsAre vs ns := by
  intro ns
  induction ns with
  | nil =>
    intro vs w
    rw [List.map_nil] at w
    cases w
    exact .nil
  | cons n ns ih =>
    intro vs w
    rw [List.map_cons] at w
    cases w with
    | cons a b =>
      cases a
      exact .cons _ _ (ih _ b)

theorem script_of {l : OpenLaw} {n : Nat} (hn : l.most = some n) {P : Params} {h : Heap} {args : List WData} {vals : List Value}
    (hpre : l.row.toRowW.claim.pre args = true) (hwl : WellAll P h vals args) :
    ∃ a vs ns, vals = [Value.ref a] ∧ args = [WData.list (ns.map WData.int)] ∧ h.get? a = some { cls := .type "list", data := .seq vs.toArray } ∧ IntsAre vs ns ∧ ns.length ≤ n := by
  have hsh : WShape.hasAll [] args [.list .int] = true := (pre_splitW hpre).1
  have hc : l.pre.holds [] { args := args } = true := (pre_splitW hpre).2
  obtain ⟨d, r, rfl, h1, h2⟩ := hasAllW_cons hsh
  obtain rfl := hasAllW_nil h2
  obtain ⟨xs, rfl, h3⟩ := hasW_list h1
  obtain ⟨ns, rfl⟩ := items_int h3
  have hlen : ns.length ≤ n := by
    unfold OpenLaw.pre at hc
    have h4 : (WTm.not (.lt (.lit (.int (n : Int))) (.len (.arg 0)))).holds [] { args := [.list (ns.map .int)] } = true := by
      have h4 := (holds_andW hc).1
      rw [hn] at h4
      exact h4
    have h5 := condW_of h4 (w_not (w_lt w_lit (w_len_list (w_arg rfl))))
    rw [List.length_map] at h5
    refine Nat.le_of_not_lt fun q => ?_
    have q' : (n : Int) < ((ns.length : Nat) : Int) := by omega
    first
      | (rw [decide_eq_true q'] at h5; exact absurd h5 (by decide))
      | (simp at h5; omega)
  cases hwl with
  | cons w1 w2 =>
    cases w2
    cases w1 with
    | list ho hall => exact ⟨_, _, ns, rfl, rfl, ho, ints_of_wellAll ns _ hall, hlen⟩

theorem post_true (l : OpenLaw) (args : List WData) : l.row.toRowW.claim.post args (.bool true) args = true :=
  postW_of (r := l.row.toRowW) (X := (true == true))
    (show WShape.has [] (.bool true) .bool = true by first | rfl | decide | simp [WShape.has, WShape.arms, WShape.armsAll])
    (show (WTm.eq .res (.lit (.bool true))).value [] { args := args, res := some (.bool true), after := args } = some (.bool (true == true)) from w_eq_bool (w_res rfl) w_lit) rfl

/-! ### the attachment: holds_open's last premise (the goal 'hc' behind k_head) from a wpAny of the law's body -/
/-- the same from a codeAny of the CALL (for a layer whose function contracts speak of calls) -/
theorem attach_call {l : OpenLaw} {n : Nat} {q : Program} {loose : List Str} {XP : (Str → Option Value) → Heap → Prop} {YP : World → Heap → Prop} {d : DefRec}
    (hn : l.most = some n) (hdf : d.params.defaults = [])
    (call : ∀ (w : World) (s₀ s₁ : Shared) (mg mb : Str → Option Value) (fa : Addr) (o : Obj) (pm cd doc : Value) (a : Addr) (vs : List Value) (ns : List Int),
      Ground q loose [] XP w s₀ mg mb s₁.heap → YP w s₁.heap →
      s₁.heap.get? fa = some o → o.data = .func (docDef d.name d.params d.body d.scope pm cd doc) → s₁.heap.CodeRec cd d.name → mg d.name = some (.ref fa) →
      s₁.heap.get? a = some { cls := .type "list", data := .seq vs.toArray } → IntsAre vs ns → ns.length ≤ n → s₁.gens = #[] →
      codeAny (model l.prog w) callerA (.call (.ref fa) ⟨[.ref a], []⟩) (fun r s' => r = .ok (.ret (.bool true)) ∧ OldK s₁.heap s'.heap ∧ s'.os = s₁.os ∧ AllBare s'.gens) s₁) :
    WalkO q loose XP YP l.row.toRowW d [] (fun f vs => PySem.call f vs) := by
  intro w s₀ s₁ mg mb G Y fa o pm cd doc dV kV ho hd hcd hD hmg hg args vals as hpre hlay hrd hwl hlo
  obtain rfl : dV = .none := Dflts.none hD hdf
  obtain rfl : kV = .none := Dflts.noKw hD
  obtain ⟨a, vs, ns, rfl, rfl, hobj, hints, hlen⟩ := script_of hn hpre hwl
  refine enter_call (codeAny_mono (call w s₀ s₁ mg mb fa o pm cd doc a vs ns G Y ho (fd_plain hd) hcd hmg hobj hints hlen hg) fun r s' hq => ?_)
  obtain ⟨rfl, h2, h3, h4⟩ := hq
  exact ⟨.inl ⟨.bool true, .bool true, [], rfl, fun _ => rfl, .bool true, post_true l _, fun _ => ⟨List.Pairwise.nil, fun _ hm => (nomatch hm)⟩⟩, h2, h3, h4⟩

/-! ### rules over ANY heap (no ledger) from facts about the written part K: the library's own take a ledger (News) for what they write -/
section
variable {prog : Program} {w : World} {A : Around} {E : Value → Shared → Prop} {s : Shared} {K : Frag}

/-! the whole heap as the ledger: makes every rule that writes through a ledger a rule over any heap -/
def noObjs (h : Heap) : Heap := { h with objs := #[] }
def ledger (h : Heap) (L d : Addr) : List (Addr × Obj) := (List.range h.objs.size).filterMap fun a => if a = L ∨ a = d then none else (h.get? a).map fun o => (a, o)
end
end Att

namespace L2
open PySem PySem.Spec PyProof.Rows

theorem vals_ints : ∀ {vs : List Value} {ns : List Int}, IntsAre vs ns → Vals (ns.map V.int) vs
  | _, _, .nil => .nil
  | _, _, .cons n t h => .cons ⟨t, rfl⟩ (vals_ints h)

/-- nothing is tracked but the script, known to the object (or it is an object of the module) -/
def Only (H : Hp) : Prop := ∀ b, H b = none ∨ ∃ o xs, H b = some (.frz o (.lst xs))

/-- THE HEAD: the law's promise, at the heap behind the top. F, the promise of the law's def, may use that base is part of the heap (so K.In base, base.Ns mainGlobals mg stand in Mod) -/
theorem law_call {P : Program} {w : World} {K : W.Frag} {mg mb : Str → Option Value} {CX : CXT} {k : Nat} {fa a : Addr} {fd : FuncData} {x : Str} {sp : Sp} {s₁ : Shared} {vs : List Value} {ns : List Int}
    (KX : K.In s₁.heap) (hns : s₁.heap.Ns mainGlobals mg) (hb : s₁.heap.Ns builtinsNs mb) (hbb : ∀ x : Str, x ≠ "__name__" → mb x = bootBuiltins x) (hlim : s₁.heap.NoLimit) (hg : s₁.gens = #[])
    (ha : s₁.heap.get? a = some { cls := .type "list", data := .seq vs.toArray }) (hi : IntsAre vs ns) (hl : ns.length ≤ sizeLine) (hr : Room k callerA)
    (F : ∀ base : Heap, K.In base → base.Ns mainGlobals mg → FnOk P w K mg base CX k fa fd [x] sp) (hbind : ∀ (s : Shared) (u : Value), BindsTo s fd ⟨[u], []⟩ [(x, u)])
    (hsp : ∀ H : Hp, Only H → SqL K H a (ns.map V.int) → sp [.ref a] H (fun v _ => v = .bl true) fun _ _ _ => False)
    (hCX : ∀ H e s', CX [] H s₁ (fun _ _ _ => False) e s' → False) :
    codeAny (model P w) callerA (.call (.ref fa) ⟨[.ref a], []⟩) (fun r s' => r = .ok (.ret (.bool true)) ∧ OldK s₁.heap s'.heap ∧ s'.os = s₁.os ∧ AllBare s'.gens) s₁ := by
  have rv := vals_ints hi
  have lenV := hi.length
  -- from an abstract heap in which nothing but the script may be tracked
  have core : ∀ H : Hp, Only H → SqL K H a (ns.map V.int) → HOk P w H s₁.heap → (∀ b, H b ≠ none → b = a) → (H a ≠ none → K.lookup a = none) →
      codeAny (model P w) callerA (.call (.ref fa) ⟨[.ref a], []⟩) (fun r s' => r = .ok (.ret (.bool true)) ∧ OldK s₁.heap s'.heap ∧ s'.os = s₁.os ∧ AllBare s'.gens) s₁ := by
    intro H hO hS hok hA hK
    have base_of : ∀ {b : Addr} {o : Obj}, s₁.heap.get? b = some o → H b = none → (hidT s₁.heap H).get? b = some o := fun e n => hidT_get e n
    have noA : ∀ {b : Addr} {o : Obj} {es : Array DictEntry} {ep : Nat}, s₁.heap.get? b = some o → o.data = .dict es ep → H b = none := fun {b o es ep} e d => by
      cases q : H b with
      | none => rfl
      | some u =>
        have e' : b = a := hA b (by rw [q]; simp)
        subst e'
        rw [ha] at e; cases e
        have d' : Data.seq vs.toArray _ = Data.dict es ep := d
        cases d'
    have nsK : ∀ {b : Addr} {m : Str → Option Value}, s₁.heap.Ns b m → (hidT s₁.heap H).Ns b m := fun {b m} ⟨o, es, ep, e, d, r⟩ => ⟨o, es, ep, base_of e (noA e d), d, r⟩
    have hKb : K.In (hidT s₁.heap H) := fun b o e => base_of (KX b o e) (by
      cases q : H b with
      | none => rfl
      | some u =>
        have e' : b = a := hA b (by rw [q]; simp)
        subst e'
        rw [hK (by rw [q]; simp)] at e; cases e)
    have hM : Mod K mg (hidT s₁.heap H) := ⟨hKb, nsK hns, ⟨mb, nsK hb, hbb⟩, let ⟨mc, h1, h2⟩ := hlim; ⟨mc, nsK h1, h2⟩⟩
    have e0 : Env0 P w K mg (hidT s₁.heap H) callerA [] s₁ H := ⟨rfl, hM, fun b o e => of_hidT e, Nat.le_of_eq (hidT_size _ _), trivial, fun b hb => absurd (show b ∈ ([] : List Addr) from hb) (by simp), hok, .of_eq hg⟩
    refine codeAny_mono ((F _ hKb (nsK hns)).run callerA [] s₁ H ⟨[.ref a], []⟩ [.ref a] [.ref a] _ _ hr e0 (hbind s₁ (.ref a)) (.cons rfl .nil) (hsp H hO hS)) fun r s' h => ?_
    cases r with
    | error e => exact (hCX H e s' h).elim
    | ok fl =>
      cases fl with
      | next => exact False.elim h
      | brk => exact False.elim h
      | cont => exact False.elim h
      | ret u =>
        obtain ⟨v, H', os, bare, un, hok', r', q⟩ := h
        have q' : v = .bl true := q
        subst q'
        obtain rfl : u = Value.bool true := r'
        refine ⟨rfl, OldK.of_keep fun b o e => ?_, os, bare⟩
        cases q : H b with
        | none => exact un.keep b o e q (by intro z; exact absurd (show b ∈ ([] : List Addr) from z) (by simp)) (by simp)
        | some u =>
          rcases hO b with z | ⟨ob, xs, z⟩
          · rw [q] at z; cases z
          · have z2 := un.frzs b ob _ z
            obtain ⟨e1, _⟩ := hok b _ z
            obtain ⟨e2, _⟩ := hok' b _ z2
            rw [e] at e1; cases e1
            exact e2
  cases hk : K.lookup a with
  | some o =>
    -- the script is one of the module's own objects
    have e := KX a o hk
    rw [ha] at e
    cases e
    refine core (fun _ => none) (fun _ => .inl rfl) (.inr ⟨_, vs.toArray, _, hk, rfl, rfl, rfl, by rw [List.size_toArray, lenV]; exact hl, by simpa using rv⟩) (fun b u z => by have z' : (none : Option HO) = some u := z; cases z') (fun b z => absurd rfl z) fun z => absurd rfl z
  | none =>
    refine core (fun b => if b = a then some (.frz { cls := .type "list", data := .seq vs.toArray } (.lst (ns.map V.int))) else none) (fun b => ?_) (.inl (.inr ⟨{ cls := .type "list", data := .seq vs.toArray }, if_pos rfl⟩)) (fun b u z => ?_) (fun b z => ?_) fun _ => hk
    · by_cases hb : b = a
      · exact .inr ⟨_, _, if_pos hb⟩
      · exact .inl (if_neg hb)
    · by_cases hb : b = a
      · have z' := (if_pos hb).symm.trans z
        cases z'
        subst hb
        exact ⟨ha, by rw [List.length_map]; exact hl, vs, _, rv, ha⟩
      · have z' := (if_neg hb).symm.trans z
        cases z'
    · by_cases hb : b = a
      · exact hb
      · exact absurd (if_neg hb) z
end L2

namespace L2
open PySem PySem.Spec PyProof.Rows

abbrev KOf {K : W.Frag} {h : Heap} (_ : K.In h) : W.Frag := K

/-- the goal that k_head leaves (case hc), from the law's promise. F gives the function object fd (K's own) once, then the promise over every base -/
theorem walk_of {l : W.OpenLaw} {n k : Nat} {q : Program} {loose : List Str} {XP : (Str → Option Value) → Heap → Prop} {YP : World → Heap → Prop} {d : DefRec} {K : Params → W.Frag} {CX : World → CXT} {sp : World → Sp} {x : Str}
    (hn : l.most = some n) (hn2 : n ≤ sizeLine) (hdf : d.params.defaults = []) (hr : Room k callerA)
    (hY : ∀ (w : World) (h : Heap), YP w h → (K w.params).In h)
    (F : ∀ (w : World) (mg : Str → Option Value) (fa : Addr) (h : Heap), (K w.params).In h → h.Ns mainGlobals mg → mg d.name = some (.ref fa) →
      ∃ fd : FuncData, (∀ (s : Shared) (u : Value), BindsTo s fd ⟨[u], []⟩ [(x, u)]) ∧
        ∀ base : Heap, (K w.params).In base → base.Ns mainGlobals mg → FnOk l.prog w (K w.params) mg base (CX w) k fa fd [x] (sp w))
    (hsp : ∀ (w : World) (H : Hp) (a : Addr) (ns : List Int), ns.length ≤ n → Only H → SqL (K w.params) H a (ns.map V.int) → sp w [.ref a] H (fun v _ => v = .bl true) fun _ _ _ => False)
    (hCX : ∀ (w : World) (H : Hp) (s : Shared) (e : Value) (s' : Shared), CX w [] H s (fun _ _ _ => False) e s' → False) :
    W.WalkO q loose XP YP l.row.toRowW d [] (fun f vs => PySem.call f vs) := by
  refine Att.attach_call hn hdf fun w s₀ s₁ mg mb fa o pm cd doc a vs ns G Y ho hd hcd hmg hobj hints hlen hg => ?_
  have KX := hY w _ Y
  obtain ⟨fd, hb, hF⟩ := F w mg fa _ KX G.T.g hmg
  exact law_call KX G.T.g G.T.b G.T.builtins G.T.nolimit hg hobj hints (Nat.le_trans hlen hn2) hr hF hb (fun H hO hS => hsp w H a ns hlen hO hS) fun H e s' => hCX w H s₁ e s'
end L2

/- THE LAST THEOREM (shape; LID, My.* are yours):
   My.Adr: a structure of the addresses that your layer names (classes, functions); My.Txt K t: a structure (Prop) of the equations over K;
   My.txt_mk : {K} {implicit addresses ..} (e1 : nsIn K mainGlobals "law" = some (some (.ref f))) (e2 : K.lookup f = some ⟨oc, od, .func (fnOf "law" "law" params body scope dV kV doc pm an cdv ct), sl⟩) (e3 : codeIn K cdv "law" = true) .. : ∃ t, My.Txt K t

set_option maxRecDepth 100000 in
(the tactic k_is has no namespace: write k_is) -/

/-! SHORT WORDS over the layer: a def of the text, its body, what a loop and a test want. -/
namespace L2
open PySem PySem.Spec PyProof.Rows

/-! ### the text by places -/
/-- the j-th statement of a class's body -/
def inClass (s : Stmt) (j : Nat) : Stmt := match s with
  | .ClassDef _ _ _ body _ _ _ _ _ _ _ => body.getD j (.Pass ⟨0, 0, 0, 0⟩)
  | _ => .Pass ⟨0, 0, 0, 0⟩
def defArgs (s : Stmt) : Arguments := match s with
  | .FunctionDef _ a _ _ _ _ _ _ _ _ => a
  | _ => { posonlyargs := [], args := [], vararg := none, kwonlyargs := [], kw_defaults := [], kwarg := none, defaults := [] }
def defBody (s : Stmt) : List Stmt := match s with
  | .FunctionDef _ _ b _ _ _ _ _ _ _ => b
  | _ => []
def defScope (s : Stmt) : Scope := match s with
  | .FunctionDef _ _ _ _ _ _ sc _ _ _ => sc
  | _ => { kind := .function, names := [], isGenerator := false, isCoroutine := false }

/-! ### no exception leaves a def -/
abbrev CX0 : CXT := fun _ _ _ _ _ _ => False
abbrev E0 : XK := fun _ _ _ => False
theorem pass0 {X : Cx} : Passes CX0 X E0 := fun _ _ _ _ _ _ _ h => h.elim

/-! ### a def (or method) of the text as it stands behind the top -/
structure Fun (K : W.Frag) (x qual : Str) (st : Stmt) (f : Addr) (fd : FuncData) : Prop where
  ex : ∃ (oc : Value) (od : Option Addr) (kV doc pm : Value) (an : Option Addr) (cdv ct : Value) (osl : Array (Option Value)),
    fd = W.fnOf x qual (defArgs st) (defBody st) (defScope st) .none kV doc pm an cdv ct ∧ K.lookup f = some ⟨oc, od, .func fd, osl⟩ ∧ W.codeIn K cdv qual = true
  kp : W.keepIn K (.ref f) = true
section
variable {P : Program} {w : World} {K : W.Frag} {mg : Str → Option Value} {base : Heap}
/-- THE RULE for a def: its body as a term of rules, and the reading of that term -/
theorem Fun.ok {x qual : Str} {st : Stmt} {f : Addr} {fd : FuncData} {N ps : List Str} {k : Nat} {sp : Sp} (F : Fun K x qual st f fd) (S : FnScope N ps (defScope st)) (len : ∀ vs H Q E, sp vs H Q E → vs.length = ps.length)
    (hbody : ∀ (cdv : Value) (A : Around) (outer : List Env) (s : Shared) (H : Hp) (vs : List V) (Q : VK) (E : XK), Room k (A.deeper (envOfC qual (defScope st) s.heap.objs.size f cdv)) → sp vs H Q E →
      ∃ t, PSs (cxOf CX0 P w K mg base N qual (defScope st) f cdv A outer s H E).nox (defBody st) t ∧ t { nx := fun _ H' => Q .non H', rt := Q } (start N vs) H) : FnOk P w K mg base CX0 (k + 1) f fd ps sp := by
  obtain ⟨oc, od, kV, doc, pm, an, cdv, ct, osl, rfl, lk, hcd⟩ := F.ex
  refine fn_of lk hcd S len fun A outer s H vs Q E hr hsp => ?_
  obtain ⟨t, h, q⟩ := hbody cdv A outer s H vs Q E hr hsp
  exact ⟨t, h.nox, q⟩
/-- how its arguments bind (no defaults): h is «fun _ _ _ _ _ _ us hl => match us, hl with | [_, _], _ => rfl», one _ a parameter -/
theorem Fun.binds {x qual : Str} {st : Stmt} {f : Addr} {fd : FuncData} {ps : List Str} (F : Fun K x qual st f fd)
    (h : ∀ (kV doc pm : Value) (an : Option Addr) (cdv ct : Value) (us : List Value), us.length = ps.length → bindArgs (W.fnOf x qual (defArgs st) (defBody st) (defScope st) .none kV doc pm an cdv ct) ⟨us, []⟩ = pure (ps.zip us)) : Binds K fd ps [] := by
  obtain ⟨oc, od, kV, doc, pm, an, cdv, ct, osl, rfl, lk, hcd⟩ := F.ex
  exact .all (h kV doc pm an cdv ct)
theorem fun_mk {x qual : Str} {st : Stmt} {f : Addr} {oc : Value} {od an : Option Addr} {osl : Array (Option Value)} {kV doc pm cdv ct : Value} (l : K.lookup f = some ⟨oc, od, .func (W.fnOf x qual (defArgs st) (defBody st) (defScope st) .none kV doc pm an cdv ct), osl⟩)
    (c : W.codeIn K cdv qual = true) (k : W.keepIn K (.ref f) = true) : Fun K x qual st f (W.fnOf x qual (defArgs st) (defBody st) (defScope st) .none kV doc pm an cdv ct) := ⟨⟨oc, od, kV, doc, pm, an, cdv, ct, osl, rfl, l, c⟩, k⟩
end
/-! ### expressions in short: the name that stands in the i-th slot -/
section
variable {X : Cx}
theorem pv (i : Nat) {x : Str} {pos : Pos} (hN : X.N[i]? = some x := by rfl) (hv : Vis X.env.scope x := by first | exact Or.inl rfl | exact Or.inr (Or.inl rfl) | exact Or.inr (Or.inr rfl)) (hd : (x == ("__debug__" : Str)) = false := by decide)
    (hcd : (x == ("__classdict__" : Str)) = false := by decide) : PE X (.Name x pos) (tVar i) := pe_var hN hv hd hcd
end

/-! ### tests -/
theorem iteF {A B : Prop} (h : B) : if false = true then A else B := by
  rw [if_neg Bool.false_ne_true]
  exact h
theorem iteT {A B : Prop} (h : A) : if true = true then A else B := by
  rw [if_pos rfl]
  exact h
theorem ite2 {c A B : Prop} [Decidable c] (h1 : c → A) (h2 : ¬ c → B) : if c then A else B := by
  by_cases h : c
  · rw [if_pos h]
    exact h1 h
  · rw [if_neg h]
    exact h2 h
/-! ### heaps -/
/-- all that was tracked is as it was -/
def Same (H H' : Hp) : Prop := ∀ b o, H b = some o → H' b = some o
theorem Same.refl (H : Hp) : Same H H := fun _ _ h => h
theorem Same.trans {H H1 H2 : Hp} (a : Same H H1) (b : Same H1 H2) : Same H H2 := fun c o h => b c o (a c o h)
theorem Same.free {H H' : Hp} (e : Same H H') {l : Addr} (h : H' l = Option.none) : H l = Option.none := by
  cases q : H l with
  | none => rfl
  | some o =>
    rw [e l o q] at h
    cases h
theorem Same.seq {K : W.Frag} {H H' : Hp} {a : Addr} {xs : List V} (e : Same H H') (h : SqL K H a xs) : SqL K H' a xs := by
  rcases h with (h | ⟨o, h⟩) | h
  · exact .inl (.inl (e _ _ h))
  · exact .inl (.inr ⟨o, e _ _ h⟩)
  · exact .inr h

end L2

namespace L2
open PySem PySem.Spec PyProof.Rows
section
variable {X : Cx}
end

/-! ### a dict's pairs: keys that differ -/
section
variable {κ : Type} [DecidableEq κ]
end
end L2


set_option Elab.async false
set_option linter.all false
set_option maxRecDepth 100000
set_option maxHeartbeats 4000000
namespace HT
open PySem PyProof.Rows
open PySem.SeqAt
open PySem.AutoSeq1 (wpAny_loadPart')
open PySem.MeetsSeq PySem.MeetsSeq2 PySem.MeetsSeq3
section
variable {prog : Program} {w : World} {A : Around} {E : Value → Shared → Prop} {s : Shared}
end
end HT

set_option Elab.async false
set_option linter.all false
set_option maxRecDepth 100000
set_option maxHeartbeats 4000000
namespace L2
open PySem PySem.Spec PyProof.Rows

/-! ### sequences that a loop walks -/
structure Runs (J : It) (xs : List V) (Ok : Hp → Prop) : Prop where
  go : ∀ (i : Nat) (x : V) (H : Hp), Ok H → xs[i]? = some x → J.go i H
  yld : ∀ (i : Nat) (x : V) (H : Hp) (y : V) (H' : Hp), Ok H → xs[i]? = some x → J.yld i H y H' → y = x ∧ H' = H
  stop : ∀ (H : Hp), Ok H → J.stop xs.length H
theorem runs_list {K : W.Frag} {a : Addr} {xs : List V} : Runs (Itl K a) xs (fun H => SqL K H a xs) where
  go := fun i x H ok hx => ⟨xs, x, ok, hx⟩
  yld := fun i x H y H' ok hx h => by
    obtain ⟨e, h⟩ := h
    have q := h xs ok
    rw [hx] at q
    exact ⟨(Option.some.inj q).symm, e⟩
  stop := fun H ok => ⟨xs, ok, Nat.le_refl _⟩
def rangeV (lo : Int) (n : Nat) : List V := (List.range n).map fun (k : Nat) => V.int (lo + (k : Int))
theorem rangeV_len (lo : Int) (n : Nat) : (rangeV lo n).length = n := by unfold rangeV; rw [List.length_map, List.length_range]
theorem rangeV_get {lo : Int} {n i : Nat} {x : V} (h : (rangeV lo n)[i]? = some x) : i < n ∧ x = V.int (lo + (i : Int)) := by
  have hi : i < n := by
    have := (List.getElem?_eq_some_iff.mp h).1
    rwa [rangeV_len] at this
  refine ⟨hi, ?_⟩
  unfold rangeV at h
  rw [List.getElem?_map, List.getElem?_range hi] at h
  exact (Option.some.inj h).symm
theorem runs_range {lo : Int} {n : Nat} : Runs (Itr lo n) (rangeV lo n) (fun _ => True) where
  go := fun i x H _ hx => (rangeV_get hx).1
  yld := fun i x H y H' _ hx h => by
    obtain ⟨e, h⟩ := h
    exact ⟨h.trans (rangeV_get hx).2.symm, e⟩
  stop := fun H _ => by
    show n ≤ (rangeV lo n).length
    rw [rangeV_len]
    exact Nat.le_refl _

theorem for_runs {J : It} {xs : List V} {Ok : Hp → Prop} (R : Runs J xs Ok) {g : TG} {tb : TS} {D : Ends} {σ : St} {H : Hp} (Pv : Nat → St → Hp → Prop) (h0 : Pv 0 σ H) (hl : ∀ i σ H, i ≤ xs.length → Pv i σ H → Ok H)
    (hs : ∀ i x σ H, xs[i]? = some x → Pv i σ H → g x σ H fun σ2 H2 => tb { D with nx := Pv (i + 1), ct := Pv (i + 1), bk := D.nx } σ2 H2) (hd : ∀ σ H, Pv xs.length σ H → D.nx σ H) :
    ∃ W : Nat → Nat → St → Hp → Prop, (∃ m, W 0 m σ H) ∧ ∀ i m σ H, W i m σ H →
      (J.stop i H ∧ D.nx σ H) ∨ (J.go i H ∧ ∃ N : St → Hp → Prop, (∀ σ' H', N σ' H' → ∃ m', m' < m ∧ W (i + 1) m' σ' H') ∧ ∀ x H', J.yld i H x H' → g x σ H' fun σ2 H2 => tb { D with nx := N, ct := N, bk := D.nx } σ2 H2) := by
  refine ⟨fun i m σ H => m = xs.length - i ∧ i ≤ xs.length ∧ Pv i σ H, ⟨xs.length, by simp, Nat.zero_le _, h0⟩, ?_⟩
  rintro i m σ H ⟨rfl, hi, p⟩
  have q := hl i σ H hi p
  by_cases hlt : i < xs.length
  · have hx : xs[i]? = some xs[i] := by simp [hlt]
    refine .inr ⟨R.go i _ H q hx, Pv (i + 1), fun σ' H' p' => ⟨xs.length - (i + 1), by omega, rfl, hlt, p'⟩, fun x H' y => ?_⟩
    obtain ⟨e1, e2⟩ := R.yld i _ H x H' q hx y
    rw [e2]
    exact hs i x σ H (by rw [e1]; exact hx) p
  · have e : i = xs.length := by omega
    subst e
    exact .inl ⟨R.stop H q, hd σ H p⟩

/-! ### the signs of a text -/
def Its (x : Str) : It := ⟨fun i _ => i < x.cps.size, fun i H v H' => H' = H ∧ ∃ c, x.cps[i]? = some c ∧ v = .str ⟨#[c]⟩, fun i _ => x.cps.size ≤ i⟩
def signsV (x : Str) : List V := x.cps.toList.map fun c => V.str ⟨#[c]⟩
theorem runs_str {x : Str} : Runs (Its x) (signsV x) (fun _ => True) where
  go := fun i y H _ hx => by
    have := (List.getElem?_eq_some_iff.mp hx).1
    unfold signsV at this
    rw [List.length_map] at this
    show i < x.cps.size
    simpa using this
  yld := fun i y H z H' _ hx h => by
    obtain ⟨e, c, hc, hz⟩ := h
    refine ⟨?_, e⟩
    unfold signsV at hx
    rw [List.getElem?_map, Array.getElem?_toList, hc] at hx
    rw [hz]
    exact Option.some.inj hx
  stop := fun H _ => by
    show x.cps.size ≤ (signsV x).length
    unfold signsV
    simp
theorem turn_str {P : Program} {w : World} {K : W.Frag} {tg : Expr} (x : Str) (t : Tok) (it : Addr) (ty : String) (hty : ty = "str_ascii_iterator" ∨ ty = "str_iterator") :
    Turn P w K tg (Its x) [it] it (fun i h => h.IsStrIter it ty x t i) where
  mem := by simp
  obj := fun i h st b hb => by
    have e : b = it := by simpa using hb
    subst e
    obtain ⟨o, e, c, d⟩ := st
    exact ⟨o, e, fun v z => by rw [d] at z; cases z⟩
  keep := fun i h h' st k => by
    obtain ⟨o, ho, r⟩ := st
    exact ⟨o, k it (by simp) o ho, r⟩
  item := by
    intro X hP hw hK hc i pins s σ H E I hf st hg
    subst hP hw hK
    obtain ⟨f0, f1, f2, f3, f4, f5⟩ := hf it (by simp)
    have hi : i < x.cps.size := hg
    have hx : x.cps[i]? = some x.cps[i] := by simp [hi]
    have fin : ∀ h' : Heap, h'.IsStrIter it ty x t (i + 1) → Heap.SameBut it s.heap h' → ∃ u, some (Value.str ⟨#[x.cps[i]]⟩ s.toks) = some u ∧
        wpAny (model X.prog X.w) X.A (letOwnedTupleGo tg (.ref it) u) (fun _ s2 => ∃ y H', Inv X pins σ H' s2 ∧ RelV y u ∧ (Its x).yld i H y H' ∧ s2.heap.IsStrIter it ty x t (i + 1) ∧ ∀ b ∈ [it], H' b = none) E { s with heap := h', toks := s.toks + 1 } := fun h' st' sb => by
      have I1 : Inv X pins σ H { s with heap := h', toks := s.toks + 1 } := I.turned (fun b o hb e => (sb.2 b hb).trans e) f0 f1 f3 f4 f5
      obtain ⟨o, e, c, d⟩ := id st'
      refine ⟨_, rfl, go_of (s := { s with heap := h', toks := s.toks + 1 }) e c d ?_ ⟨.str ⟨#[x.cps[i]]⟩, H, I1, ⟨_, rfl⟩, ⟨rfl, _, hx, rfl⟩, st', fun b hb => (hf b hb).1⟩⟩
      rcases hty with rfl | rfl <;> decide
    rcases hty with rfl | rfl
    · exact wpAny_pyNext_ascii_item st hx fun h' st' sb => fin h' st' sb
    · exact wpAny_pyNext_wide_item st hx fun h' st' sb => fin h' st' sb
  done := by
    intro X hP hw hK hc i pins s σ H E I hf st hg
    subst hP hw hK
    obtain ⟨f0, f1, f2, f3, f4, f5⟩ := hf it (by simp)
    have hi : x.cps.size ≤ i := hg
    have hx : x.cps[i]? = none := by simp [hi]
    rcases hty with rfl | rfl
    · exact wpAny_pyNext_ascii_end (I.ok.hd hc) st hx fun h' eb => ⟨rfl, I.turned (t' := s.toks) (fun b o hb e => eb b o hb e) f0 f1 f3 f4 f5⟩
    · exact wpAny_pyNext_wide_end (I.ok.hd hc) st hx fun h' eb => ⟨rfl, I.turned (t' := s.toks) (fun b o hb e => eb b o hb e) f0 f1 f3 f4 f5⟩
  self := fun _ _ _ _ _ st h => by
    rcases hty with rfl | rfl
    · exact wpAny_pyIter_striter_ascii st h
    · exact wpAny_pyIter_striter_wide st h
section
variable {X : Cx} {tg : Expr}
def iStr (tl : TE) : TI := fun σ H R => tl σ H fun x H1 => ∃ z, x = .str z ∧ R (Its z) H1
theorem pi_str {l : Expr} {tl : TE} (hl : PE X l tl) : PI X tg l (iStr tl) := by
  intro pins s σ H R I h
  refine thn (hl pins s σ H _ I h) fun v s1 ⟨x, H1, I1, r1, q1⟩ => ?_
  obtain ⟨z, e, q⟩ := q1
  subst e
  obtain ⟨t, rfl⟩ := r1
  have fp : ∀ b ∈ [s1.heap.objs.size], FpOk X pins H1 b := fun b hb => by
    have e : b = s1.heap.objs.size := by simpa using hb
    subst e
    exact I1.fpOk (Nat.le_refl _) (I1.hok.fresh (Nat.le_refl _))
  cases ha : z.cps.all (· < 128) with
  | false =>
    refine wpAny_pyIter_wide ha ?_
    exact ⟨s1.heap.objs.size, [s1.heap.objs.size], _, _, H1, rfl, I1.kept (t' := s1.toks) fun b o e => Heap.get?_push_of_some _ e, turn_str z t _ "str_iterator" (.inr rfl), ⟨_, Heap.get?_push_size _ rfl, rfl, rfl⟩, fp, q⟩
  | true =>
    refine wpAny_pyIter_ascii ha ?_
    exact ⟨s1.heap.objs.size, [s1.heap.objs.size], _, _, H1, rfl, I1.kept (t' := s1.toks) fun b o e => Heap.get?_push_of_some _ e, turn_str z t _ "str_ascii_iterator" (.inl rfl), ⟨_, Heap.get?_push_size _ rfl, rfl, rfl⟩, fp, q⟩
end

/-! ### a comprehension -/
def clOf (env : Env) : List (Str × NameKind) → List (Str × Addr) → List (Str × Addr)
  | [], acc => acc
  | (n, k) :: r, acc => if (k == NameKind.free) = true then clOf env r ((n, (env.cells.lookup n).getD 0) :: acc) else clOf env r acc
theorem cellOf_some {env : Env} {n : Str} {c : Addr} (h : env.cells.lookup n = some c) : cellOf env n = pure c := by
  unfold cellOf
  rw [h]
theorem closureFor_of {scope : Scope} {env : Env} (h : ∀ y ∈ scope.names, y.2 = .free → ∃ c, env.cells.lookup y.1 = some c) : closureFor scope env = pure (clOf env scope.names []) := by
  have key : ∀ (l : List (Str × NameKind)) (acc : List (Str × Addr)), (∀ y ∈ l, y.2 = .free → ∃ c, env.cells.lookup y.1 = some c) →
      (forIn l acc fun (x : Str × NameKind) (r : List (Str × Addr)) => (match x with
        | (name, kind) => if (kind == NameKind.free) = true then (do let a ← cellOf env name; pure (ForInStep.yield ((name, a) :: r))) else pure (ForInStep.yield r) : Sem (ForInStep (List (Str × Addr))))) = pure (clOf env l acc) := by
    intro l
    induction l with
    | nil => intro acc _; rfl
    | cons y r ih =>
      intro acc hy
      obtain ⟨n, k⟩ := y
      have ih' := fun acc => ih acc fun z hz => hy z (List.mem_cons_of_mem _ hz)
      rw [List.forIn_cons]
      by_cases hk : (k == NameKind.free) = true
      · obtain ⟨c, hc⟩ := hy (n, k) List.mem_cons_self (by simpa using hk)
        have hc : env.cells.lookup n = some c := hc
        simp only [hk, if_true, cellOf_some hc]
        unfold clOf
        rw [if_pos hk, hc]
        exact ih' _
      · simp only [hk]
        unfold clOf
        rw [if_neg hk]
        exact ih' _
  unfold closureFor
  have q := key scope.names [] h
  show ((forIn scope.names [] _ : Sem (List (Str × Addr))) >>= fun r => pure r) = _
  first
    | (rw [show (forIn scope.names [] _ : Sem (List (Str × Addr))) = _ from q]; rfl)
    | (refine (congrArg (fun m => m >>= fun r => pure r) q).trans ?_; rfl)
theorem clOf_lookup {env : Env} : ∀ (l : List (Str × NameKind)) (acc : List (Str × Addr)) (x : Str) (c : Addr), (∀ y ∈ l, y.2 = .free → ∃ c, env.cells.lookup y.1 = some c) →
    (∀ x c, acc.lookup x = some c → env.cells.lookup x = some c) → (clOf env l acc).lookup x = some c → env.cells.lookup x = some c
  | [], acc, x, c, _, ha, h => ha x c h
  | (n, k) :: r, acc, x, c, hy, ha, h => by
    have hr : ∀ y ∈ r, y.2 = .free → ∃ c, env.cells.lookup y.1 = some c := fun y hy' => hy y (List.mem_cons_of_mem _ hy')
    unfold clOf at h
    by_cases hk : (k == NameKind.free) = true
    · rw [if_pos hk] at h
      refine clOf_lookup r _ x c hr (fun z d hz => ?_) h
      obtain ⟨c', hc'⟩ := hy (n, k) List.mem_cons_self (by simpa using hk)
      have hc' : env.cells.lookup n = some c' := hc'
      rw [List.lookup_cons] at hz
      by_cases e : (z == n) = true
      · simp only [e] at hz
        have e' : z = n := by simpa using e
        rw [e', hc']
        rw [hc'] at hz
        exact hz
      · have e' : (z == n) = false := by simpa using e
        simp only [e'] at hz
        exact ha z d hz
    · rw [if_neg hk] at h
      exact clOf_lookup r acc x c hr ha h
theorem clOf_keeps {env : Env} : ∀ (l : List (Str × NameKind)) (acc : List (Str × Addr)) (x : Str), (acc.lookup x).isSome = true → ((clOf env l acc).lookup x).isSome = true
  | [], acc, x, h => h
  | (n, k) :: r, acc, x, h => by
    unfold clOf
    by_cases hk : (k == NameKind.free) = true
    · rw [if_pos hk]
      refine clOf_keeps r _ x ?_
      rw [List.lookup_cons]
      cases e : (x == n) with
      | true => rfl
      | false => exact h
    · rw [if_neg hk]
      exact clOf_keeps r acc x h
theorem clOf_has {env : Env} : ∀ (l : List (Str × NameKind)) (acc : List (Str × Addr)) (x : Str), (x, NameKind.free) ∈ l → ((clOf env l acc).lookup x).isSome = true
  | [], acc, x, h => nomatch h
  | (n, k) :: r, acc, x, h => by
    unfold clOf
    rcases List.mem_cons.mp h with e | h
    · injection e with e1 e2
      subst e1
      subst e2
      rw [if_pos (by decide)]
      refine clOf_keeps r _ x ?_
      rw [List.lookup_cons]
      simp
    · by_cases hk : (k == NameKind.free) = true
      · rw [if_pos hk]
        exact clOf_has r _ x h
      · rw [if_neg hk]
        exact clOf_has r _ x h
theorem lookup_relabel_free {env : Env} : ∀ {names : List (Str × NameKind)} {x : Str}, names.lookup x = some .free →
    (names.map fun (n, k) => if (k == NameKind.free && env.scope.kind == .function && env.kindOf n == some .cell) then (n, NameKind.cell) else (n, k)).lookup x = some .cell ∨
    (names.map fun (n, k) => if (k == NameKind.free && env.scope.kind == .function && env.kindOf n == some .cell) then (n, NameKind.cell) else (n, k)).lookup x = some .free
  | [], _, h => by simp at h
  | (n, k) :: r, x, h => by
    have ih := @lookup_relabel_free env r x
    rw [List.map_cons]
    show List.lookup x ((if (k == NameKind.free && env.scope.kind == .function && env.kindOf n == some .cell) = true then (n, NameKind.cell) else (n, k)) :: _) = _ ∨ List.lookup x ((if (k == NameKind.free && env.scope.kind == .function && env.kindOf n == some .cell) = true then (n, NameKind.cell) else (n, k)) :: _) = _
    cases hx : x == n with
    | true =>
      simp only [List.lookup_cons, hx] at h
      cases h
      by_cases hc : (NameKind.free == NameKind.free && env.scope.kind == .function && env.kindOf n == some .cell) = true
      · rw [if_pos hc]; simp only [List.lookup_cons, hx]; exact .inl trivial
      · rw [if_neg hc]; simp only [List.lookup_cons, hx]; exact .inr trivial
    | false =>
      simp only [List.lookup_cons, hx] at h
      by_cases hc : (k == NameKind.free && env.scope.kind == .function && env.kindOf n == some .cell) = true
      · rw [if_pos hc]; simp only [List.lookup_cons, hx]; exact ih h
      · rw [if_neg hc]; simp only [List.lookup_cons, hx]; exact ih h
end L2

set_option Elab.async false
set_option linter.all false
set_option maxRecDepth 100000
set_option maxHeartbeats 4000000
namespace L2
open PySem PySem.Spec PyProof.Rows

theorem lookup_relabel_inv {env : Env} : ∀ {names : List (Str × NameKind)} {x : Str},
    ((names.map fun (n, k) => if (k == NameKind.free && env.scope.kind == .function && env.kindOf n == some .cell) then (n, NameKind.cell) else (n, k)).lookup x = some .cell ∨
    (names.map fun (n, k) => if (k == NameKind.free && env.scope.kind == .function && env.kindOf n == some .cell) then (n, NameKind.cell) else (n, k)).lookup x = some .free) →
    names.lookup x = some .free ∨ names.lookup x = some .cell
  | [], _, h => by simp at h
  | (n, k) :: r, x, h => by
    have ih := @lookup_relabel_inv env r x
    rw [List.map_cons] at h
    change List.lookup x ((if (k == NameKind.free && env.scope.kind == .function && env.kindOf n == some .cell) = true then (n, NameKind.cell) else (n, k)) :: _) = _ ∨ List.lookup x ((if (k == NameKind.free && env.scope.kind == .function && env.kindOf n == some .cell) = true then (n, NameKind.cell) else (n, k)) :: _) = _ at h
    cases hx : x == n with
    | true =>
      simp only [List.lookup_cons, hx]
      by_cases hc : (k == NameKind.free && env.scope.kind == .function && env.kindOf n == some .cell) = true
      · left
        have : (k == NameKind.free) = true := by
          cases hk : (k == NameKind.free) with
          | true => rfl
          | false => rw [hk] at hc; simp at hc
        have : k = NameKind.free := by simpa using this
        rw [this]
      · rw [if_neg hc] at h
        simp only [List.lookup_cons, hx] at h
        rcases h with h | h
        · exact .inr h
        · exact .inl h
    | false =>
      simp only [List.lookup_cons, hx]
      apply ih
      by_cases hc : (k == NameKind.free && env.scope.kind == .function && env.kindOf n == some .cell) = true
      · rw [if_pos hc] at h; simp only [List.lookup_cons, hx] at h; exact h
      · rw [if_neg hc] at h; simp only [List.lookup_cons, hx] at h; exact h

/-- the block's context -/
abbrev cxComp (X : Cx) (scope : Scope) (N : List Str) (C : Addr) (s : Shared) (H : Hp) (fp : List Addr) : Cx :=
  { X with N := N, s₀ := s, H₀ := H, env := compEnvC scope (clOf X.env scope.names []) C X.env, outer := X.stack, ex := fp, fn := fun _ => false, pn := [], xe := fun _ _ => False }
/-- the block's names at its entry: its own (nothing), then the free ones as they stand around it -/
def sgC (n : Nat) (js : List Nat) (σ : St) : St := List.replicate n none ++ js.map fun j => (σ[j]?).join
theorem sgC_len (n : Nat) (js : List Nat) (σ : St) : (sgC n js σ).length = n + js.length := by unfold sgC; simp

/-- what the rule asks of the text -/
structure CompOk (X : Cx) (scope : Scope) (own frees : List Str) (js : List Nat) : Prop where
  calm : X.calm = true
  kind : scope.kind = .function
  nocell : ∀ y ∈ scope.names, y.2 ≠ .cell
  locals : ∀ y ∈ scope.names, y.2 = .local → scope.names.lookup y.1 = some .local
  fr : ∀ y ∈ scope.names, y.2 = .free → X.env.scope.names.lookup y.1 = some .cell ∨ X.env.scope.names.lookup y.1 = some .free
  fre : ∀ x ∈ frees, scope.names.lookup x = some .free
  slots : js.map (fun j => X.N[j]?) = frees.map some

/-- the tests of a comprehension -/
def PTs (X : Cx) (ifs : List Expr) (t : TT) : Prop :=
  ∀ (pins : List (Addr × Obj)) (s : Shared) (σ : St) (H : Hp) (Q : Bool → Hp → Prop), Inv X pins σ H s → t σ H Q →
    wpAny (model X.prog X.w) X.A (forIn ifs true fun c r => if r = true then do let ok ← isTrue c X.env (eval c X.env); pure (ForInStep.yield ok) else pure (ForInStep.yield r)) (TP X pins σ Q) X.xe s
def tTrue : TT := fun _ H Q => Q true H
theorem pts_nil {X : Cx} : PTs X [] tTrue := fun _ _ _ H _ I h => wpAny_tests_nil ⟨H, I, h⟩
theorem pts_one {X : Cx} {c : Expr} {t : TT} (h : PT X c t) : PTs X [c] t := fun pins s σ H Q I q => wpAny_tests_one (h pins s σ H Q I q)

/-- the reading of a comprehension, its iterator given -/
def compBody (n : Nat) (js : List Nat) (g : TG) (tt : TT) (te : TE) (σ : St) (Q : VK) (J : It) (H1 : Hp) : Prop := ∀ D, H1 D = none →
  ∃ W : Nat → Nat → List V → St → Hp → Prop, (∃ m, W 0 m [] (sgC n js σ) (upd H1 D (.lst []))) ∧ ∀ i m ys σ' H', W i m ys σ' H' →
    (J.stop i H' ∧ Q (.ref D) H') ∨
    (J.go i H' ∧ ys.length < sizeLine ∧ ∃ N : List V → St → Hp → Prop, (∀ ys3 σ3 H3, N ys3 σ3 H3 → ∃ m', m' < m ∧ W (i + 1) m' ys3 σ3 H3) ∧ ∀ x H2, J.yld i H' x H2 → g x σ' H2 fun σ3 H3 => tt σ3 H3 fun b H4 =>
      if b = true then te σ3 H4 fun v H5 => H5 D = some (.lst ys) ∧ N (ys ++ [v]) σ3 (upd H5 D (.lst (ys ++ [v])))
      else N ys σ3 H4)

section
variable {prog : Program} {w : World} {A : Around} {E : Value → Shared → Prop} {R : Result → Shared → Prop} {s : Shared}
theorem compLoop_any {elt target iter : Expr} {ifs : List Expr} {scope : Scope} {pos : Pos} {it acc : Value} {env : Env} (I : Nat → Shared → Prop)
    (turn : ∀ n s, I n s → ∀ E : Value → Shared → Prop, wpAny (model prog w) A (pyNext it) (fun r s₁ => match r with
      | none => R (.ok .next) s₁
      | some v => wpAny (model prog w) A (letOwnedTupleGo target it v) (fun _ s₁' => wpAny (model prog w) A (assign target env v) (fun _ s₂ =>
          wpAny (model prog w) A (forIn ifs true fun c r => if r = true then do let ok ← isTrue c env (eval c env); pure (ForInStep.yield ok) else pure (ForInStep.yield r)) (fun ok s₃ =>
            if ok = true then wpAny (model prog w) A (eval elt env) (fun x s₄ =>
              wpAny (model prog w) A (call (.builtin "list.append") [acc, x]) (fun _ s₅ => ∃ m, m < n ∧ I m s₅) E s₄) E s₃
            else ∃ m, m < n ∧ I m s₃) E s₂) E s₁') E s₁) E s)
    (n : Nat) (h : I n s) :
    codeAny (model prog w) A (.compLoop (.ListComp elt [⟨target, iter, ifs, 0⟩] scope pos) 0 it acc env) R s := by
  refine codeAny_loop rfl I (fun n s hI => ?_) n h
  show wpAny _ A ((compTurn (.ListComp elt [⟨target, iter, ifs, 0⟩] scope pos) 0 it acc env).onRaise (fun x => do noteFrame x env; theTreesLotGoes x)) _ _ s
  refine wpAny_noted ?_
  rw [compTurn_list]
  refine wpAny_bind (wpAny_standAt (wpAny_bind (wpAny_mono (turn n s hI _) (fun r s₁ h₁ => ?_) fun _ _ h' => h')))
  cases r with
  | none => exact wpAny_pure h₁
  | some v =>
    refine wpAny_bind (wpAny_mono h₁ (fun _ s₁' h₁' => ?_) fun _ _ h' => h')
    refine wpAny_bind (wpAny_mono h₁' (fun _ s₂ h₂ => wpAny_bind (wpAny_mono h₂ (fun ok s₃ h₃ => ?_) fun _ _ h' => h')) fun _ _ h' => h')
    cases ok with
    | false => exact wpAny_pure ⟨rfl, h₃⟩
    | true =>
      exact wpAny_bind (wpAny_bind (wpAny_mono h₃ (fun x s₄ h₄ => wpAny_bind (wpAny_mono h₄ (fun _ s₅ h₅ => wpAny_pure (wpAny_pure ⟨rfl, h₅⟩)) fun _ _ h' => h')) fun _ _ h' => h'))
end

section
variable {X : Cx} {pins : List (Addr × Obj)} {σ : St} {scope : Scope} {own frees : List Str} {js : List Nat}
theorem CompOk.cells (c : CompOk X scope own frees js) (ok : X.Ok) : ∀ y ∈ scope.names, y.2 = .free → ∃ a, X.env.cells.lookup y.1 = some a := fun y hy e => by
  rcases c.fr y hy e with h | h
  · exact ok.has y.1 (.inl h)
  · exact ok.has y.1 (.inr h)
theorem CompOk.cl (c : CompOk X scope own frees js) (ok : X.Ok) {x : Str} {a : Addr} (h : (clOf X.env scope.names []).lookup x = some a) : X.env.cells.lookup x = some a :=
  clOf_lookup scope.names [] x a (c.cells ok) (fun _ _ z => by simp at z) h
theorem CompOk.has (c : CompOk X scope own frees js) {x : Str} (h : scope.names.lookup x = some .free) : ∃ a, (clOf X.env scope.names []).lookup x = some a :=
  Option.isSome_iff_exists.mp (clOf_has scope.names [] x (PySem.mem_of_lookup h))

/-- the block's own context stands -/
theorem CompOk.ok {s2 : Shared} {H2 : Hp} {fp : List Addr} {C : Addr} (c : CompOk X scope own frees js) (I : Inv X pins σ H2 s2) (f2 : ∀ b ∈ fp, FpOk X pins H2 b) (hlt : ∀ b ∈ fp, b < s2.heap.objs.size) (hC : s2.heap.objs.size ≤ C) (N : List Str) :
    (cxComp X scope N C s2 H2 fp).Ok where
  mod := I.ok.mod
  kind := c.kind
  glob := I.ok.glob
  blt := I.ok.blt
  above := hC
  inj := fun x y a h1 h2 => I.ok.inj x y a (c.cl I.ok h1) (c.cl I.ok h2)
  has := fun x h => by
    have h' : scope.names.lookup x = some .free ∨ scope.names.lookup x = some .cell := lookup_relabel_inv (env := X.env) h
    rcases h' with h' | h'
    · exact c.has h'
    · exact absurd rfl (c.nocell _ (PySem.mem_of_lookup h'))
  cab := fun x a h => absurd (show false = true from h) Bool.false_ne_true
  hd := fun h => I.ok.hd h
  frames := I.ok.frames
  stk := .inl rfl
  exf := fun b hb => ⟨Nat.ne_of_lt (Nat.lt_of_lt_of_le (hlt b hb) hC), fun x a h => (f2 b hb).2.2.2.2.1 x a (c.cl I.ok h)⟩
  bs := I.bs
  bsz := Nat.le_trans I.ok.bsz I.sz
  noex := fun b o e hb => by
    rcases (f2 b hb).2.2.2.1 with z | z
    · exact I.ok.noex b o e z
    · exact absurd (Nat.lt_of_lt_of_le (Heap.lt_size e) (Nat.le_trans I.ok.bsz z)) (Nat.lt_irrefl _)
  exfs := fun b hb z => by
    rcases List.mem_cons.mp (I.stkSub b z) with e | e
    · exact (f2 b hb).2.1 e
    · exact (f2 b hb).2.2.1 e
  funs := I.stack
  frf := I.stkFree

theorem comp_block {s2 : Shared} {tg iter elt : Expr} {ifs : List Expr} {pos : Pos} {g : TG} {tt : TT} {te : TE} {Q : VK} {RR : Value → Addr → Result → Shared → Prop} {itv : Value} {E : Value → Shared → Prop}
    (c : CompOk X scope own frees js)
    (hg : ∀ C s H fp, PG (cxComp X scope (own ++ frees) C s H fp) tg g) (ht : ∀ C s H fp, PTs (cxComp X scope (own ++ frees) C s H fp) ifs tt) (he : ∀ C s H fp, PE (cxComp X scope (own ++ frees) C s H fp) elt te)
    (h : PIE X pins σ tg (compBody own.length js g tt te σ Q) itv s2)
    (hR : ∀ D C H' s', Inv X pins σ H' s' → FpOk X pins H' C → (∃ m, s'.heap.Ns C m) → Q (.ref D) H' → RR (.ref D) C (.ok .next) s') :
    wpAny (model X.prog X.w) X.A (newList []) (fun acc s₃ => wpAny (model X.prog X.w) X.A (newFunctionEnv scope X.env.globals (clOf X.env scope.names []) [] X.env.qual none .none (some X.env)) (fun cenv s₄ =>
      codeAny (model X.prog X.w) X.A (.compStart (.ListComp elt [⟨tg, iter, ifs, 0⟩] scope pos) 0 itv acc { cenv with scope := relabel scope X.env }) (RR acc cenv.locals) s₄) E s₃) E s2 := by
  obtain ⟨it, fp, tn, J, H2, e, I2, T, st2, f2, hq⟩ := h
  subst e
  refine wpAny_newObj_type (wpAny_newFunctionEnv c.nocell (by intro y hy; simp at hy) (fun h₁ hns₁ hsb₁ => ?_) c.kind)
  dsimp only at hns₁ hsb₁ ⊢
  generalize hH2 : s2.heap.push { cls := .type "list", dict := none, data := .seq ([] : List Value).toArray } = G2 at hns₁ hsb₁ ⊢
  have hC : G2.objs.size = s2.heap.objs.size + 1 := by rw [← hH2, Heap.size_push]
  have hDC : s2.heap.objs.size ≠ G2.objs.size := by rw [hC]; exact Nat.ne_of_lt (Nat.lt_succ_self _)
  have hCle : s2.heap.objs.size ≤ G2.objs.size := by rw [hC]; exact Nat.le_succ _
  have old : ∀ b o, s2.heap.get? b = some o → h₁.get? b = some o := fun b o e => by
    have hb := Heap.lt_size e
    exact hsb₁.extBut b o (by rw [hC]; exact Nat.ne_of_lt (Nat.lt_succ_of_lt hb)) (Heap.get?_push_of_some _ (hH2 ▸ Heap.get?_push_of_some _ e))
  have hD : H2 s2.heap.objs.size = none := I2.hok.fresh (Nat.le_refl _)
  have hlt : ∀ b ∈ fp, b < s2.heap.objs.size := fun b hb => by
    obtain ⟨o, e, _⟩ := T.obj _ _ st2 b hb
    exact Heap.lt_size e
  have hacc : h₁.get? s2.heap.objs.size = some { cls := .type "list", data := .seq ([] : List Value).toArray } := hsb₁.extBut _ _ hDC (Heap.get?_push_of_some _ (hH2 ▸ Heap.get?_push_size _ rfl))
  obtain ⟨W, ⟨m0, w0⟩, turn⟩ := hq _ hD
  -- the block's entry
  have I0 : ∀ tk, Inv (cxComp X scope (own ++ frees) G2.objs.size s2 H2 fp) [] (sgC own.length js σ) (upd H2 s2.heap.objs.size (.lst [])) { s2 with heap := h₁, toks := tk } := fun tk => by
    refine ⟨c.ok I2 f2 hlt hCle _, rfl, I2.bare, Un.laid old (Nat.le_refl _) hD, ⟨_, hns₁, fun i x v h1 h2 h3 => ?_⟩, fun x a h => ?_, ?_, fun x a h => ?_, fun p hp => absurd (show p ∈ ([] : List (Addr × Obj)) from hp) (by simp), I2.hok.laid old (Nat.le_refl _) ⟨Nat.zero_le _, [], 0, .nil, hacc⟩, ?_⟩
    · have hi : own.length ≤ i := by
        by_cases hi : i < own.length
        · unfold sgC at h2
          rw [List.getElem?_append_left (by simpa using hi), List.getElem?_replicate] at h2
          rw [if_pos hi] at h2
          cases h2
        · omega
      have hx : frees[i - own.length]? = some x := by
        have h1' : (own ++ frees)[i]? = some x := h1
        rwa [List.getElem?_append_right hi] at h1'
      have h2' : (js.map fun j => (σ[j]?).join)[i - own.length]? = some (some v) := by
        unfold sgC at h2
        rw [List.getElem?_append_right (by simpa using hi)] at h2
        simpa using h2
      rw [List.getElem?_map] at h2'
      obtain ⟨j, hj, hjv⟩ := Option.map_eq_some_iff.mp h2'
      have hs := congrArg (fun l => l[i - own.length]?) c.slots
      rw [List.getElem?_map, List.getElem?_map, hj, hx] at hs
      have hNj : X.N[j]? = some x := Option.some.inj hs
      have hσ : σ[j]? = some (some v) := by
        cases q : σ[j]? with
        | none => rw [q] at hjv; cases hjv
        | some o =>
          rw [q] at hjv
          have : o = some v := hjv
          rw [this]
      have hfree := c.fre x (List.mem_of_getElem? hx)
      have hXk := c.fr (x, .free) (PySem.mem_of_lookup hfree) rfl
      obtain ⟨m, hn, hl⟩ := I2.loc
      have vis : Vis X.env.scope x := by rcases hXk with k | k; exact .inr (.inl k); exact .inr (.inr k)
      obtain ⟨u, r, l⟩ := hl j x v hNj hσ vis
      refine ⟨u, r, .inr ⟨lookup_relabel_free (env := X.env) hfree, ?_⟩⟩
      rcases l with ⟨hk, _⟩ | ⟨_, a, ha, hcell⟩
      · rcases hXk with k | k
        · have hk : X.env.scope.names.lookup x = some .local := hk
          rw [show X.env.scope.names.lookup x = some .cell from k] at hk; cases hk
        · have hk : X.env.scope.names.lookup x = some .local := hk
          rw [show X.env.scope.names.lookup x = some .free from k] at hk; cases hk
      · obtain ⟨a', ha'⟩ := c.has hfree
        have e := c.cl I2.ok ha'
        rw [ha] at e
        cases e
        obtain ⟨o, ho, hd⟩ := hcell
        exact ⟨a, ha', o, old a o ho, hd⟩
    · obtain ⟨v, o, ho, hd⟩ := I2.cell x a (c.cl I2.ok h)
      exact ⟨v, o, old a o ho, hd⟩
    · show upd H2 s2.heap.objs.size (.lst []) G2.objs.size = none
      rw [upd_ne (Ne.symm hDC)]
      exact I2.hok.fresh hCle
    · obtain ⟨v, o, ho, hd⟩ := I2.cell x a (c.cl I2.ok h)
      rw [upd_ne (Nat.ne_of_lt (Heap.lt_size ho))]
      exact I2.freeC x a (c.cl I2.ok h)
    · rw [sgC_len, List.length_append]
      have := congrArg List.length c.slots
      rw [List.length_map, List.length_map] at this
      omega
  -- what stays true of the iterator's objects
  have stat : ∀ {H' : Hp}, (∀ b ∈ fp, H' b = none) → ∀ b ∈ fp, FpOk (cxComp X scope (own ++ frees) G2.objs.size s2 H2 fp) [] H' b := fun {H'} hn b hb => by
    obtain ⟨f0, f1, f3, f4, f5, f6⟩ := f2 b hb
    refine ⟨hn b hb, Nat.ne_of_lt (Nat.lt_of_lt_of_le (hlt b hb) hCle), fun z => ?_, .inl hb, fun x a h => f5 x a (c.cl I2.ok h), fun p hp => absurd (show p ∈ ([] : List (Addr × Obj)) from hp) (by simp)⟩
    rcases List.mem_cons.mp (I2.stkSub b z) with e | e
    · exact f1 e
    · exact f3 e
  have loop : ∀ s₃ : Shared, s₃ = { s2 with heap := h₁, toks := s2.toks + ([] : List (Str × Value)).length } →
      codeAny (model X.prog X.w) X.A (.compLoop (.ListComp elt [⟨tg, iter, ifs, 0⟩] scope pos) 0 (.ref it) (.ref s2.heap.objs.size) (compEnvC scope (clOf X.env scope.names []) G2.objs.size X.env))
        (RR (.ref s2.heap.objs.size) G2.objs.size) s₃ := by
    rintro s₃ rfl
    refine compLoop_any (fun n s' => ∃ i ys σ' H', Inv (cxComp X scope (own ++ frees) G2.objs.size s2 H2 fp) [] σ' H' s' ∧ tn i s'.heap ∧ (∀ b ∈ fp, H' b = none) ∧ W i n ys σ' H') ?_ m0
      ⟨0, [], _, _, I0 _, T.keep _ _ _ st2 fun b _ o e => old b o e, fun b hb => by rw [upd_ne (Nat.ne_of_lt (hlt b hb))]; exact (f2 b hb).1, w0⟩
    rintro n s3 ⟨i, ys, σ3, H3, I3, st3, fr3, w3⟩ E'
    rcases turn i n ys σ3 H3 w3 with ⟨stop, qn⟩ | ⟨go, hz, N, hN, step⟩
    · refine thn (T.done (cxComp X scope (own ++ frees) G2.objs.size s2 H2 fp) rfl rfl rfl c.calm i [] s3 σ3 H3 E' I3 (stat fr3) st3 stop) fun r s4 ⟨hr, I4⟩ => ?_
      subst hr
      have back : Inv X pins σ H3 s4 := I2.call' (ch := fp) I4.os I4.base I4.hok I4.bare fun b hb => ⟨(f2 b hb).2.2.2.1, (f2 b hb).2.1, (f2 b hb).2.2.2.2.1, (f2 b hb).2.2.2.2.2⟩
      exact hR _ _ H3 s4 back (I2.fpOk hCle I4.free) ⟨_, I4.loc.choose_spec.1⟩ qn
    · refine thn (T.item (cxComp X scope (own ++ frees) G2.objs.size s2 H2 fp) rfl rfl rfl c.calm i [] s3 σ3 H3 E' I3 (stat fr3) st3 go) fun r s4 ⟨u, hr, h4⟩ => ?_
      subst hr
      refine thn h4 fun _ s5 ⟨x, H5, I5, r5, y5, st5, fr5⟩ => ?_
      have I5' := I5.pinned (stat fr5) (T.obj _ _ st5)
      have nof : ∀ (e : Value) (s' : Shared), (cxComp X scope (own ++ frees) G2.objs.size s2 H2 fp).xe e s' → E' e s' := fun _ _ z => False.elim z
      refine wpAny_mono (hg _ _ _ _ _ s5 σ3 H5 x u _ I5' r5 (step x H5 y5)) (fun _ s6 ⟨σ6, H6, I6, q6⟩ => ?_) nof
      refine wpAny_mono (ht _ _ _ _ _ s6 σ6 H6 _ I6 q6) (fun b s7 ⟨H7, I7, q7⟩ => ?_) nof
      have again : ∀ {σ7 : St} {H7 : Hp} {s7 : Shared} {ys' : List V}, Inv (cxComp X scope (own ++ frees) G2.objs.size s2 H2 fp) ([] ++ pinsAt fp s5.heap) σ7 H7 s7 → N ys' σ7 H7 →
          ∃ m, m < n ∧ ∃ i ys σ' H', Inv (cxComp X scope (own ++ frees) G2.objs.size s2 H2 fp) [] σ' H' s7 ∧ tn i s7.heap ∧ (∀ b ∈ fp, H' b = none) ∧ W i m ys σ' H' := fun {σ7 H7 s7 ys'} I7 n7 => by
        obtain ⟨m', hm, w7⟩ := hN _ _ _ n7
        refine ⟨m', hm, i + 1, ys', σ7, H7, I7.unpinned, T.keep _ _ _ st5 fun b hb o e => (I7.pin (b, o) (List.mem_append_right _ (List.mem_append_right _ (mem_pinsAt hb e)))).1, fun b hb => ?_, w7⟩
        obtain ⟨o, e, d⟩ := T.obj _ _ st5 b hb
        exact (I7.pin (b, o) (List.mem_append_right _ (List.mem_append_right _ (mem_pinsAt hb e)))).2.1
      cases b with
      | false =>
        rw [if_neg Bool.false_ne_true] at q7 ⊢
        exact again I7 q7
      | true =>
        rw [if_pos rfl] at q7 ⊢
        refine wpAny_mono (he _ _ _ _ _ s7 σ6 H7 _ I7 q7) (fun v s8 ⟨y, H8, I8, r8, hD8, w8⟩ => ?_) nof
        refine wpAny_mono (mt_append (X := cxComp X scope (own ++ frees) G2.objs.size s2 H2 fp) _ s8 σ6 H8 (.ref s2.heap.objs.size) [y] (.ref s2.heap.objs.size) [v] (fun _ H9 => H9 = upd H8 s2.heap.objs.size (.lst (ys ++ [y]))) I8 rfl (.cons r8 .nil) ⟨_, ys, y, rfl, rfl, hD8, hz, rfl⟩) (fun z s9 ⟨_, H9, I9, _, e9⟩ => ?_) nof
        subst e9
        exact again I9 w8
  exact codeAny_compStart_list (loop _ rfl) (T.self X.A 0 _ _ _ (T.keep _ _ _ st2 fun b _ o e => old b o e) (loop _ rfl))
end

section
variable {X : Cx} {scope : Scope} {own frees : List Str} {js : List Nat} {tg iter elt : Expr} {ifs : List Expr} {wi : TI} {g : TG} {tt : TT} {te : TE} {pos : Pos}
def tComp (n : Nat) (js : List Nat) (wi : TI) (g : TG) (tt : TT) (te : TE) : TE := fun σ H Q => wi σ H (compBody n js g tt te σ Q)
theorem pe_comp (own frees : List Str) (js : List Nat) (hc : X.Ok → CompOk X scope own frees js) (hi : PI X tg iter wi)
    (hg : ∀ C s H fp, PG (cxComp X scope (own ++ frees) C s H fp) tg g) (ht : ∀ C s H fp, PTs (cxComp X scope (own ++ frees) C s H fp) ifs tt) (he : ∀ C s H fp, PE (cxComp X scope (own ++ frees) C s H fp) elt te)
    (hs : ∀ x, foldedSetIterable iter X.env x = pure x := by intro _; rfl) :
    PE X (.ListComp elt [⟨tg, iter, ifs, 0⟩] scope pos) (tComp own.length js wi g tt te) := by
  intro pins s σ H Q I h
  have c := hc I.ok
  rw [eval_ListComp]
  refine wpAny_comprehension_free (use := none) rfl hs (closureFor_of (c.cells I.ok)) c.kind c.locals (thn (hi pins s σ H _ I h) fun xv s₁ h₁ => thn h₁ fun it s₂ h₂ => ?_)
  refine comp_block (RR := fun acc C => compPost (model X.prog X.w) X.A X.xe none (EP X pins σ Q) acc C) c hg ht he h₂ fun D C H' s' J F n q => ?_
  obtain ⟨m, hn⟩ := n
  obtain ⟨f0, f1, f2, f3, f4, f5⟩ := F
  exact ⟨m, hn, fun h' hs' => ⟨.ref D, H', J.turned (t' := s'.toks) (fun b o hb e => hs'.extBut b o hb e) f0 f1 f3 f4 f5, rfl, q⟩⟩
/-- y = [.. for ..] where the store goes ahead of the variables' letting go -/
def tSetComp (k n : Nat) (js : List Nat) (wi : TI) (g : TG) (tt : TT) (te : TE) : TS := fun D σ H => wi σ H (compBody n js g tt te σ fun v H1 => D.nx (σ.set k (some v)) H1)
end

/-! ### readings of comprehensions -/
theorem comp_runs {J : It} {xs : List V} {Ok : Hp → Prop} (R : Runs J xs Ok) {n : Nat} {js : List Nat} {g : TG} {tt : TT} {te : TE} {σ : St} {Q : VK} {H1 : Hp} (hz : xs.length ≤ sizeLine)
    (Pv : Addr → Nat → List V → St → Hp → Prop) (h0 : ∀ D, H1 D = none → Pv D 0 [] (sgC n js σ) (upd H1 D (.lst [])))
    (hok : ∀ D i ys σ' H, i ≤ xs.length → Pv D i ys σ' H → Ok H ∧ ys.length ≤ i)
    (hs : ∀ D i x ys σ' H, H1 D = none → xs[i]? = some x → Pv D i ys σ' H → g x σ' H fun σ3 H3 => tt σ3 H3 fun b H4 =>
      if b = true then te σ3 H4 fun v H5 => H5 D = some (.lst ys) ∧ Pv D (i + 1) (ys ++ [v]) σ3 (upd H5 D (.lst (ys ++ [v]))) else Pv D (i + 1) ys σ3 H4)
    (hd : ∀ D ys σ' H, H1 D = none → Pv D xs.length ys σ' H → Q (.ref D) H) :
    compBody n js g tt te σ Q J H1 := by
  intro D hD
  refine ⟨fun i m ys σ' H => m = xs.length - i ∧ i ≤ xs.length ∧ Pv D i ys σ' H, ⟨xs.length, by simp, Nat.zero_le _, h0 D hD⟩, ?_⟩
  rintro i m ys σ' H ⟨rfl, hi, p⟩
  obtain ⟨q, hy⟩ := hok D i ys σ' H hi p
  by_cases hlt : i < xs.length
  · have hx : xs[i]? = some xs[i] := by simp [hlt]
    refine .inr ⟨R.go i _ H q hx, by omega, Pv D (i + 1), fun ys3 σ3 H3 p3 => ⟨xs.length - (i + 1), by omega, rfl, hlt, p3⟩, fun x H' y => ?_⟩
    obtain ⟨e1, e2⟩ := R.yld i _ H x H' q hx y
    rw [e2]
    exact hs D i x ys σ' H hD (by rw [e1]; exact hx) p
  · have e : i = xs.length := by omega
    subst e
    exact .inl ⟨R.stop H q, hd D ys σ' H hD p⟩
/-- elements and tests that leave the heap as it is: p tells which, f what comes of one; the block has one name of its own, fr are the free ones -/
theorem comp_pure {J : It} {xs : List V} {Ok : Hp → Prop} (R : Runs J xs Ok) {js : List Nat} {tt : TT} {te : TE} {σ : St} {Q : VK} {H1 : Hp} (hz : xs.length ≤ sizeLine) (p : V → Bool) (f : V → V)
    (hok : ∀ D ys, H1 D = none → Ok (upd H1 D (.lst ys)))
    (ht : ∀ D ys x (R : Bool → Hp → Prop), H1 D = none → x ∈ xs → R (p x) (upd H1 D (.lst ys)) → tt (some x :: js.map fun j => (σ[j]?).join) (upd H1 D (.lst ys)) R)
    (he : ∀ D ys x (R : V → Hp → Prop), H1 D = none → x ∈ xs → p x = true → R (f x) (upd H1 D (.lst ys)) → te (some x :: js.map fun j => (σ[j]?).join) (upd H1 D (.lst ys)) R)
    (hd : ∀ D, H1 D = none → Q (.ref D) (upd H1 D (.lst ((xs.filter p).map f)))) :
    compBody 1 js (gName 0) tt te σ Q J H1 := by
  refine comp_runs R hz (fun D i ys σ' H => H1 D = none ∧ ys = ((xs.take i).filter p).map f ∧ (∃ o, σ' = o :: js.map fun j => (σ[j]?).join) ∧ H = upd H1 D (.lst ys)) ?_ ?_ ?_ ?_
  · intro D hD
    exact ⟨hD, by simp, ⟨none, rfl⟩, rfl⟩
  · rintro D i ys σ' H hi ⟨hD, e, _, rfl⟩
    refine ⟨hok D ys hD, ?_⟩
    rw [e, List.length_map]
    exact Nat.le_trans (List.length_filter_le _ _) (by rw [List.length_take]; omega)
  · rintro D i x ys σ' H hD hx ⟨_, e, ⟨o, rfl⟩, rfl⟩
    show tt (some x :: js.map fun j => (σ[j]?).join) (upd H1 D (.lst ys)) _
    have hm : x ∈ xs := List.mem_of_getElem? hx
    refine ht D ys x _ hD hm ?_
    cases hp : p x with
    | true =>
      rw [if_pos rfl]
      refine he D ys x _ hD hm hp ⟨upd_same, hD, ?_, ⟨_, rfl⟩, upd_upd⟩
      rw [take_succ_filter p xs i x hx, hp, List.map_append, e]
      rfl
    | false =>
      rw [if_neg Bool.false_ne_true]
      refine ⟨hD, ?_, ⟨_, rfl⟩, rfl⟩
      rw [take_succ_filter p xs i x hx, hp, List.map_append, e]
      simp
  · rintro D ys σ' H hD ⟨_, e, _, rfl⟩
    rw [List.take_length] at e
    rw [e]
    exact hd D hD
end L2

set_option Elab.async false
set_option linter.all false
set_option maxRecDepth 100000
set_option maxHeartbeats 4000000
namespace L2
open PySem PySem.Spec PyProof.Rows
section
variable {X : Cx}

/-! ### all, any of a list of truths -/
theorem bools_get {bs : List Bool} {its : List Value} (r : Vals (bs.map V.bl) its) : ∀ (i : Nat) (v : Value), its[i]? = some v → v = Value.bool (bs.getD i false) := fun i v h => by
  have hl := r.length
  rw [List.length_map] at hl
  have hi : i < its.length := (List.getElem?_eq_some_iff.mp h).1
  have hb : (bs.map V.bl)[i]? = some (V.bl (bs.getD i false)) := by
    rw [List.getElem?_map, List.getD_eq_getElem?_getD]
    have : i < bs.length := by omega
    simp [this]
  obtain ⟨u, hu, ru⟩ := r.get hb
  rw [h] at hu
  cases hu
  exact ru
theorem range_all {bs : List Bool} : (List.range bs.length).all (fun i => bs.getD i false) = bs.all id := by
  rw [Bool.eq_iff_iff]
  simp only [List.all_eq_true, List.mem_range, id]
  constructor
  · intro h b hb
    obtain ⟨i, hi, e⟩ := List.mem_iff_getElem.mp hb
    have := h i hi
    rw [List.getD_eq_getElem?_getD] at this
    simpa [hi, e] using this
  · intro h i hi
    rw [List.getD_eq_getElem?_getD]
    simp only [List.getElem?_eq_getElem hi, Option.getD_some]
    exact h _ (List.getElem_mem hi)
def rAll (K : W.Frag) (f : List Bool → Bool) : List V → Hp → VK → Prop := fun xs H Q => ∃ a bs, xs = [.ref a] ∧ SqL K H a (bs.map V.bl) ∧ Q (.bl (f bs)) H
theorem call_all (hc : X.calm = true) : CallR X (.builtin "all") (rAll X.K fun bs => bs.all id) := by
  intro pins s σ H xs us Q I r h
  obtain ⟨a, bs, rfl, ha, q⟩ := h
  obtain ⟨u, rfl, ru⟩ := vals1 r
  cases ru
  obtain ⟨its, rv, p, hz⟩ := I.list ha
  have hl := rv.length
  rw [List.length_map] at hl
  refine call_all_walk (wpAny_pyIter_list p.isList ?_)
  have hne : a ≠ s.heap.objs.size := by
    obtain ⟨o, ho, _⟩ := p.isList
    exact Nat.ne_of_lt (Heap.lt_size ho)
  refine ⟨s.heap.objs.size, _, _, _, _, _, fun i => bs.getD i false, rfl, Walks.list (A := X.A.in1) (I.ok.hd hc) s.heap.objs.size a hne its.toArray, ⟨⟨_, Heap.get?_push_size _ rfl, rfl, rfl⟩, ?_⟩, ?_, ?_⟩
  · obtain ⟨o, ho, r'⟩ := p.isList
    exact ⟨o, Heap.get?_push_of_some _ ho, r'⟩
  · intro i v s' Q' E' hv hq
    have e := bools_get rv i v (by simpa using hv)
    subst e
    exact wpAny_truthy_bool hq
  · intro h' tk hk
    refine ⟨.bl (bs.all id), H, I.kept fun b o e => hk b o ?_ (Heap.get?_push_of_some _ e), ?_, q⟩
    · have hb := Heap.lt_size e
      intro z
      have z' : b = s.heap.objs.size := by simpa using z
      exact Nat.ne_of_lt hb z'
    · have : its.toArray.size = bs.length := by simp [hl]
      rw [this, range_all]
      rfl
/-! ### more operations -/
def CMulB (i j : Int) : Prop := Builtin.Int.intBits i ≤ 2 ^ 20 ∧ Builtin.Int.intBits j ≤ 2 ^ 20
theorem op_mulB : OpR X (binaryOp .Mult) (rI CMulB fun i j => .int (i * j)) := opI fun _ _ _ _ _ _ _ hc q => mul_int q (IntMulOk.of_bits hc.1 hc.2)
def CDivB (i j : Int) : Prop := 0 < j ∧ j < 4611686018427387904
theorem op_fdivB : OpR X (binaryOp .FloorDiv) (rI CDivB fun i j => .int (i / j)) := opI fun i j _ _ _ _ _ hc q => by
  have h1 : (0 : Int) < j := hc.1
  have h2 : j < 4611686018427387904 := hc.2
  refine floordiv_int (by omega) (by rw [Int.fdiv_eq_ediv_of_nonneg i (by omega)]; exact q) (.inl (PyProof.noPylong_of_log2 ?_))
  have h3 : j.natAbs.log2 < 62 := (Nat.log2_lt (by omega)).mpr (by omega)
  omega
/-- t[lo:hi] of a text -/
def rSlS : V → Option Int → Option Int → Hp → VK → Prop := fun x lo hi H Q => ∃ z, x = .str z ∧ z.length ≤ sizeLine ∧ Q (.str (Txt.slice z lo hi)) H
theorem sl_str : SlR X rSlS := by
  intro pins s σ H x v vl vu lo hi sl Q I rx hs pl pu h
  obtain ⟨z, rfl, hz, q⟩ := h
  obtain ⟨t, rfl⟩ := rx
  refine ⟨"str", _, F.slot_str_getitem.lookup, typeIs_str _ _ _, ?_⟩
  have fin : ∀ t' k, EP X pins σ Q (.str (Txt.slice z lo hi) t') { s with toks := k } := fun t' k => ⟨.str _, H, I.tok _, ⟨_, rfl⟩, q⟩
  have hsz := Nat.le_trans (Txt.slice_le z lo hi) hz
  obtain ⟨o, h1, h2, h3⟩ := hs
  cases pl with
  | none =>
    cases pu with
    | none => exact wpAny_getItem_str_slice (l := none) (u := none) (st := none) ⟨o, h1, h2, h3⟩ rfl (post_val_or_str ⟨hsz, fin⟩)
    | int j uj => exact wpAny_getItem_str_slice (l := none) (u := some (j, uj)) (st := none) ⟨o, h1, h2, h3⟩ rfl (post_val_or_str ⟨hsz, fin⟩)
  | int i ui =>
    cases pu with
    | none => exact wpAny_getItem_str_slice (l := some (i, ui)) (u := none) (st := none) ⟨o, h1, h2, h3⟩ rfl (post_val_or_str ⟨hsz, fin⟩)
    | int j uj => exact wpAny_getItem_str_slice (l := some (i, ui)) (u := some (j, uj)) (st := none) ⟨o, h1, h2, h3⟩ rfl (post_val_or_str ⟨hsz, fin⟩)
def rIsi (K : W.Frag) : List V → Hp → VK → Prop := fun xs H Q => ∃ x n t b, xs = [x, .ty n] ∧ TyOf K H x t ∧ W.kitOne K t (.type n) = some b ∧ Q (.bl b) H
theorem call_isi : CallR X (.builtin "isinstance") (rIsi X.K) := by
  intro pins s σ H xs us Q I r h
  obtain ⟨x, n, t, b, rfl, ty, e, q⟩ := h
  obtain ⟨u, w', rfl, r1, r2⟩ := vals2 r
  cases r2
  exact isinst_ok I r1 ty e fun tk => ⟨.bl b, H, I.tok _, rfl, q⟩
end

/-! ### the text's comprehensions, decided -/
def compT (osc : Scope) (on : List Str) (scope : Scope) (frees : List Str) (js : List Nat) : Bool :=
  (scope.kind == .function) && scope.names.all (fun y => y.2 != .cell) && scope.names.all (fun y => y.2 != .local || scope.names.lookup y.1 == some .local) &&
  scope.names.all (fun y => y.2 != .free || (osc.names.lookup y.1 == some .cell || osc.names.lookup y.1 == some .free)) && frees.all (fun x => scope.names.lookup x == some .free) && decide (js.map (fun j => on[j]?) = frees.map some)
theorem compT_ok {X : Cx} {osc scope : Scope} {on own frees : List Str} {js : List Nat} (h : compT osc on scope frees js = true) (h1 : X.env.scope = osc) (h2 : X.N = on) (h3 : X.calm = true) : CompOk X scope own frees js := by
  subst h1
  subst h2
  unfold compT at h
  simp only [Bool.and_eq_true, List.all_eq_true, decide_eq_true_eq, Bool.or_eq_true, bne_iff_ne, beq_iff_eq, ne_eq] at h
  obtain ⟨⟨⟨⟨⟨a, b⟩, c⟩, d⟩, e⟩, f⟩ := h
  exact ⟨h3, a, b, fun y hy z => (c y hy).resolve_left (fun q => q z), fun y hy z => (d y hy).resolve_left (fun q => q z), e, f⟩

/-! ### joins: what holds behind a statement -/
def tCut (t u : TS) : TS := fun D σ H => ∃ M : St → Hp → Prop, t { D with nx := M } σ H ∧ ∀ σ' H', M σ' H' → u D σ' H'
theorem pss_cut {X : Cx} {st : Stmt} {rest : List Stmt} {t u : TS} (h1 : PS X st t) (h2 : PSs X rest u) : PSs X (st :: rest) (tCut t u) := by
  intro pins s σ H D I h
  obtain ⟨M, h, hM⟩ := h
  refine wpAny_execs_cons (thn (h1 pins s σ H { D with nx := M } I h) fun f s1 q => ?_)
  cases f with
  | next =>
    obtain ⟨σ', H', I', q⟩ := q
    exact h2 pins s1 σ' H' D I' (hM _ _ q)
  | ret v => exact q
  | brk => exact q
  | cont => exact q

/-! ### a def of the top level -/
structure Def (K : W.Frag) (mg : Str → Option Value) (x : Str) (st : Stmt) (ps : List Str) (f : Addr) (fd : FuncData) : Prop where
  fn : Fun K x x st f fd
  b : Binds K fd ps []
  m : mg x = some (.ref f)
theorem pe_callD {X : Cx} {k : Nat} {f : Addr} {fd : FuncData} {ps : List Str} {sp : Sp} {x : Str} {st : Stmt} {p pos : Pos} {e : Expr} {es : List Expr} {t : TA} (d : Def X.K X.mg x st ps f fd) (F : FnOk X.prog X.w X.K X.mg X.base CX0 k f fd ps sp) (hr : Room k X.A)
    (ha : PA X (e :: es) t) (hg : Gl X x := by rfl) (hdb : (x == ("__debug__" : Str)) = false := by decide) (he : starEach (e :: es) X.env = (false, eval e X.env) :: starEach es X.env := by rfl) (hpl : (backTo pos (starEach es X.env)).any (·.1) = false := by rfl) :
    PE X (.Call (.Name x p) (e :: es) [] pos) (tCall sp [] E0 t) := pe_call F hr hg d.m d.fn.kp d.b .nil pass0 ha hdb he hpl
theorem small_line {n : Nat} (h : n ≤ 100000) : n ≤ sizeLine := by rw [sizeLine_eq]; omega
end L2

set_option Elab.async false
set_option linter.all false
set_option maxRecDepth 100000
set_option maxHeartbeats 4000000
namespace L2
open PySem PySem.Spec PyProof.Rows PySem.W

/-! ### data trees in the abstract heap -/
mutual
inductive Rep (K : W.Frag) (H : Hp) : V → Dat → Prop
  | none : Rep K H .non .none
  | bool (b : Bool) : Rep K H (.bl b) (.bool b)
  | int (i : Int) : Rep K H (.int i) (.int i)
  | str (x : Str) : Rep K H (.str x) (.str x)
  | tuple {a : Addr} {xs : List V} {ds : List Dat} : SqT K H a xs → Reps K H xs ds → Rep K H (.ref a) (.tuple ds)
  | list {a : Addr} {xs : List V} {ds : List Dat} : SqL K H a xs → Reps K H xs ds → Rep K H (.ref a) (.list ds)
inductive Reps (K : W.Frag) (H : Hp) : List V → List Dat → Prop
  | nil : Reps K H [] []
  | cons {v : V} {vs : List V} {d : Dat} {ds : List Dat} : Rep K H v d → Reps K H vs ds → Reps K H (v :: vs) (d :: ds)
end
theorem Same.tup {K : W.Frag} {H H' : Hp} {a : Addr} {xs : List V} (e : Same H H') (h : SqT K H a xs) : SqT K H' a xs := by
  rcases h with (h | ⟨o, h⟩) | h
  · exact .inl (.inl (e _ _ h))
  · exact .inl (.inr ⟨o, e _ _ h⟩)
  · exact .inr h
mutual
theorem Rep.mono {K : W.Frag} {H H' : Hp} (e : Same H H') : ∀ {v : V} {d : Dat}, Rep K H v d → Rep K H' v d
  | _, _, .none => .none
  | _, _, .bool b => .bool b
  | _, _, .int i => .int i
  | _, _, .str x => .str x
  | _, _, .tuple h r => .tuple (e.tup h) (Reps.mono e r)
  | _, _, .list h r => .list (e.seq h) (Reps.mono e r)
theorem Reps.mono {K : W.Frag} {H H' : Hp} (e : Same H H') : ∀ {vs : List V} {ds : List Dat}, Reps K H vs ds → Reps K H' vs ds
  | _, _, .nil => .nil
  | _, _, .cons h r => .cons (Rep.mono e h) (Reps.mono e r)
end
section
variable {X : Cx} {pins : List (Addr × Obj)} {σ : St} {H : Hp} {s : Shared}
mutual
theorem Rep.reads (I : Inv X pins σ H s) : ∀ {v : V} {d : Dat} {u : Value}, Rep X.K H v d → RelV v u → ∃ as, Reads s.heap u (kqdP d) as
  | _, _, _, .none, r => by cases (show _ = Value.none from r); rw [kqdP]; exact ⟨_, Reads.none⟩
  | _, _, _, .bool b, r => by cases (show _ = Value.bool b from r); rw [kqdP]; exact ⟨_, Reads.bool b⟩
  | _, _, _, .int i, r => by obtain ⟨t, e⟩ := (show ∃ t, _ = Value.int i t from r); cases e; rw [kqdP]; exact ⟨_, Reads.int i t⟩
  | _, _, _, .str x, r => by obtain ⟨t, e⟩ := (show ∃ t, _ = Value.str x t from r); cases e; rw [kqdP]; exact ⟨_, Reads.str x t⟩
  | _, _, _, .tuple (a := a) h q, r => by
    cases (show _ = Value.ref a from r)
    obtain ⟨its, rv, ⟨o, e, c, n, d⟩, _⟩ := I.tuple h
    obtain ⟨as, p⟩ := Reps.reads I q rv
    rw [kqdP]
    exact ⟨as, reads_tuple_at e c d (by simpa using p)⟩
  | _, _, _, .list (a := a) h q, r => by
    cases (show _ = Value.ref a from r)
    obtain ⟨its, rv, ⟨o, n, e, c, _, d⟩, _⟩ := I.list h
    obtain ⟨as, p⟩ := Reps.reads I q rv
    rw [kqdP]
    exact ⟨_, reads_list_at e c d (by simpa using p)⟩
theorem Reps.reads (I : Inv X pins σ H s) : ∀ {vs : List V} {ds : List Dat} {us : List Value}, Reps X.K H vs ds → Vals vs us → ∃ as, ReadsAll s.heap us (kqdPs ds) as
  | _, _, _, .nil, r => by cases r; rw [kqdPs]; exact ⟨_, ReadsAll.nil⟩
  | _, _, _, .cons h q, r => by
    cases r with
    | cons r1 r2 =>
      obtain ⟨as, p⟩ := Rep.reads I h r1
      obtain ⟨bs, t⟩ := Reps.reads I q r2
      rw [kqdPs]
      exact ⟨_, ReadsAll.cons p t⟩
end
end
noncomputable def dEq (d e : Dat) : Bool := @decide (d = e) (Classical.propDecidable _)
theorem dEq_self (d : Dat) : dEq d d = true := by unfold dEq; exact @decide_eq_true _ (Classical.propDecidable _) rfl
theorem dEq_pos {d e : Dat} (h : d = e) : dEq d e = true := by rw [h]; exact dEq_self e
theorem dEq_neg {d e : Dat} (h : d ≠ e) : dEq d e = false := by unfold dEq; exact @decide_eq_false _ (Classical.propDecidable _) h
theorem eqv_dEq {d e : Dat} {n k : Nat} (h1 : kqdOk n d = true) (h2 : kqdOk k e = true) : PyData.eqv (kqdP d) (kqdP e) = dEq d e := by
  have q := kqd_eqv n d e k h1 h2
  by_cases h : d = e
  · rw [dEq_pos h]; exact q.mpr h
  · rw [dEq_neg h]; exact Bool.eq_false_iff.mpr fun x => h (q.mp x)
theorem shaped_of {d : Dat} (h : kqdOk 9 d = true) : SeqAt.shaped (kqdP d) = true := by
  have l := kqd_lay 9 d h
  unfold SeqAt.shaped
  rw [l.1, Bool.true_and]
  exact decide_eq_true (Nat.le_trans l.2 (by decide))
section
variable {X : Cx}
noncomputable def rEqD (K : W.Frag) (f : Bool → Bool) : R2 := fun x y H Q => ∃ d e, Rep K H x d ∧ Rep K H y e ∧ kqdOk 9 d = true ∧ kqdOk 9 e = true ∧ Q (.bl (f (dEq d e))) H
theorem op_neD (hu : X.A.units + 64 < cLine) : OpR X (compareOp .NotEq) (rEqD X.K Bool.not) := by
  intro pins s σ H x y v u Q I rx ry h
  obtain ⟨d, e, h1, h2, k1, k2, q⟩ := h
  obtain ⟨as, ra⟩ := h1.reads I rx
  obtain ⟨bs, rb⟩ := h2.reads I ry
  exact ne_dataH ra rb (shaped_of k1) (shaped_of k2) hu (fin_bl I q (by rw [eqv_dEq k1 k2]))
end
end L2

set_option Elab.async false
set_option linter.all false
set_option maxRecDepth 100000
set_option maxHeartbeats 4000000
namespace L2
open PySem PySem.Spec PyProof.Rows
section
variable {X : Cx} {pins : List (Addr × Obj)} {σ : St} {H H' : Hp} {s : Shared} {a : Addr} {kvs : List (Key × V)} {o : Obj}
end

/-! ### the keys of a dict that stays as it is -/
def Itk (a : Addr) (o : Obj) (kvs : List (Key × V)) : It :=
  ⟨fun i H => i < kvs.length ∧ H a = some (.frz o (.dK kvs)), fun i H v H' => H' = H ∧ ∃ p, kvs[i]? = some p ∧ v = kV p.1, fun i H => kvs.length ≤ i ∧ H a = some (.frz o (.dK kvs))⟩
def Itv (a : Addr) (o : Obj) (kvs : List (Key × V)) : It :=
  ⟨fun i H => i < kvs.length ∧ H a = some (.frz o (.dK kvs)), fun i H v H' => H' = H ∧ ∃ p, kvs[i]? = some p ∧ v = p.2, fun i H => kvs.length ≤ i ∧ H a = some (.frz o (.dK kvs))⟩
/-! ### a dict that is written no more -/
def tFrz (t : TS) : TS := fun D σ H => ∃ a kvs, H a = some (.dK kvs) ∧ ∀ o, t D σ (upd H a (.frz o (.dK kvs)))
section
variable {X : Cx} {tg : Expr}
def iKeys (tl : TE) : TI := fun σ H R => tl σ H fun x H1 => ∃ a o kvs, x = .ref a ∧ H1 a = some (.frz o (.dK kvs)) ∧ R (Itk a o kvs) H1
end
end L2

set_option Elab.async false
set_option linter.all false
set_option maxRecDepth 100000
set_option maxHeartbeats 4000000
namespace L2
open PySem PySem.Spec PyProof.Rows

/-! ### comprehensions whose elements make objects: D is the new list -/
section
variable {X : Cx}
/-! ### xs.insert(i, v), 0 ≤ i ≤ len -/
def rInsert : V → List V → Hp → VK → Prop := fun x vs H Q => ∃ l xs i y, x = .ref l ∧ vs = [.int i, y] ∧ H l = some (.lst xs) ∧ 0 ≤ i ∧ i ≤ xs.length ∧ xs.length < sizeLine ∧ Q .non (upd H l (.lst (xs.take i.toNat ++ y :: xs.drop i.toNat)))
/-! ### list(range(n)) -/
end
end L2

set_option linter.all false
namespace Graph
variable {α : Type} [DecidableEq α]
/-- going up, step by step -/
inductive Reach (ups : α → List α) : α → α → Prop
  | refl (a : α) : Reach ups a a
  | step {a b c : α} : b ∈ ups a → Reach ups b c → Reach ups a c
/-- one round of dropping -/
def kept (ups : α → List α) (left : List α) : List α := left.filter fun w => (ups w).any fun u => decide (u ∈ left)
/-- a sublist without doubles of a list of n is not longer -/
theorem nodup_le : ∀ {l k : List α}, l.Nodup → (∀ x ∈ l, x ∈ k) → l.length ≤ k.length
  | [], k, _, _ => Nat.zero_le _
  | a :: r, k, hn, hs => by
    obtain ⟨h1, h2⟩ := List.nodup_cons.mp hn
    have ha : a ∈ k := hs a (by simp)
    have := nodup_le (k := k.erase a) h2 fun x hx => (List.mem_erase_of_ne (fun (e : x = a) => h1 (by rw [← e]; exact hx))).mpr (hs x (List.mem_cons_of_mem _ hx))
    rw [List.length_erase_of_mem ha] at this
    have hpos : 0 < k.length := List.length_pos_of_mem ha
    rw [List.length_cons]
    omega
end Graph

set_option Elab.async false
set_option linter.all false
set_option maxRecDepth 100000
set_option maxHeartbeats 4000000
namespace Md
open PySem L2

/-! ### what a word is -/
abbrev letters : Str := "abcdefghijklmnopqrstuvwxyz"
def isLow (c : Nat) : Bool := decide (97 ≤ c ∧ c ≤ 122)
def isWord (x : Str) : Bool := decide (1 ≤ x.length ∧ x.length ≤ 8) && x.cps.toList.all isLow
theorem letters_eq : letters.cps.toList = [97, 98, 99, 100, 101, 102, 103, 104, 105, 106, 107, 108, 109, 110, 111, 112, 113, 114, 115, 116, 117, 118, 119, 120, 121, 122] := by decide +kernel
theorem letters_at {i : Nat} (h : i < 26) : letters.cps.toList[i]? = some (97 + i) := by
  rw [letters_eq]
  have : ∀ i : _root_.Fin 26, ([97, 98, 99, 100, 101, 102, 103, 104, 105, 106, 107, 108, 109, 110, 111, 112, 113, 114, 115, 116, 117, 118, 119, 120, 121, 122] : List Nat)[i.1]? = some (97 + i.1) := by decide
  exact this ⟨i, h⟩
theorem letters_rng : letters.cps.toList = (List.range 26).map (97 + ·) := by rw [letters_eq]; rfl
theorem low_in (c : Nat) : (!(Builtin.Str.occurrences letters ⟨#[c]⟩ 0 letters.length 1).isEmpty) = isLow c := by
  rw [StrLaws.found_one, letters_rng]
  unfold isLow
  rw [decide_eq_decide, List.mem_map]
  constructor
  · rintro ⟨a, ha, rfl⟩
    have := List.mem_range.mp ha
    omega
  · intro h
    exact ⟨c - 97, List.mem_range.mpr (by omega), by omega⟩
theorem str_len (x : Str) : x.cps.toList.length = x.length := by simp [Str.length]
theorem len_one (c : Nat) : (⟨#[c]⟩ : Str).length = 1 := rfl
theorem len_app (x y : Str) : (x ++ y).length = x.length + y.length := by
  show (x.cps ++ y.cps).size = _
  rw [Array.size_append]
  rfl
theorem app_list (x y : Str) : (x ++ y).cps.toList = x.cps.toList ++ y.cps.toList := by
  show (x.cps ++ y.cps).toList = _
  rw [Array.toList_append]
theorem str_ext {x y : Str} (h : x.cps.toList = y.cps.toList) : x = y := by
  cases x; cases y
  congr 1
  exact Array.ext' h
def inLet : V → V
  | .str y => .bl (!(Builtin.Str.occurrences letters y 0 letters.length 1).isEmpty)
  | _ => .non
theorem signs_low (x : Str) : ((signsV x).filter fun _ => true).map inLet = (x.cps.toList.map isLow).map V.bl := by
  rw [List.filter_eq_self.mpr fun _ _ => rfl]
  unfold signsV
  rw [List.map_map, List.map_map]
  refine List.map_congr_left fun c _ => ?_
  show V.bl _ = V.bl _
  rw [low_in]
theorem isWord_iff (x : Str) : isWord x = true ↔ (1 ≤ x.cps.toList.length ∧ x.cps.toList.length ≤ 8) ∧ ∀ c ∈ x.cps.toList, isLow c = true := by
  unfold isWord
  rw [Bool.and_eq_true, decide_eq_true_eq, List.all_eq_true, str_len]
theorem word_len {x : Str} (h : isWord x = true) : 1 ≤ x.length ∧ x.length ≤ 8 := by
  have := ((isWord_iff x).mp h).1
  rwa [str_len] at this
theorem word_ok {x : Str} (h : isWord x = true) : PyData.strOk x = true := by
  unfold PyData.strOk
  rw [Array.all_eq_true']
  intro c hc
  have := ((isWord_iff x).mp h).2 c (by simpa using hc)
  have := of_decide_eq_true this
  exact decide_eq_true (by omega)

/-! ### numbers as letters -/
def lettersF (n : Nat) : List Nat := (97 + n % 26) :: (if h : n / 26 = 0 then [] else lettersF (n / 26))
termination_by n
decreasing_by omega
theorem lettersF_eq (n : Nat) : lettersF n = (97 + n % 26) :: (if n / 26 = 0 then [] else lettersF (n / 26)) := by
  rw [lettersF]
  by_cases h : n / 26 = 0
  · rw [dif_pos h, if_pos h]
  · rw [dif_neg h, if_neg h]
theorem lettersF_len : ∀ (k n : Nat), n < 26 ^ (k + 1) → (lettersF n).length ≤ k + 1
  | 0, n, h => by
    rw [lettersF_eq, if_pos (by have : n < 26 := h; omega)]
    exact Nat.le_refl _
  | k + 1, n, h => by
    rw [lettersF_eq]
    by_cases h0 : n / 26 = 0
    · rw [if_pos h0]; simp
    · rw [if_neg h0, List.length_cons]
      have := lettersF_len k (n / 26) (Nat.div_lt_of_lt_mul (by rw [Nat.pow_succ] at h; omega))
      omega
theorem lettersF_low (n : Nat) : ∀ c ∈ lettersF n, isLow c = true := by
  induction n using Nat.strongRecOn with
  | ind n ih =>
    rw [lettersF_eq]
    intro c hc
    rcases List.mem_cons.mp hc with e | hc
    · rw [e]
      exact decide_eq_true (by omega)
    · by_cases h0 : n / 26 = 0
      · rw [if_pos h0] at hc; cases hc
      · rw [if_neg h0] at hc
        exact ih (n / 26) (by omega) c hc
def valF : List Nat → Nat
  | [] => 0
  | c :: r => (c - 97) + 26 * valF r
theorem lettersF_val (n : Nat) : valF (lettersF n) = n := by
  induction n using Nat.strongRecOn with
  | ind n ih =>
    rw [lettersF_eq]
    unfold valF
    by_cases h0 : n / 26 = 0
    · rw [if_pos h0]
      unfold valF
      omega
    · rw [if_neg h0, ih (n / 26) (by omega)]
      omega
def lettersS (n : Nat) : Str := ⟨(lettersF n).toArray⟩
theorem lettersS_list (n : Nat) : (lettersS n).cps.toList = lettersF n := by simp [lettersS]
theorem lettersS_inj {a b : Nat} (h : lettersS a = lettersS b) : a = b := by
  have := congrArg (fun s : Str => valF s.cps.toList) h
  simpa [lettersS_list, lettersF_val] using this
theorem lettersF_pos (n : Nat) : 1 ≤ (lettersF n).length := by rw [lettersF_eq]; simp
theorem lettersS_word {n : Nat} (h : n < 26 ^ 8) : isWord (lettersS n) = true := by
  rw [isWord_iff, lettersS_list]
  exact ⟨⟨lettersF_pos n, lettersF_len 7 n h⟩, lettersF_low n⟩

/-! ### slices of texts -/
theorem idx_take (j : Int) (n : Nat) (h : 0 ≤ j) : Builtin.Str.strSliceIndices none (some j) 1 n = List.range (min j.toNat n) := by
  unfold Builtin.Str.strSliceIndices sliceRange
  have h1 : ¬ j < 0 := by omega
  simp only [show (1 : Int) > 0 by decide, if_true, if_neg h1]
  have e : (max (0 : Int) (min j (n : Int))) = ((min j.toNat n : Nat) : Int) := by omega
  rw [e]
  have e2 : (if (0 : Int) < ((min j.toNat n : Nat) : Int) then (((min j.toNat n : Nat) : Int) - 0 + 1 - 1) / 1 else 0) = ((min j.toNat n : Nat) : Int) := by
    split
    · rw [Int.ediv_one]; omega
    · omega
  rw [e2, Int.toNat_natCast]
  have : ∀ l : List Nat, l.map (fun (k : Nat) => ((0 : Int) + 1 * (k : Int)).toNat) = l := fun l => by
    conv => rhs; rw [← List.map_id l]
    refine List.map_congr_left fun k _ => ?_
    show _ = k
    omega
  exact this _
theorem filter_range (l : List Nat) : ∀ m, m ≤ l.length → (List.range m).filterMap (fun i => l.toArray[i]?) = l.take m
  | 0, _ => by simp
  | m + 1, h => by
    rw [List.range_succ, List.filterMap_append, filter_range l m (by omega), List.take_add_one]
    have : m < l.length := h
    simp [this]
theorem slice_take (x : Str) (j : Int) (h : 0 ≤ j) : (Txt.slice x none (some j)).cps.toList = x.cps.toList.take j.toNat := by
  unfold Txt.slice
  rw [idx_take j x.length h]
  have hl := str_len x
  split
  · rename_i hc
    have : min j.toNat x.length = x.length := by simpa using hc
    rw [List.take_of_length_le (by omega)]
  · have q := filter_range x.cps.toList (min j.toNat x.length) (by omega)
    have e : x.cps.toList.toArray = x.cps := by simp
    rw [e] at q
    show ((List.range (min j.toNat x.length)).filterMap (x.cps[·]?)).toArray.toList = _
    rw [List.toList_toArray, q]
    by_cases hj : j.toNat ≤ x.length
    · rw [Nat.min_eq_left hj]
    · rw [Nat.min_eq_right (by omega), List.take_of_length_le (by omega), List.take_of_length_le (by omega)]

/-! ### the draws -/
def PotO (o : HO) : Prop := ∃ r b : Int, o = .lst [.int r, .int b] ∧ 0 ≤ r ∧ r < 10 ^ 256 ∧ 0 ≤ b ∧ b < 2147483647
/-- behind draws from the pot at p: all else is kept -/
structure Drawn (p : Addr) (H H' : Hp) : Prop where
  keep : ∀ b o, b ≠ p → H b = some o → H' b = some o
  pot : ∃ o, H' p = some o ∧ PotO o
theorem Drawn.refl {p : Addr} {H : Hp} (h : ∃ o, H p = some o ∧ PotO o) : Drawn p H H := ⟨fun _ _ _ e => e, h⟩
theorem Drawn.trans {p : Addr} {H H1 H2 : Hp} (a : Drawn p H H1) (b : Drawn p H1 H2) : Drawn p H H2 := ⟨fun c o hc e => b.keep c o hc (a.keep c o hc e), b.pot⟩
theorem Drawn.upd {p : Addr} {H : Hp} {o : HO} (h : PotO o) : Drawn p H (L2.upd H p o) := ⟨fun b u hb e => by rw [upd_ne hb]; exact e, _, upd_same, h⟩
theorem Drawn.new {p q : Addr} {H H' : Hp} {o : HO} (d : Drawn p H H') (hq : H' q = none) : Drawn p H (L2.upd H' q o) :=
  ⟨fun b u hb e => by rw [upd_ne (ne_of_none (d.keep b u hb e) hq)]; exact d.keep b u hb e, by
    obtain ⟨u, h1, h2⟩ := d.pot
    exact ⟨u, by rw [upd_ne (ne_of_none h1 hq)]; exact h1, h2⟩⟩
theorem Drawn.same {p : Addr} {H H1 H2 : Hp} (d : Drawn p H H1) (s : Same H1 H2) : Drawn p H H2 :=
  ⟨fun b u hb e => s _ _ (d.keep b u hb e), by obtain ⟨u, h1, h2⟩ := d.pot; exact ⟨u, s _ _ h1, h2⟩⟩
theorem _root_.L2.SqL.mono_new {K : W.Frag} {H : Hp} {a q : Addr} {xs : List V} {o : HO} (h : SqL K H a xs) (hq : H q = none) : SqL K (L2.upd H q o) a xs :=
  Same.seq (fun b u e => by rw [upd_ne (ne_of_none e hq)]; exact e) h
theorem small_lt {n : Nat} (h : n ≤ 100000) : n < sizeLine := by rw [sizeLine_eq]; omega
/-! ### a row of written texts -/
def strsOf : List Expr → Option (List Str)
  | [] => some []
  | .Constant (.str x) _ _ :: r => (strsOf r).map (x :: ·)
  | _ => none
theorem pa_strsOf {X : Cx} : ∀ {es : List Expr} {ws : List Str}, strsOf es = some ws → PA X es (fun _ H Q => Q (ws.map V.str) H) := by
  intro es
  induction es with
  | nil =>
    intro ws h
    have e : ws = [] := (Option.some.inj h).symm
    subst e
    exact pa_nil
  | cons e r ih =>
    intro ws h
    cases e with
    | Constant c j p =>
      cases c with
      | str x =>
        have h' : (strsOf r).map (x :: ·) = some ws := h
        obtain ⟨vs, h1, h2⟩ := Option.map_eq_some_iff.mp h'
        subst h2
        exact pa_cons pe_str (ih h1) rfl
      | _ => exact nomatch (show (none : Option (List Str)) = some ws from h)
    | _ => exact nomatch (show (none : Option (List Str)) = some ws from h)
/-! ### texts in lists -/
theorem in_strs (x : Str) : ∀ ws : List Str, inV (.str x) (ws.map V.str) = decide (x ∈ ws)
  | [] => rfl
  | w :: r => by
    have ih := in_strs x r
    unfold inV at ih ⊢
    rw [List.map_cons, List.any_cons, ih]
    show ((w == x) || decide (x ∈ r)) = decide (x ∈ w :: r)
    rw [Bool.eq_iff_iff]
    simp only [Bool.or_eq_true, beq_iff_eq, decide_eq_true_eq, List.mem_cons]
    constructor
    · rintro (h | h)
      · exact .inl h.symm
      · exact .inr h
    · rintro (h | h)
      · exact .inl h.symm
      · exact .inr h
theorem flat_strs (ws : List Str) : (ws.map V.str).all flatV = true := by
  rw [List.all_eq_true]
  intro v hv
  obtain ⟨w, _, e⟩ := List.mem_map.mp hv
  rw [← e]
  rfl
theorem reps_strs {K : W.Frag} {H : Hp} : ∀ ws : List Str, Reps K H (ws.map V.str) (ws.map W.Dat.str)
  | [] => .nil
  | w :: r => .cons (.str w) (reps_strs r)
end Md

set_option Elab.async false
set_option linter.all false
set_option maxRecDepth 100000
set_option maxHeartbeats 4000000
namespace Md
open PySem L2
/-! ### rows of a book of kinds -/
abbrev Row := Str × List Str
def RowV (H : Hp) (r : Str × List Str) (v : V) : Prop := ∃ t u, v = .ref t ∧ H t = some (.tup [.str r.1, .ref u]) ∧ H u = some (.tup (r.2.map V.str))
def RowsAt (H : Hp) (l : Addr) (rows : List (Str × List Str)) : Prop := ∃ vs, H l = some (.lst vs) ∧ Paired (RowV H) rows vs
structure Good (rows : List (Str × List Str)) : Prop where
  ne : 1 ≤ rows.length
  le : rows.length ≤ 24
  word : ∀ r ∈ rows, isWord r.1 = true
  nd : (rows.map (·.1)).Nodup
  few : ∀ r ∈ rows, r.2.length ≤ 8
  known : ∀ r ∈ rows, ∀ u ∈ r.2, u ∈ rows.map (·.1)
  upnd : ∀ r ∈ rows, r.2.Nodup
  rank : ∃ rk : Str → Nat, ∀ r ∈ rows, ∀ u ∈ r.2, rk u < rk r.1
/-- rows by places: ws the words, uf the places of the ups, os the order -/
def rowsOf (ws : List Str) (uf : List (List Nat)) (os : List Nat) : List (Str × List Str) := os.map fun j => (ws.getD j "", (uf.getD j []).map fun i => ws.getD i "")
end Md

set_option Elab.async false
set_option linter.all false
set_option maxRecDepth 100000
set_option maxHeartbeats 4000000
namespace L2
open PySem PySem.Spec PyProof.Rows
section
variable {X : Cx} {tg : Expr}
/-- a list (b) or a tuple -/
def SqB (K : W.Frag) (b : Bool) (H : Hp) (a : Addr) (xs : List V) : Prop := if b = true then SqL K H a xs else SqT K H a xs
def Itq (K : W.Frag) (b : Bool) (a : Addr) (xs : List V) : It := ⟨fun i H => i < xs.length ∧ SqB K b H a xs, fun i H x H' => H' = H ∧ xs[i]? = some x, fun i H => xs.length ≤ i ∧ SqB K b H a xs⟩
def iSeq (K : W.Frag) (tl : TE) : TI := fun σ H R => tl σ H fun x H1 => ∃ b a xs, x = .ref a ∧ SqB K b H1 a xs ∧ R (Itq K b a xs) H1
/-- d.values() of a dict that is written no more -/
def iVals (to : TE) : TI := fun σ H R => to σ H fun x H1 => ∃ a ob kvs, x = .ref a ∧ H1 a = some (.frz ob (.dK kvs)) ∧ R (Itv a ob kvs) H1
end
end L2

set_option Elab.async false
set_option linter.all false
set_option maxRecDepth 100000
set_option maxHeartbeats 4000000
namespace Md
open PySem L2
/-! ### rows as they are handed in: lists or tuples -/
def UpsG (K : W.Frag) (H : Hp) (u : Addr) (us : List Str) : Prop := H u = some (.tup (us.map V.str)) ∨ SqL K H u (us.map V.str)
def RowG (K : W.Frag) (H : Hp) (r : Str × List Str) (v : V) : Prop := ∃ t u, v = .ref t ∧ SqT K H t [.str r.1, .ref u] ∧ UpsG K H u r.2
def RowsG (K : W.Frag) (H : Hp) (l : Addr) (rows : List (Str × List Str)) : Prop := ∃ b vs, SqB K b H l vs ∧ Paired (RowG K H) rows vs
theorem paired_at {α β : Type} {F : α → β → Prop} : ∀ {l : List α} {k : List β}, Paired F l k → ∀ {i : Nat} {b : β}, k[i]? = some b → ∃ a, l[i]? = some a ∧ F a b
  | _, _, .nil, i, b, h => by simp at h
  | _, _, .cons r t, 0, b, h => by simp at h; subst h; exact ⟨_, rfl, r⟩
  | _, _, .cons r t, i + 1, b, h => by
    obtain ⟨a, h1, h2⟩ := paired_at t (i := i) (b := b) (by simpa using h)
    exact ⟨a, by simpa using h1, h2⟩
/-! ### dicts keyed by words -/
/-- the dict of the ups -/
def UpsD (H : Hp) (rows : List (Str × List Str)) (kvs : List (Key × V)) : Prop := Paired (fun r (p : Key × V) => p.1 = Sum.inr r.1 ∧ ∃ t, p.2 = .ref t ∧ H t = some (.tup (r.2.map V.str))) rows kvs
def upsOf (rows : List (Str × List Str)) (x : Str) : List Str := (rows.lookup x).getD []
end Md

set_option Elab.async false
set_option linter.all false
set_option maxRecDepth 100000
set_option maxHeartbeats 4000000
namespace L2
open PySem PySem.Spec PyProof.Rows
section
variable {X : Cx} {pins : List (Addr × Obj)} {σ : St} {H H' : Hp} {s : Shared} {h' : Heap}
end
end L2

set_option Elab.async false
set_option linter.all false
set_option maxRecDepth 100000
set_option maxHeartbeats 4000000
namespace L2
open PySem PySem.Spec PyProof.Rows
section
variable {X : Cx}
/-- t[lo:hi] where that is the whole: t itself -/
def rSlW (K : W.Frag) : V → Option Int → Option Int → Hp → VK → Prop := fun x lo hi H Q => ∃ a xs, x = .ref a ∧ SqT K H a xs ∧
  ((¬ (HT.sIx xs.length 0 lo = 0 ∧ HT.sIx xs.length xs.length hi = xs.length) ∧ ∀ p, H p = none → Q (.ref p) (upd H p (.tup (cutV xs lo hi)))) ∨
   ((HT.sIx xs.length 0 lo = 0 ∧ HT.sIx xs.length xs.length hi = xs.length) ∧ Q (.ref a) H))
/-- t + u, whatever is empty -/
def rCatA (K : W.Frag) : R2 := fun x y H Q => ∃ a b xs ys, x = .ref a ∧ y = .ref b ∧ SqT K H a xs ∧ SqT K H b ys ∧ xs.length + ys.length ≤ sizeLine ∧
  (xs = [] → Q (.ref b) H) ∧ (xs ≠ [] → ys = [] → Q (.ref a) H) ∧ (xs ≠ [] → ys ≠ [] → ∀ p, H p = none → Q (.ref p) (upd H p (.tup (xs ++ ys))))
theorem op_catA : OpR X (binaryOp .Add) (rCatA X.K) := by
  intro pins s σ H x y v u Q I rx ry h
  obtain ⟨a, b, xs, ys, rfl, rfl, ha, hb, hz, q0, q1, q2⟩ := h
  by_cases hx : xs = []
  · cases rx
    cases ry
    obtain ⟨its, r1, p1, _⟩ := I.tuple ha
    obtain ⟨its2, r2, p2, _⟩ := I.tuple hb
    have e : its = [] := r1.nil_iff.mpr hx
    obtain ⟨⟨cls, dd, data, sl⟩, ho, hc, n, hd⟩ := id p1
    obtain ⟨⟨cls2, dd2, data2, sl2⟩, ho2, hc2, n2, hd2⟩ := id p2
    simp only at hc hd hc2 hd2
    subst hc hd hc2 hd2
    exact concat_meets ⟨_, ho, rfl⟩ ⟨_, ho2, rfl⟩ noFill_tuple_add seq_tuple_add PySem.F.slot_tuple_add PySem.F.entry_tuple_add (PySem.F.args_tuple_add_2 _ _)
      (tuple_addW0 a b its.toArray its2.toArray n n2 dd dd2 sl sl2 (by simp [e])) ⟨ho, ho2, ⟨.ref b, H, I, rfl, q0 hx⟩⟩
  · exact op_catT pins s σ H _ _ v u Q I rx ry ⟨a, b, xs, ys, rfl, rfl, ha, hb, hx, hz, q1 hx, q2 hx⟩
end
/-! ### a new object beside an iterator's turn -/
section
variable {X : Cx} {pins : List (Addr × Obj)} {σ : St} {H : Hp} {s : Shared} {h' : Heap}
end
/-! ### for k, v in d.items() over a dict that is written no more -/
def Iti (a : Addr) (o : Obj) (kvs : List (Key × V)) : It :=
  ⟨fun i H => i < kvs.length ∧ H a = some (.frz o (.dK kvs)), fun i H v H' => ∃ t p, kvs[i]? = some p ∧ H t = none ∧ v = .ref t ∧ H' = upd H t (.tup [kV p.1, p.2]), fun i H => kvs.length ≤ i ∧ H a = some (.frz o (.dK kvs))⟩
end L2
namespace L2
open PySem PySem.Spec PyProof.Rows
section
variable {X : Cx}
def iItems (to : TE) : TI := fun σ H R => to σ H fun x H1 => ∃ a ob kvs, x = .ref a ∧ H1 a = some (.frz ob (.dK kvs)) ∧ R (Iti a ob kvs) H1
end
end L2

set_option Elab.async false
set_option linter.all false
set_option maxRecDepth 100000
set_option maxHeartbeats 4000000
namespace L2
open PySem PySem.Spec PyProof.Rows
section
variable {X : Cx}
end
end L2

set_option Elab.async false
set_option linter.all false
set_option maxRecDepth 100000
set_option maxHeartbeats 4000000
/-! ### zip of two tuples -/
namespace L2
open PySem PySem.Spec PyProof.Rows
section
variable {prog : Program} {w : World} {A : Around} {E : Value → Shared → Prop} {s : Shared}
/-- where a zip's parts lie -/
structure ZAt (h : Heap) (z ti to i1 i2 l1 l2 : Addr) (k : Nat) (f : Value) : Prop where
  z : IsZip h z ti to f
  ti : IsPair h ti (.ref i1) (.ref i2)
  to : ∃ a b, IsPair h to a b
  i1 : h.IsTupleIter i1 l1 k
  i2 : h.IsTupleIter i2 l2 k
end
end L2

set_option Elab.async false
set_option linter.all false
set_option maxRecDepth 100000
set_option maxHeartbeats 4000000
namespace L2
open PySem PySem.Spec PyProof.Rows
/-! ### what gives pairs, each turn a new tuple -/
def Itp (ps : List (V × V)) (Ok : Hp → Prop) : It :=
  ⟨fun i H => i < ps.length ∧ Ok H, fun i H v H' => ∃ t p, ps[i]? = some p ∧ H t = none ∧ v = .ref t ∧ H' = upd H t (.tup [p.1, p.2]), fun i H => ps.length ≤ i ∧ Ok H⟩
section
variable {prog : Program} {w : World} {A : Around} {E : Value → Shared → Prop} {s : Shared}
abbrev zg1 (h : Heap) (l1 : Addr) : Heap := h.push { cls := .type "tuple_iterator", data := .fields #[.ref l1, .int 0 0] }
abbrev zg2 (h : Heap) (l1 l2 : Addr) : Heap := (zg1 h l1).push { cls := .type "tuple_iterator", data := .fields #[.ref l2, .int 0 0] }
abbrev zg3 (h : Heap) (l1 l2 : Addr) : Heap := (zg2 h l1 l2).push { cls := .type "tuple", data := .seq #[.ref h.objs.size, .ref (zg1 h l1).objs.size] }
abbrev zg4 (h : Heap) (l1 l2 : Addr) : Heap := (zg3 h l1 l2).push { cls := .type "tuple", data := .seq #[.none, .none] }
abbrev zg5 (h : Heap) (l1 l2 : Addr) : Heap := (zg4 h l1 l2).push { cls := .type "zip", data := .fields #[.none, .bool false, .bool false, .ref (zg2 h l1 l2).objs.size, .ref (zg3 h l1 l2).objs.size] }
end
theorem zipV_get {xs ys : List V} {i : Nat} {p : V × V} (h : (xs.zip ys)[i]? = some p) : xs[i]? = some p.1 ∧ ys[i]? = some p.2 := by
  rw [List.getElem?_zip_eq_some] at h
  exact h
theorem Inv.turnedNewL {X : Cx} {pins : List (Addr × Obj)} {σ : St} {H : Hp} {s : Shared} {h' : Heap} {t' : Nat} {its : List Addr} {a : Addr} {o : HO} (I : Inv X pins σ H s) (k : ∀ b u, b ∉ its → s.heap.get? b = some u → h'.get? b = some u)
    (f : ∀ b ∈ its, FpOk X pins H b) (ha : s.heap.objs.size ≤ a) (new : ObjOk X.prog X.w (upd H a o) h' a o) : Inv X pins σ (upd H a o) { s with heap := h', toks := t' } := by
  have nit : ∀ b u, H b = some u → b ∉ its := fun b u e z => by have := (f b z).1; rw [this] at e; cases e
  have na : ∀ b u, H b = some u → b ≠ a := fun b u e => Nat.ne_of_lt (Nat.lt_of_lt_of_le (I.hok.lt e) ha)
  have low : ∀ {b u}, H b = some u → (upd H a o) b = some u := fun {b u} e => by rw [upd_ne (na b u e)]; exact e
  refine I.step (g' := s.gens) (d' := s.drawn) (ch := its) (fun b hb => ?_) (fun b u _ _ hc e _ => k b u hc e) (fun b u _ _ hc e _ => ⟨u.slots, k b u hc e⟩)
    (fun b u _ e n => by rw [upd_ne (Nat.ne_of_lt (Nat.lt_of_lt_of_le (Heap.lt_size e) ha))]; exact n)
    (fun b u hc e => ⟨u, k b u hc e⟩) (fun _ _ e => low e) (fun _ _ _ e => low e) (fun b ps e => ⟨#[], by rw [low e]; simp⟩) (fun m hm => ?_) (fun b u e => ?_) I.bare
  · obtain ⟨f0, f1, f2, f3, f4, f5⟩ := f b hb
    exact ⟨f3, f1, f4, f5⟩
  · obtain ⟨o', es, ep, ho, r⟩ := hm
    exact ⟨o', es, ep, k _ o' (fun z => (f _ z).2.1 rfl) ho, r⟩
  · by_cases hb : b = a
    · subst hb
      rw [upd_same] at e
      cases e
      exact new
    · rw [upd_ne hb] at e
      refine (I.hok b u e).stay (fun c v hc q => k c v ?_ q) (fun _ q => low q) fun _ _ q => low q
      rcases hc with z | z
      · rw [z]; exact nit b u e
      · exact nit c _ z
theorem Inv.turnedL {X : Cx} {pins : List (Addr × Obj)} {σ : St} {H : Hp} {s : Shared} {h' : Heap} {t' : Nat} {its : List Addr} (I : Inv X pins σ H s) (k : ∀ b u, b ∉ its → s.heap.get? b = some u → h'.get? b = some u)
    (f : ∀ b ∈ its, FpOk X pins H b) : Inv X pins σ H { s with heap := h', toks := t' } := by
  have nit : ∀ b u, H b = some u → b ∉ its := fun b u e z => by have := (f b z).1; rw [this] at e; cases e
  refine I.step (g' := s.gens) (d' := s.drawn) (ch := its) (fun b hb => ?_) (fun b u _ _ hc e _ => k b u hc e) (fun b u _ _ hc e _ => ⟨u.slots, k b u hc e⟩)
    (fun b u _ e n => n) (fun b u hc e => ⟨u, k b u hc e⟩) (fun _ _ e => e) (fun _ _ _ e => e) (fun b ps e => ⟨#[], by rw [e]; simp⟩) (fun m hm => ?_) (fun b u e => ?_) I.bare
  · obtain ⟨f0, f1, f2, f3, f4, f5⟩ := f b hb
    exact ⟨f3, f1, f4, f5⟩
  · obtain ⟨o', es, ep, ho, r⟩ := hm
    exact ⟨o', es, ep, k _ o' (fun z => (f _ z).2.1 rfl) ho, r⟩
  · refine (I.hok b u e).stay (fun c v hc q => k c v ?_ q) (fun _ q => q) fun _ _ q => q
    rcases hc with z | z
    · rw [z]; exact nit b u e
    · exact nit c _ z
section
variable {X : Cx}
def iZip (K : W.Frag) (ta : TA) : TI := fun σ H R => ta σ H fun vs H1 => ∃ (a b : Addr) (xs ys : List V), vs = [.ref a, .ref b] ∧ SqT K H1 a xs ∧ SqT K H1 b ys ∧ R (Itp (xs.zip ys) fun H => SqT K H a xs ∧ SqT K H b ys) H1
end
end L2

set_option Elab.async false
set_option linter.all false
set_option maxRecDepth 100000
set_option maxHeartbeats 4000000
/-! ### enumerate of a list or a tuple -/
namespace L2
open PySem PySem.Spec PyProof.Rows
/-- the iterator of a list (true) or of a tuple -/
def SIt (b : Bool) (h : Heap) (p a : Addr) (i : Nat) : Prop := if b = true then h.IsListIter p a i else h.IsTupleIter p a i
def SSq (b : Bool) (h : Heap) (a : Addr) (us : Array Value) : Prop := if b = true then h.IsList a us else h.IsTuple a us
def enumV (xs : List V) : List (V × V) := (rangeV 0 xs.length).zip xs
theorem enumV_len (xs : List V) : (enumV xs).length = xs.length := by
  unfold enumV
  rw [List.length_zip, rangeV_len, Nat.min_self]
theorem enumV_get {xs : List V} {i : Nat} {p : V × V} (h : (enumV xs)[i]? = some p) : p.1 = .int i ∧ xs[i]? = some p.2 := by
  obtain ⟨h1, h2⟩ := zipV_get h
  obtain ⟨_, e⟩ := rangeV_get h1
  exact ⟨by rw [e, Int.zero_add], h2⟩
section
variable {prog : Program} {w : World} {A : Around} {E : Value → Shared → Prop} {s : Shared}
end
theorem enumEnd {prog : Program} {w : World} {A : Around} {E : Value → Shared → Prop} {s : Shared} {e p : Addr} {i : Int} {old : Value} {Q : Option Value → Shared → Prop} (hh : A.handled = none) (he : IsEnum s.heap e p i old)
    (nx : ∀ (Q : Value → Shared → Prop) (E : Value → Shared → Prop), (∀ g e, Heap.ExtBut p s.heap g → (∃ o, g.get? e = some o ∧ o.cls = .type "StopIteration") → E (.ref e) { s with heap := g }) → wpAny (model prog w) A.in1 (Builtin.SmallTypes.nextOf (.ref p)) Q E s)
    (q : ∀ g, Heap.ExtBut p s.heap g → Q none { s with heap := g }) : wpAny (model prog w) A (pyNext (.ref e)) Q E s := by
  have hT : s.TypeIs (.ref e) "enumerate" := ⟨_, he, rfl⟩
  unfold pyNext
  refine wpAny_bind (wpAny_attempt (wpAny_callSpecial?_slot (name := Str.ofString "__next__") hT PySem.F.slot_enumerate_next (wpAny_call_entry PySem.F.slot_enumerate_next hT PySem.F.entry_enumerate_next ?_ (PySem.F.args_enumerate_next_1 _))))
  show wpAny _ _ (field (.ref e) 2 >>= _) _ _ _
  refine wpAny_bind (wpAny_field he rfl (x := .ref p) rfl (wpAny_bind (nx _ _ fun g x eb hx => ?_)))
  obtain ⟨o, ho, hc⟩ := hx
  refine wpAny_bind (wpAny_isInstance (T := "StopIteration") (b := true) ⟨o, ho, hc⟩ isSubtype_stop ?_)
  exact wpAny_pure (q _ eb)
section
variable {X : Cx}
def iEnum (K : W.Frag) (ta : TA) : TI := fun σ H R => ta σ H fun vs H1 => ∃ (b : Bool) (a : Addr) (xs : List V), vs = [.ref a] ∧ SqB K b H1 a xs ∧ R (Itp (enumV xs) fun H => SqB K b H a xs) H1
end
end L2

set_option Elab.async false
set_option linter.all false
set_option maxRecDepth 100000
set_option maxHeartbeats 4000000
namespace L2
open PySem PySem.Spec PyProof.Rows PySem.W
theorem hu65 {A : Around} {k : Nat} (hr : Room k A) : A.units + 65 < cLine := by have := hr.un; omega
/-! ### dicts of any keys -/
/-! ### loops over pairs -/
theorem for_pairs {ps : List (V × V)} {Ok : Hp → Prop} {g : TG} {tb : TS} {D : Ends} {σ : St} {H : Hp} (Pv : Nat → St → Hp → Prop) (h0 : Pv 0 σ H) (hl : ∀ i σ H, i ≤ ps.length → Pv i σ H → Ok H)
    (hs : ∀ i p t σ H, ps[i]? = some p → Pv i σ H → H t = none → g (.ref t) σ (upd H t (.tup [p.1, p.2])) fun σ2 H2 => tb { D with nx := Pv (i + 1), ct := Pv (i + 1), bk := D.nx } σ2 H2) (hd : ∀ σ H, Pv ps.length σ H → D.nx σ H) :
    ∃ W : Nat → Nat → St → Hp → Prop, (∃ m, W 0 m σ H) ∧ ∀ i m σ H, W i m σ H →
      ((Itp ps Ok).stop i H ∧ D.nx σ H) ∨ ((Itp ps Ok).go i H ∧ ∃ N : St → Hp → Prop, (∀ σ' H', N σ' H' → ∃ m', m' < m ∧ W (i + 1) m' σ' H') ∧ ∀ x H', (Itp ps Ok).yld i H x H' → g x σ H' fun σ2 H2 => tb { D with nx := N, ct := N, bk := D.nx } σ2 H2) := by
  refine ⟨fun i m σ H => m = ps.length - i ∧ i ≤ ps.length ∧ Pv i σ H, ⟨ps.length, by simp, Nat.zero_le _, h0⟩, ?_⟩
  rintro i m σ H ⟨rfl, hi, p⟩
  have q := hl i σ H hi p
  by_cases hlt : i < ps.length
  · refine .inr ⟨⟨hlt, q⟩, Pv (i + 1), fun σ' H' p' => ⟨ps.length - (i + 1), by omega, rfl, hlt, p'⟩, fun x H' y => ?_⟩
    obtain ⟨t, pr, hp, ht, rfl, rfl⟩ := y
    exact hs i pr t σ H hp p ht
  · have e : i = ps.length := by omega
    subst e
    exact .inl ⟨⟨Nat.le_refl _, q⟩, hd σ H p⟩
/-- a pair taken apart into two slots -/
abbrev g2 (K : W.Frag) (i j : Nat) : TG := gTup K 2 (gCons (gName i) (gCons (gName j) gNil))
theorem g2_at {K : W.Frag} {i j : Nat} {t : Addr} {x y : V} {σ : St} {H : Hp} {R : St → Hp → Prop} (h : SqT K H t [x, y]) (q : R ((σ.set i (some x)).set j (some y)) H) : g2 K i j (.ref t) σ H R :=
  ⟨t, [x, y], rfl, h, rfl, x, [y], rfl, y, [], rfl, rfl, q⟩
theorem g2_new {K : W.Frag} {i j : Nat} {t : Addr} {x y : V} {σ : St} {H : Hp} {R : St → Hp → Prop} (q : R ((σ.set i (some x)).set j (some y)) (upd H t (.tup [x, y]))) : g2 K i j (.ref t) σ (upd H t (.tup [x, y])) R :=
  g2_at (SqT.of upd_same) q
/-- two names taken from a pair -/
theorem pg_two {X : Cx} {K : W.Frag} {i j : Nat} {x y : Str} {p q pos : Pos} {c : Nat} (hK : X.K = K) (hc : X.calm = true) (hN : X.N.Nodup) (hi : X.N[i]? = some x) (hj : X.N[j]? = some y) (hx : Loc X.env.scope x) (hy : Loc X.env.scope y)
    (fx : X.fn x = true ∨ X.env.scope.names.lookup x = some .local) (fy : X.fn y = true ∨ X.env.scope.names.lookup y = some .local) : PG X (.Tuple [.Name x p, .Name y q] c pos) (g2 K i j) := by
  subst hK
  exact pg_tup hc (pgs_cons (pg_name (i := i) hN hi hx fx) (pgs_cons (pg_name (i := j) hN hj hy fy) pgs_nil))
theorem snew {H : Hp} {t : Addr} {o : HO} (h : H t = none) : Same H (upd H t o) := fun b u e => by rw [upd_ne (ne_of_none e h)]; exact e
theorem take_filter {α : Type} (p : α → Bool) : ∀ (xs : List α) (i : Nat) (x : α), xs[i]? = some x → (xs.take (i + 1)).filter p = (xs.take i).filter p ++ if p x = true then [x] else [] := by
  intro xs i x h
  rw [List.take_add_one, h, List.filter_append]
  congr 1
  cases e : p x <;> simp [List.filter, e]
theorem comp_rel2 {K : W.Frag} {ps : List (V × V)} {Ok : Hp → Prop} {js : List Nat} {tt : TT} {te : TE} {σ : St} {Q : VK} {H1 : Hp} (hz : ps.length ≤ sizeLine) (p : V × V → Bool) (F : Addr → V × V → V → Hp → Prop)
    (hF : ∀ D x v H H', (∀ b o, b ≠ D → H b = some o → H' b = some o) → F D x v H → F D x v H')
    (hok : ∀ H, Same H1 H → Ok H)
    (ht : ∀ x H (R : Bool → Hp → Prop), Same H1 H → x ∈ ps → (∀ H', Same H H' → R (p x) H') → tt (some x.1 :: some x.2 :: js.map fun j => (σ[j]?).join) H R)
    (he : ∀ D x H (R : V → Hp → Prop), Same H1 H → (∃ ys, H D = some (.lst ys)) → H1 D = none → x ∈ ps → p x = true → (∀ v H', Same H H' → F D x v H' → R v H') → te (some x.1 :: some x.2 :: js.map fun j => (σ[j]?).join) H R)
    (hd : ∀ D H' ys, H1 D = none → Same H1 H' → H' D = some (.lst ys) → Paired (fun x v => F D x v H') (ps.filter p) ys → Q (.ref D) H') :
    compBody 2 js (g2 K 0 1) tt te σ Q (Itp ps Ok) H1 := by
  intro D hD
  refine ⟨fun i m ys σ' H => m = ps.length - i ∧ i ≤ ps.length ∧ Same H1 H ∧ H D = some (.lst ys) ∧ Paired (fun x v => F D x v H) ((ps.take i).filter p) ys ∧ ∃ o u, σ' = o :: u :: js.map fun j => (σ[j]?).join,
    ⟨ps.length, by simp, Nat.zero_le _, snew hD, upd_same, by simpa using Paired.nil, none, none, rfl⟩, ?_⟩
  rintro i m ys σ' H ⟨rfl, hi, hs, hl, hp, o, u, rfl⟩
  have mono : ∀ {H H' : Hp}, (∀ b o, b ≠ D → H b = some o → H' b = some o) → Paired (fun x v => F D x v H) ((ps.take i).filter p) ys → Paired (fun x v => F D x v H') ((ps.take i).filter p) ys := fun h q => Paired.mapP q fun a b z => hF D a b _ _ h z
  by_cases hlt : i < ps.length
  · have yl : ys.length < sizeLine := by
      rw [← hp.length]
      refine Nat.lt_of_le_of_lt (List.length_filter_le _ _) ?_
      rw [List.length_take]
      omega
    refine .inr ⟨⟨hlt, hok H hs⟩, yl, fun ys3 σ3 H3 => Same H1 H3 ∧ H3 D = some (.lst ys3) ∧ Paired (fun x v => F D x v H3) ((ps.take (i + 1)).filter p) ys3 ∧ ∃ o u, σ3 = o :: u :: js.map fun j => (σ[j]?).join,
      fun ys3 σ3 H3 z => ⟨ps.length - (i + 1), by omega, rfl, hlt, z⟩, fun x H2 y => ?_⟩
    obtain ⟨t, x, hx, ht0, rfl, rfl⟩ := y
    refine g2_new ?_
    show tt (some x.1 :: some x.2 :: js.map fun j => (σ[j]?).join) (upd H t (.tup [x.1, x.2])) _
    have hm : x ∈ ps := List.mem_of_getElem? hx
    have st : Same H (upd H t (.tup [x.1, x.2])) := snew ht0
    refine ht x _ _ (hs.trans st) hm fun H4 s4 => ?_
    have s04 : Same H H4 := st.trans s4
    have hs4 : Same H1 H4 := hs.trans s04
    cases hpx : p x with
    | true =>
      rw [if_pos rfl]
      refine he D x H4 _ hs4 ⟨_, s04 _ _ hl⟩ hD hm hpx fun v H5 s5 f5 => ⟨s5 _ _ (s04 _ _ hl), fun b o e => ?_, upd_same, ?_, _, _, rfl⟩
      · rw [upd_ne (ne_of_none e hD)]
        exact s5 _ _ (hs4 _ _ e)
      · rw [take_filter p ps i x hx, hpx, if_pos rfl]
        refine Paired.snoc (mono (fun b o hb e => by rw [upd_ne hb]; exact s5 _ _ (s04 _ _ e)) hp) (hF D _ _ _ _ (fun b o hb e => by rw [upd_ne hb]; exact e) f5)
    | false =>
      rw [if_neg Bool.false_ne_true]
      refine ⟨hs4, s04 _ _ hl, ?_, _, _, rfl⟩
      rw [take_filter p ps i x hx, hpx, if_neg Bool.false_ne_true, List.append_nil]
      exact mono (fun b o _ e => s04 _ _ e) hp
  · have e : i = ps.length := by omega
    subst e
    rw [List.take_length] at hp
    exact .inl ⟨⟨Nat.le_refl _, hok H hs⟩, hd D H ys hD hs hl hp⟩
/-- the values come of the pairs alone -/
theorem paired_eq {α : Type} {f : α → V} : ∀ {xs : List α} {ys : List V}, Paired (fun x v => v = f x) xs ys → ys = xs.map f
  | _, _, .nil => rfl
  | _, _, .cons r t => by rw [List.map_cons, r, paired_eq t]
theorem comp_val2 {K : W.Frag} {ps : List (V × V)} {Ok : Hp → Prop} {js : List Nat} {tt : TT} {te : TE} {σ : St} {Q : VK} {H1 : Hp} (hz : ps.length ≤ sizeLine) (p : V × V → Bool) (f : V × V → V)
    (hok : ∀ H, Same H1 H → Ok H)
    (ht : ∀ x H (R : Bool → Hp → Prop), Same H1 H → x ∈ ps → (∀ H', Same H H' → R (p x) H') → tt (some x.1 :: some x.2 :: js.map fun j => (σ[j]?).join) H R)
    (he : ∀ x H (R : V → Hp → Prop), Same H1 H → x ∈ ps → p x = true → (∀ H', Same H H' → R (f x) H') → te (some x.1 :: some x.2 :: js.map fun j => (σ[j]?).join) H R)
    (hd : ∀ D H', H1 D = none → Same H1 H' → H' D = some (.lst ((ps.filter p).map f)) → Q (.ref D) H') :
    compBody 2 js (g2 K 0 1) tt te σ Q (Itp ps Ok) H1 :=
  comp_rel2 hz p (fun _ x v _ => v = f x) (fun _ _ _ _ _ _ z => z) hok ht (fun D x H R hs _ _ hx hp k => he x H R hs hx hp fun H' s' => k _ _ s' rfl)
    fun D H' ys hD hs hl hp => hd D H' hD hs (by rw [hl, paired_eq hp])
section
variable {X : Cx}
/-! ### x in a list of things that are compared whole -/
theorem any_dEq {d : Dat} {n : Nat} (h2 : kqdOk n d = true) : ∀ {ds : List Dat}, ds.all (kqdOk 8) = true → ((kqdPs ds).any fun y => PyData.eqv y (kqdP d)) = ds.any fun e => dEq e d
  | [], _ => by rw [kqdPs]; rfl
  | e :: ds, h => by
    rw [List.all_cons, Bool.and_eq_true] at h
    rw [kqdPs, List.any_cons, List.any_cons, eqv_dEq h.1 h2, any_dEq h2 h.2]
noncomputable def rInD (K : W.Frag) (f : Bool → Bool) : R2 := fun x y H Q => ∃ d ds, Rep K H x d ∧ Rep K H y (.list ds) ∧ kqdOk 9 d = true ∧ ds.all (kqdOk 8) = true ∧ Q (.bl (f (ds.any fun e => dEq e d))) H
theorem shaped_l {ds : List Dat} (h : ds.all (kqdOk 8) = true) : SeqAt.shaped (PyData.list (kqdPs ds)) = true := by
  have := shaped_of (d := .list ds) (by rw [kqdOk]; exact h)
  rw [kqdP] at this
  exact this
theorem op_notInD (hu : X.A.units + 65 < cLine) : OpR X (compareOp .NotIn) (rInD X.K Bool.not) := by
  intro pins s σ H x y v u Q I rx ry h
  obtain ⟨d, ds, h1, h2, k1, k2, q⟩ := h
  obtain ⟨as, ra⟩ := h1.reads I rx
  obtain ⟨bs, rb⟩ := h2.reads I ry
  rw [kqdP] at rb
  exact SeqAt.notIn_list_reads rb ra (SeqAt.canLay_of_shaped (shaped_l k2)) (SeqAt.canLay_of_shaped (shaped_of k1)) (room_in_shaped (shaped_of k1) hu) (fin_bl I q (by rw [any_dEq k1 k2]))
end
end L2

set_option Elab.async false
set_option linter.all false
set_option maxRecDepth 100000
set_option maxHeartbeats 4000000
namespace L2
open PySem PySem.Spec PyProof.Rows PySem.W
/-! ### lists of whole numbers -/
def natV (i : Nat) : V := .int (i : Nat)
def natD (i : Nat) : Dat := .int (i : Nat)
end L2

set_option Elab.async false
set_option linter.all false
set_option maxRecDepth 100000
set_option maxHeartbeats 4000000
namespace L2
open PySem PySem.Spec PyProof.Rows
/-! ### xs.remove(k) of whole numbers, k among them -/
def isK (k : Nat) (v : Value) : Bool := match v with
  | .int i _ => i == (k : Nat)
  | _ => false
section
variable {X : Cx}
def rRemove : V → List V → Hp → VK → Prop := fun x vs H Q => ∃ (l : Addr) (ms : List Nat) (k : Nat), x = .ref l ∧ vs = [.int (k : Nat)] ∧ H l = some (.lst (ms.map natV)) ∧ k ∈ ms ∧ Q .non (upd H l (.lst ((ms.erase k).map natV)))
end
end L2

set_option Elab.async false
set_option linter.all false
set_option maxRecDepth 100000
set_option maxHeartbeats 4000000
namespace L2
open PySem PySem.W PySem.Spec PyProof.Rows
/-! ### xs.index(x) of things that are compared whole, x among them -/
section
variable {X : Cx}
noncomputable def rIndexD (K : W.Frag) : V → List V → Hp → VK → Prop := fun x vs H Q => ∃ y d ds j e, vs = [y] ∧ Rep K H x (.list ds) ∧ Rep K H y d ∧ ds.all (kqdOk 8) = true ∧ kqdOk 9 d = true ∧ ds.length ≤ 100000 ∧ ds[j]? = some e ∧ dEq e d = true ∧ (∀ m e, m < j → ds[m]? = some e → dEq e d = false) ∧ Q (.int (j : Nat)) H
end
end L2

set_option Elab.async false
set_option linter.all false
set_option maxRecDepth 100000
set_option maxHeartbeats 4000000
namespace L2
open PySem PySem.Spec PyProof.Rows
/-! ### walking a dict, whatever its keys are -/
/-- a plain dict with these entries -/
def RawD (h : Heap) (d : Addr) (es : Array DictEntry) (ep : Nat) : Prop := ∃ o, h.get? d = some o ∧ o.ExactDict ∧ o.data = .dict es ep
section
variable {prog : Program} {w : World} {A : Around} {E : Value → Shared → Prop} {s : Shared} {d it : Addr} {es : Array DictEntry} {ep i : Nat}
/-! the same of the pairs -/
end
end L2

set_option Elab.async false
set_option linter.all false
set_option maxRecDepth 100000
set_option maxHeartbeats 4000000
namespace L2
open PySem PySem.Spec PyProof.Rows
section
variable {X : Cx} {pins : List (Addr × Obj)} {σ : St} {H H' : Hp} {s : Shared} {a : Addr} {kvs : List (List Key × V)} {o : Obj}
end
def ItkT (a : Addr) (o : Obj) (kvs : List (List Key × V)) : It :=
  ⟨fun i H => i < kvs.length ∧ H a = some (.frz o (.dT kvs)), fun i H v H' => H' = H ∧ ∃ p t, kvs[i]? = some p ∧ v = .ref t ∧ H t = some (.tup (p.1.map kV)), fun i H => kvs.length ≤ i ∧ H a = some (.frz o (.dT kvs))⟩
def ItiT (a : Addr) (o : Obj) (kvs : List (List Key × V)) : It :=
  ⟨fun i H => i < kvs.length ∧ H a = some (.frz o (.dT kvs)), fun i H v H' => ∃ t b p, kvs[i]? = some p ∧ H t = none ∧ H b = some (.tup (p.1.map kV)) ∧ v = .ref t ∧ H' = upd H t (.tup [.ref b, p.2]), fun i H => kvs.length ≤ i ∧ H a = some (.frz o (.dT kvs))⟩
/-- a dict keyed by tuples that is written no more -/
def tFrzT (t : TS) : TS := fun D σ H => ∃ a kvs, H a = some (.dT kvs) ∧ ∀ o, t D σ (upd H a (.frz o (.dT kvs)))
section
variable {X : Cx} {tg : Expr}
/-- walked where it is made: frozen then -/
def AtT (R : Obj → Hp → Prop) (H : Hp) (a : Addr) (kvs : List (List Key × V)) : Prop :=
  (H a = some (.dT kvs) ∧ ∀ ob, R ob (upd H a (.frz ob (.dT kvs)))) ∨ ∃ ob, H a = some (.frz ob (.dT kvs)) ∧ R ob H
def iKeysT (tl : TE) : TI := fun σ H R => tl σ H fun x H1 => ∃ a kvs, x = .ref a ∧ AtT (fun ob H' => R (ItkT a ob kvs) H') H1 a kvs
def iItemsT (to : TE) : TI := fun σ H R => to σ H fun x H1 => ∃ a kvs, x = .ref a ∧ AtT (fun ob H' => R (ItiT a ob kvs) H') H1 a kvs
end
end L2

set_option Elab.async false
set_option linter.all false
set_option maxRecDepth 100000
set_option maxHeartbeats 4000000
namespace L2
open PySem PySem.Spec PyProof.Rows
end L2
namespace L2
open PySem PySem.Spec PyProof.Rows
end L2

set_option Elab.async false
set_option linter.all false
set_option maxRecDepth 100000
set_option maxHeartbeats 4000000
namespace L2
open PySem PySem.Spec PyProof.Rows
/-- a list of pairs gone through, each taken apart; what comes of one is told by a relation -/
theorem comp_relT {K : W.Frag} {J : It} {xs : List V} {Ok : Hp → Prop} (R : Runs J xs Ok) {js : List Nat} {tt : TT} {te : TE} {σ : St} {Q : VK} {H1 : Hp} (hz : xs.length ≤ sizeLine) (p : V → Bool) (F : Addr → V → V → Hp → Prop) (l r : V → V)
    (hF : ∀ D x v H H', (∀ b o, b ≠ D → H b = some o → H' b = some o) → F D x v H → F D x v H')
    (hok : ∀ H, Same H1 H → Ok H) (hp : ∀ x ∈ xs, ∃ t, x = .ref t ∧ H1 t = some (.tup [l x, r x]))
    (ht : ∀ x H (R : Bool → Hp → Prop), Same H1 H → x ∈ xs → (∀ H', Same H H' → R (p x) H') → tt (some (l x) :: some (r x) :: js.map fun j => (σ[j]?).join) H R)
    (he : ∀ D x H (R : V → Hp → Prop), Same H1 H → (∃ ys, H D = some (.lst ys)) → H1 D = none → x ∈ xs → p x = true → (∀ v H', Same H H' → F D x v H' → R v H') → te (some (l x) :: some (r x) :: js.map fun j => (σ[j]?).join) H R)
    (hd : ∀ D H' ys, H1 D = none → Same H1 H' → H' D = some (.lst ys) → Paired (fun x v => F D x v H') (xs.filter p) ys → Q (.ref D) H') :
    compBody 2 js (g2 K 0 1) tt te σ Q J H1 := by
  refine comp_runs R hz (fun D i ys σ' H => H1 D = none ∧ Same H1 H ∧ H D = some (.lst ys) ∧ Paired (fun x v => F D x v H) ((xs.take i).filter p) ys ∧ ∃ o u, σ' = o :: u :: js.map fun j => (σ[j]?).join) ?_ ?_ ?_ ?_
  · intro D hD
    exact ⟨hD, snew hD, upd_same, by simpa using Paired.nil, none, none, rfl⟩
  · rintro D i ys σ' H hi ⟨hD, hs, hl, q, _⟩
    refine ⟨hok H hs, ?_⟩
    rw [← q.length]
    exact Nat.le_trans (List.length_filter_le _ _) (by rw [List.length_take]; omega)
  · rintro D i x ys σ' H hD hx ⟨_, hs, hl, q, o, u, rfl⟩
    have mono : ∀ {H H' : Hp}, (∀ b o, b ≠ D → H b = some o → H' b = some o) → Paired (fun x v => F D x v H) ((xs.take i).filter p) ys → Paired (fun x v => F D x v H') ((xs.take i).filter p) ys := fun h q => Paired.mapP q fun a b z => hF D a b _ _ h z
    have hm : x ∈ xs := List.mem_of_getElem? hx
    obtain ⟨t, rfl, hxt⟩ := hp x hm
    refine g2_at (SqT.of (hs _ _ hxt)) ?_
    show tt (some (l (.ref t)) :: some (r (.ref t)) :: js.map fun j => (σ[j]?).join) H _
    refine ht (.ref t) H _ hs hm fun H4 s4 => ?_
    have hs4 := hs.trans s4
    cases hpx : p (.ref t) with
    | true =>
      rw [if_pos rfl]
      refine he D (.ref t) H4 _ hs4 ⟨_, s4 _ _ hl⟩ hD hm hpx fun v H5 s5 f5 => ⟨s5 _ _ (s4 _ _ hl), hD, fun b o e => ?_, upd_same, ?_, _, _, rfl⟩
      · rw [upd_ne (ne_of_none e hD)]
        exact s5 _ _ (hs4 _ _ e)
      · rw [take_filter p xs i _ hx, hpx, if_pos rfl]
        exact Paired.snoc (mono (fun b o hb e => by rw [upd_ne hb]; exact s5 _ _ (s4 _ _ e)) q) (hF D _ _ _ _ (fun b o hb e => by rw [upd_ne hb]; exact e) f5)
    | false =>
      rw [if_neg Bool.false_ne_true]
      refine ⟨hD, hs4, s4 _ _ hl, ?_, _, _, rfl⟩
      rw [take_filter p xs i _ hx, hpx, if_neg Bool.false_ne_true, List.append_nil]
      exact mono (fun b o _ e => s4 _ _ e) q
  · rintro D ys σ' H hD ⟨_, hs, hl, q, _⟩
    rw [List.take_length] at q
    exact hd D H ys hD hs hl q
end L2

set_option Elab.async false
set_option linter.all false
set_option maxRecDepth 100000
set_option maxHeartbeats 4000000
namespace L2
open PySem PySem.Spec PyProof.Rows

/-- an exception in the air: its object, the newest entry of its traceback, the mark there -/
structure Air (h : Heap) (e T : Addr) (cls : Value) (dx : Option Addr) (fl : Value) : Prop where
  ne : T ≠ e
  obj : ∃ oe vs, h.get? e = some oe ∧ oe.cls = cls ∧ oe.dict = dx ∧ oe.data = .fields vs ∧ vs[1]? = some (.ref T)
  tb : ∃ oT ts, h.get? T = some oT ∧ oT.data = .fields ts ∧ ts[3]? = some fl
/-- what changed: the slots of those at S, all of those at R -/
structure Chg (S R : List Addr) (h h' : Heap) : Prop where
  sz : h.objs.size ≤ h'.objs.size
  keep : ∀ b o, h.get? b = some o → b ∉ S → b ∉ R → h'.get? b = some o
  slot : ∀ b o, h.get? b = some o → b ∉ R → ∃ sl, h'.get? b = some { o with slots := sl }
  there : ∀ b o, h.get? b = some o → ∃ o', h'.get? b = some o'
theorem Chg.mono {S S' R R' : List Addr} {h h' : Heap} (c : Chg S R h h') (hs : ∀ b ∈ S, b ∈ S') (hr : ∀ b ∈ R, b ∈ R') : Chg S' R' h h' :=
  ⟨c.sz, fun b o e n1 n2 => c.keep b o e (fun z => n1 (hs b z)) fun z => n2 (hr b z), fun b o e n => c.slot b o e fun z => n (hr b z), c.there⟩
theorem Chg.trans {S R : List Addr} {h h1 h2 : Heap} (a : Chg S R h h1) (b : Chg S R h1 h2) : Chg S R h h2 :=
  ⟨Nat.le_trans a.sz b.sz, fun c o e n1 n2 => b.keep c o (a.keep c o e n1 n2) n1 n2, fun c o e n => by
    obtain ⟨sl, e1⟩ := a.slot c o e n
    obtain ⟨sl', e2⟩ := b.slot c _ e1 n
    exact ⟨sl', e2⟩, fun c o e => by
    obtain ⟨o1, e1⟩ := a.there c o e
    exact b.there c o1 e1⟩
/-- what is new has not been there -/
theorem Chg.drop {S R : List Addr} {h h' : Heap} {t : Addr} (c : Chg S (t :: R) h h') (ht : h.objs.size ≤ t) : Chg S R h h' :=
  ⟨c.sz, fun b o e n1 n2 => c.keep b o e n1 fun z => (List.mem_cons.mp z).elim (fun q => absurd (Heap.lt_size e) (by rw [q]; exact Nat.not_lt.mpr ht)) n2,
   fun b o e n => c.slot b o e fun z => (List.mem_cons.mp z).elim (fun q => absurd (Heap.lt_size e) (by rw [q]; exact Nat.not_lt.mpr ht)) n, c.there⟩
theorem dict_mapFields (f : Array Value → Array Value) (o : Obj) : (Obj.mapFields f o).dict = o.dict := by
  obtain ⟨c, d, dt, sl⟩ := o
  cases dt <;> rfl
theorem Chg.setF {h : Heap} {T : Addr} {oT : Obj} {ts : Array Value} {f : Array Value → Array Value} (hT : h.get? T = some oT) (hd : oT.data = .fields ts) : Chg [] [T] h (h.update T (Obj.mapFields f)) := by
  have other : ∀ b, b ≠ T → (h.update T (Obj.mapFields f)).get? b = h.get? b := fun b hb => Heap.get?_update_other _ _ (Ne.symm hb)
  refine ⟨Nat.le_of_eq (Heap.size_after_update ..).symm, fun b o e _ n => (other b fun z => n (by simp [z])).trans e, fun b o e n => ⟨o.slots, (other b fun z => n (by simp [z])).trans e⟩, fun b o e => ?_⟩
  by_cases hb : b = T
  · subst hb
    exact ⟨_, Heap.get?_update_self _ hT (Obj.isFreed_of_fields (Obj.data_mapFields hd _))⟩
  · exact ⟨o, (other b hb).trans e⟩

/-- an entry nb is laid, the exception's record points to it -/
theorem Chg.entry {S : List Addr} {h g : Heap} {e : Addr} {oe nb : Obj} {vs ts : Array Value} {fl : Value} (sl : Heap.SlotsOnly S h g) (ns : e ∉ S) (he : h.get? e = some oe) (hd : oe.data = .fields vs) (hsz : 1 < vs.size) (hnb : nb.data = .fields ts) (h3 : ts[3]? = some fl) :
    Air ((g.push nb).update e (Obj.mapFields fun r => r.setIfInBounds 1 (.ref g.objs.size))) e g.objs.size oe.cls oe.dict fl ∧ Chg S [e] h ((g.push nb).update e (Obj.mapFields fun r => r.setIfInBounds 1 (.ref g.objs.size))) := by
  have ge : g.get? e = some oe := (sl.2.1 e ns).trans he
  have apart : g.objs.size ≠ e := Nat.ne_of_gt (Heap.lt_size ge)
  have pe : (g.push nb).get? e = some oe := Heap.get?_push_of_some nb ge
  have data := Obj.data_mapFields hd fun r => r.setIfInBounds 1 (Value.ref g.objs.size)
  have self := Heap.get?_update_self (Obj.mapFields fun r => r.setIfInBounds 1 (Value.ref g.objs.size)) pe (Obj.isFreed_of_fields data)
  have rest : ∀ b o, b ≠ e → g.get? b = some o → ((g.push nb).update e (Obj.mapFields fun r => r.setIfInBounds 1 (.ref g.objs.size))).get? b = some o := fun b o n q =>
    (Heap.get?_update_other _ _ fun z => n z.symm).trans (Heap.get?_push_of_some nb q)
  have tnew : (g.push nb).get? g.objs.size = some nb := Heap.get?_push_size g (Obj.isFreed_of_fields hnb)
  refine ⟨⟨apart, ⟨_, _, self, Obj.cls_mapFields _ _, dict_mapFields _ _, data, by simp [hsz]⟩, ⟨nb, ts, (Heap.get?_update_other _ _ fun z => apart z.symm).trans tnew, hnb, h3⟩⟩, ⟨?_, fun b o q n1 n2 => ?_, fun b o q n => ?_, fun b o q => ?_⟩⟩
  · rw [Heap.size_after_update, Heap.size_push, sl.1]
    omega
  · exact rest b o (fun z => n2 (z ▸ List.mem_cons_self)) ((sl.2.1 b n1).trans q)
  · obtain ⟨k, r⟩ := sl.2.2 b o q
    exact ⟨k, rest b _ (fun z => n (z ▸ List.mem_cons_self)) r⟩
  · obtain ⟨k, r⟩ := sl.2.2 b o q
    by_cases z : b = e
    · subst z; exact ⟨_, self⟩
    · exact ⟨_, rest b _ z r⟩

section
variable {M : Model} {A : Around} {E : Value → Shared → Prop} {s : Shared}
/-- a new entry is laid -/
theorem note_new {base : Heap} {env : Env} {outer : List Env} {L e : Addr} {oe : Obj} {vs : Array Value} {head : Value} {hadNext : Bool} {Q : Unit → Shared → Prop}
    (hfr : A.frames = some (env :: outer)) (hl : s.heap.FunFrames base (env :: outer)) (hf : env.frame = some L) (he : s.heap.get? e = some oe) (hd : oe.data = .fields vs) (hsz : 1 < vs.size)
    (h : ∀ h' T, s.heap.objs.size ≤ T → Air h' e T oe.cls oe.dict (rawInt L) → Chg (frs (env :: outer)) [e] s.heap h' → Q () { s with heap := h' }) :
    wpAny M A (frameOf env >>= fun a => entryPlaceOf L hadNext >>= fun pl => EntryCells.newEntry head a .none (rawInt L) .none pl >>= fun b => setField (.ref e) 1 b) Q E s := by
  have nf : e ∉ frs (env :: outer) := fun m => by
    have q := (hl.mem m).2
    rw [he] at q
    obtain ⟨_, r1, r2⟩ := q
    cases r1
    exact r2 vs hd
  apply wpAny_bind
  refine wpAny_frameOf_fun hfr hl hf fun g1 sl1 => wpAny_bind (wpAny_entryPlaceOf fun pl place => wpAny_bind ?_)
  have three : ∀ xs : List Value, IsPlace xs → ([head, Value.ref L, .none, rawInt L, .none] ++ (if xs.isEmpty then List.replicate 6 Value.none else xs)).toArray[3]? = some (rawInt L) := fun xs _ => by simp
  have laid := Chg.entry (nb := { cls := .type "traceback", data := .fields ([head, .ref L, .none, rawInt L, .none] ++ (if pl.isEmpty then List.replicate 6 Value.none else pl)).toArray }) sl1 nf he hd hsz rfl (three pl place)
  refine wpAny_newObj_type (wpAny_setField (Heap.get?_push_of_some _ ((sl1.2.1 e nf).trans he)) hd hsz ?_) (place.sizeOk5 _ _ _ _ _)
  exact h _ _ (Nat.le_of_eq sl1.1.symm) laid.1 laid.2
/-- the mark goes -/
theorem air_lands {e T : Addr} {cls fl : Value} {dx : Option Addr} {Q : Unit → Shared → Prop} (a : Air s.heap e T cls dx fl)
    (h : ∀ h', Air h' e T cls dx .none → Chg [] [T] s.heap h' → Q () { s with heap := h' }) : wpAny M A (setFlight (.ref e) none) Q E s := by
  obtain ⟨ne, ⟨oe, vs, he, hc, hdx, hd, h1⟩, ⟨oT, ts, hT, hdT, h3⟩⟩ := a
  obtain ⟨hsz3, _⟩ := Array.getElem?_eq_some_iff.mp h3
  have some_ : (Value.ref T != Value.none) = true := by simp
  unfold setFlight
  apply wpAny_bind
  apply wpAny_field he hd h1
  rw [if_pos some_]
  refine wpAny_setField hT hdT hsz3 (h _ ⟨ne, ⟨oe, vs, (Heap.get?_update_other _ _ ne).trans he, hc, hdx, hd, h1⟩, ⟨_, _, Heap.get?_update_self _ hT (Obj.isFreed_of_fields (Obj.data_mapFields hdT _)), Obj.data_mapFields hdT _, by simp [hsz3]⟩⟩ (Chg.setF hT hdT))
/-- a frame notes it -/
theorem air_notes {base : Heap} {env : Env} {outer : List Env} {L e T : Addr} {cls : Value} {dx : Option Addr} {Q : Unit → Shared → Prop}
    (hfr : A.frames = some (env :: outer)) (hl : s.heap.FunFrames base (env :: outer)) (hf : env.frame = some L) (a : Air s.heap e T cls dx .none)
    (h : ∀ h' T', s.heap.objs.size ≤ T' → Air h' e T' cls dx (rawInt L) → Chg (frs (env :: outer)) [e, T] s.heap h' → Q () { s with heap := h' }) : wpAny M A (noteFrame (.ref e) env) Q E s := by
  obtain ⟨ne, ⟨oe, vs, he, hc, hdx, hd, h1⟩, ⟨oT, ts, hT, hdT, h3⟩⟩ := a
  subst hc hdx
  have some_ : (Value.ref T != Value.none) = true := by simp
  have apart : ¬ (Value.none == rawInt L) = true := by simp [rawInt]
  have c1 : Chg [] [T] s.heap (s.heap.update T (Obj.mapFields fun r => r.setIfInBounds 3 Value.none)) := Chg.setF hT hdT
  have kept : ∀ b o, s.heap.get? b = some o → b ≠ T → (s.heap.update T (Obj.mapFields fun r => r.setIfInBounds 3 Value.none)).get? b = some o := fun b o q n => c1.keep b o q (fun z => nomatch z) fun z => n (List.mem_singleton.mp z)
  unfold noteFrame
  simp only [hf]
  apply wpAny_bind
  apply wpAny_field he hd h1
  rw [if_pos some_]
  apply wpAny_bind
  apply wpAny_field hT hdT h3
  rw [if_neg apart]
  apply wpAny_bind
  refine wpAny_setField hT hdT (Array.getElem?_eq_some_iff.mp h3).1 ?_
  refine note_new hfr (hl.of_keeps fun b o q nf => ⟨o, kept b o q fun z => by subst z; rw [hT] at q; cases q; exact nf ts hdT, rfl⟩) hf (kept e oe he fun z => ne z.symm) hd (Array.getElem?_eq_some_iff.mp h1).1 fun h' T' hT' a' c' => ?_
  exact h h' T' (Nat.le_trans c1.sz hT') a' ((c1.mono (fun b z => nomatch z) fun b z => by simp at z; simp [z]).trans (c'.mono (fun b z => z) fun b z => by simp at z; simp [z]))
/-- it leaves a frame where it was raised -/
theorem air_first {base : Heap} {env : Env} {outer : List Env} {L e : Addr} {oe : Obj} {vs : Array Value} {Q : Unit → Shared → Prop}
    (hfr : A.frames = some (env :: outer)) (hl : s.heap.FunFrames base (env :: outer)) (hf : env.frame = some L) (he : s.heap.get? e = some oe) (hd : oe.data = .fields vs) (h1 : vs[1]? = some .none)
    (h : ∀ h' T, s.heap.objs.size ≤ T → Air h' e T oe.cls oe.dict .none → Chg (frs (env :: outer)) [e] s.heap h' → Q () { s with heap := h' }) : wpAny M A (leaving env (.ref e)) Q E s := by
  unfold leaving noteFrame
  simp only [hf]
  apply wpAny_bind
  apply wpAny_bind
  apply wpAny_field he hd h1
  rw [if_neg (by decide)]
  refine note_new hfr hl hf he hd (Array.getElem?_eq_some_iff.mp h1).1 fun h' T hT a c => ?_
  refine air_lands a fun h2 a2 c2 => h h2 T hT a2 ?_
  have c3 : Chg (frs (env :: outer)) [T, e] s.heap h2 := (c.mono (fun b z => z) fun b z => by simp at z; simp [z]).trans (c2.mono (fun b z => nomatch z) fun b z => by simp at z; simp [z])
  exact c3.drop hT
/-- it leaves the next frame -/
theorem air_next {base : Heap} {env : Env} {outer : List Env} {L e T : Addr} {cls : Value} {dx : Option Addr} {Q : Unit → Shared → Prop}
    (hfr : A.frames = some (env :: outer)) (hl : s.heap.FunFrames base (env :: outer)) (hf : env.frame = some L) (a : Air s.heap e T cls dx .none)
    (h : ∀ h' T', s.heap.objs.size ≤ T' → Air h' e T' cls dx .none → Chg (frs (env :: outer)) [e, T] s.heap h' → Q () { s with heap := h' }) : wpAny M A (leaving env (.ref e)) Q E s := by
  unfold leaving
  refine wpAny_bind (air_notes hfr hl hf a fun h' T' hT a' c => ?_)
  refine air_lands a' fun h2 a2 c2 => h h2 T' hT a2 ?_
  have c3 : Chg (frs (env :: outer)) [T', e, T] s.heap h2 := (c.mono (fun b z => z) fun b z => by simp at z; rcases z with z | z <;> simp [z]).trans (c2.mono (fun b z => nomatch z) fun b z => by simp at z; simp [z])
  exact c3.drop hT
end

/-! ### what stays of the abstract heap -/
theorem HOk.chg {P : Program} {w : World} {H : Hp} {h h' : Heap} {S R : List Addr} (x : HOk P w H h) (c : Chg S R h h') (hS : ∀ b ∈ S, H b = none) (hR : ∀ b ∈ R, H b = none) : HOk P w H h' := fun a o e =>
  (x a o e).stay (fun b u hb q => by
    have hn : H b ≠ none := by
      rcases hb with z | z
      · rw [z, e]; simp
      · rw [z]; simp
    exact c.keep b u q (fun z => hn (hS b z)) fun z => hn (hR b z)) (fun _ q => q) fun _ _ q => q
theorem Un.chg {fs ex S R : List Addr} {H : Hp} {h h' : Heap} (c : Chg S R h h') (hS : ∀ b ∈ S, b ∈ fs) (hR : ∀ b ∈ R, b ∈ ex) : Un fs ex H H h h' :=
  ⟨fun b o e n hb hx => c.keep b o e (fun z => hb (hS b z)) fun z => hx (hR b z), fun b o e n hb hx => c.slot b o e fun z => hx (hR b z), fun _ _ _ n _ => n, fun b o e _ => c.there b o e, fun _ _ q => q, fun _ _ _ q => q, fun _ ps q => ⟨#[], by rw [q]; simp⟩⟩

/-! ### how an exception lies behind a call -/
def CX1 (P : Program) (w : World) : CXT := fun outer H s E ev s' => ∃ (e T : Addr) (cls : Value) (dx : Option Addr) (H' : Hp), ev = .ref e ∧ s'.os = s.os ∧ AllBare s'.gens ∧ Un (frs outer) [] H H' s.heap s'.heap ∧ HOk P w H' s'.heap ∧
  H' e = none ∧ H' T = none ∧ s.heap.objs.size ≤ e ∧ s.heap.objs.size ≤ T ∧ Air s'.heap e T cls dx .none ∧ E cls dx H'
/-- a def's body, of whose exceptions E is wanted -/
structure Fns (X : Cx) (E : XK) : Prop where
  xe : X.xe = fun e s' => wpAny (model X.prog X.w) X.A (leaving X.env e) (fun _ s'' => CX1 X.prog X.w X.outer X.H₀ X.s₀ E e s'') (fun e' s'' => CX1 X.prog X.w X.outer X.H₀ X.s₀ E e' s'') s'
  stk : X.stack = X.env :: X.outer
  fr : X.env.frame = some X.env.locals
  ex : X.ex = []
theorem Fns.of {P : Program} {w : World} {K : W.Frag} {mg : Str → Option Value} {base : Heap} {N : List Str} {qual : Str} {scope : Scope} {f : Addr} {cd : Value} {A : Around} {outer : List Env} {s : Shared} {H : Hp} {E : XK} :
    Fns (cxOf (CX1 P w) P w K mg base N qual scope f cd A outer s H E) E := ⟨rfl, rfl, rfl, rfl⟩
section
variable {X : Cx} {pins : List (Addr × Obj)} {σ : St} {H : Hp} {s : Shared} {E : XK} {e T : Addr} {cls : Value} {dx : Option Addr}
theorem Fns.old (F : Fns X E) (f : FpOk X pins H e) : X.s₀.heap.objs.size ≤ e := by
  rcases f.2.2.2.1 with z | z
  · rw [F.ex] at z; cases z
  · exact z
theorem Fns.un {h' : Heap} {R : List Addr} (F : Fns X E) (I : Inv X pins σ H s) (c : Chg (frs X.stack) R s.heap h') (hR : ∀ b ∈ R, X.s₀.heap.objs.size ≤ b) : Un X.fs [] X.H₀ H X.s₀.heap h' := by
  have B := I.base
  have hx : ∀ b, b ∉ X.ex := fun b z => by rw [F.ex] at z; cases z
  have ns : ∀ b o, X.s₀.heap.get? b = some o → b ∉ X.fs → b ∉ frs X.stack := fun b o q n z => by
    rcases List.mem_cons.mp (I.stkSub b z) with r | r
    · exact absurd (Nat.lt_of_lt_of_le (Heap.lt_size q) (by rw [r]; exact I.ok.above)) (Nat.lt_irrefl _)
    · exact n r
  have nr : ∀ b o, X.s₀.heap.get? b = some o → b ∉ R := fun b o q z => absurd (Nat.lt_of_lt_of_le (Heap.lt_size q) (hR b z)) (Nat.lt_irrefl _)
  refine ⟨fun b o q n hb _ => c.keep b o (B.keep b o q n hb (hx b)) (ns b o q hb) (nr b o q), fun b o q n hb _ => ?_, fun b o q n _ => B.free b o q n (hx b), fun b o q _ => ?_, B.tups, B.frzs, B.tbls⟩
  · obtain ⟨sl, e1⟩ := B.slot b o q n hb (hx b)
    obtain ⟨sl', e2⟩ := c.slot b _ e1 (nr b o q)
    exact ⟨sl', e2⟩
  · obtain ⟨o1, e1⟩ := B.there b o q (hx b)
    exact c.there b o1 e1
/-- an exception in the air leaves the body -/
theorem Fns.leave (F : Fns X E) (I : Inv X pins σ H s) (fe : FpOk X pins H e) (fT : FpOk X pins H T) (a : Air s.heap e T cls dx .none) (h : E cls dx H) : X.xe (.ref e) s := by
  rw [F.xe]
  have hfr : X.A.frames = some (X.env :: X.outer) := by rw [← F.stk]; exact I.ok.frames
  have hl : s.heap.FunFrames X.base (X.env :: X.outer) := by rw [← F.stk]; exact I.stack
  refine air_next hfr hl F.fr a fun h' T' hT' a' c => ?_
  rw [← F.stk] at c
  exact ⟨e, T', cls, dx, H, rfl, I.os, I.bare, F.un I c fun b z => by simp at z; rcases z with z | z <;> rw [z]; exact F.old fe; exact F.old fT,
    I.hok.chg c I.stkFree (fun b z => by simp at z; rcases z with z | z <;> rw [z]; exact fe.1; exact fT.1), fe.1, I.hok.fresh hT', F.old fe, Nat.le_trans I.sz hT', a', h⟩
/-- an exception that was just made leaves the body -/
theorem Fns.raised {oe : Obj} {vs : Array Value} (F : Fns X E) (I : Inv X pins σ H s) (fe : FpOk X pins H e) (he : s.heap.get? e = some oe) (hd : oe.data = .fields vs) (h1 : vs[1]? = some .none) (h : E oe.cls oe.dict H) : X.xe (.ref e) s := by
  rw [F.xe]
  have hfr : X.A.frames = some (X.env :: X.outer) := by rw [← F.stk]; exact I.ok.frames
  have hl : s.heap.FunFrames X.base (X.env :: X.outer) := by rw [← F.stk]; exact I.stack
  refine air_first hfr hl F.fr he hd h1 fun h' T' hT' a' c => ?_
  rw [← F.stk] at c
  exact ⟨e, T', oe.cls, oe.dict, H, rfl, I.os, I.bare, F.un I c fun b z => by simp at z; rw [z]; exact F.old fe,
    I.hok.chg c I.stkFree (fun b z => by simp at z; rw [z]; exact fe.1), fe.1, I.hok.fresh hT', F.old fe, Nat.le_trans I.sz hT', a', h⟩
/-- .. of a callee -/
theorem pass1 (F : Fns X E) : Passes (CX1 X.prog X.w) X E := by
  rintro pins σ H s ev s' I ⟨e, T, cls, dx, H', rfl, os, bare, un, hok, he, hT, se, sT, a, h⟩
  have I' : Inv X pins σ H' s' := I.call' (ch := []) os un hok bare fun b z => nomatch z
  exact F.leave I' (I.fpOk se he) (I.fpOk sT hT) a h
end
/-- what raises nothing raises nothing wrong -/
theorem FnOk.any {P : Program} {w : World} {K : W.Frag} {mg : Str → Option Value} {base : Heap} {CX : CXT} {k : Nat} {f : Addr} {fd : FuncData} {ps : List Str} {sp : Sp} (F : FnOk P w K mg base CX0 k f fd ps sp) : FnOk P w K mg base CX k f fd ps sp :=
  ⟨F.len, fun A outer s H args us vs Q E hr he hb hv hs => codeAny_mono (F.run A outer s H args us vs Q E hr he hb hv hs) fun r s' hq => by
    cases r with
    | error e => exact False.elim hq
    | ok fl => cases fl <;> exact hq⟩
/-- THE RULE for a def that may raise -/
theorem Fun.ok1 {P : Program} {w : World} {K : W.Frag} {mg : Str → Option Value} {base : Heap} {x qual : Str} {st : Stmt} {f : Addr} {fd : FuncData} {N ps : List Str} {k : Nat} {sp : Sp} (F : Fun K x qual st f fd) (S : FnScope N ps (defScope st)) (len : ∀ vs H Q E, sp vs H Q E → vs.length = ps.length)
    (hbody : ∀ (cdv : Value) (A : Around) (outer : List Env) (s : Shared) (H : Hp) (vs : List V) (Q : VK) (E : XK), Room k (A.deeper (envOfC qual (defScope st) s.heap.objs.size f cdv)) → sp vs H Q E →
      ∃ t, PSs (cxOf (CX1 P w) P w K mg base N qual (defScope st) f cdv A outer s H E) (defBody st) t ∧ t { nx := fun _ H' => Q .non H', rt := Q } (start N vs) H) : FnOk P w K mg base (CX1 P w) (k + 1) f fd ps sp := by
  obtain ⟨oc, od, kV, doc, pm, an, cdv, ct, osl, rfl, lk, hcd⟩ := F.ex
  refine fn_of lk hcd S len fun A outer s H vs Q E hr hsp => ?_
  exact hbody cdv A outer s H vs Q E hr hsp
end L2

set_option Elab.async false
set_option linter.all false
set_option maxRecDepth 100000
set_option maxHeartbeats 4000000
namespace L2
open PySem PySem.Spec

/-- what the text must have of a class of exceptions (under ValueError) -/
structure ExC (K : W.Frag) (C : Addr) : Prop where
  obj : ∃ nm q N bs bm hdct sn sub ab col dd k0 k1 k2 k3 k5, K.lookup C = some (excClassObj nm q C N bs bm hdct sn sub ab col dd k0 k1 k2 k3 k5 "ValueError.__new__")
  val : W.subIn K (.ref C) (.type "ValueError") = some true
  bas : W.subIn K (.ref C) (.type "BaseException") = some true
  att : W.subIn K (.ref C) (.type "AttributeError") = some false
  nam : W.subIn K (.ref C) (.type "NameError") = some false
  kp : W.keepIn K (.ref C) = true
/-- a new exception, not raised yet -/
abbrev excObj (C t : Addr) : Obj := { cls := .ref C, data := .fields #[.ref t, .none, .none, .none, .bool false, .none] }
abbrev tupObj (us : List Value) : Obj := { cls := .type "tuple", data := .seq us.toArray }

section
variable {K : W.Frag} {prog : Program} {w : World} {A : Around} {E : Value → Shared → Prop} {h : Heap} {g : Array GenState} {d : Drawn} {t : Nat} {os : OsState} {C : Addr}
theorem sub_has {nm q : Str} {N : Addr} {bs bm : List Value} {hdct : Bool} {sn : List Str} {sub : List Value} {ab : Bool} {col : Option Bool} {dd : Option Addr} {k0 k1 k2 k3 k5 : Option Value} {nid : String} {x : Value} {b : Bool}
    (l : K.lookup C = some (excClassObj nm q C N bs bm hdct sn sub ab col dd k0 k1 k2 k3 k5 nid)) (e : W.subIn K (.ref C) x = some b) : (Value.ref C :: bm).contains x = b := by
  have e2 : ((W.clsIn K C).bind fun cd => if cd.mro.isEmpty = true then none else some (cd.mro.contains x)) = some b := e
  have e3 : W.clsIn K C = some { name := nm, bases := bs, mro := .ref C :: bm, ns := N, qualname := q, hasDict := hdct, slotNames := sn, subclasses := sub, abstract := ab, collection := col, hasDel := false } := by
    unfold W.clsIn
    rw [l]
  rw [e3] at e2
  exact Option.some.inj e2
/-- the new object -/
theorem exc_new {rest : List Value} {R : Result → Shared → Prop} (X : K.In h) (c : ExC K C) (hrest : rest.length ≤ sizeLine)
    (hq : R (.ok (.ret (.ref (h.objs.size + 1)))) ⟨(h.push (tupObj rest)).push (excObj C h.objs.size), g, d, t, os⟩) :
    codeAny (model prog w) A (.builtin "ValueError.__new__" ⟨.ref C :: rest, []⟩) R ⟨h, g, d, t, os⟩ := by
  obtain ⟨nm, q, N, bs, bm, hdct, sn, sub, ab, col, dd, k0, k1, k2, k3, k5, lk⟩ := c.obj
  have Fv := PySem.F.excBase_ValueError
  have cV := sub_has lk c.val
  have cA := sub_has lk c.att
  have cN := sub_has lk c.nam
  have hC := X _ _ lk
  have hends := Fv.ends
  refine codeAny_builtinAt Fv.entry ?_
  unfold Builtin.«BaseException.__new__»
  apply PySem.wpAt_bind
  show PySem.wpAt _ _ _ (stack >>= _) _ _ _
  apply PySem.wpAt_bind
  refine PySem.wpAt_stack fun p below => PySem.wpAt_of_wpAny ?_
  wp_walk
  apply PySem.wpAt_of_wpAny
  rw [Fv.owner]
  repeat (first | with_reducible refine wpAny_madeHere_exc Fv.canon hC ?_ | with_reducible refine wpAny_loadPart_at hC ?_ | (with_reducible refine wpAny_isSubtype_exc hC ?_; first | rw [cV] | rw [cA] | rw [cN]) | wp_step)
  show R _ _
  rw [Heap.size_push]
  exact hq
/-- C(..), till its __init__ is called -/
theorem exc_call {rest : List Value} {i : Value} {Q : Value → Shared → Prop} (X : K.In h) (c : ExC K C) (hi : W.findIn K (.ref C) "__init__" = some (some i))
    (hb : ∀ self, W.Looks (model prog w) ((h.push (tupObj rest)).push (excObj C h.objs.size)) (bindSpecial i self) (i, [self])) (hrest : rest.length ≤ sizeLine)
    (hq : codeAny (model prog w) (A.under (.builtin "type.__call__" ⟨.ref C :: rest, []⟩)) (.call i ⟨.ref (h.objs.size + 1) :: rest, []⟩)
      (fun r s' => match r with | .ok (.ret v) => v = .none ∧ Q (.ref (h.objs.size + 1)) s' | .ok _ => False | .error e => E e s') ⟨(h.push (tupObj rest)).push (excObj C h.objs.size), g, d, t, os⟩) :
    wpAny (model prog w) A (call (.ref C) rest) Q E ⟨h, g, d, t, os⟩ := by
  obtain ⟨nm, q, N, bs, bm, hdct, sn, sub, ab, col, dd, k0, k1, k2, k3, k5, lk⟩ := c.obj
  have Fv := PySem.F.excBase_ValueError
  have cV := sub_has lk c.val
  have cS : (Value.ref C :: bm).contains (.ref C) = true := by simp
  have hC := X _ _ lk
  have up : ∀ b o, h.get? b = some o → ((h.push (tupObj rest)).push (excObj C h.objs.size)).get? b = some o := fun b o e => Heap.get?_push_of_some _ (Heap.get?_push_of_some _ e)
  have X1 : K.In ((h.push (tupObj rest)).push (excObj C h.objs.size)) := X.keeps up
  have hC1 := X1 _ _ lk
  have got : ((h.push (tupObj rest)).push (excObj C h.objs.size)).get? (h.objs.size + 1) = some (excObj C h.objs.size) := Heap.get?_push_at (by rw [Heap.size_push]) rfl
  have f1 := tc_lookup
  have f2 := tc_bind (.ref C)
  have hT : (⟨h, g, d, t, os⟩ : Shared).TypeIs (.ref C) "type" := ⟨_, hC, rfl⟩
  have hstar := Fv.noStar
  apply wpAny_call
  apply codeAny_of_tree
  show wpAny _ _ (callAny (.ref C) _) _ _ _
  repeat (any_goals (first | assumption | with_reducible refine wpAny_loadPart_at hC ?_ | wp_step))
  constructor
  · rfl
  apply codeAny_call_builtin_at (Code.quiet_builtin _ (by decide +kernel)) entry_typeCall
  apply wpAny_check_type_call_sub hC
  repeat (first | with_reducible refine wpAny_loadPart_at hC ?_ | with_reducible refine wpAny_madeBy_exc hC ?_ | wp_step)
  apply codeAny_call_builtin_code (Code.quiet_builtin _ Fv.quiet)
  simp only [checkBuiltinCall, Fv.newKind, Fv.newSplit, Fv.newRow]
  repeat (first | refine wpAny_loadPart_at hC ?_ | (refine wpAny_isSubtype_exc hC ?_; rw [cV]) | refine wpAny_staticBase_exc hC ?_ | refine wpAny_madeBy_exc hC ?_ | simp only [bne_self_eq_false, Bool.false_eq_true, if_false] | wp_step)
  apply exc_new X c hrest
  show wpAny _ _ _ _ _ _
  apply wpAny_bind
  unfold isInstance
  repeat (first | with_reducible refine wpAny_loadPart_at got ?_ | (with_reducible refine wpAny_isSubtype_exc hC1 ?_; rw [cS]) | wp_step)
  refine (W.looks_findIn (M := model prog w) X1 hi).here ?_
  apply wpAny_holding
  apply wpAny_bind
  refine (hb (.ref (h.objs.size + 1))).here ?_
  apply wpAny_bind
  apply wpAny_call
  refine codeAny_mono hq fun r s' q => ?_
  cases r with
  | error e => exact q
  | ok f =>
    cases f with
    | ret v =>
      obtain ⟨rfl, q⟩ := q
      apply wpAny_pure
      show wpAny _ _ (ret (.ref (h.objs.size + 1))) _ _ _
      exact wpAny_pure q
    | next => exact q.elim
    | brk => exact q.elim
    | cont => exact q.elim
/-- ValueError's own __init__: the arguments are laid anew -/
theorem exc_init0 {rest : List Value} {R : Result → Shared → Prop} {e t0 : Addr} (X : K.In h) (c : ExC K C) (he : h.get? e = some (excObj C t0)) (hrest : rest.length ≤ sizeLine)
    (hq : R (.ok (.ret .none)) ⟨(h.push (tupObj rest)).update e (Obj.mapFields (·.setIfInBounds 0 (.ref h.objs.size))), g, d, t, os⟩) :
    codeAny (model prog w) A (.call (.builtin "ValueError.__init__") ⟨.ref e :: rest, []⟩) R ⟨h, g, d, t, os⟩ := by
  obtain ⟨nm, q, N, bs, bm, hdct, sn, sub, ab, col, dd, k0, k1, k2, k3, k5, lk⟩ := c.obj
  have Fv := PySem.F.excBase_ValueError
  have cV := sub_has lk c.val
  have hC := X _ _ lk
  have hshort := Fv.noStar
  have chk : ∀ (a b : String) (n : Nat), Bind.check ⟨.positional, "*", "ValueError", .self, [⟨"args", .varPos, false⟩]⟩ a b n (List.map (fun x => x.fst) ({ pos := Value.ref e :: rest } : Args).kw) = pure () := fun a b n => check_star_args _ _ _ _ _ _
  have he1 : (h.push (tupObj rest)).get? e = some (excObj C t0) := Heap.get?_push_of_some _ he
  apply codeAny_call_builtin Fv.init.plain Fv.initEntry
  simp only [checkBuiltinCall, Fv.initKind, Fv.initSplit, Fv.initRow]
  repeat (first | with_reducible refine wpAny_loadPart_at he ?_ | with_reducible refine wpAny_loadPart_at hC ?_ | (with_reducible refine wpAny_isSubtype_exc hC ?_; rw [cV]) | wp_step)
  apply wpAny_onRaise
  rw [chk]
  apply wpAny_pure
  wp_walk
  exact hq
/-- raise of what was made -/
theorem raise_made {env : Env} {x : Str} {np cpos pos : Pos} {args : List Expr} {s : Shared} {Q : Flow → Shared → Prop} (c : ExC K C) (hh : A.handled = none)
    (h1 : wpAny (model prog w) A (eval (.Call (.Name x np) args [] cpos) env) (fun v s₁ => ∃ e t0 dx sl, v = .ref e ∧ K.In s₁.heap ∧
      s₁.heap.get? e = some ⟨.ref C, dx, .fields #[.ref t0, .none, .none, .none, .bool false, .none], sl⟩ ∧ E (.ref e) s₁) E s) :
    wpAny (model prog w) A (exec (.Raise (some (.Call (.Name x np) args [] cpos)) none pos) env) Q E s := by
  obtain ⟨nm, q, N, bs, bm, hdct, sn, sub, ab, col, dd, k0, k1, k2, k3, k5, lk⟩ := c.obj
  have cB := sub_has lk c.bas
  rw [arm_exec_Raise]
  apply wpAny_bind
  apply wpAny_standAt
  unfold raiseStmt
  apply wpAny_bind
  show wpAny _ _ (do let v ← eval (.Call (.Name x np) args [] cpos) env; standAt pos; pure v) _ _ _
  apply wpAny_bind
  refine wpAny_mono h1 (fun v s₁ h₁ => ?_) fun _ _ z => z
  apply wpAny_bind
  apply wpAny_standAt
  apply wpAny_pure
  obtain ⟨e, t0, dx, sl, rfl, X, he, hE⟩ := h₁
  obtain ⟨hp, g, d, tk, os⟩ := s₁
  have hC := X _ _ lk
  repeat (first | with_reducible refine wpAny_loadPart_at he ?_ | with_reducible refine wpAny_loadPart_at hC ?_ | (with_reducible refine wpAny_isSubtype_exc hC ?_; rw [cB]) | wp_step)
  exact wpAny_raiseNew_none hh hE
end
end L2

set_option Elab.async false
set_option linter.all false
set_option maxRecDepth 100000
set_option maxHeartbeats 4000000
namespace L2
open PySem PySem.Spec PySem.Builtin PySem.Builtin.ObjectAttr PySem.W

/-- what the text must have of a class of exceptions for its attributes -/
structure ExA (K : W.Frag) (C : Addr) : Prop extends ExC K C where
  ga : W.findIn K (.ref C) "__getattribute__" = some (some (.builtin "BaseException.__getattribute__"))
  gt : W.findIn K (.ref C) "__getattr__" = some none
  ca : W.findIn K (.ref C) "__class__" = some (some (.builtin "object.__class__"))
  cg : W.specialIn K (.builtin "object.__class__") "__get__" = some (some (.builtin "getset_descriptor.__get__"))
  ct : W.takesIn K (.builtin "object.__class__") = some true
  ob : W.mroIn K C (.type "object") = some true
section
variable {K : W.Frag} {prog : Program} {w : World} {A : Around} {E : Value → Shared → Prop} {h : Heap} {g : Array GenState} {d : Drawn} {t : Nat} {os : OsState} {x C : Addr} {ox : Obj} {od : Option Obj} {name : Str}
theorem exc_check {nameV : Value} {M : Model} {Q : Unit → Shared → Prop} (X : K.In h) (c : ExC K C) (I : W.InstAt h x ox C od) (hq : Q () ⟨h, g, d, t, os⟩) :
    wpAny M A (checkBuiltinCall "BaseException.__getattribute__" ⟨[.ref x, nameV], []⟩) Q E ⟨h, g, d, t, os⟩ := by
  have hk : builtinKind "BaseException.__getattribute__" = some .slot := by decide +kernel
  have hs : splitId "BaseException.__getattribute__" = some ("BaseException", "__getattribute__") := by decide +kernel
  have ha := PySem.F.args_bexc_ga (.ref x) nameV
  have hi : W.Looks M h (isInstance (.ref x) (.type "BaseException")) true := I.type.andThen (W.looks_subIn X c.bas)
  simp only [checkBuiltinCall, hk, hs]
  apply wpAny_bind
  apply hi.at
  simp only [Bool.not_true, Bool.false_eq_true, if_false]
  exact wpAny_of_eq ha hq
theorem exc_entry {tk : Tok} {Q : Fin → Shared → Prop} {f : Found} (X : K.In h) (I : W.InstAt h x ox C od) (hf : W.Looks (model prog w) h (find (.ref x) (.ref C) name) f)
    (hq : wpAny (model prog w) A (match f with | .value v => ret v | .bind g a => bindTo g a (.ref x) (.ref C) | .missing => unsupported "") Q E ⟨h, g, d, t, os⟩) (hm : f ≠ .missing) :
    wpAny (model prog w) A (Builtin.«object.__getattribute__» ⟨[.ref x, .str name tk], []⟩) Q E ⟨h, g, d, t, os⟩ := by
  have L0 := I.type (M := model prog w)
  unfold Builtin.«object.__getattribute__»
  apply wpAny_bind
  apply wpAny_pure
  apply wpAny_bind
  apply wpAny_pure
  apply wpAny_bind
  apply L0.at
  apply wpAny_bind
  apply hf.at
  cases f with
  | value v => exact hq
  | bind a b => exact hq
  | missing => exact absurd rfl hm
theorem exc_by {tk : Tok} {fill expr : Bool} {Q : Value → Shared → Prop} {f : Found} {v : Value} (X : K.In h) (c : ExA K C) (I : W.InstAt h x ox C od) (hf : W.Looks (model prog w) h (find (.ref x) (.ref C) name) f) (hm : f ≠ .missing)
    (hq : ∀ {A : Around} {E : Value → Shared → Prop} {Q : Fin → Shared → Prop}, Q (.done (.ret v)) ⟨h, g, d, t, os⟩ → wpAny (model prog w) A (match f with | .value v => ret v | .bind g a => bindTo g a (.ref x) (.ref C) | .missing => unsupported "") Q E ⟨h, g, d, t, os⟩)
    (hh : handedIn v = true) (hv : Q v ⟨h, g, d, t, os⟩) : wpAny (model prog w) A (getAttrBy (.ref x) (.str name tk) fill expr) Q E ⟨h, g, d, t, os⟩ := by
  have L0 := I.type (M := model prog w)
  have L1 := looks_findIn (M := model prog w) X c.ga
  have L2 := looks_findIn (M := model prog w) X c.gt
  have hx0 : (expr && onTheHeap (Value.builtin "BaseException.__getattribute__")) = false := by cases expr <;> rfl
  have apart : (onTheHeap (Value.ref C) && Value.builtin "BaseException.__getattribute__" == Value.builtin "object.__getattribute__") = false := by
    rw [show (Value.builtin "BaseException.__getattribute__" == Value.builtin "object.__getattribute__") = false from by decide +kernel]; rfl
  have f3 := PySem.F.attrBase_ValueError.ga.bind (.ref x)
  have body : ∀ {A : Around} {R : Result → Shared → Prop}, R (.ok (.ret v)) ⟨h, g, d, t, os⟩ → codeAny (model prog w) A (.call (.builtin "BaseException.__getattribute__") ⟨[.ref x, .str name tk], []⟩) R ⟨h, g, d, t, os⟩ := fun {A R} r =>
    codeAny_call_builtin PySem.F.attrBase_ValueError.ga.plain PySem.F.entry_bexc_ga (exc_check X c.toExC I (exc_entry X I hf (hq r) hm))
  unfold getAttrBy
  apply wpAny_holding
  apply wpAny_bind
  apply L0.at
  apply wpAny_bind
  apply L1.at
  show wpAny _ _ (if (onTheHeap (Value.ref C) && Value.builtin "BaseException.__getattribute__" == Value.builtin "object.__getattribute__") = true then _ else getAttrByItsOwn (.ref x) (.str name tk) (.ref C) (.builtin "BaseException.__getattribute__") fill expr) _ _ _
  rw [if_neg (by rw [apart]; exact Bool.false_ne_true)]
  unfold getAttrByItsOwn
  apply wpAny_bind
  show wpAny _ _ (typeLookup (.ref C) "__getattr__") _ _ _
  apply L2.at
  apply wpAny_bind
  apply wpAny_attempt
  apply wpAny_holding
  unfold callGetattribute
  rw [if_neg (by rw [hx0]; exact Bool.false_ne_true)]
  unfold boundAndCalled
  apply wpAny_bind
  refine wpAny_of_eq f3 ?_
  refine wpAny_call (body ?_)
  show wpAny _ _ (handedOut v) _ _ _
  rw [handedOut_of hh]
  exact wpAny_pure hv
/-- the class of an exception, as isinstance asks for it -/
theorem exc_kit (c : ExA K C) : KitX K (.ref x) (.ref C) (fun h => InstAt h x ox C od) where
  ty := fun _ _ _ I => I.type
  it := fun _ _ X _ => by
    obtain ⟨nm, q, N, bs, bm, hdct, sn, sub, ab, col, dd, k0, k1, k2, k3, k5, lk⟩ := c.obj
    intro A' Q' E' s' k q
    unfold isType loadHead
    apply wpAny_bind
    apply wpAny_loadPart (k _ _ (X _ _ lk))
    exact wpAny_pure q
  ne := fun h tp dd its n sl X e => by
    obtain ⟨nm, q, N, bs, bm, hdct, sn, sub, ab, col, dd, k0, k1, k2, k3, k5, lk⟩ := c.obj
    have hC := X _ _ lk
    refine Bool.eq_false_iff.mpr fun z => ?_
    have z : C = tp := Value.ref.inj (beq_iff_eq.mp z)
    rw [z, e] at hC
    have q1 : Value.type "tuple" = Value.type "type" := congrArg (fun o => Option.elim o Value.none Obj.cls) hC
    exact absurd q1 (by decide)
  ca := fun {prog w A E Q s} X I q => by
    obtain ⟨hh, g, d, t, os⟩ := s
    have hcls : ∃ cd, clsIn K C = some cd := by
      obtain ⟨nm, q, N, bs, bm, hdct, sn, sub, ab, col, dd, k0, k1, k2, k3, k5, lk⟩ := c.obj
      unfold clsIn
      rw [lk]
      exact ⟨_, rfl⟩
    obtain ⟨cd, hcd⟩ := hcls
    have hf : findObj K C od "__class__" = some (.bind (.builtin "getset_descriptor.__get__") (.builtin "object.__class__")) := by
      unfold findObj
      rw [hcd, c.ca]
      dsimp only [Option.bind]
      rw [c.cg]
      dsimp only
      rw [c.ct]
    unfold getAttr? getAttrBy?
    apply wpAny_bind
    apply wpAny_mkText
    apply wpAny_bind
    apply wpAny_attempt
    refine exc_by X c I (looks_find X I hf) (fun z => nomatch z) (fun {A E Q} r => ?_) rfl (wpAny_pure q)
    show wpAny _ _ (bindTo (.builtin "getset_descriptor.__get__") (.builtin "object.__class__") (.ref x) (.ref C)) _ _ _
    unfold bindTo
    show wpAny _ _ (holding [.builtin "object.__class__"] (call (.builtin "getset_descriptor.__get__") [.builtin "object.__class__", .ref x, .ref C]) >>= ret) _ _ _
    apply wpAny_bind
    apply wpAny_holding
    exact wpAny_call (class_get (ox := ox) (od := od) X I c.ob (wpAny_pure r))
end
end L2

set_option Elab.async false
set_option linter.all false
set_option maxRecDepth 100000
set_option maxHeartbeats 4000000
namespace L2
open PySem PySem.Spec PyProof.Rows

/-- an exception that was caught, by what is true of its object -/
def XO (e C : Addr) (dx : Option Addr) : HO := .ext fun h => ∃ o, h.get? e = some o ∧ o.cls = .ref C ∧ o.dict = dx ∧ W.notCls o = true

/-! ### f-strings: each part is a text of at most 100,000 signs, there are less than a hundred -/
abbrev TF := St → Hp → (Hp → Prop) → Prop
def PF (X : Cx) (e : Expr) (t : TF) : Prop := ∀ (pins : List (Addr × Obj)) (s : Shared) (σ : St) (H : Hp) (Q : Hp → Prop), Inv X pins σ H s → t σ H Q →
  wpAny (model X.prog X.w) X.A (eval e X.env) (fun u s' => ∃ y tk H', u = .str y tk ∧ y.length ≤ 100000 ∧ Inv X pins σ H' s' ∧ Q H') X.xe s
def PFs (X : Cx) (es : List Expr) (t : TF) : Prop := ∀ (pins : List (Addr × Obj)) (s : Shared) (σ : St) (H : Hp) (Q : Hp → Prop) (acc : Str) (j : Nat), Inv X pins σ H s → acc.length ≤ 100000 * j → j + es.length ≤ 100 → t σ H Q →
  Joins (model X.prog X.w) X.A X.xe (evalEach es X.env) acc (fun out s' => ∃ H', out.length ≤ 10000000 ∧ Inv X pins σ H' s' ∧ Q H') s
section
variable {X : Cx} {e : Expr} {es : List Expr} {te : TE} {t u : TF} {pos : Pos}
def fCon (x : Str) : TF := fun _ H Q => x.length ≤ 100000 ∧ Q H
theorem pf_con {x j} : PF X (.Constant (.str x) j pos) (fCon x) := fun _ _ _ H _ I h => Calls.Constant_str ⟨x, _, H, rfl, h.1, I.tok _, h.2⟩
def fInt (te : TE) : TF := fun σ H Q => te σ H fun v H1 => ∃ i : Int, v = .int i ∧ i.natAbs < 2 ^ 64 ∧ Q H1
theorem int_log {i : Int} (h : i.natAbs < 2 ^ 64) : i.natAbs.log2 < 1920 := by
  by_cases z : i.natAbs = 0
  · rw [z]; decide
  · exact Nat.lt_trans ((Nat.log2_lt z).mpr h) (by decide)
theorem int_len {i : Int} (h : i.natAbs < 2 ^ 64) : (Str.ofString (toString i)).length ≤ 100000 := by
  have e := PySem.int_text_length_le (k := 1920) (by decide) (int_log h)
  rw [PySem.ofString_length]
  omega
theorem pf_int (he : PE X e te) : PF X (.FormattedValue e (-1) none pos) (fInt te) := by
  intro pins s σ H Q I h
  refine wpAny_FormattedValue_plain (thn (he pins s σ H _ I h) fun v s1 ⟨x, H1, I1, r1, i, ex, hi, q⟩ => ?_)
  subst ex
  obtain ⟨t, rfl⟩ := r1
  exact wpAny_formatField_int (int_log hi) ⟨_, _, H1, rfl, int_len hi, I1.tok _, q⟩
def fRepS (te : TE) : TF := fun σ H Q => te σ H fun v H1 => ∃ x : Str, v = .str x ∧ x.length ≤ 1000 ∧ (∀ c ∈ x.cps.toList, c < 16 ^ 8) ∧ Q H1
theorem pf_repS (he : PE X e te) : PF X (.FormattedValue e 114 none pos) (fRepS te) := by
  intro pins s σ H Q I h
  refine wpAny_FormattedValue_repr (thn (he pins s σ H _ I h) fun v s1 ⟨x, H1, I1, r1, y, ex, hl, hc, q⟩ => ?_)
  subst ex
  obtain ⟨t, rfl⟩ := r1
  have b := StrLaws.reprText_len y hc
  have b1 : (reprText y).length ≤ 100000 := by omega
  have b2 : (reprText y).length ≤ sizeLine := Nat.le_trans b1 (by decide)
  refine pyReprObj_str (wpAny_formatField_str ?_ ?_ b2) b2
  · exact ⟨_, _, H1, rfl, b1, I1.tok _, q⟩
  · exact ⟨_, _, H1, rfl, b1, I1.tok _, q⟩
def fNil : TF := fun _ H Q => Q H
def fSeq (t u : TF) : TF := fun σ H Q => t σ H fun H1 => u σ H1 Q
theorem pfs_nil : PFs X [] fNil := fun pins s σ H Q acc j I ha hj h => ⟨H, by simp at hj; exact Nat.le_trans ha (Nat.le_trans (Nat.mul_le_mul_left _ hj) (by decide)), I, h⟩
theorem pfs_cons (h1 : PF X e t) (h2 : PFs X es u) : PFs X (e :: es) (fSeq t u) := by
  intro pins s σ H Q acc j I ha hj h
  show wpAny _ _ (eval e X.env) _ _ s
  refine thn (h1 pins s σ H _ I h) fun v s1 ⟨y, tk, H1, ev, hy, I1, q⟩ => ?_
  have hl : (acc ++ y).length ≤ 100000 * (j + 1) := by rw [strLen_append]; omega
  have hj' : j + 1 + es.length ≤ 100 := by simp at hj; omega
  refine ⟨y, tk, ev, Nat.le_trans hl (Nat.le_trans (Nat.mul_le_mul_left _ (show j + 1 ≤ 100 by omega)) (by decide)), ?_⟩
  exact h2 pins s1 σ H1 Q _ (j + 1) I1 hl hj' q
/-- f"..": some text -/
def tFs (t : TF) : TE := fun σ H Q => t σ H fun H1 => ∀ x : Str, Q (.str x) H1
theorem pe_fstr {v1 v2 : Expr} {rest : List Expr} (h : PFs X (v1 :: v2 :: rest) t) (hl : (v1 :: v2 :: rest).length ≤ 100 := by decide) : PE X (.JoinedStr (v1 :: v2 :: rest) pos) (tFs t) := by
  intro pins s σ H Q I hq
  apply wpAny_JoinedStr
  have z := h pins s σ H _ Str.empty 0 I (Nat.zero_le _) (by simpa using hl) hq
  have mono : ∀ (l : List (Sem Value)) (acc : Str) (P P' : Str → Shared → Prop) (s : Shared), (∀ o s', P o s' → P' o s') → Joins (model X.prog X.w) X.A X.xe l acc P s → Joins (model X.prog X.w) X.A X.xe l acc P' s := by
    intro l
    induction l with
    | nil => intro acc P P' s f q; exact f _ _ q
    | cons a r ih =>
      intro acc P P' s f q
      exact thn (show wpAny _ _ a _ _ s from q) fun v s1 ⟨y, tk, e1, e2, e3⟩ => ⟨y, tk, e1, e2, ih _ P P' s1 f e3⟩
  exact mono _ _ _ _ _ (fun o s' ⟨H', l, I', q'⟩ => ⟨Nat.le_trans l (by decide), ⟨.str o, H', I'.tok _, ⟨_, rfl⟩, q' o⟩⟩) z
end

/-! ### raise C(..), C without an __init__ of its own -/
section
variable {X : Cx} {E : XK} {C : Addr} {x : Str} {np cpos pos : Pos} {e : Expr} {es : List Expr} {t : TA}
def tRz (E : XK) (C : Addr) (t : TA) : TS := fun _ σ H => t σ H fun vs H1 => vs.length ≤ sizeLine ∧ E (.ref C) none H1
theorem exc_made {K : W.Frag} {prog : Program} {w : World} {A : Around} {E : Value → Shared → Prop} {s : Shared} {us : List Value} {Q : Value → Shared → Prop} (X : K.In s.heap) (c : ExC K C) (hi : W.findIn K (.ref C) "__init__" = some (some (.builtin "ValueError.__init__"))) (hl : us.length ≤ sizeLine)
    (h : ∀ h' t0, (∀ b o, s.heap.get? b = some o → h'.get? b = some o) → h'.get? (s.heap.objs.size + 1) = some (excObj C t0) → Q (.ref (s.heap.objs.size + 1)) { s with heap := h' }) :
    wpAny (model prog w) A (call (.ref C) us) Q E s := by
  obtain ⟨hp, g, d, tk, os⟩ := s
  dsimp only at X h ⊢
  refine exc_call X c hi (fun self => W.Looks.of_pure (PySem.F.excBase_ValueError.init.bind self)) hl ?_
  have up : ∀ b o, hp.get? b = some o → ((hp.push (tupObj us)).push (excObj C hp.objs.size)).get? b = some o := fun b o q => Heap.get?_push_of_some _ (Heap.get?_push_of_some _ q)
  have got : ((hp.push (tupObj us)).push (excObj C hp.objs.size)).get? (hp.objs.size + 1) = some (excObj C hp.objs.size) := Heap.get?_push_at (by rw [Heap.size_push]) rfl
  refine exc_init0 (t0 := hp.objs.size) (X.keeps up) c got hl ⟨rfl, h _ ((hp.push (tupObj us)).push (excObj C hp.objs.size)).objs.size (fun b o q => ?_) ?_⟩
  · have nb : b ≠ hp.objs.size + 1 := Nat.ne_of_lt (Nat.lt_succ_of_lt (Heap.lt_size q))
    rw [Heap.get?_update_other _ _ (Ne.symm nb)]
    exact Heap.get?_push_of_some _ (up b o q)
  · rw [Heap.get?_update_self _ (Heap.get?_push_of_some _ got) rfl]
    rfl
theorem ps_raise (F : Fns X E) (hh : X.A.handled = none) (c : ExC X.K C) (hi : W.findIn X.K (.ref C) "__init__" = some (some (.builtin "ValueError.__init__"))) (hg : Gl X x) (hm : X.mg x = some (.ref C)) (ha : PA X (e :: es) t)
    (hdb : (x == ("__debug__" : Str)) = false := by decide) (he : starEach (e :: es) X.env = (false, eval e X.env) :: starEach es X.env := by rfl) (hpl : (backTo cpos (starEach es X.env)).any (·.1) = false := by rfl) :
    PS X (.Raise (some (.Call (.Name x np) (e :: es) [] cpos)) none pos) (tRz E C t) := by
  intro pins s σ H D I h
  refine raise_made c hh (wpAny_Call_Name_kw (ld_glob I hg hm ?_ hdb))
  refine W.callWith_K (h₀ := X.base) I.ok.mod.kin c.kp (thn (ha cpos pins s σ H _ I h) fun us s1 ⟨vs, H1, I1, r, hl, q⟩ => ⟨I1.kIn, ?_⟩) he hpl
  refine exc_made I1.kIn c hi (by rw [List.nil_append, ← r.length]; exact hl) fun h' t0 k got => ?_
  have I2 : Inv X pins σ H1 { s1 with heap := h' } := I1.kept (t' := s1.toks) k
  refine ⟨_, t0, none, #[], rfl, I2.kIn, got, ?_⟩
  exact F.raised I2 (I1.fpOk (Nat.le_succ _) (I1.hok.fresh (Nat.le_succ _))) got rfl rfl q
end

/-! ### a caught exception's class -/
section
variable {X : Cx} {pins : List (Addr × Obj)} {σ : St} {H : Hp} {s : Shared} {A : Around} {E : Value → Shared → Prop} {Q : Value → Shared → Prop} {e C : Addr} {dx : Option Addr} {cv : Value} {b : Bool}
/-- the exception's own dict, where it has one, is known -/
def XDict (H : Hp) (dx : Option Addr) : Prop := dx = none ∨ ∃ a fs, dx = some a ∧ H a = some (.xd fs)
theorem xo_inst (I : Inv X pins σ H s) (hx : H e = some (XO e C dx)) (hd : XDict H dx) : ∃ ox od, W.InstAt s.heap e ox C od := by
  have q : ObjOk X.prog X.w H s.heap e (XO e C dx) := I.hok e _ hx
  obtain ⟨⟨o, h1, h2, h3, h4⟩, _⟩ := q
  rcases hd with hd | ⟨a, fs, hd, ha⟩
  · exact ⟨o, none, ⟨h1, h2, h4, by rw [h3, hd]; trivial⟩⟩
  · have q : ObjOk X.prog X.w H s.heap a (.xd fs) := I.hok a _ ha
    obtain ⟨mA, ⟨oa, es, ep, e1, _⟩, _⟩ := q
    exact ⟨o, some oa, ⟨h1, h2, h4, by rw [h3, hd]; exact e1⟩⟩
theorem isinstX_ok (I : Inv X pins σ H s) (hx : H e = some (XO e C dx)) (hd : XDict H dx) (c : ExA X.K C) (k : W.kitOne X.K (.ref C) cv = some b) (h : ∀ tk, Q (.bool b) { s with toks := tk }) :
    wpAny (model X.prog X.w) A (call (.builtin "isinstance") [.ref e, cv]) Q E s := by
  obtain ⟨ox, od, J⟩ := xo_inst I hx hd
  exact W.kia_one (exc_kit (ox := ox) (od := od) c) I.kIn J k (fun z => nomatch z) h
end

/-! ### a block whose exceptions are told with the names' values -/
abbrev XKs := Value → Option Addr → St → Hp → Prop
abbrev TSx := Ends → XKs → St → Hp → Prop
abbrev TEx := St → Hp → VK → XK → Prop
def XP (X : Cx) (pins : List (Addr × Obj)) (E : XKs) (ev : Value) (s' : Shared) : Prop := ∃ (e T : Addr) (cls : Value) (dx : Option Addr) (σ' : St) (H' : Hp), ev = .ref e ∧ Inv X pins σ' H' s' ∧ FpOk X pins H' e ∧ FpOk X pins H' T ∧ Air s'.heap e T cls dx .none ∧ E cls dx σ' H'
def PEx (X : Cx) (e : Expr) (t : TEx) : Prop := ∀ (pins : List (Addr × Obj)) (s : Shared) (σ : St) (H : Hp) (Q : VK) (E : XK), Inv X pins σ H s → t σ H Q E →
  wpAny (model X.prog X.w) X.A (eval e X.env) (EP X pins σ Q) (XP X pins fun c d σ' H' => σ' = σ ∧ E c d H') s
def PSx (X : Cx) (st : Stmt) (t : TSx) : Prop := ∀ (pins : List (Addr × Obj)) (s : Shared) (σ : St) (H : Hp) (D : Ends) (E : XKs), Inv X pins σ H s → t D E σ H → wpAny (model X.prog X.w) X.A (exec st X.env) (SP X pins D) (XP X pins E) s
def PSsx (X : Cx) (st : List Stmt) (t : TSx) : Prop := ∀ (pins : List (Addr × Obj)) (s : Shared) (σ : St) (H : Hp) (D : Ends) (E : XKs), Inv X pins σ H s → t D E σ H → wpAny (model X.prog X.w) X.A (execs st X.env) (SP X pins D) (XP X pins E) s
section
variable {X : Cx} {st : Stmt} {rest : List Stmt} {t u : TSx} {e : Expr} {te : TEx} {pos : Pos}
def xOf (t : TS) : TSx := fun D _ σ H => t D σ H
def xSeq (t u : TSx) : TSx := fun D E σ H => t { D with nx := u D E } E σ H
theorem pssx_one (h1 : PSx X st t) : PSsx X [st] t := by
  intro pins s σ H D E I h
  refine wpAny_execs_cons (thn (h1 pins s σ H D E I h) fun f s1 q => ?_)
  cases f with
  | next => exact wpAny_execs_nil q
  | ret v => exact q
  | brk => exact q
  | cont => exact q
def xDrop (te : TEx) : TSx := fun D E σ H => te σ H (fun _ H1 => D.nx σ H1) fun c d H1 => E c d σ H1
theorem xp_mono {pins : List (Addr × Obj)} {E E' : XKs} (f : ∀ c d σ H, E c d σ H → E' c d σ H) {ev : Value} {s' : Shared} (h : XP X pins E ev s') : XP X pins E' ev s' := by
  obtain ⟨e, T, cls, dx, σ', H', r, I, fe, fT, a, q⟩ := h
  exact ⟨e, T, cls, dx, σ', H', r, I, fe, fT, a, f _ _ _ _ q⟩
def xSet (i : Nat) (te : TEx) : TSx := fun D E σ H => te σ H (fun v H1 => D.nx (σ.set i (some v)) H1) fun c d H1 => E c d σ H1
theorem psx_set {i : Nat} {x : Str} {pos' : Pos} (hN : X.N.Nodup) (hi : X.N[i]? = some x) (hx : Loc X.env.scope x) (he : PEx X e te) (hs : swapsWith e (some (.Name x pos')) pos.line X.env = pure false := by rfl)
    (hf : X.fn x = true ∨ X.env.scope.names.lookup x = some .local := by first | exact .inl rfl | exact .inr rfl | assumption) : PSx X (.Assign [.Name x pos'] e pos) (xSet i te) := by
  intro pins s σ H D E I h
  refine wpAny_Assign_Name (wpAny_mono (he pins s σ H _ _ I h) (fun v s1 ⟨y, H1, I1, r1, q1⟩ => ?_) fun ev s1 z => xp_mono (fun c d σ' H' q => ?_) z) hs
  · exact store_ok I1 hN hi hx r1 (fun s2 I2 => ⟨_, H1, I2, q1⟩) hf
  · obtain ⟨rfl, q⟩ := q
    exact q
def xIf (c : TT) (t u : TSx) : TSx := fun D E σ H => c σ H fun b H1 => if b = true then t D E σ H1 else u D E σ H1
end
/-! ### a call in such a block -/
section
variable {X : Cx} {k : Nat} {f C : Addr} {fd : FuncData} {ps : List Str} {sp : Sp} {dvs : List V} {ds : List Value} {x m : Str} {p pos apos : Pos} {e o : Expr} {es : List Expr} {ta : TE} {t : TA}
theorem run_fnx {pins : List (Addr × Obj)} {σ : St} {H : Hp} {s : Shared} {Q : VK} {E : XK} {us : List Value} {vs : List V} (F : FnOk X.prog X.w X.K X.mg X.base (CX1 X.prog X.w) k f fd ps sp) (hr : Room k X.A) (hb : Binds X.K fd ps [])
    (I : Inv X pins σ H s) (r : Vals vs us) (h : sp vs H Q E) : wpAny (model X.prog X.w) X.A (call (.ref f) us) (EP X pins σ Q) (XP X pins fun c d σ' H' => σ' = σ ∧ E c d H') s := by
  have hl : (us ++ []).length = ps.length := by rw [List.append_nil, ← r.length]; exact F.len _ _ _ _ h
  have b := hb s us I.kIn hl
  rw [List.append_nil] at b
  refine wpAny_call (codeAny_mono (F.run X.A X.stack s H ⟨us, []⟩ us vs Q E hr I.env0 b r h) fun r s' hq => ?_)
  cases r with
  | error e =>
    obtain ⟨e, T, cls, dx, H', rfl, os, bare, un, hok, he, hT, se, sT, a, q⟩ := hq
    exact ⟨e, T, cls, dx, σ, H', rfl, I.call' (ch := []) os un hok bare (fun b z => nomatch z), I.fpOk se he, I.fpOk sT hT, a, rfl, q⟩
  | ok fl =>
    cases fl with
    | ret u => exact I.after hq
    | next => exact False.elim hq
    | brk => exact False.elim hq
    | cont => exact False.elim hq
def xCall (sp : Sp) (t : TA) : TEx := fun σ H Q E => t σ H fun vs H1 => sp vs H1 Q E
theorem pa_wish {pins : List (Addr × Obj)} {s : Shared} {σ : St} {H : Hp} {Q : List V → Hp → Prop} {E : Value → Shared → Prop} (ha : PA X.nox es t) (I : Inv X pins σ H s) (h : t σ H Q) :
    wpAny (model X.prog X.w) X.A (spliced (backTo pos (starEach es X.env))) (AP X pins σ Q) E s :=
  wpAny_mono (ha pos pins s σ H Q (I.wish _) h) (fun _ _ ⟨vs, H', I', r, q⟩ => ⟨vs, H', I'.unwish, r, q⟩) fun _ _ z => False.elim z
theorem pex_call {st : Stmt} (d : Def X.K X.mg x st ps f fd) (F : FnOk X.prog X.w X.K X.mg X.base (CX1 X.prog X.w) k f fd ps sp) (hr : Room k X.A) (hg : Gl X x) (ha : PA X.nox (e :: es) t) (hdb : (x == ("__debug__" : Str)) = false := by decide)
    (he : starEach (e :: es) X.env = (false, eval e X.env) :: starEach es X.env := by rfl) (hpl : (backTo pos (starEach es X.env)).any (·.1) = false := by rfl) : PEx X (.Call (.Name x p) (e :: es) [] pos) (xCall sp t) := by
  intro pins s σ H Q E I h
  refine wpAny_Call_Name_kw (ld_glob I hg d.m ?_ hdb)
  refine W.callWith_K (h₀ := X.base) I.ok.mod.kin d.fn.kp (thn (pa_wish ha I h) fun us s1 ⟨vs, H1, I1, r, q⟩ => ⟨I1.kIn, ?_⟩) he hpl
  exact run_fnx F hr d.b I1 r q
end
end L2

set_option Elab.async false
set_option linter.all false
set_option maxRecDepth 100000
set_option maxHeartbeats 4000000
namespace L2
open PySem PySem.Spec PyProof.Rows

section
variable {K : W.Frag} {M : Model} {A : Around} {E : Value → Shared → Prop} {h : Heap} {g : Array GenState} {d : Drawn} {t : Nat} {os : OsState} {e C D : Addr}
theorem exc_matches {oe : Obj} {Q : Bool → Shared → Prop} (X : K.In h) (cD : ExC K D) (he : h.get? e = some oe) (hcls : oe.cls = .ref C) (cC : ExC K C) (hs : W.subIn K (.ref C) (.ref D) = some true) (hq : Q true ⟨h, g, d, t, os⟩) :
    wpAny M A (excMatches (.ref e) (.ref D)) Q E ⟨h, g, d, t, os⟩ := by
  obtain ⟨nm, q, N, bs, bm, hdct, sn, sub, ab, col, dd, k0, k1, k2, k3, k5, lk⟩ := cD.obj
  obtain ⟨nm', q', N', bs', bm', hdct', sn', sub', ab', col', dd', k0', k1', k2', k3', k5', lk'⟩ := cC.obj
  have cB := sub_has lk cD.bas
  have cS := sub_has lk' hs
  have hD := X _ _ lk
  have hC := X _ _ lk'
  have f := tc_notTuple
  unfold excMatches
  repeat (first | (with_reducible refine wpAny_loadPart_at he ?_; rw [hcls]) | with_reducible refine wpAny_loadPart_at hD ?_ | (with_reducible refine wpAny_isSubtype_exc hD ?_; rw [cB]) | (with_reducible refine wpAny_isSubtype_exc hC ?_; rw [cS]) | wp_step)
  exact hq
end

section
variable {X : Cx} {pins : List (Addr × Obj)} {σ : St} {H : Hp} {s : Shared}
/-- an object of ours is tracked from here on -/
theorem Inv.track {a : Addr} {o : HO} (I : Inv X pins σ H s) (f : FpOk X pins H a) (ok : ObjOk X.prog X.w (upd H a o) s.heap a o) : Inv X pins σ (upd H a o) s := by
  obtain ⟨f0, f1, f2, f3, f4, f5⟩ := f
  have ne : ∀ b u, H b = some u → b ≠ a := fun b u q z => by rw [z, f0] at q; cases q
  have old : ∀ b u, X.s₀.heap.get? b = some u → b ∉ X.ex → b ≠ a := fun b u q n z => by
    rcases f3 with r | r
    · rw [z] at n; exact n r
    · exact absurd (Nat.lt_of_lt_of_le (Heap.lt_size q) (by rw [z]; exact r)) (Nat.lt_irrefl _)
  refine ⟨I.ok, I.os, I.bare, ⟨I.base.keep, I.base.slot, fun b u q n hx => by rw [upd_ne (old b u q hx)]; exact I.base.free b u q n hx, I.base.there, fun b xs q => by have z := I.base.tups b xs q; rw [upd_ne (ne b _ z)]; exact z,
    fun b u xs q => by have z := I.base.frzs b u xs q; rw [upd_ne (ne b _ z)]; exact z, fun b ps q => by obtain ⟨m, z⟩ := I.base.tbls b ps q; exact ⟨m, by rw [upd_ne (ne b _ z)]; exact z⟩⟩,
    I.loc, I.cell, by rw [upd_ne (Ne.symm f1)]; exact I.free, fun x c q => by rw [upd_ne (f4 x c q)]; exact I.freeC x c q, fun p hp => ?_, fun b u q => ?_, I.len⟩
  · obtain ⟨p1, p2, p3, p4, p5⟩ := I.pin p hp
    exact ⟨p1, by rw [upd_ne (f5 p hp)]; exact p2, p3, p4, p5⟩
  · by_cases hb : b = a
    · subst hb; rw [upd_same] at q; cases q; exact ok
    · rw [upd_ne hb] at q
      exact (I.hok b u q).stay (fun _ _ _ z => z) (fun c z => by rw [upd_ne (ne c _ z)]; exact z) fun c xs z => by rw [upd_ne (ne c _ z)]; exact z
/-- a name has gone -/
theorem Inv.gone {i : Nat} {x : Str} {m : Str → Option Value} {v : Option Value} {h' : Heap} {tk : Nat} (I : Inv X pins σ H s) (hN : X.N.Nodup) (hi : X.N[i]? = some x) (hx : X.env.scope.names.lookup x = some .local)
    (hm : s.heap.Ns X.env.locals m) (hn : h'.Ns X.env.locals fun y => if y = x then v else m y) (hs : Heap.SameBut X.env.locals s.heap h') : Inv X pins (σ.set i none) H { s with heap := h', toks := tk } := by
  obtain ⟨m0, hm0, hl⟩ := id I.loc
  have hmm : m0 = m := by
    obtain ⟨o1, es1, ep1, a1, a2, _, a3⟩ := hm0
    obtain ⟨o2, es2, ep2, b1, b2, _, b3⟩ := hm
    rw [a1] at b1
    cases b1
    rw [a2] at b2
    cases b2
    funext y
    rw [← a3, ← b3]
  subst hmm
  have cne := I.cne
  obtain ⟨oL, _, _, hoL, _⟩ := id hm
  refine ⟨I.ok, I.os, I.bare, ⟨fun b o e n hb hx => ?_, fun b o e n hb hx => ?_, I.base.free, fun b o e hx => ?_, I.base.tups, I.base.frzs, I.base.tbls⟩, ⟨_, hn, fun j y v' e1 e2 e3 => ?_⟩, fun y c e => ?_, I.free, I.freeC, fun p hp => ?_, fun b ob e => ?_, by simpa using I.len⟩
  · exact (hs.2 b (Nat.ne_of_lt (Nat.lt_of_lt_of_le (Heap.lt_size e) I.ok.above))).trans (I.base.keep b o e n hb hx)
  · obtain ⟨sl, e1⟩ := I.base.slot b o e n hb hx
    exact ⟨sl, (hs.2 b (Nat.ne_of_lt (Nat.lt_of_lt_of_le (Heap.lt_size e) I.ok.above))).trans e1⟩
  · obtain ⟨o', e1⟩ := I.base.there b o e hx
    exact ⟨o', (hs.2 b (Nat.ne_of_lt (Nat.lt_of_lt_of_le (Heap.lt_size e) I.ok.above))).trans e1⟩
  · have hj : j ≠ i := fun z => by
      subst z
      by_cases hb : j < σ.length
      · rw [List.getElem?_set_self hb] at e2; cases e2
      · rw [List.getElem?_eq_none (by simpa using hb)] at e2; cases e2
    rw [List.getElem?_set_ne (Ne.symm hj)] at e2
    obtain ⟨u', r', q⟩ := hl j y v' e1 e2 e3
    refine ⟨u', r', ?_⟩
    rcases q with ⟨k, e⟩ | ⟨k, c, e, z⟩
    · refine .inl ⟨k, ?_⟩
      have : y ≠ x := fun e => hj (nodup_ix hN e1 (e ▸ hi))
      simp [this, e]
    · exact .inr ⟨k, c, e, z.sameBut hs (cne y c e)⟩
  · obtain ⟨w', z⟩ := I.cell y c e
    exact ⟨w', z.sameBut hs (cne y c e)⟩
  · obtain ⟨e, n, ne, nf, d⟩ := I.pin p hp
    exact ⟨(hs.2 p.1 ne).trans e, n, ne, nf, d⟩
  · refine (I.hok b ob e).stay (fun c w' hc q => (hs.2 c ?_).trans q) (fun _ q => q) fun _ _ q => q
    rintro rfl
    rcases hc with rfl | hc
    · rw [I.free] at e; cases e
    · rw [I.free] at hc; cases hc
/-- an except suite's context -/
abbrev Cx.marked (X : Cx) (v : Value) : Cx := { X with A := X.A.mark (some v), calm := false, xe := fun _ _ => False }
theorem Inv.mark (I : Inv X pins σ H s) (v : Value) : Inv (X.marked v) pins σ H s :=
  ⟨⟨I.ok.mod, I.ok.kind, I.ok.glob, I.ok.blt, I.ok.above, I.ok.inj, I.ok.has, I.ok.cab, fun z => absurd z Bool.false_ne_true, I.ok.frames, I.ok.stk, I.ok.exf, I.ok.bs, I.ok.bsz, I.ok.noex, I.ok.exfs, I.ok.funs, I.ok.frf⟩,
    I.os, I.bare, I.base, I.loc, I.cell, I.free, I.freeC, I.pin, I.hok, I.len⟩
theorem Inv.unmark {v : Value} (J : Inv (X.marked v) pins σ H s) (ok : X.Ok) : Inv X pins σ H s :=
  ⟨ok, J.os, J.bare, J.base, J.loc, J.cell, J.free, J.freeC, J.pin, J.hok, J.len⟩
end

/-! ### try: .. except D as e: x = e -/
section
variable {X : Cx} {D : Addr} {body : List Stmt} {t : TSx} {x n dn : Str} {np xp ep ap hp pos : Pos} {i j : Nat}
def tTry (K : W.Frag) (D : Addr) (i j : Nat) (t : TSx) : TS := fun B σ H => t B (fun cls dx σ' H' => ∃ C, cls = .ref C ∧ ExC K C ∧ W.subIn K (.ref C) (.ref D) = some true ∧
  ∀ e, H' e = none → B.nx (((σ'.set j (some (.ref e))).set i (some (.ref e))).set j none) (upd H' e (XO e C dx))) σ H
theorem ps_try (hst : X.stack = X.env :: X.outer) (hf : X.env.frame = some X.env.locals) (cD : ExC X.K D) (hN : X.N.Nodup) (hg : Gl X dn) (hm : X.mg dn = some (.ref D)) (hi : X.N[i]? = some x) (hx : Loc X.env.scope x) (hj : X.N[j]? = some n)
    (hn : X.env.scope.names.lookup n = some .local) (hb : PSsx X body t) (hfx : X.fn x = true ∨ X.env.scope.names.lookup x = some .local := by first | exact .inl rfl | exact .inr rfl | assumption) (hdb : (dn == ("__debug__" : Str)) = false := by decide)
    (hd2 : (n == ("__debug__" : Str)) = false := by decide) (hd3 : (n == ("__classdict__" : Str)) = false := by decide) (hs : ∀ v, swapsWith (.Name n ep) (some (.Name x xp)) ap.line (X.marked v).env = pure false := by intro; rfl) :
    PS X (.Try body [.ExceptHandler (some (.Name dn np)) (some n) [.Assign [.Name x xp] (.Name n ep) ap] hp] [] [] pos) (tTry X.K D i j t) := by
  intro pins s σ H B I h
  refine wpAny_Try_except (wpAny_mono (hb pins s σ H B _ I h) (fun f s1 q => ?_) fun ev s1 z => ?_)
  · cases f with
    | next => exact wpAny_execs_nil q
    | ret v => exact q
    | brk => exact q
    | cont => exact q
  · obtain ⟨e, T, cls, dx, σ', H', rfl, I1, fe, fT, a, C, rfl, cC, csub, q⟩ := z
    have hfr : X.A.frames = some (X.env :: X.outer) := by rw [← hst]; exact I1.ok.frames
    have hl : s1.heap.FunFrames X.base (X.env :: X.outer) := by rw [← hst]; exact I1.stack
    refine air_notes hfr hl hf a fun h1 T1 hT1 a1 c1 => ?_
    refine air_lands a1 fun h2 a2 c2 => ?_
    rw [← hst] at c1
    have c3 : Chg (frs X.stack) [T1, e, T] s1.heap h2 := (c1.mono (fun b z => z) fun b z => by simp at z; rcases z with z | z <;> simp [z]).trans (c2.mono (fun b z => nomatch z) fun b z => by simp at z; simp [z])
    have I2 : Inv X pins σ' H' { s1 with heap := h2 } := I1.call (ch := [e, T]) (t' := s1.toks) (d' := s1.drawn) (g' := s1.gens) (Un.chg (c3.drop hT1) (fun b z => z) fun b z => z) (I1.hok.chg (c3.drop hT1) I1.stkFree fun b z => by
      simp at z; rcases z with z | z <;> rw [z]; exact fe.1; exact fT.1) I1.bare fun b z => by
      simp at z; rcases z with z | z <;> rw [z]; exact ⟨fe.2.2.2.1, fe.2.1, fe.2.2.2.2.1, fe.2.2.2.2.2⟩; exact ⟨fT.2.2.2.1, fT.2.1, fT.2.2.2.2.1, fT.2.2.2.2.2⟩
    have fT1 : FpOk X pins H' T1 := I1.fpOk hT1 (I1.hok.fresh hT1)
    have M2 := I2.mark (.ref e)
    refine wpAny_handleBy_cons (codeAny_handlers_test (ld_glob (X := X.marked (.ref e)) M2 hg hm ?_ hdb)) (by intro q; cases q)
    obtain ⟨oe, vs, he, hc, hdx, hd, hv1⟩ := a2.obj
    refine exc_matches I2.kIn cD he hc cC csub (codeAny_handlers_suite_as ?_)
    refine air_lands a2 fun h3 a3 c4 => ?_
    have c5 : Chg (frs X.stack) [T1] h2 h3 := c4.mono (fun b z => nomatch z) fun b z => z
    have I3 : Inv X pins σ' H' { s1 with heap := h3 } := I2.call (s := { s1 with heap := h2 }) (h' := h3) (ch := [T1]) (t' := s1.toks) (d' := s1.drawn) (g' := s1.gens) (Un.chg c5 (fun b z => z) fun b z => z) (I2.hok.chg c4 (fun b z => (nomatch z : H' b = none)) fun b z => by simp at z; rw [z]; exact fT1.1) I2.bare fun b z => by
      simp at z; rw [z]; exact ⟨fT1.2.2.2.1, fT1.2.1, fT1.2.2.2.2.1, fT1.2.2.2.2.2⟩
    obtain ⟨oe3, vs3, he3, hc3, hdx3, hd3', hv3⟩ := a3.obj
    have I4 : Inv X pins σ' (upd H' e (XO e C dx)) { s1 with heap := h3 } := I3.track fe ⟨⟨oe3, he3, hc3, hdx3, by unfold W.notCls; rw [hd3']⟩, ⟨oe3, he3⟩, fun h1 h2 ⟨o, q1, q2⟩ k => ⟨o, k o q1, q2⟩⟩
    have M4 := I4.mark (.ref e)
    refine store_ok (X := X.marked (.ref e)) (i := j) M4 hN hj (.inl hn) (v := .ref e) rfl (fun s5 M5 => ?_) (.inr hn)
    have L5 : (σ'.set j (some (.ref e)))[j]? = some (some (.ref e)) := by
      have : j < σ'.length := by rw [I3.len]; exact (List.getElem?_eq_some_iff.mp hj).1
      rw [List.getElem?_set_self this]
    have R := (pss_one (ps_set (X := X.marked (.ref e)) (i := i) (pos := ap) (pos' := xp) hN hi hx (pe_var (X := X.marked (.ref e)) (pos := ep) hj (.inl hn) hd2 hd3) (hs _) hfx)) pins s5 _ _
      { nx := fun σ6 H6 => σ6 = (σ'.set j (some (.ref e))).set i (some (.ref e)) ∧ H6 = upd H' e (XO e C dx), rt := fun _ _ => False } M5 ⟨_, L5, rfl, rfl⟩
    refine wpAny_mono R (fun f s6 q6 => ?_) fun _ _ z => False.elim z
    cases f with
    | ret v => obtain ⟨_, _, _, _, _, z⟩ := q6; exact z.elim
    | brk => obtain ⟨_, _, _, z⟩ := q6; exact z.elim
    | cont => obtain ⟨_, _, _, z⟩ := q6; exact z.elim
    | next =>
      obtain ⟨σ6, H6, M6, rfl, rfl⟩ := q6
      have I6 := M6.unmark I.ok
      obtain ⟨m, hm6, _⟩ := id I6.loc
      refine wpAny_nameGoes_keeps hn hm6 (by rw [I.ok.kind]; rfl) fun h7 v hn7 hs7 => ?_
      exact ⟨_, _, I6.gone hN hj hn hm6 hn7 hs7, q e fe.1⟩
end

/-! ### methods and instances made, in a block that may raise -/
section
variable {X : Cx} {k : Nat} {f C : Addr} {fd : FuncData} {ps : List Str} {sp : Sp} {x m : Str} {p pos apos : Pos} {e o : Expr} {es : List Expr} {ta : TE} {t : TA}
def xMeth (C : Addr) (m : Str) (sp : Sp) (ta : TE) (t : TA) : TEx := fun σ H Q E => ta σ H fun x H1 => ∃ a dx fs, x = .ref a ∧ H1 a = some (.ins C dx fs) ∧ fs.lookup m = none ∧ t σ H1 fun vs H2 => sp (x :: vs) H2 Q E
def xMake (C : Addr) (sp : Sp) (t : TA) : TEx := fun σ H Q E => t σ H fun vs H1 => ∀ x dx, H1 x = none → H1 dx = none → dx ≠ x → sp (.ref x :: vs) (upd (upd H1 dx (.own x)) x (.ins C dx [])) (fun v H2 => v = .non ∧ Q (.ref x) H2) E
end
end L2

set_option Elab.async false
set_option linter.all false
set_option maxRecDepth 100000
set_option maxHeartbeats 4000000
namespace L2
open PySem PySem.Spec PyProof.Rows
/-! ### xs.count(b) of bools -/
/-! ### isinstance(e, C) of a caught exception -/
theorem kit_cls1 {K : W.Frag} {C D : Addr} {b : Bool} (h1 : W.isClsIn K D = true) (h2 : W.typeIn K (.ref D) = some (.type "type")) (c : ExC K C) (h : W.subIn K (.ref C) (.ref D) = some b) : W.kitOne K (.ref C) (.ref D) = some b := by
  unfold W.kitOne
  by_cases z : C = D
  · subst z
    obtain ⟨nm, q, N, bs, bm, hdct, sn, sub, ab, col, dd, k0, k1, k2, k3, k5, lk⟩ := c.obj
    have := sub_has lk h
    rw [if_pos (by simp)]
    rw [← this]
    simp
  · rw [if_neg (by simpa using z)]
    unfold W.kitCls
    have h1' : (W.clsIn K D).isSome = true := h1
    show (if ((W.clsIn K D).isSome && W.typeIn K (.ref D) == some (.type "type")) = true then W.subIn K (.ref C) (.ref D) else none) = some b
    rw [if_pos (by rw [h1', h2]; rfl)]
    exact h
theorem kit_value {K : W.Frag} {C : Addr} (c : ExC K C) : W.kitOne K (.ref C) (.type "ValueError") = some true := by
  unfold W.kitOne
  rw [if_neg (by simp)]
  unfold W.kitCls
  show (if W.kitMeta "ValueError" = true then W.subIn K (.ref C) (.type "ValueError") else none) = some true
  rw [if_pos (by decide +kernel)]
  exact c.val
def rIsiX (K : W.Frag) : List V → Hp → VK → Prop := fun xs H Q => ∃ (e C : Addr) (dx : Option Addr) (y : V) (cv : Value) (b : Bool), xs = [.ref e, y] ∧ RelV y cv ∧ (∀ u, RelV y u → u = cv) ∧ H e = some (XO e C dx) ∧ XDict H dx ∧ ExA K C ∧ W.kitOne K (.ref C) cv = some b ∧ Q (.bl b) H
theorem call_isiX {X : Cx} : CallR X (.builtin "isinstance") (rIsiX X.K) := by
  intro pins s σ H xs us Q I r h
  obtain ⟨e, C, dx, y, cv, b, rfl, ry, hy, hx, hd, c, k, q⟩ := h
  obtain ⟨u, w', rfl, r1, r2⟩ := vals2 r
  cases r1
  rw [hy w' r2]
  exact isinstX_ok I hx hd c k fun tk => ⟨.bl b, H, I.tok _, rfl, q⟩
theorem Same.xdict {H H' : Hp} {dx : Option Addr} (h : XDict H dx) (s : Same H H') : XDict H' dx := h.elim .inl fun ⟨a, fs, e, x⟩ => .inr ⟨a, fs, e, s _ _ x⟩
end L2

set_option Elab.async false
set_option linter.all false
set_option maxRecDepth 100000
set_option maxHeartbeats 4000000
namespace L2
open PySem PySem.Spec PyProof.Rows
/-! ### a written tuple of pairs of ints -/
def intE : Expr → Option Int
  | .Constant (.int i) _ _ => some i
  | _ => none
def pairE : Expr → Option (Int × Int)
  | .Tuple [a, b] _ _ => match intE a, intE b with
    | some i, some j => some (i, j)
    | _, _ => none
  | _ => none
def pairsE : List Expr → Option (List (Int × Int))
  | [] => some []
  | e :: r => match pairE e, pairsE r with
    | some p, some l => some (p :: l)
    | _, _ => none
def tupsE : Expr → Option (List (Int × Int))
  | .Tuple es _ _ => pairsE es
  | _ => none
def PairV (H : Hp) (p : Int × Int) (v : V) : Prop := ∃ t, v = .ref t ∧ H t = some (.tup [.int p.1, .int p.2])
def aPairs (l : List (Int × Int)) : TA := fun _ H Q => ∀ H' vs, Same H H' → Paired (PairV H') l vs → Q vs H'
def tPairs2 (l : List (Int × Int)) : TE := fun _ H Q => ∀ H' p vs, Same H H' → H' p = some (.tup vs) → Paired (PairV H') l vs → Q (.ref p) H'
section
variable {X : Cx}
end
end L2
namespace L2
open PySem PySem.Spec PyProof.Rows
end L2
namespace L2
open PySem PySem.Spec PyProof.Rows
/-! ### if c: a, b = ((..), ..)[i], by its parts (the written tuple is never looked at) -/
def ifC : Stmt → Expr
  | .If c _ _ _ => c
  | _ => .Constant .none 0 ⟨0, 0, 0, 0⟩
def ifTg : Stmt → Expr
  | .If _ [.Assign [tg] _ _] _ _ => tg
  | _ => .Constant .none 0 ⟨0, 0, 0, 0⟩
def ifIx : Stmt → Expr
  | .If _ [.Assign _ (.Subscript _ b _) _] _ _ => b
  | _ => .Constant .none 0 ⟨0, 0, 0, 0⟩
def ifOk (l : List (Int × Int)) : Stmt → Bool
  | .If _ [.Assign [_] (.Subscript e _ _) _] [] _ => match tupsE e with
    | some l' => decide (l' = l)
    | none => false
  | _ => false
end L2

set_option Elab.async false
set_option linter.all false
set_option maxRecDepth 100000
set_option maxHeartbeats 4000000
namespace L2
open PySem PySem.W PySem.Spec PyProof.Rows
/-! ### f"{t!r}", t a tuple or a list of texts -/
section
variable {X : Cx} {e : Expr} {te : TE} {pos : Pos} {k : Nat}
def Shows (x : Str) : Prop := x.length ≤ 50 ∧ ∀ c ∈ x.cps.toList, c < 16 ^ 8
def fRepT (K : W.Frag) (te : TE) : TF := fun σ H Q => te σ H fun v H1 => ∃ (t : Addr) (xs : List Str), v = .ref t ∧ (SqT K H1 t (xs.map V.str) ∨ SqL K H1 t (xs.map V.str)) ∧ xs.length ≤ 100 ∧ (∀ x ∈ xs, Shows x) ∧ Q H1
end
end L2

set_option Elab.async false
set_option linter.all false
set_option maxRecDepth 100000
set_option maxHeartbeats 4000000
namespace L2
open PySem PySem.Spec PyProof.Rows HT
section
variable {prog : Program} {w : World} {A : Around} {E : Value → Shared → Prop} {s : Shared}
/-- t[a:b], the whole -/
theorem getItem_tuple_all {t sl : Addr} {items : Array Value} {vl vu : Value} {lo hi : Option Int} {Q : Value → Shared → Prop} (ht : IsTup s.heap t items) (hs : s.heap.IsSliceOf sl vl vu .none) (pl : IsPart vl lo) (pu : IsPart vu hi)
    (hw : sIx items.size 0 lo = 0 ∧ sIx items.size items.size hi = items.size) (h : Q (.ref t) s) : wpAny (model prog w) A (getItem (.ref t) (.ref sl)) Q E s := by
  obtain ⟨os, hos, hcs, hds⟩ := id hs
  have hTs : s.TypeIs (.ref sl) "slice" := ⟨os, hos, hcs⟩
  unfold getItem
  try with_reducible refine wpAny_holding ?_
  first | refine wpAny_bind (wpAny_pure ?_) | skip
  refine wpAny_bind (wpAny_sequenceKey ht.typeIs (by decide) ?_)
  refine wpAny_bind (wpAny_callSpecial?_slot (name := Str.ofString "__getitem__") ht.typeIs PyProof.Rows.slot_tuple_getitem
    (wpAny_call_entry PyProof.Rows.slot_tuple_getitem ht.typeIs entry_tuple_getitem ?_ (args_tuple_getitem _ _)))
  show wpAny _ _ (Builtin.Tuple.tupleItemsOf (.ref t) >>= _) _ _ s
  refine wpAny_bind (tupleItemsOf_ ht ?_)
  refine wpAny_bind (wpAny_typeOf hTs ?_)
  rw [if_pos (by decide)]
  refine wpAny_bind (sliceApplied_gen hs pl pu ?_)
  have yes : (((sIx items.size 0 lo : Nat) : Int) == 0 && (1 : Int) == 1 && (sIx items.size items.size hi - sIx items.size 0 lo) == items.size) = true := by
    rw [hw.1, hw.2]
    simp
  show wpAny _ _ (if (((sIx items.size 0 lo : Nat) : Int) == 0 && (1 : Int) == 1 && (sIx items.size items.size hi - sIx items.size 0 lo) == items.size) = true then _ else _) _ _ s
  rw [if_pos yes]
  apply wpAny_bind
  unfold Builtin.Tuple.tupleIsExact
  refine wpAny_bind (wpAny_typeOf ht.typeIs ?_)
  apply wpAny_pure
  rw [if_pos (by decide)]
  refine wpAny_bind (wpAny_rule ?_)
  refine wpAny_pure ?_
  exact ⟨_, rfl, wpAny_pure h⟩
end
/-- t[a:b] of a tuple, whole or not -/
def rSlA (K : W.Frag) : V → Option Int → Option Int → Hp → VK → Prop := fun x lo hi H Q => ∃ a xs, x = .ref a ∧ SqT K H a xs ∧
  ((sIx xs.length 0 lo = 0 ∧ sIx xs.length xs.length hi = xs.length) → Q (.ref a) H) ∧ (¬ (sIx xs.length 0 lo = 0 ∧ sIx xs.length xs.length hi = xs.length) → ∀ p, H p = none → Q (.ref p) (upd H p (.tup (cutV xs lo hi))))
theorem sl_tupA {X : Cx} : SlR X (rSlA X.K) := by
  intro pins s σ H x v vl vu lo hi sl Q I rx hs pl pu h
  obtain ⟨a, xs, ex, hx, q1, q2⟩ := h
  by_cases hw : sIx xs.length 0 lo = 0 ∧ sIx xs.length xs.length hi = xs.length
  · subst ex
    cases rx
    obtain ⟨its, r, ht, hz⟩ := I.tuple hx
    have hlen : its.toArray.size = xs.length := by rw [List.size_toArray]; exact r.length.symm
    refine ⟨"tuple", _, PyProof.Rows.slot_tuple_getitem.lookup, ht.typeIs, ?_⟩
    exact getItem_tuple_all ht hs pl pu (by rw [hlen]; exact hw) ⟨.ref a, H, I, rfl, q1 hw⟩
  · exact sl_tup pins s σ H x v vl vu lo hi sl Q I rx hs pl pu ⟨a, xs, ex, hx, hw, q2 hw⟩
theorem cut_all {xs : List V} {lo hi : Option Int} (h : sIx xs.length 0 lo = 0 ∧ sIx xs.length xs.length hi = xs.length) : cutV xs lo hi = xs := by
  unfold cutV
  rw [h.1, h.2, List.drop_zero, Nat.sub_zero, List.take_length]
/-- the same, told by a tuple with the cut -/
theorem rSlA_of {K : W.Frag} {H : Hp} {a : Addr} {xs : List V} {lo hi : Option Int} {Q : VK} (hx : H a = some (.tup xs)) (q : ∀ p H', Same H H' → H' p = some (.tup (cutV xs lo hi)) → Q (.ref p) H') : rSlA K (.ref a) lo hi H Q :=
  ⟨a, xs, rfl, SqT.of hx, fun h => q a H (Same.refl _) (by rw [cut_all h]; exact hx), fun _ p hp => q p _ (fun b o e => by rw [upd_ne (ne_of_none e hp)]; exact e) upd_same⟩
/-- t + u, told by a tuple with both -/
theorem rCatA_of {K : W.Frag} {H : Hp} {a b : Addr} {xs ys : List V} {Q : VK} (hx : H a = some (.tup xs)) (hy : H b = some (.tup ys)) (hz : xs.length + ys.length ≤ sizeLine) (q : ∀ p H', Same H H' → H' p = some (.tup (xs ++ ys)) → Q (.ref p) H') : rCatA K (.ref a) (.ref b) H Q :=
  ⟨a, b, xs, ys, rfl, rfl, SqT.of hx, SqT.of hy, hz, fun e => q b H (Same.refl _) (by rw [e]; exact hy), fun _ e => q a H (Same.refl _) (by rw [e, List.append_nil]; exact hx), fun _ _ p hp => q p _ (fun c o e => by rw [upd_ne (ne_of_none e hp)]; exact e) upd_same⟩
end L2
namespace L2
open PySem PySem.Spec PyProof.Rows
/-! ### x = ("..", ..)[i] -/
def textE : Expr → Option Str
  | .Constant (.str x) _ _ => some x
  | _ => none
def textsE : List Expr → Option (List Str)
  | [] => some []
  | e :: r => match textE e, textsE r with
    | some p, some l => some (p :: l)
    | _, _ => none
def strsE : Expr → Option (List Str)
  | .Tuple es _ _ => textsE es
  | _ => none
def tStrs (l : List Str) : TE := fun _ H Q => ∀ p, H p = none → Q (.ref p) (upd H p (.tup (l.map V.str)))
section
variable {X : Cx}
theorem textE_shape {e : Expr} {x : Str} (h : textE e = some x) : ∃ k pos, e = .Constant (.str x) k pos := by
  unfold textE at h
  split at h
  · cases h
    exact ⟨_, _, rfl⟩
  · cases h
theorem pa_textsE : ∀ {es : List Expr} {l : List Str}, textsE es = some l → PA X es (fun _ H Q => Q (l.map V.str) H)
  | [], l, h => by
    cases h
    exact pa_nil
  | e :: r, l, h => by
    unfold textsE at h
    split at h
    · rename_i p l' h1 h2
      cases h
      obtain ⟨k, pos, rfl⟩ := textE_shape h1
      exact pa_cons pe_str (pa_textsE h2)
    · cases h
theorem pe_strsE {e : Expr} (l : List Str) (h : strsE e = some l) (hl : l.length ≤ 100000) : PE X e (tStrs l) := by
  unfold strsE at h
  split at h
  · intro pins s σ H Q I q
    exact pe_tup (pa_textsE h) pins s σ H Q I ⟨small_line (by rw [List.length_map]; exact hl), q⟩
  · cases h
end
end L2

set_option Elab.async false
set_option linter.all false
set_option maxRecDepth 100000
set_option maxHeartbeats 4000000
namespace PySem
open Builtin AutoSeq1
set_option maxRecDepth 8000 in
theorem list_extend_tupG (l : Addr) (items : Array Value) (n : Nat) (b : Addr) (items2 : Array Value) (n2 : Nat) (dt : Option Addr) (sl : Array (Option Value)) (hs0 : ¬(!items.isEmpty && Builtin.List.listTooLong (items.size + items2.size)) = true) (hs1 : items.size ≤ sizeLine) (hs2 : items.size + items2.size ≤ sizeLine + 1) :
    Meets (Builtin.«list.extend» ⟨[.ref l, .ref b], []⟩) (fun _ R s => s.heap.get? l = some { cls := .type "list", dict := none, data := .seq items n, slots := #[] } ∧ s.heap.get? b = some { cls := .type "tuple", dict := dt, data := .seq items2 n2, slots := sl } ∧ R (.ok (.ret Value.none)) { s with heap := s.heap.update l (Obj.mapSeq fun x => x ++ items2), toks := s.toks }) :=
  .of_wp fun prog w A R s h => by
    obtain ⟨hp, g, d, tk, os⟩ := s; obtain ⟨hl, hb, h⟩ := h; have f1 := idx_int; have f2 := sub_tuple_tuple; have f3 := sub_list_list; have f4 := sub_tuple_list; have f5 := sub_list_tuple
    have hz' : (items ++ items2).size ≤ sizeLine + 1 := by rw [Array.size_append]; exact hs2
    wp_walk using (wpAny_updateSeq hl rfl (hz := hs1) (_hz' := hz')), wpAny_loadPart' hl, wpAny_loadPart' hb; exact ⟨_, rfl, h⟩
end PySem
namespace L2
open PySem PySem.Spec PyProof.Rows
section
variable {X : Cx}
/-- l.extend(t), t a tuple -/
def rExtT (K : W.Frag) : V → List V → Hp → VK → Prop := fun x vs H Q => ∃ l b xs zs, x = .ref l ∧ vs = [.ref b] ∧ H l = some (.lst xs) ∧ SqT K H b zs ∧ xs.length + zs.length ≤ sizeLine ∧ Q .non (upd H l (.lst (xs ++ zs)))
theorem mt_extT : MtM X "list.extend" (rExtT X.K) := by
  intro pins s σ H x vs v us Q I rx rv h
  obtain ⟨l, b, xs, zs, rfl, rfl, hH, hB, hz, q⟩ := h
  cases rx
  obtain ⟨u, rfl, ru⟩ := rv.one
  cases ru
  obtain ⟨z, its, n, r, hl, e⟩ := I.lstM hH
  obtain ⟨its2, r2, ⟨⟨cl, dt, dat, sl⟩, e2, hc2, n2, hd2⟩, hl2⟩ := I.tuple hB
  dsimp only at hc2 hd2
  subst hc2 hd2
  have l2 := r2.length
  have hsz : its.toArray.size + its2.toArray.size ≤ sizeLine := by rw [List.size_toArray, List.size_toArray]; omega
  have hlong : ¬ (!its.toArray.isEmpty && Builtin.List.listTooLong (its.toArray.size + its2.toArray.size)) = true := by
    rw [notLongL hsz, Bool.and_false]
    exact Bool.false_ne_true
  refine call_meets F.slot_list_extend ⟨_, e, rfl⟩ F.entry_list_extend (F.args_list_extend_2 _ _)
    (list_extend_tupG l its.toArray n b its2.toArray n2 dt sl hlong (by rw [List.size_toArray]; omega) (by omega)) ⟨e, e2, ?_⟩
  refine ⟨.non, _, I.lset (its' := its ++ its2) hH e (by simp) (r.append r2) ?_, rfl, q⟩
  rw [List.length_append]
  omega
/-- not x, by x's truth -/
def tNotL (K : W.Frag) (ta : TE) : TE := fun σ H Q => ta σ H fun x H1 => ∃ k, TruV K x H1 k ∧ Q (.bl (!k)) H1
theorem pe_notL {a : Expr} {ta : TE} {pos : Pos} (ha : PE X a ta) : PE X (.UnaryOp .Not a pos) (tNotL X.K ta) := by
  intro pins s σ H Q I h
  refine UnaryOp_ (thn (ha pins s σ H _ I h) fun v s1 ⟨x, H1, I1, r1, k, ty, q⟩ => ?_)
  exact not_of (thn (tru_ok pins s1 σ H1 x v (fun c H2 => Q (.bl (!c)) H2) I1 r1 ⟨k, ty, q⟩) fun c s2 ⟨H2, I2, q2⟩ => ⟨.bl (!c), H2, I2, rfl, q2⟩)
end
end L2

set_option Elab.async false
set_option linter.all false
set_option maxRecDepth 100000
set_option maxHeartbeats 4000000
namespace L2
open PySem PySem.Spec PyProof.Rows PySem.W
section
variable {X : Cx}
/-- == and != of data of any depth with what is flat -/
def rEqW (K : W.Frag) (f : Bool → Bool) : R2 := fun x y H Q => ∃ d e, Rep K H x d ∧ Rep K H y e ∧ (kqdP d).canLay0 = true ∧ (kqdP e).canLay0 = true ∧ (kqdP e).depth ≤ 60 ∧ Q (.bl (f (PyData.eqv (kqdP d) (kqdP e)))) H
theorem op_eqW (hu : X.A.units + 64 < cLine) : OpR X (compareOp .Eq) (rEqW X.K id) := by
  intro pins s σ H x y v u Q I rx ry h
  obtain ⟨d, e, h1, h2, k1, k2, k3, q⟩ := h
  obtain ⟨as, ra⟩ := h1.reads I rx
  obtain ⟨bs, rb⟩ := h2.reads I ry
  exact SeqAt.compareEq_reads ra rb k1 k2 (by have := Nat.min_le_right (kqdP d).depth (kqdP e).depth; omega) (fin_bl I q rfl)
theorem op_neW (hu : X.A.units + 64 < cLine) : OpR X (compareOp .NotEq) (rEqW X.K Bool.not) := by
  intro pins s σ H x y v u Q I rx ry h
  obtain ⟨d, e, h1, h2, k1, k2, k3, q⟩ := h
  obtain ⟨as, ra⟩ := h1.reads I rx
  obtain ⟨bs, rb⟩ := h2.reads I ry
  exact SeqAt.compareNe_reads ra rb k1 k2 (by have := Nat.min_le_right (kqdP d).depth (kqdP e).depth; omega) (fin_bl I q rfl)
theorem eqv_lnil (ds : List Dat) : PyData.eqv (kqdP (.list ds)) (kqdP (.list [])) = ds.isEmpty := by
  rw [kqdP, kqdP, kqdPs]
  cases ds with
  | nil => rw [kqdPs]; rfl
  | cons d r => rw [kqdPs]; rfl
theorem lay_lnil : (kqdP (.list [])).canLay0 = true := by rw [kqdP, kqdPs]; rfl
theorem dep_lnil : (kqdP (.list [])).depth ≤ 60 := by rw [kqdP, kqdPs]; decide
end
end L2

set_option Elab.async false
set_option linter.all false
set_option maxRecDepth 100000
set_option maxHeartbeats 4000000
namespace L2
open PySem PySem.Spec PyProof.Rows
/-! ### what the head hands over, in short -/
structure Tp (K : W.Frag) (x : Str) (st : Stmt) (f : Addr) (fd : FuncData) : Prop where
  a : W.nsIn K mainGlobals x = some (some (.ref f))
  fn : Fun K x x st f fd
structure Mp (K : W.Frag) (C : Addr) (x q : Str) (st : Stmt) (f : Addr) (fd : FuncData) : Prop where
  a : W.findIn K (.ref C) x = some (some (.ref f))
  i : W.isFn K (.ref f) = true
  fn : Fun K x q st f fd
structure Cp (K : W.Frag) (x : Str) (C : Addr) : Prop where
  a : W.nsIn K mainGlobals x = some (some (.ref C))
  pg : W.plainGet K C Str.empty = true
  hd : W.hasDictIn K C = true
  po : W.plainOver K C = true
  sa : W.findIn K (.ref C) "__setattr__" = some (some (.builtin "object.__setattr__"))
  mx : W.makesIn K C = true
  kc : W.keepIn K (.ref C) = true
section
variable {K : W.Frag} {x q : Str} {st : Stmt} {f C : Addr} {oc : Value} {od an : Option Addr} {osl : Array (Option Value)} {kV doc pm cdv ct : Value}
theorem tp (a : W.nsIn K mainGlobals x = some (some (.ref f))) (l : K.lookup f = some ⟨oc, od, .func (W.fnOf x x (defArgs st) (defBody st) (defScope st) .none kV doc pm an cdv ct), osl⟩) (c : W.codeIn K cdv x = true) (k : W.keepIn K (.ref f) = true) :
    Tp K x st f (W.fnOf x x (defArgs st) (defBody st) (defScope st) .none kV doc pm an cdv ct) := ⟨a, fun_mk l c k⟩
theorem mp (a : W.findIn K (.ref C) x = some (some (.ref f))) (i : W.isFn K (.ref f) = true) (l : K.lookup f = some ⟨oc, od, .func (W.fnOf x q (defArgs st) (defBody st) (defScope st) .none kV doc pm an cdv ct), osl⟩) (c : W.codeIn K cdv q = true) (k : W.keepIn K (.ref f) = true) :
    Mp K C x q st f (W.fnOf x q (defArgs st) (defBody st) (defScope st) .none kV doc pm an cdv ct) := ⟨a, i, fun_mk l c k⟩
end
section
variable {K : W.Frag} {mg : Str → Option Value} {x q : Str} {st : Stmt} {f : Addr} {fd : FuncData} {h : Heap}
theorem ln1 {us : List Value} (h : us.length = 1) : ∃ a, us = [a] := List.length_eq_one_iff.mp h
theorem ln2 {us : List Value} (h : us.length = 2) : ∃ a b, us = [a, b] := by
  cases us with
  | nil => cases h
  | cons a r => obtain ⟨_, rfl⟩ := ln1 (Nat.succ.inj h); exact ⟨_, _, rfl⟩
theorem ln3 {us : List Value} (h : us.length = 3) : ∃ a b c, us = [a, b, c] := by
  cases us with
  | nil => cases h
  | cons a r => obtain ⟨_, _, rfl⟩ := ln2 (Nat.succ.inj h); exact ⟨_, _, _, rfl⟩
theorem bn1 (a : Str) (F : Fun K x q st f fd) (e : ∀ (kV doc pm : Value) (an : Option Addr) (cdv ct u : Value), bindArgs (W.fnOf x q (defArgs st) (defBody st) (defScope st) .none kV doc pm an cdv ct) ⟨[u], []⟩ = pure ([a].zip [u]) := by intros; rfl) : Binds K fd [a] [] :=
  F.binds fun _ _ _ _ _ _ us hl => by
  obtain ⟨_, rfl⟩ := ln1 hl
  exact e ..
theorem bn2 (a b : Str) (F : Fun K x q st f fd) (e : ∀ (kV doc pm : Value) (an : Option Addr) (cdv ct u v : Value), bindArgs (W.fnOf x q (defArgs st) (defBody st) (defScope st) .none kV doc pm an cdv ct) ⟨[u, v], []⟩ = pure ([a, b].zip [u, v]) := by intros; rfl) : Binds K fd [a, b] [] :=
  F.binds fun _ _ _ _ _ _ us hl => by
  obtain ⟨_, _, rfl⟩ := ln2 hl
  exact e ..
theorem bn3 (a b c : Str) (F : Fun K x q st f fd) (e : ∀ (kV doc pm : Value) (an : Option Addr) (cdv ct u v w : Value), bindArgs (W.fnOf x q (defArgs st) (defBody st) (defScope st) .none kV doc pm an cdv ct) ⟨[u, v, w], []⟩ = pure ([a, b, c].zip [u, v, w]) := by intros; rfl) : Binds K fd [a, b, c] [] :=
  F.binds fun _ _ _ _ _ _ us hl => by
  obtain ⟨_, _, _, rfl⟩ := ln3 hl
  exact e ..
theorem df {ps : List Str} (X : K.In h) (G : h.Ns mainGlobals mg) (T : Tp K x st f fd) (b : Binds K fd ps []) : Def K mg x st ps f fd := ⟨T.fn, b, W.mg_of X G T.a⟩
theorem Tp.ex {x q : Str} (F : Fun K x q st f fd) : ∃ (kV doc pm : Value) (an : Option Addr) (cdv ct : Value), fd = W.fnOf x q (defArgs st) (defBody st) (defScope st) .none kV doc pm an cdv ct := by
  obtain ⟨oc, od, kV, doc, pm, an, cdv, ct, osl, e, _⟩ := F.ex
  exact ⟨kV, doc, pm, an, cdv, ct, e⟩
end
end L2

set_option Elab.async false
set_option linter.all false
set_option maxRecDepth 100000
set_option maxHeartbeats 4000000
namespace L2
open PySem PySem.Spec PyProof.Rows

/-! ### f-strings whose text is known -/
abbrev TX1 := St → Hp → (Str → Hp → Prop) → Prop
abbrev TXs := St → Hp → Str → (Str → Hp → Prop) → Prop
def PGx (X : Cx) (e : Expr) (t : TX1) : Prop := ∀ (pins : List (Addr × Obj)) (s : Shared) (σ : St) (H : Hp) (Q : Str → Hp → Prop), Inv X pins σ H s → t σ H Q →
  wpAny (model X.prog X.w) X.A (eval e X.env) (fun u s' => ∃ y tk H', u = .str y tk ∧ y.length ≤ 100000 ∧ Inv X pins σ H' s' ∧ Q y H') X.xe s
def PGxs (X : Cx) (es : List Expr) (t : TXs) : Prop := ∀ (pins : List (Addr × Obj)) (s : Shared) (σ : St) (H : Hp) (Q : Str → Hp → Prop) (acc : Str) (j : Nat), Inv X pins σ H s → acc.length ≤ 100000 * j → j + es.length ≤ 100 → t σ H acc Q →
  Joins (model X.prog X.w) X.A X.xe (evalEach es X.env) acc (fun out s' => ∃ H', out.length ≤ 10000000 ∧ Inv X pins σ H' s' ∧ Q out H') s
section
variable {X : Cx} {e : Expr} {es : List Expr} {te : TE} {t : TX1} {u : TXs} {pos : Pos}
def gxCon (x : Str) : TX1 := fun _ H Q => x.length ≤ 100000 ∧ Q x H
def gxInt (te : TE) : TX1 := fun σ H Q => te σ H fun v H1 => ∃ i : Int, v = .int i ∧ i.natAbs < 2 ^ 64 ∧ Q (Str.ofString (toString i)) H1
def gxStr (te : TE) : TX1 := fun σ H Q => te σ H fun v H1 => ∃ x : Str, v = .str x ∧ x.length ≤ 100000 ∧ Q x H1
def gxNil : TXs := fun _ H acc Q => Q acc H
def gxSeq (t : TX1) (u : TXs) : TXs := fun σ H acc Q => t σ H fun y H1 => u σ H1 (acc ++ y) Q
def tGx (t : TXs) : TE := fun σ H Q => t σ H Str.empty fun x H1 => Q (.str x) H1
end

/-! ### sep.join(l) of a list of texts, str(i) -/
section
variable {X : Cx}
theorem strs_of : ∀ {xs : List Str} {its : List Value}, Vals (xs.map V.str) its → ∃ l : List (Str × Tok), its = strValues l ∧ l.map (·.1) = xs
  | [], _, .nil => ⟨[], rfl, rfl⟩
  | x :: xs, _, .cons r t => by
    obtain ⟨l, e, e2⟩ := strs_of t
    obtain ⟨tk, rfl⟩ := r
    exact ⟨(x, tk) :: l, by rw [e]; rfl, by rw [List.map_cons, e2]⟩
def rJoin : V → List V → Hp → VK → Prop := fun x vs H Q => ∃ sep l xs B, x = .str sep ∧ vs = [.ref l] ∧ H l = some (.lst (xs.map V.str)) ∧ (∀ y ∈ xs, y.length ≤ B) ∧ xs.length * B + xs.length * sep.length ≤ 16777216 ∧ Q (.str (Builtin.Str.glued sep xs)) H
theorem mt_join : MtM X "str.join" rJoin := by
  intro pins s σ H x vs v us Q I rx rv h
  obtain ⟨sep, l, xs, B, rfl, rfl, hH, hB, hz, q⟩ := h
  obtain ⟨tk, rfl⟩ := rx
  obtain ⟨u, rfl, ru⟩ := rv.one
  cases ru
  obtain ⟨z, its, n, r, hl, e⟩ := I.lstM hH
  obtain ⟨ps, rfl, e2⟩ := strs_of r
  refine SC.join ⟨_, e, rfl, _, rfl⟩ e2 ?_ fun t' k => ⟨.str _, H, I.tok _, ⟨_, rfl⟩, q⟩
  unfold JoinOk
  rw [StrLaws.joinFits hB hz]
  rfl
end
end L2

set_option Elab.async false
set_option linter.all false
set_option maxRecDepth 100000
set_option maxHeartbeats 4000000
/-! texts: find, int(text), enumerate(text) -/
namespace L2
open PySem PySem.Spec PyProof.Rows
section
variable {X : Cx}
def rFind : V → List V → Hp → VK → Prop := fun x vs H Q => ∃ a b : Str, x = .str a ∧ vs = [.str b] ∧ Q (.int (Txt.find a b)) H
theorem mt_find : MtM X "str.find" rFind := by
  intro pins s σ H x vs v us Q I rx rv h
  obtain ⟨a, b, rfl, rfl, q⟩ := h
  obtain ⟨tk, rfl⟩ := rx
  obtain ⟨u, rfl, ru⟩ := rv.one
  obtain ⟨tu, rfl⟩ := ru
  exact SC.find ⟨.int _, H, I.tok _, ⟨_, rfl⟩, q⟩
theorem call_intS : CallR X (.type "int") (fun xs H Q => ∃ (x : Str) (n : Int), xs = [.str x] ∧ PySem.intText? x = some n ∧ x.length ≤ 640 ∧ Q (.int n) H) := by
  intro pins s σ H xs us Q I r h
  obtain ⟨x, n, rfl, hn, hl, q⟩ := h
  obtain ⟨u, rfl, t, rfl⟩ := vals1 r
  exact W.KIN.call_text hn hl ⟨.int _, H, I.tok _, ⟨_, rfl⟩, q⟩
end
theorem strIter_ty (x : Str) : strIterType x = "str_ascii_iterator" ∨ strIterType x = "str_iterator" := by
  unfold strIterType
  split
  · exact .inl rfl
  · exact .inr rfl
theorem sit_obj {h : Heap} {p : Addr} {ty : String} {x : Str} {t : Tok} {i : Nat} (st : h.IsStrIter p ty x t i) : ∃ o, h.get? p = some o ∧ ∀ v, o.data ≠ .cell v := by
  obtain ⟨o, e, c, d⟩ := st
  exact ⟨o, e, fun v z => by rw [d] at z; cases z⟩
theorem sit_at {h h' : Heap} {p : Addr} {ty : String} {x : Str} {t : Tok} {i : Nat} (st : h.IsStrIter p ty x t i) (k : ∀ o, h.get? p = some o → h'.get? p = some o) : h'.IsStrIter p ty x t i := by
  obtain ⟨o, e, r⟩ := st
  exact ⟨o, k o e, r⟩
theorem turn_enumS {P : Program} {w : World} {K : W.Frag} {elts : List Expr} {x1} {pos : Pos} (x : Str) (t : Tok) (e p : Addr) (ty : String) (hty : ty = "str_ascii_iterator" ∨ ty = "str_iterator") (ep : e ≠ p) :
    Turn P w K (.Tuple elts x1 pos) (Itp (enumV (signsV x)) fun _ => True) [e, p] e (fun i h => (∃ old, IsEnum h e p i old) ∧ h.IsStrIter p ty x t i) where
  mem := by simp
  obj := fun i h st c hc => by
    have hc' : c = e ∨ c = p := by simpa using hc
    obtain ⟨⟨old, he⟩, si⟩ := st
    rcases hc' with rfl | rfl
    · exact ⟨_, he, fun v q => by cases q⟩
    · exact sit_obj si
  keep := fun i h h' st k => by
    obtain ⟨⟨old, he⟩, si⟩ := st
    exact ⟨⟨old, k e (by simp) _ he⟩, sit_at si fun o q => k p (by simp) o q⟩
  item := by
    intro X hP hw hK hc i pins s σ H E I hf st hg
    subst hP hw hK
    obtain ⟨hi, _⟩ := hg
    obtain ⟨⟨old, he⟩, si⟩ := st
    obtain ⟨pr, hp⟩ : ∃ p, (enumV (signsV x))[i]? = some p := ⟨(enumV (signsV x))[i]'hi, List.getElem?_eq_getElem hi⟩
    obtain ⟨e1, hx⟩ := enumV_get hp
    have hil : i < x.cps.size := by rw [enumV_len] at hi; unfold signsV at hi; rw [List.length_map, Array.length_toList] at hi; exact hi
    have fin : ∀ (D : Draws X.prog X.w X.A.in1 p [p] x.cps.size (fun i v => ∃ c t', x.cps[i]? = some c ∧ v = .str ⟨#[c]⟩ t') (fun i h => h.IsStrIter p ty x t i)), wpAny (model X.prog X.w) X.A (pyNext (.ref e)) (fun v s1 => ∃ u, v = some u ∧ wpAny (model X.prog X.w) X.A (letOwnedTupleGo (.Tuple elts x1 pos) (.ref e) u) (fun _ s2 => ∃ y H', Inv X pins σ H' s2 ∧ RelV y u ∧ (Itp (enumV (signsV x)) fun _ => True).yld i H y H' ∧ ((∃ old, IsEnum s2.heap e p (i + 1 : Nat) old) ∧ s2.heap.IsStrIter p ty x t (i + 1)) ∧ ∀ b ∈ [e, p], H' b = none) E s1) E s := fun D => by
      refine wpAny_pyNext_enum_itemD D he si hil ep (by simp; exact ep) fun u g tk hPx ho hst hT _ hk => ?_
      obtain ⟨c, t', hc', rfl⟩ := hPx
      refine ⟨_, rfl, ?_⟩
      refine wpAny_letOwnedTupleGo_enum (s := { s with heap := g, toks := tk + 1 }) ho fun g' he' sb => ?_
      have elt : e < s.heap.objs.size := Heap.lt_size he
      have plt : p < s.heap.objs.size := let ⟨o, q, _⟩ := sit_obj si; Heap.lt_size q
      have sb' : Heap.ExtBut e g g' := sb.extBut
      have hT' : IsPair g' s.heap.objs.size (.int i tk) (.str ⟨#[c]⟩ t') := sb' _ _ (Nat.ne_of_gt elt) hT
      have e2 : pr.2 = .str ⟨#[c]⟩ := by
        unfold signsV at hx
        rw [List.getElem?_map, Array.getElem?_toList, hc'] at hx
        exact (Option.some.inj hx).symm
      have I1 : Inv X pins σ (upd H s.heap.objs.size (.tup [pr.1, pr.2])) { s with heap := g', toks := tk + 1 } := I.turnedNewL (t' := tk + 1) (its := [e, p]) (fun c o hc q => sb' c o (fun z => hc (by simp [z])) (hk c o (fun z => hc (by simp [z])) (fun z => hc (by simp [z])) q)) hf (Nat.le_refl _)
        ⟨small_line (by show 2 ≤ 100000; decide), [.int i tk, .str ⟨#[c]⟩ t'], .cons (by rw [e1]; exact ⟨tk, rfl⟩) (.cons (by rw [e2]; exact ⟨t', rfl⟩) .nil), ⟨_, hT', rfl, _, rfl⟩⟩
      refine ⟨.ref s.heap.objs.size, _, I1, rfl, ⟨s.heap.objs.size, pr, hp, I.hok.fresh (Nat.le_refl _), rfl, rfl⟩, ⟨⟨_, by simpa using he'⟩, sit_at hst fun o q => sb' _ o (Ne.symm ep) q⟩, fun c hc => ?_⟩
      have hc' : c = e ∨ c = p := by simpa using hc
      have ne : c ≠ s.heap.objs.size := by
        rcases hc' with rfl | rfl
        · exact Nat.ne_of_lt elt
        · exact Nat.ne_of_lt plt
      rw [upd_ne ne]
      exact (hf c hc).1
    rcases hty with rfl | rfl
    · exact fin (Draws.strAscii (A := X.A.in1) (I.ok.hd hc) p x t)
    · exact fin (Draws.strWide (A := X.A.in1) (I.ok.hd hc) p x t)
  done := by
    intro X hP hw hK hc i pins s σ H E I hf st hg
    subst hP hw hK
    obtain ⟨hi, _⟩ := hg
    obtain ⟨⟨old, he⟩, si⟩ := st
    rw [enumV_len] at hi
    have hx : x.cps[i]? = none := by
      unfold signsV at hi
      rw [List.length_map, Array.length_toList] at hi
      simp [hi]
    rcases hty with rfl | rfl
    · refine enumEnd (I.ok.hd hc) he (fun Q E hE => wpAny_nextOf_ascii_end (I.ok.hd hc) si hx hE) fun g eb => ⟨rfl, I.turnedL (t' := s.toks) (its := [e, p]) (fun c o hc q => eb c o (fun z => hc (by simp [z])) q) hf⟩
    · refine enumEnd (I.ok.hd hc) he (fun Q E hE => wpAny_nextOf_wide_end (I.ok.hd hc) si hx hE) fun g eb => ⟨rfl, I.turnedL (t' := s.toks) (its := [e, p]) (fun c o hc q => eb c o (fun z => hc (by simp [z])) q) hf⟩
  self := fun A i s Q E st h => let ⟨⟨_, he⟩, _⟩ := st; wpAny_pyIter_enum he h
section
variable {X : Cx}
def iEnumS (ta : TA) : TI := fun σ H R => ta σ H fun vs H1 => ∃ x : Str, vs = [.str x] ∧ R (Itp (enumV (signsV x)) fun _ => True) H1
theorem pi_enumS {elts : List Expr} {x1} {tpos : Pos} {a : Expr} {ta : TA} {p pos : Pos} (hg : Gl X "enumerate") (hm : X.mg "enumerate" = none) (ha : PA X [a] ta) (hs : starEach [a] X.env = [(false, eval a X.env)] := by rfl) :
    PI X (.Tuple elts x1 tpos) (.Call (.Name "enumerate" p) [a] [] pos) (iEnumS ta) := by
  intro pins s σ H R I h
  refine Call_ (ld_blt I hg hm boot_enumerate (PyProof.Rows.callWith_type1 (thn (ha pos pins s σ H _ I h) fun us s1 ⟨vs, H1, I1, r1, q1⟩ => ?_) hs rfl))
  obtain ⟨x, e, q⟩ := q1
  subst e
  obtain ⟨u, rfl, t, rfl⟩ := vals1 r1
  refine call_enumerate_str fun g he si _ hk => wpAny_pyIter_enum (s := { s1 with heap := g }) he ?_
  refine ⟨_, [s1.heap.objs.size + 1, s1.heap.objs.size], _, _, H1, rfl, I1.kept (t' := s1.toks) fun b o e => hk b o e, turn_enumS x t _ _ _ (strIter_ty x) (Nat.succ_ne_self _), ⟨⟨_, he⟩, si⟩, fun c hc => ?_, q⟩
  have hc' : c = s1.heap.objs.size + 1 ∨ c = s1.heap.objs.size := by simpa using hc
  have ge : s1.heap.objs.size ≤ c := by
    rcases hc' with rfl | rfl
    · exact Nat.le_add_right _ _
    · exact Nat.le_refl _
  exact I1.fpOk ge (I1.hok.fresh ge)
end
end L2

set_option Elab.async false
set_option linter.all false
set_option maxRecDepth 100000
set_option maxHeartbeats 4000000
/-! slices of texts by their signs, the first place of a sign, figures -/
namespace Md
open PySem L2
theorem filt_rng (l : List Nat) (s : Nat) : ∀ m, s + m ≤ l.length → ((List.range m).map fun k => s + k).filterMap (fun i => l.toArray[i]?) = (l.drop s).take m
  | 0, _ => by simp
  | m + 1, h => by
    rw [List.range_succ, List.map_append, List.filterMap_append, filt_rng l s m (by omega), List.take_add_one]
    have : s + m < l.length := by omega
    simp [this]
theorem idx_st (s t n : Nat) (hst : s ≤ t) : sliceRange (s : Int) (t : Int) 1 = (List.range (t - s)).map fun k => s + k := by
  unfold sliceRange
  simp only [show (1 : Int) > 0 by decide, if_true]
  have e : (if (s : Int) < (t : Int) then ((t : Int) - (s : Int) + 1 - 1) / 1 else 0).toNat = t - s := by
    split
    · rw [Int.ediv_one]; omega
    · omega
  rw [e]
  refine List.map_congr_left fun k _ => ?_
  omega
theorem slice_st {x : Str} {lo hi : Option Int} {s t : Nat} (h : Builtin.Str.strSliceIndices lo hi 1 x.length = sliceRange (s : Int) (t : Int) 1) (hst : s ≤ t) (ht : t ≤ x.length) : (Txt.slice x lo hi).cps.toList = (x.cps.toList.drop s).take (t - s) := by
  unfold Txt.slice
  rw [h, idx_st s t x.length hst]
  have hl := str_len x
  split
  · rename_i hc
    have hc : t - s = x.length := by simpa using hc
    have s0 : s = 0 := by omega
    rw [s0, List.drop_zero, List.take_of_length_le (by omega)]
  · have q := filt_rng x.cps.toList s (t - s) (by omega)
    have e : x.cps.toList.toArray = x.cps := by simp
    rw [e] at q
    show (((List.range (t - s)).map fun k => s + k).filterMap (x.cps[·]?)).toArray.toList = _
    rw [List.toList_toArray, q]
theorem slice_ab (x : Str) (a b : Nat) (hab : a ≤ b) (hb : b ≤ x.length) : (Txt.slice x (some (a : Int)) (some (b : Int))).cps.toList = (x.cps.toList.drop a).take (b - a) := by
  refine slice_st ?_ hab hb
  unfold Builtin.Str.strSliceIndices
  have h1 : ¬ (a : Int) < 0 := by omega
  have h2 : ¬ (b : Int) < 0 := by omega
  simp only [show (1 : Int) > 0 by decide, if_true, if_neg h1, if_neg h2]
  have e1 : max (0 : Int) (min (a : Int) (x.length : Int)) = (a : Int) := by omega
  have e2 : max (0 : Int) (min (b : Int) (x.length : Int)) = (b : Int) := by omega
  rw [e1, e2]
/-- t[a:a + 2] wherever it ends -/
theorem slice_two (x : Str) (a : Nat) (ha : a ≤ x.length) : (Txt.slice x (some (a : Int)) (some ((a : Int) + 2))).cps.toList = (x.cps.toList.drop a).take 2 := by
  by_cases h : a + 2 ≤ x.length
  · have := slice_ab x a (a + 2) (by omega) h
    rw [show ((a + 2 : Nat) : Int) = (a : Int) + 2 by omega, show a + 2 - a = 2 by omega] at this
    exact this
  · have e : (Txt.slice x (some (a : Int)) (some ((a : Int) + 2))).cps.toList = (x.cps.toList.drop a).take (x.length - a) := by
      refine slice_st (t := x.length) ?_ ha (Nat.le_refl _)
      unfold Builtin.Str.strSliceIndices
      have h1 : ¬ (a : Int) < 0 := by omega
      have h2 : ¬ (a : Int) + 2 < 0 := by omega
      simp only [show (1 : Int) > 0 by decide, if_true, if_neg h1, if_neg h2]
      have e1 : max (0 : Int) (min (a : Int) (x.length : Int)) = (a : Int) := by omega
      have e2 : max (0 : Int) (min ((a : Int) + 2) (x.length : Int)) = (x.length : Int) := by omega
      rw [e1, e2]
    have hl := str_len x
    rw [e, List.take_of_length_le (by rw [List.length_drop]; omega), List.take_of_length_le (by rw [List.length_drop]; omega)]
/-- t[a:-1] -/
theorem slice_last (x : Str) (a : Nat) (ha : a + 1 ≤ x.length) : (Txt.slice x (some (a : Int)) (some (-1))).cps.toList = (x.cps.toList.drop a).take (x.length - 1 - a) := by
  refine slice_st (t := x.length - 1) ?_ (by omega) (by omega)
  unfold Builtin.Str.strSliceIndices
  have h1 : ¬ (a : Int) < 0 := by omega
  simp only [show (1 : Int) > 0 by decide, if_true, if_neg h1, show (-1 : Int) < 0 by decide]
  have e1 : max (0 : Int) (min (a : Int) (x.length : Int)) = (a : Int) := by omega
  have e2 : max (0 : Int) (min (-1 + (x.length : Int)) (x.length : Int)) = ((x.length - 1 : Nat) : Int) := by omega
  rw [e1, e2]
theorem at_one {x : Str} {c i : Nat} : StrLaws.At x ⟨#[c]⟩ x.length i ↔ x.cps.toList[i]? = some c := by
  unfold StrLaws.At
  rw [StrLaws.subAt_eq, beq_iff_eq]
  have hl := str_len x
  show (i + 1 ≤ x.length ∧ (x.cps.toList.drop i).take 1 = [c]) ↔ _
  constructor
  · rintro ⟨h1, h2⟩
    rw [List.drop_eq_getElem_cons (by omega), List.take_succ_cons, List.take_zero] at h2
    injection h2 with h2
    rw [List.getElem?_eq_getElem (by omega), h2]
  · intro h
    have hi := (List.getElem?_eq_some_iff.mp h).1
    refine ⟨by omega, ?_⟩
    rw [List.drop_eq_getElem_cons hi, List.take_succ_cons, List.take_zero]
    rw [List.getElem?_eq_getElem hi] at h
    rw [Option.some.inj h]
theorem find_one {x : Str} {pre post : List Nat} {c : Nat} (h : x.cps.toList = pre ++ c :: post) (hc : c ∉ pre) : Txt.find x ⟨#[c]⟩ = (pre.length : Int) := by
  have h0 : x.cps.toList[pre.length]? = some c := by rw [h, List.getElem?_append_right (Nat.le_refl _), Nat.sub_self]; rfl
  rcases PyProof.Rows.find_whole x ⟨#[c]⟩ with ⟨_, hn⟩ | ⟨i, e, hi, hn⟩
  · exact absurd (at_one.mpr h0) (hn _)
  · rw [e]
    have h1 := at_one.mp hi
    by_cases l1 : i < pre.length
    · rw [h, List.getElem?_append_left l1] at h1
      exact absurd (List.mem_of_getElem? h1) hc
    · by_cases l2 : pre.length < i
      · exact absurd (at_one.mpr h0) (hn _ l2)
      · rw [show i = pre.length by omega]
abbrev figures : Str := "0123456789"
def isDig (c : Nat) : Bool := decide (48 ≤ c ∧ c ≤ 57)
theorem figs_eq : figures.cps.toList = (List.range 10).map (48 + ·) := by decide +kernel
theorem dig_in (c : Nat) : (!(Builtin.Str.occurrences figures ⟨#[c]⟩ 0 figures.length 1).isEmpty) = isDig c := by
  rw [StrLaws.found_one, figs_eq]
  unfold isDig
  rw [decide_eq_decide, List.mem_map]
  constructor
  · rintro ⟨a, ha, rfl⟩
    have := List.mem_range.mp ha
    omega
  · intro h
    exact ⟨c - 48, List.mem_range.mpr (by omega), by omega⟩
def inFig : V → V
  | .str y => .bl (!(Builtin.Str.occurrences figures y 0 figures.length 1).isEmpty)
  | _ => .non
theorem signs_dig (x : Str) : ((signsV x).filter fun _ => true).map inFig = (x.cps.toList.map isDig).map V.bl := by
  rw [List.filter_eq_self.mpr fun _ _ => rfl]
  unfold signsV
  rw [List.map_map, List.map_map]
  refine List.map_congr_left fun c _ => ?_
  show V.bl _ = V.bl _
  rw [dig_in]
/-- the signs of a number -/
def digs (n : Nat) : List Nat := (Nat.toDigits 10 n).map Char.toNat
theorem digs_str (n : Nat) : (Str.ofString (toString ((n : Nat) : Int))).cps.toList = digs n := W.KIN.signs_num n
def figB (l : List Nat) : Bool := decide (1 ≤ l.length ∧ l.length ≤ 2) && l.all isDig && (decide (l.length = 1) || !decide (l.head? = some 48))
theorem digs_fig : ∀ n : Fin 100, figB (digs n) = true := by decide +kernel
theorem digs_reads {x : Str} {n : Nat} (h : x.cps.toList = digs n) (hn : n < 100) : PySem.intText? x = some (n : Int) := by
  have e : x = Str.ofString (toString ((n : Nat) : Int)) := Md.str_ext (by rw [h, digs_str])
  rw [e]
  exact W.KIN.num_reads (by omega) (by omega)
/-- parts with ", " between -/
def jn : List (List Nat) → List Nat
  | [] => []
  | a :: r => a ++ r.flatMap fun b => 44 :: 32 :: b
theorem jn_snoc (a : List Nat) (r : List (List Nat)) (b : List Nat) : jn ((a :: r) ++ [b]) = jn (a :: r) ++ 44 :: 32 :: b := by
  show a ++ (r ++ [b]).flatMap _ = (a ++ r.flatMap _) ++ _
  rw [List.flatMap_append, List.append_assoc]
  simp
end Md

set_option Elab.async false
set_option linter.all false
set_option maxRecDepth 100000
set_option maxHeartbeats 4000000
namespace L2
open PySem PySem.Spec PySem.Builtin PySem.Builtin.ObjectAttr PySem.W

/-- what the text must have of a class of exceptions whose __init__ writes an attribute: it stands right under D, D under ValueError -/
structure ExI (K : W.Frag) (C D : Addr) (a : Str) : Prop extends ExA K C where
  lk : ∃ nm q N bs sn sub ab col dd k0 k1 k2 k3 k5, K.lookup C = some (excClassObj nm q C N bs [.ref D, .type "ValueError", .type "Exception", .type "BaseException", .type "object"] true sn sub ab col dd k0 k1 k2 k3 k5 "ValueError.__new__")
  sa : W.findIn K (.ref C) "__setattr__" = some (some (.builtin "object.__setattr__"))
  na : W.findIn K (.ref C) a = some none
/-- a new exception that has its own dict -/
abbrev excObjD (C t : Addr) (dx : Option Addr) : Obj := { cls := .ref C, dict := dx, data := .fields #[.ref t, .none, .none, .none, .bool false, .none] }
section
variable {K : W.Frag} {prog : Program} {w : World} {A : Around} {E : Value → Shared → Prop} {s : Shared} {C D e t0 : Addr} {a : Str} {v : Value}
end
end L2

set_option Elab.async false
set_option linter.all false
set_option maxRecDepth 100000
set_option maxHeartbeats 4000000
namespace L2
open PySem PySem.Spec PyProof.Rows

/-- an exception in its __init__, before and after its attribute is written -/
def XN (e C : Addr) : HO := .ext fun h => ∃ t0, h.get? e = some (excObj C t0)
def XM (e C dx : Addr) : HO := .ext fun h => ∃ t0, h.get? e = some (excObjD C t0 (some dx))
def del (H : Hp) (a : Addr) : Hp := fun b => if b = a then none else H b
/-- the class right above has a plain __init__, ValueError's -/
structure DIn (K : W.Frag) (D : Addr) : Prop where
  ga : W.specialIn K (.ref D) "__getattribute__" = some (some (.builtin "type.__getattribute__"))
  rd : W.readsIn K D (.type "type") = true
  fi : W.findCls K (.ref D) (.type "type") "__init__" = some (.val (.builtin "ValueError.__init__"))
section
variable {X : Cx} {pins : List (Addr × Obj)} {σ : St} {H : Hp} {s : Shared} {a : Addr} {φ : Heap → Prop}
end

section
variable {X : Cx} {C D f : Addr} {fd : FuncData} {k : Nat} {x dn a : Str} {np cpos pos apos pos' : Pos} {e o value : Expr} {es : List Expr} {t : TA} {ta tv : TE} {ps : List Str}
/-- D.__init__(self, ..) -/
def tDI (K : W.Frag) (t : TA) : TE := fun σ H Q => t σ H fun vs H1 => ∃ x C ws, vs = .ref x :: ws ∧ ws.length ≤ 100 ∧ ExC K C ∧ H1 x = some (XN x C) ∧ Q .non H1
/-- self.a = value, in an exception's __init__ -/
def sXF (K : W.Frag) (D : Addr) (ta tv : TE) (a : Str) : TS := fun B σ H => tv σ H fun y H1 => ta σ H1 fun x H2 => ∃ e C, x = .ref e ∧ H2 e = some (XN e C) ∧ ExI K C D a ∧
  ∀ dx, H2 dx = none → B.nx σ (upd (upd H2 e (XM e C dx)) dx (.xd [(a, y)]))
/-- what the __init__ of such a class does -/
def spXI (C : Addr) (a : Str) (ok : V → Hp → Prop) : Sp := fun vs H Q _ => ∃ x y, vs = [.ref x, y] ∧ ok y H ∧ H x = some (XN x C) ∧ ∀ dx, H dx = none → Q .non (upd (upd H x (XM x C dx)) dx (.xd [(a, y)]))
def tRzI (E : XK) (C : Addr) (a : Str) (ok : V → Hp → Prop) (t : TA) : TS := fun _ σ H => t σ H fun vs H1 => ∃ y, vs = [y] ∧ (∀ x, H1 x = none → ok y (upd H1 x (XN x C))) ∧ ∀ dx, H1 dx = none → E (.ref C) (some dx) (upd H1 dx (.xd [(a, y)]))
/-- e.a, an attribute of a caught exception -/
def tXF (K : W.Frag) (D : Addr) (ta : TE) (a : Str) : TE := fun σ H Q => ta σ H fun x H1 => ∃ e C dx fs v, x = .ref e ∧ H1 e = some (XO e C (some dx)) ∧ H1 dx = some (.xd fs) ∧ ExI K C D a ∧ fs.lookup a = some v ∧ Q v H1
end
end L2

set_option Elab.async false
set_option linter.all false
set_option maxRecDepth 100000
set_option maxHeartbeats 4000000
namespace L2
open PySem PySem.Spec PyProof.Rows

/-! ### comprehensions whose own names are cells -/
/-- the block's context -/
abbrev cxCompC (X : Cx) (scope : Scope) (N : List Str) (C : Addr) (s : Shared) (H : Hp) (fp : List Addr) : Cx :=
  { X with N := N, s₀ := s, H₀ := H, env := compEnvC scope (cellsFrom (C + 1) scope.names [] ++ clOf X.env scope.names []) C X.env, outer := X.stack, ex := fp, fn := fun x => scope.names.lookup x == some .cell, pn := [], xe := fun _ _ => False }
/-- what the rule asks of the text -/
structure CompOkC (X : Cx) (scope : Scope) (own frees : List Str) (js : List Nat) : Prop where
  calm : X.calm = true
  kind : scope.kind = .function
  cells : ∀ y ∈ scope.names, y.2 = .cell → scope.names.lookup y.1 = some .cell
  locals : ∀ y ∈ scope.names, y.2 = .local → scope.names.lookup y.1 = some .local
  fr : ∀ y ∈ scope.names, y.2 = .free → X.env.scope.names.lookup y.1 = some .cell ∨ X.env.scope.names.lookup y.1 = some .free
  fre : ∀ x ∈ frees, scope.names.lookup x = some .free
  slots : js.map (fun j => X.N[j]?) = frees.map some
section
variable {X : Cx} {pins : List (Addr × Obj)} {σ : St} {scope : Scope} {own frees : List Str} {js : List Nat}
end

section
variable {X : Cx} {scope : Scope} {own frees : List Str} {js : List Nat} {tg iter elt : Expr} {ifs : List Expr} {wi : TI} {g : TG} {tt : TT} {te : TE} {pos : Pos}
end


def compTC (osc : Scope) (on : List Str) (scope : Scope) (frees : List Str) (js : List Nat) : Bool :=
  (scope.kind == .function) && scope.names.all (fun y => y.2 != .cell || scope.names.lookup y.1 == some .cell) && scope.names.all (fun y => y.2 != .local || scope.names.lookup y.1 == some .local) &&
  scope.names.all (fun y => y.2 != .free || (osc.names.lookup y.1 == some .cell || osc.names.lookup y.1 == some .free)) && frees.all (fun x => scope.names.lookup x == some .free) && decide (js.map (fun j => on[j]?) = frees.map some)
/-- a block's scope, as its names stand in it -/
def relab (sc osc : Scope) : Scope := { sc with names := sc.names.map fun (n, k) => if (k == NameKind.free && osc.kind == .function && osc.names.lookup n == some .cell) then (n, NameKind.cell) else (n, k) }
end L2

set_option Elab.async false
set_option linter.all false
set_option maxRecDepth 100000
set_option maxHeartbeats 4000000
/-! ### list(reversed(l)) -/
namespace L2
open PySem PySem.Spec PyProof.Rows
section
variable {prog : Program} {w : World} {A : Around} {E : Value → Shared → Prop} {s : Shared} {r : Addr}
end
section
variable {X : Cx}
end
end L2

set_option Elab.async false
set_option linter.all false
set_option maxRecDepth 100000
set_option maxHeartbeats 4000000
namespace L2
open PySem PySem.Spec PyProof.Rows
/-! ### isinstance with a class of one's own -/
def rIsiC (K : W.Frag) : List V → Hp → VK → Prop := fun xs H Q => ∃ x D t b, xs = [x, .ref D] ∧ TyOf K H x t ∧ W.kitOne K t (.ref D) = some b ∧ Q (.bl b) H
/-- what the text must have for isinstance(x, D), x an instance of D -/
structure IsCls (K : W.Frag) (D : Addr) : Prop where
  ha : W.findIn K (.ref D) "__class__" = some (some (.builtin "object.__class__"))
  hn : W.specialIn K (.builtin "object.__class__") "__get__" = some (some (.builtin "getset_descriptor.__get__"))
  ht : W.takesIn K (.builtin "object.__class__") = some true
  hm : W.mroIn K D (.type "object") = some true
  ki : W.kitOne K (.ref D) (.ref D) = some true
end L2

set_option Elab.async false
set_option linter.all false
set_option maxRecDepth 100000
set_option maxHeartbeats 4000000
namespace L2
open PySem PySem.Spec PyProof.Rows
/-! ### list(d) of a dict keyed by tuples -/
section
variable {prog : Program} {w : World} {A : Around}
end
section
variable {X : Cx}
end
end L2

set_option Elab.async false
set_option linter.all false
set_option maxRecDepth 100000
set_option maxHeartbeats 4000000
namespace L2
open PySem PySem.Spec PyProof.Rows
section
variable {X : Cx} {pins : List (Addr × Obj)} {σ : St} {H : Hp} {s : Shared} {a : Addr} {o : Obj} {kvs : List (List Key × V)}
/-! ### a dict that was frozen in this call's own frame may be written again -/
def tThawT (H₀ : Hp) (t : TS) : TS := fun D σ H => ∃ a o kvs, H a = some (.frz o (.dT kvs)) ∧ (∀ o' v, H₀ a ≠ some (.frz o' v)) ∧ t D σ (upd H a (.dT kvs))
end
end L2

set_option Elab.async false
set_option linter.all false
set_option maxRecDepth 100000
set_option maxHeartbeats 4000000
namespace L2
open PySem PySem.Spec PySem.Builtin
/-! ### t * n, a tuple -/
section
variable {X : Cx}
def rRepT (K : W.Frag) : R2 := fun x y H Q => ∃ a k xs, x = .ref a ∧ y = .int k ∧ SqT K H a xs ∧ 0 < k ∧ k ≤ 1000 ∧ xs.length ≤ 100 ∧ ((xs = [] ∨ k = 1) → Q (.ref a) H) ∧ (xs ≠ [] → k ≠ 1 → ∀ p, H p = none → Q (.ref p) (upd H p (.tup (List.replicate k.toNat xs).flatten)))
end
end L2

set_option Elab.async false
set_option linter.all false
set_option maxRecDepth 100000
set_option maxHeartbeats 4000000
namespace L2
open PySem PySem.Spec PyProof.Rows
/-! ### raise C(xs), C's __init__ keeps a copy of the list -/
section
variable {X : Cx} {C D f : Addr} {fd : FuncData} {k : Nat} {x dn a : Str} {np cpos pos apos pos' : Pos} {e o value : Expr} {es : List Expr} {t : TA} {ta tv : TE} {ps : List Str}
def spXL (C : Addr) (a : Str) : Sp := fun vs H Q _ => ∃ (x r : Addr) (ys : List Str), vs = [.ref x, .ref r] ∧ H r = some (.lst (ys.map V.str)) ∧ ys.length ≤ 100 ∧ (∀ y ∈ ys, Shows y) ∧ H x = some (XN x C) ∧
  ∀ l dx, H l = none → (upd H l (.lst (ys.map V.str))) dx = none → Q .non (upd (upd (upd H l (.lst (ys.map V.str))) x (XM x C dx)) dx (.xd [(a, .ref l)]))
def tRzL (E : XK) (C : Addr) (a : Str) (t : TA) : TS := fun _ σ H => t σ H fun vs H1 => ∃ (r : Addr) (ys : List Str), vs = [.ref r] ∧ H1 r = some (.lst (ys.map V.str)) ∧ ys.length ≤ 100 ∧ (∀ y ∈ ys, Shows y) ∧ ∀ l dx, H1 l = none → H1 dx = none → l ≠ dx → E (.ref C) (some dx) (upd (upd H1 l (.lst (ys.map V.str))) dx (.xd [(a, .ref l)]))
end
end L2

set_option Elab.async false
set_option linter.all false
set_option maxRecDepth 100000
set_option maxHeartbeats 4000000
namespace L2
open PySem PySem.Spec PySem.Builtin
/-! ### sorted(l), a list of texts -/
section
variable {X : Cx}
end
/-! ### what is sorted is one -/
def leS (a b : Str) : Prop := ¬ b.cps.toList < a.cps.toList
/-! ### xs.remove(k) of texts, k among them -/
def isS (k : Str) (v : Value) : Bool := match v with
  | .str i _ => i.cps.toList == k.cps.toList
  | _ => false
section
variable {X : Cx}
def rRemoveS : V → List V → Hp → VK → Prop := fun x vs H Q => ∃ (l : Addr) (ms : List Str) (k : Str), x = .ref l ∧ vs = [.str k] ∧ H l = some (.lst (ms.map V.str)) ∧ k ∈ ms ∧ Q .non (upd H l (.lst ((ms.erase k).map V.str)))
end
end L2

set_option Elab.async false
set_option linter.all false
set_option maxRecDepth 100000
set_option maxHeartbeats 4000000
namespace L2
open PySem PySem.Spec PyProof.Rows
/-! ### zip of two lists -/
structure ZLt (h : Heap) (z ti to i1 i2 l1 l2 : Addr) (k : Nat) (f : Value) : Prop where
  z : IsZip h z ti to f
  ti : IsPair h ti (.ref i1) (.ref i2)
  to : ∃ a b, IsPair h to a b
  i1 : h.IsListIter i1 l1 k
  i2 : h.IsListIter i2 l2 k
theorem ZLt.at {h h' : Heap} {z ti to i1 i2 l1 l2 : Addr} {k : Nat} {f : Value} (x : ZLt h z ti to i1 i2 l1 l2 k f) (e : ∀ b ∈ [z, ti, to, i1, i2], ∀ o, h.get? b = some o → h'.get? b = some o) : ZLt h' z ti to i1 i2 l1 l2 k f :=
  ⟨e z (by simp) _ x.z, e ti (by simp) _ x.ti, let ⟨a, b, y⟩ := x.to; ⟨a, b, e to (by simp) _ y⟩, x.i1.at fun o q => e i1 (by simp) o q, x.i2.at fun o q => e i2 (by simp) o q⟩
section
variable {prog : Program} {w : World} {A : Around} {E : Value → Shared → Prop} {s : Shared}
theorem nextZipL_some {z ti to i1 i2 l1 l2 : Addr} {k : Nat} {xs ys : Array Value} {x y : Value} {Q : Option Value → Shared → Prop} (D : ZipApart z ti to i1 i2 l1 l2) (st : ZLt s.heap z ti to i1 i2 l1 l2 k .none)
    (t1 : s.heap.IsList l1 xs) (t2 : s.heap.IsList l2 ys) (hx : xs[k]? = some x) (hy : ys[k]? = some y)
    (q : ∀ g, ZLt g z ti to i1 i2 l1 l2 (k + 1) (rawInt s.heap.objs.size) → IsPair g s.heap.objs.size x y → (∀ c o, c ≠ z → c ≠ to → c ≠ i1 → c ≠ i2 → s.heap.get? c = some o → g.get? c = some o) → Q (some (.ref s.heap.objs.size)) { s with heap := g }) :
    wpAny (model prog w) A (pyNext (.ref z)) Q E s := by
  obtain ⟨hz, hti, ⟨a, b, hto⟩, h1, h2⟩ := st
  exact wpAny_pyNext_zip_item D hz hti hto h1 h2 t1 t2 hx hy fun g b1 b2 b3 b4 b5 _ b7 => q g ⟨b1, b7 _ _ D.TIz D.TITO D.TIi1 D.TIi2 hti, ⟨_, _, b2⟩, b3, b4⟩ b5 b7
theorem nextZipL_none {z ti to i1 i2 l1 l2 : Addr} {k : Nat} {xs ys : Array Value} {Q : Option Value → Shared → Prop} (hh : A.handled = none) (D : ZipApart z ti to i1 i2 l1 l2) (st : ZLt s.heap z ti to i1 i2 l1 l2 k .none)
    (t1 : s.heap.IsList l1 xs) (t2 : s.heap.IsList l2 ys) (hend : xs[k]? = none ∨ ys[k]? = none)
    (q : ∀ g, (∀ c o, c ≠ z → c ≠ to → c ≠ i1 → c ≠ i2 → s.heap.get? c = some o → g.get? c = some o) → Q none { s with heap := g }) : wpAny (model prog w) A (pyNext (.ref z)) Q E s := by
  obtain ⟨hz, hti, ⟨a, b, hto⟩, h1, h2⟩ := st
  exact wpAny_pyNext_zip_end hh D hz hti hto h1 h2 t1 t2 hend q
theorem call_zipL {l1 l2 : Addr} {xs ys : Array Value} {Q : Value → Shared → Prop} (t1 : s.heap.IsList l1 xs) (t2 : s.heap.IsList l2 ys)
    (q : ∀ g, ZLt g (s.heap.objs.size + 4) (s.heap.objs.size + 2) (s.heap.objs.size + 3) s.heap.objs.size (s.heap.objs.size + 1) l1 l2 0 .none → (∀ c o, s.heap.get? c = some o → g.get? c = some o) → Q (.ref (s.heap.objs.size + 4)) { s with heap := g }) :
    wpAny (model prog w) A (call (.type "zip") [.ref l1, .ref l2]) Q E s :=
  call_zip_2 t1 t2 fun g a1 a2 a3 a4 a5 _ a7 => q g ⟨a1, a2, ⟨_, _, a3⟩, a4, a5⟩ a7
end
theorem turn_zipL {P : Program} {w : World} {K : W.Frag} {elts : List Expr} {x1} {pos : Pos} {xs ys : List V} (a b z ti to i1 i2 : Addr) (D : ZipApart z ti to i1 i2 a b) :
    Turn P w K (.Tuple elts x1 pos) (Itp (xs.zip ys) fun H => SqL K H a xs ∧ SqL K H b ys) [z, ti, to, i1, i2] z (fun i h => ZLt h z ti to i1 i2 a b i .none) where
  mem := by simp
  obj := fun i h st c hc => by
    have hc' : c = z ∨ c = ti ∨ c = to ∨ c = i1 ∨ c = i2 := by simpa using hc
    obtain ⟨x, y, h3⟩ := st.to
    obtain ⟨o1, e1, _, d1⟩ := st.i1
    obtain ⟨o2, e2, _, d2⟩ := st.i2
    rcases hc' with rfl | rfl | rfl | rfl | rfl
    · exact ⟨_, st.z, fun v q => by cases q⟩
    · exact ⟨_, st.ti, fun v q => by cases q⟩
    · exact ⟨_, h3, fun v q => by cases q⟩
    · exact ⟨_, e1, fun v q => by rw [d1] at q; cases q⟩
    · exact ⟨_, e2, fun v q => by rw [d2] at q; cases q⟩
  keep := fun i h h' st k => st.at k
  item := by
    intro X hP hw hK hc i pins s σ H E I hf st hg
    subst hP hw hK
    obtain ⟨hi, ha, hb⟩ := hg
    obtain ⟨p, hp⟩ : ∃ p, (xs.zip ys)[i]? = some p := ⟨(xs.zip ys)[i]'hi, List.getElem?_eq_getElem hi⟩
    obtain ⟨hx, hy⟩ := zipV_get hp
    obtain ⟨its, rv, pa', _⟩ := I.list ha
    obtain ⟨jts, rw', pb', _⟩ := I.list hb
    obtain ⟨u, hu, ru⟩ := rv.get hx
    obtain ⟨v, hv, rv'⟩ := rw'.get hy
    refine nextZipL_some D st pa'.isList pb'.isList (by simpa using hu) (by simpa using hv) fun g st' hpr hk => ?_
    refine ⟨_, rfl, ?_⟩
    refine wpAny_letOwnedTupleGo_zip (s := { s with heap := g }) st'.z fun g' z' sb => ?_
    have zlt : z < s.heap.objs.size := Heap.lt_size st.z
    have nz : s.heap.objs.size ≠ z := Nat.ne_of_gt zlt
    have sb' : Heap.ExtBut z g g' := sb.extBut
    have hT : IsPair g' s.heap.objs.size u v := sb' _ _ nz hpr
    have I1 : Inv X pins σ (upd H s.heap.objs.size (.tup [p.1, p.2])) { s with heap := g' } := I.turnedNewL (t' := s.toks) (its := [z, ti, to, i1, i2]) (fun c o hc e => sb' c o (fun q => hc (by simp [q])) (hk c o (fun q => hc (by simp [q])) (fun q => hc (by simp [q])) (fun q => hc (by simp [q])) (fun q => hc (by simp [q])) e)) hf (Nat.le_refl _)
      ⟨small_line (by show 2 ≤ 100000; decide), [u, v], .cons ru (.cons rv' .nil), ⟨_, hT, rfl, _, rfl⟩⟩
    have st2 : ZLt g' z ti to i1 i2 a b (i + 1) .none := by
      obtain ⟨a1, a2, a3⟩ := st'.to
      exact ⟨z', sb' _ _ D.TIz st'.ti, ⟨a1, a2, sb' _ _ D.TOz a3⟩, st'.i1.extBut sb' D.i1z, st'.i2.extBut sb' D.i2z⟩
    refine ⟨.ref s.heap.objs.size, _, I1, rfl, ⟨s.heap.objs.size, p, hp, I.hok.fresh (Nat.le_refl _), rfl, rfl⟩, st2, fun c hc => ?_⟩
    have lt : ∀ c ∈ [z, ti, to, i1, i2], c < s.heap.objs.size := fun c hc => by
      have hc' : c = z ∨ c = ti ∨ c = to ∨ c = i1 ∨ c = i2 := by simpa using hc
      obtain ⟨a1, a2, a3⟩ := st.to
      obtain ⟨o1, e1, _⟩ := st.i1
      obtain ⟨o2, e2, _⟩ := st.i2
      rcases hc' with rfl | rfl | rfl | rfl | rfl
      · exact zlt
      · exact Heap.lt_size st.ti
      · exact Heap.lt_size a3
      · exact Heap.lt_size e1
      · exact Heap.lt_size e2
    rw [upd_ne (Nat.ne_of_lt (lt c hc))]
    exact (hf c hc).1
  done := by
    intro X hP hw hK hc i pins s σ H E I hf st hg
    subst hP hw hK
    obtain ⟨hi, ha, hb⟩ := hg
    obtain ⟨its, rv, pa', _⟩ := I.list ha
    obtain ⟨jts, rw', pb', _⟩ := I.list hb
    have l1 := rv.length
    have l2 := rw'.length
    have hend : its.toArray[i]? = none ∨ jts.toArray[i]? = none := by
      rw [List.length_zip] at hi
      rcases Nat.le_total xs.length ys.length with h | h
      · rw [Nat.min_eq_left h] at hi
        exact .inl (by simp; omega)
      · rw [Nat.min_eq_right h] at hi
        exact .inr (by simp; omega)
    exact nextZipL_none (I.ok.hd hc) D st pa'.isList pb'.isList hend fun g hk => ⟨rfl, I.turnedL (t' := s.toks) (its := [z, ti, to, i1, i2]) (fun c o hc e => hk c o (fun q => hc (by simp [q])) (fun q => hc (by simp [q])) (fun q => hc (by simp [q])) (fun q => hc (by simp [q])) e) hf⟩
  self := fun A i s Q E st h => wpAny_pyIter_zip st.z h
section
variable {X : Cx}
def iZipL (K : W.Frag) (ta : TA) : TI := fun σ H R => ta σ H fun vs H1 => ∃ (a b : Addr) (xs ys : List V), vs = [.ref a, .ref b] ∧ SqL K H1 a xs ∧ SqL K H1 b ys ∧ R (Itp (xs.zip ys) fun H => SqL K H a xs ∧ SqL K H b ys) H1
theorem pi_zipL {elts : List Expr} {x1} {tpos : Pos} {a b : Expr} {ta : TA} {p pos : Pos} (hg : Gl X "zip") (hm : X.mg "zip" = none) (ha : PA X [a, b] ta) (hs : starEach [a, b] X.env = [(false, eval a X.env), (false, eval b X.env)] := by rfl) (hs2 : starEach [b] X.env = [(false, eval b X.env)] := by rfl) :
    PI X (.Tuple elts x1 tpos) (.Call (.Name "zip" p) [a, b] [] pos) (iZipL X.K ta) := by
  intro pins s σ H R I h
  refine Call_ (ld_blt I hg hm boot_zip (PyProof.Rows.callWith_type1 (thn (ha pos pins s σ H _ I h) fun us s1 ⟨vs, H1, I1, r1, q1⟩ => ?_) (by rw [hs, hs2]) (by rw [hs2]; rfl)))
  obtain ⟨l1, l2, xs, ys, e, t1, t2, q⟩ := q1
  subst e
  cases r1 with
  | cons r rr =>
    cases rr with
    | cons r' rr =>
      cases rr
      obtain rfl : _ = Value.ref l1 := r
      obtain rfl : _ = Value.ref l2 := r'
      obtain ⟨its, rv, pa, _⟩ := I1.list t1
      obtain ⟨jts, rw', pb, _⟩ := I1.list t2
      have b1 : s1.heap.IsList l1 its.toArray := pa.isList
      have b2 : s1.heap.IsList l2 jts.toArray := pb.isList
      have lt1 : l1 < s1.heap.objs.size := let ⟨_, e, _⟩ := b1; Heap.lt_size e
      have lt2 : l2 < s1.heap.objs.size := let ⟨_, e, _⟩ := b2; Heap.lt_size e
      refine call_zipL b1 b2 fun g st hk => wpAny_pyIter_zip (s := { s1 with heap := g }) st.z ?_
      have D : ZipApart (s1.heap.objs.size + 4) (s1.heap.objs.size + 2) (s1.heap.objs.size + 3) s1.heap.objs.size (s1.heap.objs.size + 1) l1 l2 := W.ktu_apart _ _ _ lt1 lt2
      refine ⟨_, [s1.heap.objs.size + 4, s1.heap.objs.size + 2, s1.heap.objs.size + 3, s1.heap.objs.size, s1.heap.objs.size + 1], _, _, H1, rfl, I1.kept (t' := s1.toks) fun b o e => hk b o e, turn_zipL l1 l2 _ _ _ _ _ D, st, fun c hc => ?_, q⟩
      have hc' : c = s1.heap.objs.size + 4 ∨ c = s1.heap.objs.size + 2 ∨ c = s1.heap.objs.size + 3 ∨ c = s1.heap.objs.size ∨ c = s1.heap.objs.size + 1 := by simpa using hc
      have ge : s1.heap.objs.size ≤ c := by
        rcases hc' with rfl | rfl | rfl | rfl | rfl
        · exact Nat.le_add_right _ _
        · exact Nat.le_add_right _ _
        · exact Nat.le_add_right _ _
        · exact Nat.le_refl _
        · exact Nat.le_add_right _ _
      exact I1.fpOk ge (I1.hok.fresh ge)
end
end L2

set_option Elab.async false
set_option linter.all false
set_option maxRecDepth 100000
set_option maxHeartbeats 4000000
namespace L2
open PySem PySem.Spec PyProof.Rows
section
variable {M : Model} {A : Around} {E : Value → Shared → Prop} {s : Shared}
/-- a frame notes it, whatever mark it bears -/
theorem air_notesM {base : Heap} {env : Env} {outer : List Env} {L e T : Addr} {cls fl : Value} {dx : Option Addr} {Q : Unit → Shared → Prop}
    (hfr : A.frames = some (env :: outer)) (hl : s.heap.FunFrames base (env :: outer)) (hf : env.frame = some L) (a : Air s.heap e T cls dx fl)
    (h : ∀ h' T' fl', (T' = T ∨ s.heap.objs.size ≤ T') → Air h' e T' cls dx fl' → Chg (frs (env :: outer)) [e, T] s.heap h' → Q () { s with heap := h' }) : wpAny M A (noteFrame (.ref e) env) Q E s := by
  by_cases hm : (fl == rawInt L) = true
  · have a0 := a
    obtain ⟨ne, ⟨oe, vs, he, hc, hdx, hd, h1⟩, ⟨oT, ts, hT, hdT, h3⟩⟩ := a
    have some_ : (Value.ref T != Value.none) = true := by simp
    unfold noteFrame
    simp only [hf]
    apply wpAny_bind
    apply wpAny_field he hd h1
    rw [if_pos some_]
    apply wpAny_bind
    apply wpAny_field hT hdT h3
    rw [if_pos hm]
    exact wpAny_pure (h s.heap T fl (.inl rfl) a0 ⟨Nat.le_refl _, fun _ _ q _ _ => q, fun b o q _ => ⟨o.slots, q⟩, fun b o q => ⟨o, q⟩⟩)
  · obtain ⟨ne, ⟨oe, vs, he, hc, hdx, hd, h1⟩, ⟨oT, ts, hT, hdT, h3⟩⟩ := a
    subst hc hdx
    have some_ : (Value.ref T != Value.none) = true := by simp
    have c1 : Chg [] [T] s.heap (s.heap.update T (Obj.mapFields fun r => r.setIfInBounds 3 Value.none)) := Chg.setF hT hdT
    have kept : ∀ b o, s.heap.get? b = some o → b ≠ T → (s.heap.update T (Obj.mapFields fun r => r.setIfInBounds 3 Value.none)).get? b = some o := fun b o q n => c1.keep b o q (fun z => nomatch z) fun z => n (List.mem_singleton.mp z)
    unfold noteFrame
    simp only [hf]
    apply wpAny_bind
    apply wpAny_field he hd h1
    rw [if_pos some_]
    apply wpAny_bind
    apply wpAny_field hT hdT h3
    rw [if_neg hm]
    apply wpAny_bind
    refine wpAny_setField hT hdT (Array.getElem?_eq_some_iff.mp h3).1 ?_
    refine note_new hfr (hl.of_keeps fun b o q nf => ⟨o, kept b o q fun z => by subst z; rw [hT] at q; cases q; exact nf ts hdT, rfl⟩) hf (kept e oe he fun z => ne z.symm) hd (Array.getElem?_eq_some_iff.mp h1).1 fun h' T' hT' a' c' => ?_
    exact h h' T' _ (.inr (Nat.le_trans c1.sz hT')) a' ((c1.mono (fun b z => nomatch z) fun b z => by simp at z; simp [z]).trans (c'.mono (fun b z => z) fun b z => by simp at z; simp [z]))
end
section
variable {X : Cx} {pins : List (Addr × Obj)} {σ : St} {H : Hp} {s : Shared} {E : XK} {e T : Addr} {cls : Value} {dx : Option Addr}
/-- an exception leaves the body, whatever mark it bears -/
theorem Fns.leaveM {fl : Value} (F : Fns X E) (I : Inv X pins σ H s) (fe : FpOk X pins H e) (fT : FpOk X pins H T) (a : Air s.heap e T cls dx fl) (h : E cls dx H) : X.xe (.ref e) s := by
  rw [F.xe]
  have hfr : X.A.frames = some (X.env :: X.outer) := by rw [← F.stk]; exact I.ok.frames
  have hl : s.heap.FunFrames X.base (X.env :: X.outer) := by rw [← F.stk]; exact I.stack
  unfold leaving
  refine wpAny_bind (air_notesM hfr hl F.fr a fun h' T' fl' hT' a' c => ?_)
  refine air_lands a' fun h2 a2 c2 => ?_
  rw [← F.stk] at c
  have sT' : X.s₀.heap.objs.size ≤ T' := by
    rcases hT' with z | z
    · rw [z]; exact F.old fT
    · exact Nat.le_trans I.sz z
  have hn : H T' = none := by
    rcases hT' with z | z
    · rw [z]; exact fT.1
    · exact I.hok.fresh z
  have c3 : Chg (frs X.stack) [T', e, T] s.heap h2 := (c.mono (fun b z => z) fun b z => by simp at z; rcases z with z | z <;> simp [z]).trans (c2.mono (fun b z => nomatch z) fun b z => by simp at z; simp [z])
  exact ⟨e, T', cls, dx, H, rfl, I.os, I.bare, F.un I c3 fun b z => by simp at z; rcases z with z | z | z <;> rw [z]; exact sT'; exact F.old fe; exact F.old fT,
    I.hok.chg c3 I.stkFree (fun b z => by simp at z; rcases z with z | z | z <;> rw [z]; exact hn; exact fe.1; exact fT.1), fe.1, hn, F.old fe, sT', a2, h⟩
end
/-- what an element of a comprehension raises -/
def xeC (E : XK) (Xc : Cx) : Value → Shared → Prop := fun ev s' => ∃ (e T : Addr) (cls : Value) (dx : Option Addr) (pins' : List (Addr × Obj)) (σ' : St) (H' : Hp), ev = .ref e ∧ Inv Xc pins' σ' H' s' ∧ H' e = none ∧ H' T = none ∧
  Xc.s₀.heap.objs.size ≤ e ∧ Xc.s₀.heap.objs.size ≤ T ∧ e ≠ Xc.env.locals ∧ T ≠ Xc.env.locals ∧ Air s'.heap e T cls dx .none ∧ E cls dx H'
theorem passC {Xc : Cx} {E : XK} : Passes (CX1 Xc.prog Xc.w) (Xc.wish (xeC E Xc)) E := by
  rintro pins σ H s ev s' I ⟨e, T, cls, dx, H', rfl, os, bare, un, hok, he, hT, se, sT, a, h⟩
  have I0 : Inv Xc pins σ H s := I.unwish
  have I' : Inv Xc pins σ H' s' := I0.call' (ch := []) os un hok bare fun b z => nomatch z
  exact ⟨e, T, cls, dx, pins, σ, H', rfl, I', he, hT, Nat.le_trans I0.sz se, Nat.le_trans I0.sz sT, (I0.fpOk (H' := H') se he).2.1, (I0.fpOk (H' := H') sT hT).2.1, a, h⟩
section
variable {X : Cx} {pins : List (Addr × Obj)} {σ : St} {scope : Scope} {own frees : List Str} {js : List Nat}
/-- it leaves the comprehension -/
theorem comp_raise {E : XK} {N : List Str} {C : Addr} {s2 s' : Shared} {H2 : Hp} {fp : List Addr} {cl : List (Str × Addr)} {use : Option (Value → Sem Unit)} {Qp : Value → Shared → Prop} {acc ev : Value} (F : Fns X E) (I2 : Inv X pins σ H2 s2) (f2 : ∀ b ∈ fp, FpOk X pins H2 b) (hC : s2.heap.objs.size ≤ C)
    (h : xeC E (cxComp X scope N C s2 H2 fp) ev s') : notedBy (model X.prog X.w) X.A (compEnvC scope cl C X.env) (fun x s'' => compPost (model X.prog X.w) X.A X.xe use Qp acc C (.error x) s'') ev s' := by
  obtain ⟨e, T, cls, dx, pins', σ', H', rfl, I', he, hT, se, sT, ce, cT, a, q⟩ := h
  have J : Inv X pins σ H' s' := I2.call' (ch := fp) I'.os I'.base I'.hok I'.bare fun b hb => ⟨(f2 b hb).2.2.2.1, (f2 b hb).2.1, (f2 b hb).2.2.2.2.1, (f2 b hb).2.2.2.2.2⟩
  have fC : FpOk X pins H' C := I2.fpOk hC I'.free
  have fe : FpOk X pins H' e := I2.fpOk se he
  have fT : FpOk X pins H' T := I2.fpOk sT hT
  have hfr : X.A.frames = some (X.env :: X.outer) := by rw [← F.stk]; exact J.ok.frames
  have hl : s'.heap.FunFrames X.base (X.env :: X.outer) := by rw [← F.stk]; exact J.stack
  show wpAny _ _ (noteFrame (.ref e) X.env) _ _ s'
  refine air_notes hfr hl F.fr a fun h1 T1 hT1 a1 c => ?_
  rw [← F.stk] at c
  have chk : ∀ b ∈ [e, T], (b ∈ X.ex ∨ X.s₀.heap.objs.size ≤ b) ∧ b ≠ X.env.locals ∧ (∀ x c, X.env.cells.lookup x = some c → c ≠ b) ∧ ∀ p ∈ X.pn ++ pins, p.1 ≠ b := fun b z => by
    simp at z; rcases z with z | z <;> rw [z]; exact ⟨fe.2.2.2.1, fe.2.1, fe.2.2.2.2.1, fe.2.2.2.2.2⟩; exact ⟨fT.2.2.2.1, fT.2.1, fT.2.2.2.2.1, fT.2.2.2.2.2⟩
  have J1 : Inv X pins σ H' { s' with heap := h1 } := J.call (ch := [e, T]) (t' := s'.toks) (d' := s'.drawn) (g' := s'.gens) (Un.chg c (fun b z => z) fun b z => z) (J.hok.chg c J.stkFree fun b z => by simp at z; rcases z with z | z <;> rw [z]; exact he; exact hT) J.bare chk
  obtain ⟨m, ⟨o, es, ep, ho, r⟩, _⟩ := I'.loc
  have ho1 : h1.get? C = some o := c.keep C o ho (fun z => (List.mem_cons.mp (I2.stkSub C z)).elim fC.2.1 fC.2.2.1) fun z => by simp at z; rcases z with z | z; exact ce z.symm; exact cT z.symm
  have fT1 : FpOk X pins H' T1 := J.fpOk hT1 (J.hok.fresh hT1)
  refine ⟨m, ⟨o, es, ep, ho1, r⟩, fun h2 sb cenv hce => ?_⟩
  have J2 : Inv X pins σ H' { s' with heap := h2 } := J1.turned (t' := s'.toks) (fun b o hb e => sb.extBut b o hb e) fC.1 fC.2.1 fC.2.2.2.1 fC.2.2.2.2.1 fC.2.2.2.2.2
  obtain ⟨ne, ⟨oe, vs, he1, hc, hdx, hd, hv1⟩, ⟨oT, ts, hT1', hdT, h3⟩⟩ := a1
  have cT1 : T1 ≠ C := fun z => by
    have := Heap.lt_size ho
    have h0 : s'.heap.objs.size ≤ C := by rw [← z]; exact hT1
    exact absurd (Nat.lt_of_lt_of_le this h0) (Nat.lt_irrefl _)
  have he2 := sb.extBut e oe ce he1
  have hT2 := sb.extBut T1 oT cT1 hT1'
  obtain ⟨hsz3, _⟩ := Array.getElem?_eq_some_iff.mp h3
  have some_ : (Value.ref T1 != Value.none) = true := by simp
  have none_ : ¬ (Value.ref T1 == Value.none) = true := by simp
  unfold PySem.passOn
  apply wpAny_bind
  apply wpAny_field he2 hd hv1
  rw [if_neg none_]
  apply wpAny_bind
  unfold setFlight
  apply wpAny_bind
  apply wpAny_field he2 hd hv1
  rw [if_pos some_]
  refine wpAny_setField hT2 hdT hsz3 (wpAny_throw ?_)
  have c5 : Chg [] [T1] h2 (h2.update T1 (Obj.mapFields fun r => r.setIfInBounds 3 (cenv.frame.elim Value.none fun f => rawInt f))) := Chg.setF hT2 hdT
  have J3 : Inv X pins σ H' { s' with heap := h2.update T1 (Obj.mapFields fun r => r.setIfInBounds 3 (cenv.frame.elim Value.none fun f => rawInt f)) } := J2.call (s := { s' with heap := h2 }) (ch := [T1]) (t' := s'.toks) (d' := s'.drawn) (g' := s'.gens) (Un.chg (c5.mono (fun b z => (nomatch z : b ∈ frs X.stack)) fun b z => z) (fun b z => z) fun b z => z) (J2.hok.chg c5 (fun b z => (nomatch z : H' b = none)) fun b z => by simp at z; rw [z]; exact fT1.1) J2.bare fun b z => by
    simp at z; rw [z]; exact ⟨fT1.2.2.2.1, fT1.2.1, fT1.2.2.2.2.1, fT1.2.2.2.2.2⟩
  refine F.leaveM (fl := cenv.frame.elim Value.none fun f => rawInt f) J3 fe fT1 ⟨ne, ⟨oe, vs, (Heap.get?_update_other _ _ ne).trans he2, hc, hdx, hd, hv1⟩, ⟨_, _, Heap.get?_update_self _ hT2 (Obj.isFreed_of_fields (Obj.data_mapFields hdT _)), Obj.data_mapFields hdT _, by simp [hsz3]⟩⟩ q
end
end L2

set_option Elab.async false
set_option linter.all false
set_option maxRecDepth 100000
set_option maxHeartbeats 4000000
namespace L2
open PySem PySem.Spec PyProof.Rows
section
variable {prog : Program} {w : World} {A : Around} {E : Value → Shared → Prop} {R : Result → Shared → Prop} {s : Shared}
theorem compLoop_anyX {elt target iter : Expr} {ifs : List Expr} {scope : Scope} {pos : Pos} {it acc : Value} {env : Env} (I : Nat → Shared → Prop)
    (turn : ∀ n s, I n s → ∀ E : Value → Shared → Prop, (∀ x s', notedBy (model prog w) A env (fun x s' => R (.error x) s') x s' → E x s') → wpAny (model prog w) A (pyNext it) (fun r s₁ => match r with
      | none => R (.ok .next) s₁
      | some v => wpAny (model prog w) A (letOwnedTupleGo target it v) (fun _ s₁' => wpAny (model prog w) A (assign target env v) (fun _ s₂ =>
          wpAny (model prog w) A (forIn ifs true fun c r => if r = true then do let ok ← isTrue c env (eval c env); pure (ForInStep.yield ok) else pure (ForInStep.yield r)) (fun ok s₃ =>
            if ok = true then wpAny (model prog w) A (eval elt env) (fun x s₄ =>
              wpAny (model prog w) A (call (.builtin "list.append") [acc, x]) (fun _ s₅ => ∃ m, m < n ∧ I m s₅) E s₄) E s₃
            else ∃ m, m < n ∧ I m s₃) E s₂) E s₁') E s₁) E s)
    (n : Nat) (h : I n s) :
    codeAny (model prog w) A (.compLoop (.ListComp elt [⟨target, iter, ifs, 0⟩] scope pos) 0 it acc env) R s := by
  refine codeAny_loop rfl I (fun n s hI => ?_) n h
  show wpAny _ A ((compTurn (.ListComp elt [⟨target, iter, ifs, 0⟩] scope pos) 0 it acc env).onRaise (fun x => do noteFrame x env; theTreesLotGoes x)) _ _ s
  refine wpAny_noted ?_
  rw [compTurn_list]
  refine wpAny_bind (wpAny_standAt (wpAny_bind (wpAny_mono (turn n s hI _ fun _ _ z => z) (fun r s₁ h₁ => ?_) fun _ _ h' => h')))
  cases r with
  | none => exact wpAny_pure h₁
  | some v =>
    refine wpAny_bind (wpAny_mono h₁ (fun _ s₁' h₁' => ?_) fun _ _ h' => h')
    refine wpAny_bind (wpAny_mono h₁' (fun _ s₂ h₂ => wpAny_bind (wpAny_mono h₂ (fun ok s₃ h₃ => ?_) fun _ _ h' => h')) fun _ _ h' => h')
    cases ok with
    | false => exact wpAny_pure ⟨rfl, h₃⟩
    | true =>
      exact wpAny_bind (wpAny_bind (wpAny_mono h₃ (fun x s₄ h₄ => wpAny_bind (wpAny_mono h₄ (fun _ s₅ h₅ => wpAny_pure (wpAny_pure ⟨rfl, h₅⟩)) fun _ _ h' => h')) fun _ _ h' => h'))
end
section
variable {X : Cx} {pins : List (Addr × Obj)} {σ : St} {scope : Scope} {own frees : List Str} {js : List Nat}
theorem comp_blockX {EK : XK} {s2 : Shared} {tg iter elt : Expr} {ifs : List Expr} {pos : Pos} {g : TG} {tt : TT} {te : TE} {Q : VK} {use : Option (Value → Sem Unit)} {Qp : Value → Shared → Prop} {itv : Value} {E : Value → Shared → Prop}
    (c : CompOk X scope own frees js)
    (hg : ∀ C s H fp, PG (cxComp X scope (own ++ frees) C s H fp) tg g) (ht : ∀ C s H fp, PTs (cxComp X scope (own ++ frees) C s H fp) ifs tt) (F : Fns X EK) (he : ∀ C s H fp, PE ((cxComp X scope (own ++ frees) C s H fp).wish (xeC EK (cxComp X scope (own ++ frees) C s H fp))) elt te)
    (h : PIE X pins σ tg (compBody own.length js g tt te σ Q) itv s2)
    (hR : ∀ D C H' s', Inv X pins σ H' s' → FpOk X pins H' C → (∃ m, s'.heap.Ns C m) → Q (.ref D) H' → compPost (model X.prog X.w) X.A X.xe use Qp (.ref D) C (.ok .next) s') :
    wpAny (model X.prog X.w) X.A (newList []) (fun acc s₃ => wpAny (model X.prog X.w) X.A (newFunctionEnv scope X.env.globals (clOf X.env scope.names []) [] X.env.qual none .none (some X.env)) (fun cenv s₄ =>
      codeAny (model X.prog X.w) X.A (.compStart (.ListComp elt [⟨tg, iter, ifs, 0⟩] scope pos) 0 itv acc { cenv with scope := relabel scope X.env }) (compPost (model X.prog X.w) X.A X.xe use Qp acc cenv.locals) s₄) E s₃) E s2 := by
  obtain ⟨it, fp, tn, J, H2, e, I2, T, st2, f2, hq⟩ := h
  subst e
  refine wpAny_newObj_type (wpAny_newFunctionEnv c.nocell (by intro y hy; simp at hy) (fun h₁ hns₁ hsb₁ => ?_) c.kind)
  dsimp only at hns₁ hsb₁ ⊢
  generalize hH2 : s2.heap.push { cls := .type "list", dict := none, data := .seq ([] : List Value).toArray } = G2 at hns₁ hsb₁ ⊢
  have hC : G2.objs.size = s2.heap.objs.size + 1 := by rw [← hH2, Heap.size_push]
  have hDC : s2.heap.objs.size ≠ G2.objs.size := by rw [hC]; exact Nat.ne_of_lt (Nat.lt_succ_self _)
  have hCle : s2.heap.objs.size ≤ G2.objs.size := by rw [hC]; exact Nat.le_succ _
  have old : ∀ b o, s2.heap.get? b = some o → h₁.get? b = some o := fun b o e => by
    have hb := Heap.lt_size e
    exact hsb₁.extBut b o (by rw [hC]; exact Nat.ne_of_lt (Nat.lt_succ_of_lt hb)) (Heap.get?_push_of_some _ (hH2 ▸ Heap.get?_push_of_some _ e))
  have hD : H2 s2.heap.objs.size = none := I2.hok.fresh (Nat.le_refl _)
  have hlt : ∀ b ∈ fp, b < s2.heap.objs.size := fun b hb => by
    obtain ⟨o, e, _⟩ := T.obj _ _ st2 b hb
    exact Heap.lt_size e
  have hacc : h₁.get? s2.heap.objs.size = some { cls := .type "list", data := .seq ([] : List Value).toArray } := hsb₁.extBut _ _ hDC (Heap.get?_push_of_some _ (hH2 ▸ Heap.get?_push_size _ rfl))
  obtain ⟨W, ⟨m0, w0⟩, turn⟩ := hq _ hD
  -- the block's entry
  have I0 : ∀ tk, Inv (cxComp X scope (own ++ frees) G2.objs.size s2 H2 fp) [] (sgC own.length js σ) (upd H2 s2.heap.objs.size (.lst [])) { s2 with heap := h₁, toks := tk } := fun tk => by
    refine ⟨c.ok I2 f2 hlt hCle _, rfl, I2.bare, Un.laid old (Nat.le_refl _) hD, ⟨_, hns₁, fun i x v h1 h2 h3 => ?_⟩, fun x a h => ?_, ?_, fun x a h => ?_, fun p hp => absurd (show p ∈ ([] : List (Addr × Obj)) from hp) (by simp), I2.hok.laid old (Nat.le_refl _) ⟨Nat.zero_le _, [], 0, .nil, hacc⟩, ?_⟩
    · have hi : own.length ≤ i := by
        by_cases hi : i < own.length
        · unfold sgC at h2
          rw [List.getElem?_append_left (by simpa using hi), List.getElem?_replicate] at h2
          rw [if_pos hi] at h2
          cases h2
        · omega
      have hx : frees[i - own.length]? = some x := by
        have h1' : (own ++ frees)[i]? = some x := h1
        rwa [List.getElem?_append_right hi] at h1'
      have h2' : (js.map fun j => (σ[j]?).join)[i - own.length]? = some (some v) := by
        unfold sgC at h2
        rw [List.getElem?_append_right (by simpa using hi)] at h2
        simpa using h2
      rw [List.getElem?_map] at h2'
      obtain ⟨j, hj, hjv⟩ := Option.map_eq_some_iff.mp h2'
      have hs := congrArg (fun l => l[i - own.length]?) c.slots
      rw [List.getElem?_map, List.getElem?_map, hj, hx] at hs
      have hNj : X.N[j]? = some x := Option.some.inj hs
      have hσ : σ[j]? = some (some v) := by
        cases q : σ[j]? with
        | none => rw [q] at hjv; cases hjv
        | some o =>
          rw [q] at hjv
          have : o = some v := hjv
          rw [this]
      have hfree := c.fre x (List.mem_of_getElem? hx)
      have hXk := c.fr (x, .free) (PySem.mem_of_lookup hfree) rfl
      obtain ⟨m, hn, hl⟩ := I2.loc
      have vis : Vis X.env.scope x := by rcases hXk with k | k; exact .inr (.inl k); exact .inr (.inr k)
      obtain ⟨u, r, l⟩ := hl j x v hNj hσ vis
      refine ⟨u, r, .inr ⟨lookup_relabel_free (env := X.env) hfree, ?_⟩⟩
      rcases l with ⟨hk, _⟩ | ⟨_, a, ha, hcell⟩
      · rcases hXk with k | k
        · have hk : X.env.scope.names.lookup x = some .local := hk
          rw [show X.env.scope.names.lookup x = some .cell from k] at hk; cases hk
        · have hk : X.env.scope.names.lookup x = some .local := hk
          rw [show X.env.scope.names.lookup x = some .free from k] at hk; cases hk
      · obtain ⟨a', ha'⟩ := c.has hfree
        have e := c.cl I2.ok ha'
        rw [ha] at e
        cases e
        obtain ⟨o, ho, hd⟩ := hcell
        exact ⟨a, ha', o, old a o ho, hd⟩
    · obtain ⟨v, o, ho, hd⟩ := I2.cell x a (c.cl I2.ok h)
      exact ⟨v, o, old a o ho, hd⟩
    · show upd H2 s2.heap.objs.size (.lst []) G2.objs.size = none
      rw [upd_ne (Ne.symm hDC)]
      exact I2.hok.fresh hCle
    · obtain ⟨v, o, ho, hd⟩ := I2.cell x a (c.cl I2.ok h)
      rw [upd_ne (Nat.ne_of_lt (Heap.lt_size ho))]
      exact I2.freeC x a (c.cl I2.ok h)
    · rw [sgC_len, List.length_append]
      have := congrArg List.length c.slots
      rw [List.length_map, List.length_map] at this
      omega
  -- what stays true of the iterator's objects
  have stat : ∀ {H' : Hp}, (∀ b ∈ fp, H' b = none) → ∀ b ∈ fp, FpOk (cxComp X scope (own ++ frees) G2.objs.size s2 H2 fp) [] H' b := fun {H'} hn b hb => by
    obtain ⟨f0, f1, f3, f4, f5, f6⟩ := f2 b hb
    refine ⟨hn b hb, Nat.ne_of_lt (Nat.lt_of_lt_of_le (hlt b hb) hCle), fun z => ?_, .inl hb, fun x a h => f5 x a (c.cl I2.ok h), fun p hp => absurd (show p ∈ ([] : List (Addr × Obj)) from hp) (by simp)⟩
    rcases List.mem_cons.mp (I2.stkSub b z) with e | e
    · exact f1 e
    · exact f3 e
  have loop : ∀ s₃ : Shared, s₃ = { s2 with heap := h₁, toks := s2.toks + ([] : List (Str × Value)).length } →
      codeAny (model X.prog X.w) X.A (.compLoop (.ListComp elt [⟨tg, iter, ifs, 0⟩] scope pos) 0 (.ref it) (.ref s2.heap.objs.size) (compEnvC scope (clOf X.env scope.names []) G2.objs.size X.env))
        (compPost (model X.prog X.w) X.A X.xe use Qp (.ref s2.heap.objs.size) G2.objs.size) s₃ := by
    rintro s₃ rfl
    refine compLoop_anyX (fun n s' => ∃ i ys σ' H', Inv (cxComp X scope (own ++ frees) G2.objs.size s2 H2 fp) [] σ' H' s' ∧ tn i s'.heap ∧ (∀ b ∈ fp, H' b = none) ∧ W i n ys σ' H') ?_ m0
      ⟨0, [], _, _, I0 _, T.keep _ _ _ st2 fun b _ o e => old b o e, fun b hb => by rw [upd_ne (Nat.ne_of_lt (hlt b hb))]; exact (f2 b hb).1, w0⟩
    rintro n s3 ⟨i, ys, σ3, H3, I3, st3, fr3, w3⟩ E' hE'
    rcases turn i n ys σ3 H3 w3 with ⟨stop, qn⟩ | ⟨go, hz, N, hN, step⟩
    · refine thn (T.done (cxComp X scope (own ++ frees) G2.objs.size s2 H2 fp) rfl rfl rfl c.calm i [] s3 σ3 H3 E' I3 (stat fr3) st3 stop) fun r s4 ⟨hr, I4⟩ => ?_
      subst hr
      have back : Inv X pins σ H3 s4 := I2.call' (ch := fp) I4.os I4.base I4.hok I4.bare fun b hb => ⟨(f2 b hb).2.2.2.1, (f2 b hb).2.1, (f2 b hb).2.2.2.2.1, (f2 b hb).2.2.2.2.2⟩
      exact hR _ _ H3 s4 back (I2.fpOk hCle I4.free) ⟨_, I4.loc.choose_spec.1⟩ qn
    · refine thn (T.item (cxComp X scope (own ++ frees) G2.objs.size s2 H2 fp) rfl rfl rfl c.calm i [] s3 σ3 H3 E' I3 (stat fr3) st3 go) fun r s4 ⟨u, hr, h4⟩ => ?_
      subst hr
      refine thn h4 fun _ s5 ⟨x, H5, I5, r5, y5, st5, fr5⟩ => ?_
      have I5' := I5.pinned (stat fr5) (T.obj _ _ st5)
      have nof : ∀ (e : Value) (s' : Shared), (cxComp X scope (own ++ frees) G2.objs.size s2 H2 fp).xe e s' → E' e s' := fun _ _ z => False.elim z
      refine wpAny_mono (hg _ _ _ _ _ s5 σ3 H5 x u _ I5' r5 (step x H5 y5)) (fun _ s6 ⟨σ6, H6, I6, q6⟩ => ?_) nof
      refine wpAny_mono (ht _ _ _ _ _ s6 σ6 H6 _ I6 q6) (fun b s7 ⟨H7, I7, q7⟩ => ?_) nof
      have again : ∀ {σ7 : St} {H7 : Hp} {s7 : Shared} {ys' : List V}, Inv (cxComp X scope (own ++ frees) G2.objs.size s2 H2 fp) ([] ++ pinsAt fp s5.heap) σ7 H7 s7 → N ys' σ7 H7 →
          ∃ m, m < n ∧ ∃ i ys σ' H', Inv (cxComp X scope (own ++ frees) G2.objs.size s2 H2 fp) [] σ' H' s7 ∧ tn i s7.heap ∧ (∀ b ∈ fp, H' b = none) ∧ W i m ys σ' H' := fun {σ7 H7 s7 ys'} I7 n7 => by
        obtain ⟨m', hm, w7⟩ := hN _ _ _ n7
        refine ⟨m', hm, i + 1, ys', σ7, H7, I7.unpinned, T.keep _ _ _ st5 fun b hb o e => (I7.pin (b, o) (List.mem_append_right _ (List.mem_append_right _ (mem_pinsAt hb e)))).1, fun b hb => ?_, w7⟩
        obtain ⟨o, e, d⟩ := T.obj _ _ st5 b hb
        exact (I7.pin (b, o) (List.mem_append_right _ (List.mem_append_right _ (mem_pinsAt hb e)))).2.1
      cases b with
      | false =>
        rw [if_neg Bool.false_ne_true] at q7 ⊢
        exact again I7 q7
      | true =>
        rw [if_pos rfl] at q7 ⊢
        refine wpAny_mono (he _ _ _ _ _ s7 σ6 H7 _ (I7.wish _) q7) (fun v s8 ⟨y, H8, I8', r8, hD8, w8⟩ => ?_) fun ev s8 z => hE' _ _ (comp_raise F I2 f2 hCle z)
        have I8 := I8'.unwish
        refine wpAny_mono (mt_append (X := cxComp X scope (own ++ frees) G2.objs.size s2 H2 fp) _ s8 σ6 H8 (.ref s2.heap.objs.size) [y] (.ref s2.heap.objs.size) [v] (fun _ H9 => H9 = upd H8 s2.heap.objs.size (.lst (ys ++ [y]))) I8 rfl (.cons r8 .nil) ⟨_, ys, y, rfl, rfl, hD8, hz, rfl⟩) (fun z s9 ⟨_, H9, I9, _, e9⟩ => ?_) nof
        subst e9
        exact again I9 w8
  exact codeAny_compStart_list (loop _ rfl) (T.self X.A 0 _ _ _ (T.keep _ _ _ st2 fun b _ o e => old b o e) (loop _ rfl))
end

section
variable {X : Cx} {scope : Scope} {own frees : List Str} {js : List Nat} {tg iter elt : Expr} {ifs : List Expr} {wi : TI} {g : TG} {tt : TT} {te : TE} {pos : Pos}
theorem ps_setCompX {EK : XK} {k : Nat} {y : Str} {py spos : Pos} (own frees : List Str) (js : List Nat) (hN : X.N.Nodup) (hk : X.N[k]? = some y) (hy : X.env.scope.names.lookup y = some .local) (hc : X.Ok → CompOk X scope own frees js) (hi : PI X tg iter wi)
    (hg : ∀ C s H fp, PG (cxComp X scope (own ++ frees) C s H fp) tg g) (ht : ∀ C s H fp, PTs (cxComp X scope (own ++ frees) C s H fp) ifs tt) (F : Fns X EK) (he : ∀ C s H fp, PE ((cxComp X scope (own ++ frees) C s H fp).wish (xeC EK (cxComp X scope (own ++ frees) C s H fp))) elt te)
    (hsw : swapsWith (.ListComp elt [⟨tg, iter, ifs, 0⟩] scope pos) (some (.Name y py)) spos.line X.env = pure true := by rfl)
    (hs : ∀ x, foldedSetIterable iter X.env x = pure x := by intro _; rfl) :
    PS X (.Assign [.Name y py] (.ListComp elt [⟨tg, iter, ifs, 0⟩] scope pos) spos) (tSetComp k own.length js wi g tt te) := by
  intro pins s σ H D I h
  have c := hc I.ok
  rw [exec_Assign_Name_used _ _ _ _ hsw]
  refine wpAny_bind (wpAny_standAt (wpAny_bind ?_))
  show wpAny _ X.A (do let _ ← comprehension (.ListComp elt [⟨tg, iter, ifs, 0⟩] scope pos) scope X.env _ (newList []) false (eval iter X.env) (some (assign (.Name y py) X.env))) _ _ s
  refine wpAny_bind (wpAny_mono (wpAny_comprehension_free (use := some (assign (.Name y py) X.env)) (Q := fun _ s' => SP X pins D .next s') rfl hs (closureFor_of (c.cells I.ok)) c.kind c.locals
    (thn (hi pins s σ H _ I h) fun xv s₁ h₁ => thn h₁ fun it s₂ h₂ => ?_)) (fun _ s' hq => wpAny_pure (wpAny_pure hq)) fun _ _ e => e)
  refine comp_blockX (use := some (assign (.Name y py) X.env)) (Qp := fun _ s' => SP X pins D .next s') c hg ht F he h₂ fun A' C H' s' J F n q => ?_
  obtain ⟨m, hn⟩ := n
  obtain ⟨f0, f1, f2, f3, f4, f5⟩ := F
  show wpAny _ X.A (assign (.Name y py) X.env (.ref A')) _ _ _
  refine wpAny_assign_Name (store_ok2 J hN hk (.inl hy) (v := .ref A') rfl (fun s'' J' ⟨a, sb, ha⟩ => ?_) (.inr hy))
  have hne : a ≠ C := by
    rcases ha with e | e
    · rw [e]; exact Ne.symm f1
    · exact f4 y a e
  refine ⟨m, hn.sameBut sb (Ne.symm hne), fun h' hs' => ⟨_, H', J'.turned (t' := s''.toks) (fun b o hb e => hs'.extBut b o hb e) f0 f1 f3 f4 f5, q⟩⟩
end
end L2

set_option Elab.async false
set_option linter.all false
set_option maxRecDepth 100000
set_option maxHeartbeats 4000000
namespace L2
open PySem PySem.Spec
theorem rep_cps (a : Array Nat) : ∀ (k : Nat) (b : Array Nat), ((List.replicate k a).foldl (· ++ ·) b).toList = b.toList ++ (List.replicate k a.toList).flatten
  | 0, b => by simp
  | k + 1, b => by
    rw [List.replicate_succ, List.foldl_cons, rep_cps a k, Array.toList_append, List.replicate_succ, List.flatten_cons, List.append_assoc]
def repS (i : Str) (k : Nat) : Str := ⟨(List.replicate k i.cps).foldl (· ++ ·) #[]⟩
theorem repS_cps (i : Str) (k : Nat) : (repS i k).cps.toList = (List.replicate k i.cps.toList).flatten := by
  unfold repS
  rw [rep_cps]
  rfl
theorem repS_len (i : Str) (k : Nat) : (repS i k).length = k * i.length := by
  have := congrArg List.length (repS_cps i k)
  rw [List.length_flatten, List.map_replicate, List.sum_replicate_nat] at this
  simpa [Str.length] using this
section
variable {X : Cx}
/-- a text times a whole number -/
theorem op_repS : OpR X (binaryOp .Mult) (fun x y H Q => ∃ (i : Str) (k : Nat), x = .str i ∧ y = .int (k : Int) ∧ 2 ≤ k ∧ k ≤ 100 ∧ 1 ≤ i.length ∧ i.length ≤ 100 ∧ Q (.str (repS i k)) H) := by
  intro pins s σ H x y v u Q I rx ry h
  obtain ⟨i, k, rfl, rfl, k2, k100, i1, i100, q⟩ := h
  obtain ⟨t, rfl⟩ := rx
  obtain ⟨t', rfl⟩ := ry
  have hne : ((k : Int) == 1 || i.length == 0) = false := by
    rw [Bool.or_eq_false_iff]
    exact ⟨by simp; omega, by simp; omega⟩
  have hbig : i.length * k ≤ 10000 := Nat.le_trans (Nat.mul_le_mul i100 k100) (by decide)
  refine P.mul_str (by rw [decide_eq_false (by omega), decide_eq_false (by omega)]; rfl) (fun _ _ => ?_) (fun _ _ => ?_) ?_
  · have h1 : (92233720368547758 : Int) ≤ (2 ^ 63 - 1) / (k : Int) := by
      rw [Int.le_ediv_iff_mul_le (by omega)]
      omega
    omega
  · rw [Int.toNat_natCast]
    unfold Builtin.Str.tooLong
    have : ¬ (i.length * k > sizeLine) := by rw [sizeLine_eq]; omega
    simpa using this
  · rw [if_neg (by omega), hne]
    show Made.post (Made.str _) _ _
    refine ⟨?_, ⟨.str (repS i k), H, I.tok _, ⟨_, rfl⟩, q⟩⟩
    have hl : (repS i k).length ≤ sizeLine := by
      rw [repS_len, Nat.mul_comm, sizeLine_eq]; omega
    exact hl
end
end L2

set_option Elab.async false
set_option linter.all false
set_option maxRecDepth 100000
set_option maxHeartbeats 4000000
namespace K75
open PySem L2
def top (i : Nat) : Stmt := PySem.Challenge.pw_manydeeds_k75_term_texts_refused.main.body.getD i (.Pass ⟨0, 0, 0, 0⟩)
abbrev s_NoKind___init__ : Stmt := inClass (top 2) 0
abbrev s_Twice___init__ : Stmt := inClass (top 3) 0
abbrev s_NoName___init__ : Stmt := inClass (top 4) 0
abbrev s_Ring___init__ : Stmt := inClass (top 5) 0
abbrev s_NoDeed___init__ : Stmt := inClass (top 6) 0
abbrev s_Same___init__ : Stmt := inClass (top 7) 0
abbrev s_NoText___init__ : Stmt := inClass (top 8) 0
abbrev s_is_word : Stmt := top 20
abbrev s_parts_of : Stmt := top 24
abbrev s_is_small : Stmt := top 25
abbrev s_is_figures : Stmt := top 28
abbrev s_split_parts : Stmt := top 29
abbrev s_read_part : Stmt := top 30
abbrev s_read_term : Stmt := top 31
abbrev s__law_pot : Stmt := top 33
abbrev s__law_take : Stmt := top 34
abbrev s__law_letters : Stmt := top 35
abbrev s__law_word : Stmt := top 36
abbrev s__law_classes : Stmt := top 37
abbrev s__law_is_word : Stmt := top 38
abbrev s__law_parts : Stmt := top 39
abbrev s__law_deep : Stmt := top 40
abbrev s__law_term_text : Stmt := top 41
abbrev s__law_any_term : Stmt := top 42
abbrev s__law_word_at : Stmt := top 43
abbrev s__law_term_read : Stmt := top 44
abbrev s__law_term_heard : Stmt := top 45
abbrev s__law_due : Stmt := top 46
abbrev s__law_bent : Stmt := top 47
abbrev s_law : Stmt := top 48
end K75

set_option Elab.async false
set_option linter.all false
set_option maxRecDepth 100000
set_option maxHeartbeats 4000000
namespace K75
open PySem L2 Md
/-! ### the law's own draws -/
def spPot (K : W.Frag) : Sp := fun vs H Q _ => ∃ (a : Addr) (k : Int) (ns : List Int), vs = [.ref a, .int k] ∧ SqL K H a (ns.map V.int) ∧ ns.length ≤ 100 ∧ 0 ≤ k ∧ k ≤ 1000 ∧ ∀ p o, H p = none → PotO o → Q (.ref p) (upd H p o)
def spTake : Sp := fun vs H Q _ => ∃ (p : Addr) (m : Int) (o : HO), vs = [.ref p, .int m] ∧ H p = some o ∧ PotO o ∧ 0 < m ∧ m < 4611686018427387904 ∧ ∀ (v : Int) o', 0 ≤ v → v < m → PotO o' → Q (.int v) (upd H p o')
def spLetters : Sp := fun vs H Q _ => ∃ n : Nat, vs = [.int n] ∧ n < 26 ^ 8 ∧ Q (.str (lettersS n)) H
section
variable {P : Program} {w : World} {K : W.Frag} {mg : Str → Option Value} {base : Heap}
theorem scPot : FnScope ["script", "k", "cell", "rest"] ["script", "k"] (defScope s__law_pot) := ⟨rfl, rfl, rfl, by decide +kernel, rfl, by decide +kernel, by decide +kernel⟩
theorem big_eq : (10 : Int) ^ (64 : Int).toNat * 10 ^ (64 : Int).toNat * 10 ^ (64 : Int).toNat * 10 ^ (64 : Int).toNat = 10 ^ 256 := by decide +kernel
theorem ok_pot {f : Addr} {fd : FuncData} (F : Def K mg "_law_pot" s__law_pot ["script", "k"] f fd) (len : mg "len" = none) : FnOk P w K mg base CX0 1 f fd ["script", "k"] (spPot K) := by
  refine F.fn.ok scPot (fun vs H Q E h => ?_) (fun cdv A outer s H vs Q E hr h => ?_)
  · obtain ⟨a, k, ns, rfl, _⟩ := h
    rfl
  · obtain ⟨a, k, ns, rfl, hS, hl, hk0, hk1, q⟩ := h
    refine ⟨_, pss_cons (ps_set (i := 2) scPot.nd rfl (Or.inl rfl) pe_int)
      (pss_cut (ps_if (pt_cmpR op_lt (pv 1) (pe_callB call_len (by rfl) len PySem.boot_len (pa_cons (pv 0) pa_nil)) (nomark _))
        (pss_one (ps_set (i := 2) scPot.nd rfl (Or.inl rfl) (pe_op op_mod (pe_ix ix_list (pv 0) (pv 1) (fun _ _ => rfl))
          (pe_op op_mulB (pe_op op_mulB (pe_op op_mulB (pe_op op_pow pe_int pe_int) (pe_op op_pow pe_int pe_int)) (pe_op op_pow pe_int pe_int)) (pe_op op_pow pe_int pe_int))))) pss_nil)
      (pss_cons (ps_set (i := 3) scPot.nd rfl (Or.inl rfl) pe_int)
      (pss_cut (ps_if (pt_cmpR op_ge (pv 2) (pe_op op_pow pe_int pe_int) (nomark _)) (pss_one (ps_set (i := 3) scPot.nd rfl (Or.inl rfl) (pv 2))) pss_nil)
      (pss_one (ps_ret (pe_lst (pa_cons (pv 3) (pa_cons (pe_op op_mod (pe_op op_mul (pe_op op_add (pe_op op_add (pe_op op_mod (pv 2) pe_int) (pe_op op_mul pe_int (pv 1))) pe_int) pe_int) pe_int) pa_nil)))))))), ?_⟩
    refine ⟨fun σ' H' => H' = H ∧ ∃ c : Int, 0 ≤ c ∧ c < 10 ^ 256 ∧ σ' = [some (.ref a), some (.int k), some (.int c), none], ?_, ?_⟩
    · refine ⟨_, rfl, _, rfl, _, _, rfl, .inl ⟨_, hS, rfl⟩, _, _, rfl, rfl, _, rfl, ?_⟩
      refine ite2 (fun h1 => ?_) (fun h1 => ?_)
      · have h1 : k < ((ns.map V.int).length : Int) := of_decide_eq_true h1
        rw [List.length_map] at h1
        have hi : k.toNat < ns.length := by omega
        have hat : atI (ns.map V.int) k = some (V.int ns[k.toNat]) := by
          have e : (ns.map V.int)[k.toNat]? = some (V.int ns[k.toNat]) := by rw [List.getElem?_map, List.getElem?_eq_getElem hi]; rfl
          have := atI_nat e
          rwa [Int.toNat_of_nonneg hk0] at this
        refine ⟨_, rfl, _, rfl, _, _, _, _, rfl, rfl, hS, hat, _, _, rfl, rfl, ⟨by decide, by decide, by decide +kernel⟩, _, _, rfl, rfl, ⟨by decide, by decide, by decide +kernel⟩, _, _, rfl, rfl, ⟨by decide +kernel, by decide +kernel⟩,
          _, _, rfl, rfl, ⟨by decide, by decide, by decide +kernel⟩, _, _, rfl, rfl, ⟨by decide +kernel, by decide +kernel⟩, _, _, rfl, rfl, ⟨by decide, by decide, by decide +kernel⟩, _, _, rfl, rfl, ⟨by decide +kernel, by decide +kernel⟩, _, _, rfl, rfl, ?_, rfl, _, ?_, ?_, rfl⟩
        · show (0 : Int) < _
          rw [big_eq]; decide +kernel
        · rw [big_eq]; exact Int.emod_nonneg _ (by decide +kernel)
        · rw [big_eq]; exact Int.emod_lt_of_pos _ (by decide +kernel)
      · exact ⟨rfl, 0, by decide, by decide +kernel, rfl⟩
    · rintro σ' H' ⟨rfl, c, hc0, hc1, rfl⟩
      refine ⟨fun σ2 H2 => H2 = H' ∧ ∃ r : Int, 0 ≤ r ∧ r < 10 ^ 256 ∧ σ2 = [some (.ref a), some (.int k), some (.int c), some (.int r)], ?_, ?_⟩
      · refine ⟨_, rfl, _, _, rfl, rfl, ⟨by decide, by decide, by decide +kernel⟩, _, _, rfl, rfl, _, rfl, ?_⟩
        refine ite2 (fun h1 => ?_) (fun h1 => ?_)
        · exact ⟨_, rfl, rfl, c, hc0, hc1, rfl⟩
        · exact ⟨rfl, 0, by decide, by decide +kernel, rfl⟩
      · rintro σ2 H2 ⟨rfl, r, hr0, hr1, rfl⟩
        have m0 := Int.emod_nonneg c (b := 2147483629) (by decide)
        have m1 := Int.emod_lt_of_pos c (b := 2147483629) (by decide)
        refine ⟨_, rfl, _, rfl, _, _, rfl, rfl, (by show (0 : Int) < 2147483629; decide), _, rfl, _, _, rfl, rfl, .inl ⟨by decide, by decide⟩, _, _, rfl, rfl, _, _, rfl, rfl, _, _, rfl, rfl, .inr ⟨by decide, by decide⟩, _, _, rfl, rfl, (by show (0 : Int) < 2147483647; decide), small_line (by show 2 ≤ 100000; decide), fun p hp => ?_⟩
        refine q p _ hp ⟨r, _, rfl, hr0, hr1, Int.emod_nonneg _ (by decide), Int.emod_lt_of_pos _ (by decide)⟩
theorem scTake : FnScope ["pot", "many", "found"] ["pot", "many"] (defScope s__law_take) := ⟨rfl, rfl, rfl, by decide +kernel, rfl, by decide +kernel, by decide +kernel⟩
theorem ok_take {f : Addr} {fd : FuncData} (F : Def K mg "_law_take" s__law_take ["pot", "many"] f fd) : FnOk P w K mg base CX0 1 f fd ["pot", "many"] spTake := by
  refine F.fn.ok scTake (fun vs H Q E h => ?_) (fun cdv A outer s H vs Q E hr h => ?_)
  · obtain ⟨p, m, o, rfl, _⟩ := h
    rfl
  · obtain ⟨p, m, o, rfl, hp, ⟨r, b, rfl, hr0, hr1, hb0, hb1⟩, hm0, hm1, q⟩ := h
    refine ⟨_, pss_cons (ps_if (pt_cmpR op_gt (pe_ix ix_list (pv 0) pe_int (fun _ _ => rfl)) pe_int (nomark _))
        (pss_cons (ps_set (i := 2) scTake.nd rfl (Or.inl rfl) (pe_op op_mod (pe_ix ix_list (pv 0) pe_int (fun _ _ => rfl)) (pv 1)))
        (pss_cons (ps_asg (pe_op op_fdivB (pe_ix ix_list (pv 0) pe_int (fun _ _ => rfl)) (pv 1)) (pg_sub (pv 0) pe_int set_list)) (pss_one (ps_ret (pv 2))))) pss_nil)
      (pss_cons (ps_asg (pe_op op_mod (pe_op op_add (pe_op op_mul (pe_ix ix_list (pv 0) pe_int (fun _ _ => rfl)) pe_int) pe_int) pe_int) (pg_sub (pv 0) pe_int set_list))
      (pss_one (ps_ret (pe_op op_mod (pe_op op_fdiv (pe_op op_mod (pe_op op_mul (pe_ix ix_list (pv 0) pe_int (fun _ _ => rfl)) (pe_ix ix_list (pv 0) pe_int (fun _ _ => rfl))) pe_int) pe_int) (pv 1))))), ?_⟩
    refine ⟨_, rfl, p, _, _, _, rfl, rfl, SqL.of hp, rfl, _, _, rfl, rfl, _, rfl, ?_⟩
    refine ite2 (fun h1 => ?_) (fun h1 => ?_)
    · refine ⟨_, rfl, p, _, _, _, rfl, rfl, SqL.of hp, rfl, _, rfl, _, _, rfl, rfl, hm0, ?_⟩
      refine ⟨_, rfl, p, _, _, _, rfl, rfl, SqL.of hp, rfl, _, rfl, _, _, rfl, rfl, ⟨hm0, hm1⟩, ?_⟩
      refine ⟨_, rfl, p, _, _, 0, rfl, rfl, hp, rfl, _, rfl, ?_⟩
      have h1 : 0 < r := of_decide_eq_true h1
      exact q _ _ (Int.emod_nonneg _ (by omega)) (Int.emod_lt_of_pos _ hm0) ⟨r / m, b, rfl, Int.ediv_nonneg hr0 (by omega), Int.lt_of_le_of_lt (Int.ediv_le_self _ hr0) hr1, hb0, hb1⟩
    · refine ⟨_, rfl, p, _, _, _, rfl, rfl, SqL.of hp, rfl, _, _, rfl, rfl, .inr ⟨by decide, by decide⟩, _, _, rfl, rfl, _, _, rfl, rfl, (by show (0 : Int) < 2147483647; decide), ?_⟩
      refine ⟨_, rfl, p, _, _, 1, rfl, rfl, hp, rfl, ?_⟩
      have m0 := Int.emod_nonneg (b * 69621 + 12345) (b := 2147483647) (by decide)
      have m1 := Int.emod_lt_of_pos (b * 69621 + 12345) (b := 2147483647) (by decide)
      refine ⟨_, rfl, p, _, _, _, rfl, rfl, SqL.of upd_same, rfl, _, rfl, p, _, _, _, rfl, rfl, SqL.of upd_same, rfl, _, _, rfl, rfl, .inl ⟨by omega, by omega⟩, _, _, rfl, rfl, (by show (0 : Int) < 2147483629; decide), _, _, rfl, rfl, ⟨by decide, by decide⟩, _, rfl, _, _, rfl, rfl, hm0, ?_⟩
      exact q _ _ (Int.emod_nonneg _ (by omega)) (Int.emod_lt_of_pos _ hm0) ⟨r, _, rfl, hr0, hr1, m0, m1⟩
/-! ### _law_letters -/
theorem scLet : FnScope ["number", "word"] ["number"] (defScope s__law_letters) := ⟨rfl, rfl, rfl, by decide +kernel, rfl, by decide +kernel, by decide +kernel⟩
theorem ok_letters {f : Addr} {fd : FuncData} (F : Def K mg "_law_letters" s__law_letters ["number"] f fd) : FnOk P w K mg base CX0 1 f fd ["number"] spLetters := by
  refine F.fn.ok scLet (fun vs H Q E h => ?_) (fun cdv A outer s H vs Q E hr h => ?_)
  · obtain ⟨n, rfl, _⟩ := h
    rfl
  · obtain ⟨n, rfl, hn, q⟩ := h
    have nd := scLet.nd
    refine ⟨_, pss_cons (ps_set (i := 1) nd rfl (Or.inl rfl) pe_str)
      (pss_cons (ps_while PassesOwn.never (pw_or (pt_cmpR op_eq (pv 1) pe_str (nomark _)) (pw_or1 (pt_cmpR op_gt (pv 0) pe_int (nomark _)))).pt
        (pss_cons (ps_set (i := 1) nd rfl (Or.inl rfl) (pe_op op_add_str (pv 1) (pe_ix ix_str pe_str (pe_op op_mod (pv 0) pe_int) (fun _ _ => rfl))))
        (pss_one (ps_set (i := 0) nd rfl (Or.inl rfl) (pe_op op_fdiv (pv 0) pe_int)))))
      (pss_one (ps_ret (pv 1)))), ?_⟩
    have e0 : ("" : Str).cps.toList = [] := by decide +kernel
    have hlen : (lettersF n).length ≤ 8 := lettersF_len 7 n hn
    refine ⟨fun m σ H2 => H2 = H ∧ ∃ (x : Str) (k : Nat), σ = [some (.int k), some (.str x)] ∧ m = k + (if x.cps.toList = [] then 1 else 0) ∧
      ((x.cps.toList = [] ∧ k = n) ∨ (x.cps.toList ≠ [] ∧ k = 0 ∧ x.cps.toList = lettersF n) ∨ (x.cps.toList ≠ [] ∧ 0 < k ∧ x.cps.toList ++ lettersF k = lettersF n)), ⟨_, rfl, _, n, rfl, rfl, .inl ⟨e0, rfl⟩⟩, ?_⟩
    rintro m σ H2 ⟨rfl, x, k, rfl, rfl, inv⟩
    -- one more sign
    have more : (x.cps.toList = [] ∨ 0 < k) → ∃ N : St → Hp → Prop, (∀ σ' H', N σ' H' → ∃ m', m' < k + (if x.cps.toList = [] then 1 else 0) ∧ (H' = H2 ∧ ∃ (y : Str) (j : Nat), σ' = [some (.int j), some (.str y)] ∧ m' = j + (if y.cps.toList = [] then 1 else 0) ∧
        ((y.cps.toList = [] ∧ j = n) ∨ (y.cps.toList ≠ [] ∧ j = 0 ∧ y.cps.toList = lettersF n) ∨ (y.cps.toList ≠ [] ∧ 0 < j ∧ y.cps.toList ++ lettersF j = lettersF n)))) ∧
        N [some (.int ((k : Int) / 26)), some (.str (x ++ ⟨#[97 + k % 26]⟩))] H2 := fun hk => by
      refine ⟨fun σ' H' => σ' = [some (.int ((k : Int) / 26)), some (.str (x ++ ⟨#[97 + k % 26]⟩))] ∧ H' = H2, ?_, rfl, rfl⟩
      rintro σ' H' ⟨rfl, rfl⟩
      have el : (x ++ ⟨#[97 + k % 26]⟩ : Str).cps.toList = x.cps.toList ++ [97 + k % 26] := app_list _ _
      have ne : (x ++ ⟨#[97 + k % 26]⟩ : Str).cps.toList ≠ [] := by rw [el]; simp
      have kd : ((k : Int) / 26) = ((k / 26 : Nat) : Int) := by omega
      have whole : (x.cps.toList ++ [97 + k % 26]) ++ (if k / 26 = 0 then [] else lettersF (k / 26)) = lettersF n := by
        rw [List.append_assoc, List.singleton_append, ← lettersF_eq]
        rcases inv with ⟨h1, h2⟩ | ⟨h1, h2, _⟩ | ⟨_, _, h3⟩
        · rw [h1, h2]; rfl
        · rcases hk with z | z
          · exact absurd z h1
          · omega
        · exact h3
      refine ⟨k / 26, ?_, rfl, _, k / 26, by rw [kd], by rw [if_neg ne]; rfl, ?_⟩
      · rcases hk with z | z
        · rw [if_pos z]; omega
        · have : k / 26 < k := by omega
          omega
      · right
        rw [el]
        by_cases z : k / 26 = 0
        · rw [if_pos z, List.append_nil] at whole
          exact .inl ⟨by simp, z, whole⟩
        · rw [if_neg z] at whole
          exact .inr ⟨by simp, by omega, whole⟩
    have xlen : x.length ≤ 8 := by
      rw [← str_len]
      rcases inv with ⟨h1, _⟩ | ⟨_, _, h3⟩ | ⟨_, _, h3⟩
      · rw [h1]; simp
      · rw [h3]; exact hlen
      · have := congrArg List.length h3
        rw [List.length_append] at this
        omega
    have at1 : atI letters.cps.toList ((k : Int) % 26) = some (97 + k % 26) := by
      have := atI_nat (letters_at (i := k % 26) (by omega))
      have e : ((k % 26 : Nat) : Int) = (k : Int) % 26 := by omega
      rwa [e] at this
    refine ⟨_, rfl, rfl, _, rfl, ?_⟩
    refine ite2 (fun h1 => ?_) (fun h1 => ?_)
    · have hx : x.cps.toList = [] := by
        have := of_decide_eq_true h1
        injection this with this
        rw [this]; exact e0
      obtain ⟨N, hN, n0⟩ := more (.inl hx)
      refine iteT ⟨N, hN, ?_⟩
      exact ⟨_, rfl, _, rfl, _, _, rfl, rfl, (by show (0 : Int) < 26; decide), _, _, _, rfl, rfl, small_line (by rw [← str_len, letters_eq]; decide), at1, _, _, rfl, rfl, small_line (by rw [len_one]; omega), _, rfl, _, _, rfl, rfl, ⟨by decide, by decide⟩, n0⟩
    · have hx : x.cps.toList ≠ [] := fun z => h1 (decide_eq_true (by rw [str_ext (z.trans e0.symm)]))
      refine ⟨_, rfl, _, _, rfl, rfl, _, rfl, ?_⟩
      refine ite2 (fun h2 => ?_) (fun h2 => ?_)
      · have hk : 0 < k := by have : (0 : Int) < (k : Int) := of_decide_eq_true h2; omega
        obtain ⟨N, hN, n0⟩ := more (.inr hk)
        refine ⟨N, hN, ?_⟩
        exact ⟨_, rfl, _, rfl, _, _, rfl, rfl, (by show (0 : Int) < 26; decide), _, _, _, rfl, rfl, small_line (by rw [← str_len, letters_eq]; decide), at1, _, _, rfl, rfl, small_line (by rw [len_one]; omega), _, rfl, _, _, rfl, rfl, ⟨by decide, by decide⟩, n0⟩
      · have hk : k = 0 := by
          have : ¬ (0 : Int) < (k : Int) := fun z => h2 (decide_eq_true z)
          omega
        have hf : x = lettersS n := by
          refine str_ext ?_
          rw [lettersS_list]
          rcases inv with ⟨h1, _⟩ | ⟨_, _, h3⟩ | ⟨_, h2, _⟩
          · exact absurd h1 hx
          · exact h3
          · omega
        rw [hf]
        exact ⟨_, rfl, q⟩
end
end K75

set_option Elab.async false
set_option linter.all false
set_option maxRecDepth 100000
set_option maxHeartbeats 4000000
namespace K75
open PySem L2 Md
/-! ### words -/
structure WordsOk (ws : List Str) : Prop where
  word : ∀ x ∈ ws, isWord x = true
  nd : ws.Nodup
def spWord : Sp := fun vs H Q _ => ∃ (p a : Addr) (ws : List Str), vs = [.ref p, .ref a] ∧ p ≠ a ∧ (∃ o, H p = some o ∧ PotO o) ∧ H a = some (.lst (ws.map V.str)) ∧ WordsOk ws ∧ ws.length ≤ 24 ∧
  ∀ x H', Drawn p H H' → isWord x = true → x ∉ ws → Q (.str x) H'
def some13 : List Str := ["kind", "under", "name", "deed", "gives", "with", "none", "clash", "a", "ab", "abc", "abcdefgh", "even"]
theorem some13_ok : some13.all isWord = true := by decide +kernel
theorem at_strs {ws : List Str} {v : Int} (h0 : 0 ≤ v) (h1 : v < ws.length) : ∃ x, x ∈ ws ∧ atI (ws.map V.str) v = some (.str x) := by
  have hi : v.toNat < ws.length := by omega
  have e : (ws.map V.str)[v.toNat]? = some (V.str ws[v.toNat]) := by rw [List.getElem?_map, List.getElem?_eq_getElem hi]; rfl
  have := atI_nat e
  rw [Int.toNat_of_nonneg h0] at this
  exact ⟨_, List.getElem_mem hi, this⟩
theorem ne_nil_dat (ws : List Str) : (!dEq (.list (ws.map W.Dat.str)) (.list [])) = true ↔ ws ≠ [] := by
  cases ws with
  | nil => simp [dEq_self]
  | cons w r =>
    rw [dEq_neg (by simp)]
    simp
theorem ok_dat {ws : List Str} (h : ∀ x ∈ ws, isWord x = true) : W.kqdOk 9 (.list (ws.map W.Dat.str)) = true := by
  show (ws.map W.Dat.str).all (W.kqdOk 8) = true
  rw [List.all_eq_true]
  intro d hd
  obtain ⟨x, hx, e⟩ := List.mem_map.mp hd
  rw [← e]
  exact word_ok (h x hx)
section
variable {P : Program} {w : World} {K : W.Frag} {mg : Str → Option Value} {base : Heap}
theorem scWord : FnScope ["pot", "words", "some", "way", "word", "number"] ["pot", "words"] (defScope s__law_word) := ⟨rfl, rfl, rfl, by decide +kernel, rfl, by decide +kernel, by decide +kernel⟩
theorem prefix_word {x y : Str} {n : Nat} (hn : 1 ≤ n) (h : y.cps.toList = x.cps.toList.take n) (h1 : 1 ≤ x.length) (h8 : x.length ≤ 8 ∨ n ≤ 8) (hl : ∀ c ∈ x.cps.toList, isLow c = true) : isWord y = true := by
  rw [isWord_iff, h, List.length_take, str_len]
  refine ⟨⟨by omega, by omega⟩, fun c hc => hl c (List.mem_of_mem_take hc)⟩
def tupStrs : Expr → Option (List Str)
  | .Tuple es _ _ => strsOf es
  | _ => none
theorem pe_tupOf {X : Cx} {ws : List Str} : ∀ {e : Expr}, tupStrs e = some ws → PE X e (tTup (fun _ H Q => Q (ws.map V.str) H)) := by
  intro e h
  cases e with
  | Tuple es x p => exact pe_tup (pa_strsOf h)
  | _ => cases h
def bodyE : Stmt → Expr
  | .Assign _ e _ => e
  | _ => .Constant (.int 0) 0 ⟨0, 0, 0, 0⟩
def hdS : List Stmt → Stmt
  | s :: _ => s
  | [] => .Pass ⟨0, 0, 0, 0⟩
theorem e13 : tupStrs (bodyE (hdS (defBody s__law_word))) = some some13 := by decide +kernel
def t13 : TE := tTup (fun _ H Q => Q (some13.map V.str) H)
theorem pe_13g {X : Cx} {e : Expr} (h : tupStrs e = some some13) : PE X e t13 := pe_tupOf h
def isTup : Expr → Bool
  | .Tuple _ _ _ => true
  | _ => false
theorem sw_tup {e : Expr} {t : Option Expr} {l : Nat} {env : Env} (h : isTup e = true) : swapsWith e t l env = pure false := by
  cases e with
  | Tuple es x p => rfl
  | _ => cases h
def asgs : Stmt → Option (Str × Expr)
  | .Assign [.Name x _] e _ => some (x, e)
  | _ => none
theorem ps_asgs {X : Cx} {st : Stmt} {i : Nat} {x : Str} {e : Expr} {te : TE} (h : asgs st = some (x, e)) (he : PE X e te) (ht : isTup e = true) (hN : X.N.Nodup) (hi : X.N[i]? = some x) (hx : Loc X.env.scope x) (hf : X.fn x = true ∨ X.env.scope.names.lookup x = some .local) : PS X st (tAsg te (gName i)) := by
  unfold asgs at h
  split at h
  · next x' p' e' p =>
    have h1 : x' = x := congrArg Prod.fst (Option.some.inj h)
    have h2 : e' = e := congrArg Prod.snd (Option.some.inj h)
    subst h1
    subst h2
    exact ps_set hN hi hx he (sw_tup ht) hf
  · cases h
def s13 : Stmt := hdS (defBody s__law_word)
def e13x : Expr := bodyE s13
theorem a13 : asgs s13 = some (("some" : Str), e13x) := by rfl
theorem u13 : isTup e13x = true := by decide +kernel
theorem p13 {X : Cx} : PE X e13x t13 := @pe_13g X e13x e13
theorem ps_13 {X : Cx} (hN : X.N.Nodup) (hi : X.N[2]? = some ("some" : Str)) (hx : Loc X.env.scope ("some" : Str)) (hf : X.fn ("some" : Str) = true ∨ X.env.scope.names.lookup ("some" : Str) = some NameKind.local) : PS X s13 (tAsg t13 (gName 2)) :=
  @ps_asgs X s13 2 ("some" : Str) e13x t13 a13 (@p13 X) u13 hN hi hx hf
def tlS : List Stmt → List Stmt
  | _ :: r => r
  | [] => []
theorem pss_hd {X : Cx} {l : List Stmt} {t u : TS} (h0 : l.isEmpty = false) (h1 : PS X (hdS l) t) (h2 : PSs X (tlS l) u) : PSs X l (tSeq t u) := by
  cases l with
  | nil => cases h0
  | cons a r => exact pss_cons h1 h2
theorem n13 : (defBody s__law_word).isEmpty = false := by decide +kernel
theorem pss_13 {X : Cx} {u : TS} (hN : X.N.Nodup) (hi : X.N[2]? = some ("some" : Str)) (hx : Loc X.env.scope ("some" : Str)) (hf : X.fn ("some" : Str) = true ∨ X.env.scope.names.lookup ("some" : Str) = some NameKind.local) (h2 : PSs X (tlS (defBody s__law_word)) u) : PSs X (defBody s__law_word) (tSeq (tAsg t13 (gName 2)) u) :=
  @pss_hd X (defBody s__law_word) (tAsg t13 (gName 2)) u n13 (@ps_13 X hN hi hx hf) h2
theorem ex_13 {X : Cx} {D : Ends} {σ : St} {H : Hp} (hN : X.N.Nodup) (hi : X.N[2]? = some ("some" : Str)) (hx : Loc X.env.scope ("some" : Str)) (hf : X.fn ("some" : Str) = true ∨ X.env.scope.names.lookup ("some" : Str) = some NameKind.local)
    (h : ∃ u, PSs X (tlS (defBody s__law_word)) u ∧ tSeq (tAsg t13 (gName 2)) u D σ H) : ∃ t, PSs X (defBody s__law_word) t ∧ t D σ H := by
  obtain ⟨u, h1, h2⟩ := h
  exact ⟨tSeq (tAsg t13 (gName 2)) u, @pss_13 X u hN hi hx hf h1, h2⟩
theorem ok_word {f fT fL : Addr} {fd fdT fdL : FuncData} (F : Def K mg "_law_word" s__law_word ["pot", "words"] f fd) (DT : Def K mg "_law_take" s__law_take ["pot", "many"] fT fdT) (DL : Def K mg "_law_letters" s__law_letters ["number"] fL fdL) (len : mg "len" = none) :
    FnOk P w K mg base CX0 2 f fd ["pot", "words"] spWord := by
  have GT : FnOk P w K mg base CX0 1 fT fdT ["pot", "many"] spTake := ok_take DT
  have GL : FnOk P w K mg base CX0 1 fL fdL ["number"] spLetters := ok_letters DL
  refine F.fn.ok scWord (fun vs H Q E h => ?_) (fun cdv A outer s H vs Q E hr h => ?_)
  · obtain ⟨p, a, ws, rfl, _⟩ := h
    rfl
  · obtain ⟨p, a, ws, rfl, hpa, hpot, ha, hw, hl24, q⟩ := h
    have nd := scWord.nd
    have hu := hr.units
    refine @ex_13 _ _ _ _ nd rfl (Or.inl rfl) (Or.inl rfl) ?_
    refine ⟨_, (pss_cons (ps_set (i := 3) nd rfl (Or.inl rfl) (pe_callD DT GT hr (pa_cons (pv 0) (pa_cons pe_int pa_nil))))
      (pss_cons (ps_set (i := 4) nd rfl (Or.inl rfl) (pe_ix ix_tup (pv 2) (pe_callD DT GT hr (pa_cons (pv 0) (pa_cons pe_int pa_nil))) (fun _ _ => rfl)))
      (pss_cut (ps_if (pt_cmpR op_eq (pv 3) pe_int (nomark _)) (pss_one (ps_set (i := 4) nd rfl (Or.inl rfl) (pe_callD DL GL hr (pa_cons (pe_callD DT GT hr (pa_cons (pv 0) (pa_cons (pe_op op_sub (pe_op op_pow pe_int pe_int) pe_int) pa_nil))) pa_nil)))) pss_nil)
      (pss_cut (ps_if (pw_and (pt_cmpR op_eq (pv 3) pe_int (nomark _)) (pw_and1 (pt_cmpR (op_neD hu) (pv 1) (pe_lst pa_nil) (nomark _)))).pt
        (pss_cons (ps_set (i := 4) nd rfl (Or.inl rfl) (pe_ix ix_list (pv 1) (pe_callD DT GT hr (pa_cons (pv 0) (pa_cons (pe_callB call_len (by rfl) len PySem.boot_len (pa_cons (pv 1) pa_nil)) pa_nil))) (fun _ _ => rfl)))
        (pss_one (ps_set (i := 4) nd rfl (Or.inl rfl) (pe_slice sl_str (pe_op op_add_str (pv 4) (pe_callD DL GL hr (pa_cons (pe_callD DT GT hr (pa_cons (pv 0) (pa_cons pe_int pa_nil))) pa_nil))) po_none (po_some pe_int))))) pss_nil)
      (pss_cut (ps_if (pw_and (pt_cmpR op_eq (pv 3) pe_int (nomark _)) (pw_and1 (pt_cmpR (op_neD hu) (pv 1) (pe_lst pa_nil) (nomark _)))).pt
        (pss_cons (ps_set (i := 4) nd rfl (Or.inl rfl) (pe_ix ix_list (pv 1) (pe_callD DT GT hr (pa_cons (pv 0) (pa_cons (pe_callB call_len (by rfl) len PySem.boot_len (pa_cons (pv 1) pa_nil)) pa_nil))) (fun _ _ => rfl)))
        (pss_one (ps_set (i := 4) nd rfl (Or.inl rfl) (pe_slice sl_str (pv 4) po_none (po_some (pe_op op_add pe_int (pe_callD DT GT hr (pa_cons (pv 0) (pa_cons (pe_callB call_len (by rfl) len PySem.boot_len (pa_cons (pv 4) pa_nil)) pa_nil))))))))) pss_nil)
      (pss_cons (ps_set (i := 5) nd rfl (Or.inl rfl) pe_int)
      (pss_cons (ps_while PassesOwn.never (pt_cmpR op_in_seq (pv 4) (pv 1) (by with_unfolding_all rfl))
        (pss_cons (ps_set (i := 4) nd rfl (Or.inl rfl) (pe_callD DL GL hr (pa_cons (pv 5) pa_nil)))
        (pss_one (ps_set (i := 5) nd rfl (Or.inl rfl) (pe_op op_add (pv 5) pe_int)))))
      (pss_one (ps_ret (pv 4)))))))))), ?_⟩
    have hap : a ≠ p := Ne.symm hpa
    obtain ⟨o0, hp0, ho0⟩ := hpot
    have wl : ∀ {H' : Hp}, Drawn p H H' → SqL K H' a (ws.map V.str) := fun d => SqL.of (d.keep _ _ hap ha)
    -- some = (..); way; word = some[..]
    refine ⟨small_line (by show 13 ≤ 100000; decide), fun t ht => ?_⟩
    have d1 : Drawn p H (upd H t (.tup (some13.map V.str))) := (Drawn.refl ⟨o0, hp0, ho0⟩).new ht
    have tp : t ≠ p := fun e => by rw [e, hp0] at ht; cases ht
    refine ⟨_, rfl, p, 4, o0, rfl, (by rw [upd_ne (Ne.symm tp)]; exact hp0), ho0, by decide, by decide, fun way o1 hw0 hw1 ho1 => ?_⟩
    refine ⟨_, rfl, _, rfl, p, 13, o1, rfl, upd_same, ho1, by decide, by decide, fun v o2 hv0 hv1 ho2 => ?_⟩
    obtain ⟨x0, hx0, hat⟩ := at_strs (ws := some13) hv0 (by show v < 13; exact hv1)
    refine ⟨t, some13.map V.str, _, _, rfl, rfl, SqT.of (by rw [upd_ne tp, upd_ne tp]; exact upd_same), hat, ?_⟩
    have w0 : isWord x0 = true := List.all_eq_true.mp some13_ok x0 hx0
    have d3 : Drawn p H (upd (upd (upd H t (.tup (some13.map V.str))) p o1) p o2) := (d1.trans (Drawn.upd ho1)).trans (Drawn.upd ho2)
    -- the three ways
    refine ⟨fun σ' H' => ∃ x : Str, σ' = [some (.ref p), some (.ref a), some (.ref t), some (.int way), some (.str x), none] ∧ isWord x = true ∧ Drawn p H H', ?_, ?_⟩
    · refine ⟨_, rfl, rfl, _, rfl, ?_⟩
      refine ite2 (fun _ => ?_) (fun _ => ?_)
      · obtain ⟨o3, hp3, ho3⟩ := d3.pot
        refine ⟨_, rfl, _, _, rfl, rfl, ⟨by decide, by decide, by decide +kernel⟩, _, _, rfl, rfl, p, _, o3, rfl, hp3, ho3, by decide, by decide, fun v o4 hv0 hv1 ho4 => ?_⟩
        have hv1 : v < 208827064550 := hv1
        refine ⟨v.toNat, by rw [Int.toNat_of_nonneg hv0]; rfl, by omega, _, rfl, lettersS_word (by omega), d3.trans (Drawn.upd ho4)⟩
      · exact ⟨x0, rfl, w0, d3⟩
    · rintro σ' H1 ⟨x1, rfl, w1, d4⟩
      refine ⟨fun σ' H' => ∃ x : Str, σ' = [some (.ref p), some (.ref a), some (.ref t), some (.int way), some (.str x), none] ∧ isWord x = true ∧ Drawn p H H', ?_, ?_⟩
      · refine ⟨_, rfl, rfl, _, rfl, ?_⟩
        refine ite2 (fun _ => ?_) (fun _ => iteF ⟨x1, rfl, w1, d4⟩)
        refine ⟨_, rfl, Nat.zero_le _, fun t2 ht2 => ⟨.list (ws.map W.Dat.str), .list [], .list ((wl d4).mono_new ht2) (reps_strs ws), .list (SqL.of upd_same) .nil, ok_dat hw.word, rfl, _, rfl, ?_⟩⟩
        have d5 : Drawn p H (upd H1 t2 (.lst [])) := d4.new ht2
        refine ite2 (fun hne => ?_) (fun _ => ⟨x1, rfl, w1, d5⟩)
        have hne : ws ≠ [] := (ne_nil_dat ws).mp hne
        have hpos : 0 < ws.length := List.length_pos_iff.mpr hne
        obtain ⟨o5, hp5, ho5⟩ := d5.pot
        refine ⟨_, rfl, _, rfl, _, rfl, _, _, rfl, .inl ⟨_, wl d5, rfl⟩, p, _, o5, rfl, hp5, ho5, by rw [List.length_map]; omega, by rw [List.length_map]; omega, fun v o6 hv0 hv1 ho6 => ?_⟩
        rw [List.length_map] at hv1
        obtain ⟨x2, hx2, hat2⟩ := at_strs (ws := ws) hv0 hv1
        have d6 : Drawn p H (upd (upd H1 t2 (.lst [])) p o6) := d5.trans (Drawn.upd ho6)
        have w2 : isWord x2 = true := hw.word x2 hx2
        refine ⟨a, ws.map V.str, _, _, rfl, rfl, wl d6, hat2, ?_⟩
        refine ⟨_, rfl, _, rfl, p, 26, o6, rfl, upd_same, ho6, by decide, by decide, fun v o7 hv0 hv1 ho7 => ?_⟩
        refine ⟨v.toNat, by rw [Int.toNat_of_nonneg hv0]; rfl, by omega, ?_⟩
        have wl3 : isWord (lettersS v.toNat) = true := lettersS_word (by omega)
        have l2 := word_len w2
        have l3 := word_len wl3
        refine ⟨_, _, rfl, rfl, small_line (by omega), _, rfl, _, rfl, small_line (by rw [len_app]; omega), ?_⟩
        refine ⟨_, rfl, ?_, d6.trans (Drawn.upd ho7)⟩
        refine prefix_word (x := x2 ++ lettersS v.toNat) (n := 8) (by decide) (slice_take _ 8 (by decide)) (by rw [len_app]; omega) (.inr (Nat.le_refl _)) fun c hc => ?_
        rw [app_list] at hc
        rcases List.mem_append.mp hc with hc | hc
        · exact ((isWord_iff x2).mp w2).2 c hc
        · exact ((isWord_iff _).mp wl3).2 c hc
      · rintro σ' H2 ⟨x2, rfl, w2, d5⟩
        refine ⟨fun σ' H' => ∃ x : Str, σ' = [some (.ref p), some (.ref a), some (.ref t), some (.int way), some (.str x), none] ∧ isWord x = true ∧ Drawn p H H', ?_, ?_⟩
        · refine ⟨_, rfl, rfl, _, rfl, ?_⟩
          refine ite2 (fun _ => ?_) (fun _ => iteF ⟨x2, rfl, w2, d5⟩)
          refine ⟨_, rfl, Nat.zero_le _, fun t2 ht2 => ⟨.list (ws.map W.Dat.str), .list [], .list ((wl d5).mono_new ht2) (reps_strs ws), .list (SqL.of upd_same) .nil, ok_dat hw.word, rfl, _, rfl, ?_⟩⟩
          have d6 : Drawn p H (upd H2 t2 (.lst [])) := d5.new ht2
          refine ite2 (fun hne => ?_) (fun _ => ⟨x2, rfl, w2, d6⟩)
          have hne : ws ≠ [] := (ne_nil_dat ws).mp hne
          have hpos : 0 < ws.length := List.length_pos_iff.mpr hne
          obtain ⟨o6, hp6, ho6⟩ := d6.pot
          refine ⟨_, rfl, _, rfl, _, rfl, _, _, rfl, .inl ⟨_, wl d6, rfl⟩, p, _, o6, rfl, hp6, ho6, by rw [List.length_map]; omega, by rw [List.length_map]; omega, fun v o7 hv0 hv1 ho7 => ?_⟩
          rw [List.length_map] at hv1
          obtain ⟨x3, hx3, hat3⟩ := at_strs (ws := ws) hv0 hv1
          have d7 : Drawn p H (upd (upd H2 t2 (.lst [])) p o7) := d6.trans (Drawn.upd ho7)
          have w3 : isWord x3 = true := hw.word x3 hx3
          have l3 := word_len w3
          refine ⟨a, ws.map V.str, _, _, rfl, rfl, wl d7, hat3, ?_⟩
          refine ⟨_, rfl, _, rfl, _, rfl, _, _, rfl, ⟨small_line (by omega), rfl⟩, p, _, o7, rfl, upd_same, ho7, by omega, by omega, fun v o8 hv0 hv1 ho8 => ?_⟩
          refine ⟨_, _, rfl, rfl, _, rfl, _, rfl, small_line (by omega), ?_⟩
          refine ⟨_, rfl, ?_, d7.trans (Drawn.upd ho8)⟩
          exact prefix_word (x := x3) (n := (1 + v).toNat) (by omega) (slice_take _ (1 + v) (by omega)) (by omega) (.inl (by omega)) ((isWord_iff x3).mp w3).2
        · rintro σ' H3 ⟨x3, rfl, w3, d6⟩
          -- while word in words
          refine ⟨fun m σ H' => ∃ (x : Str) (n : Nat), σ = [some (.ref p), some (.ref a), some (.ref t), some (.int way), some (.str x), some (.int n)] ∧ isWord x = true ∧ Drawn p H H' ∧ m = ws.length + 1 - n ∧ n ≤ ws.length + 1 ∧
            (n = 0 ∨ x = lettersS (n - 1)) ∧ ∀ j, j + 1 < n → lettersS j ∈ ws, ⟨_, x3, 0, rfl, w3, d6, rfl, by omega, .inl rfl, fun j hj => by omega⟩, ?_⟩
          rintro m σ H4 ⟨x, n, rfl, wx, dx, rfl, hn, hxn, hall⟩
          refine ⟨_, rfl, _, rfl, a, _, rfl, .inl (wl dx), rfl, flat_strs ws, _, rfl, ?_⟩
          show if inV (.str x) (ws.map V.str) = true then _ else _
          rw [in_strs]
          refine ite2 (fun hin => ?_) (fun hin => ?_)
          · have hin : x ∈ ws := of_decide_eq_true hin
            have all : ∀ j, j < n → lettersS j ∈ ws := fun j hj => by
              by_cases z : j + 1 < n
              · exact hall j z
              · rcases hxn with e | e
                · omega
                · have : j = n - 1 := by omega
                  rw [this, ← e]; exact hin
            have hle : n ≤ ws.length := by
              have := Graph.nodup_le (l := (List.range n).map lettersS) (k := ws) ?_ ?_
              · simpa using this
              · rw [List.nodup_iff_pairwise_ne, List.pairwise_map]
                exact (List.nodup_iff_pairwise_ne.mp List.nodup_range).imp fun h e => h (lettersS_inj e)
              · intro y hy
                obtain ⟨j, hj, e⟩ := List.mem_map.mp hy
                rw [← e]
                exact all j (List.mem_range.mp hj)
            refine ⟨fun σ' H' => σ' = [some (.ref p), some (.ref a), some (.ref t), some (.int way), some (.str (lettersS n)), some (.int ((n : Int) + 1))] ∧ H' = H4, ?_, ?_⟩
            · rintro σ' H' ⟨rfl, rfl⟩
              exact ⟨ws.length + 1 - (n + 1), by omega, lettersS n, n + 1, rfl, lettersS_word (by omega), dx, rfl, by omega, .inr rfl, fun j hj => all j (by omega)⟩
            · exact ⟨_, rfl, n, rfl, by omega, _, rfl, _, _, rfl, rfl, rfl, rfl⟩
          · have hin : x ∉ ws := fun z => hin (decide_eq_true z)
            exact ⟨_, rfl, q x H4 dx wx hin⟩
end
end K75

set_option Elab.async false
set_option linter.all false
set_option maxRecDepth 100000
set_option maxHeartbeats 4000000
namespace K75
open PySem L2 Md
def spIsWord : Sp := fun vs H Q _ => ∃ x : Str, vs = [.str x] ∧ x.length ≤ 1000 ∧ ∀ H', Same H H' → Q (.bl (isWord x)) H'
structure TxtK (mg : Str → Option Value) : Prop where
  letters : ∃ t, mg "LETTERS" = some (.str letters t)
  most : ∃ t, mg "MOST_LETTERS" = some (.int 8 t)
  len : mg "len" = none
  all : mg "all" = none
section
variable {P : Program} {w : World} {K : W.Frag} {mg : Str → Option Value} {base : Heap}
theorem scW : FnScope ["text"] ["text"] (defScope s_is_word) := ⟨rfl, rfl, rfl, by decide +kernel, rfl, by decide +kernel, by decide +kernel⟩
theorem nd_sign : (["sign"] : List Str).Nodup := by decide +kernel
theorem ok_isword {f : Addr} {fd : FuncData} (F : Def K mg "is_word" s_is_word ["text"] f fd) (T : TxtK mg) : FnOk P w K mg base CX0 1 f fd ["text"] spIsWord := by
  refine F.fn.ok scW (fun vs H Q E h => ?_) (fun cdv A outer s H vs Q E hr h => ?_)
  · obtain ⟨x, rfl, _⟩ := h
    rfl
  · obtain ⟨x, rfl, hx, k⟩ := h
    obtain ⟨t1, hl⟩ := T.letters
    obtain ⟨t2, hm⟩ := T.most
    refine ⟨_, pss_cons (ps_if (pt_not (pt_chain op_le op_le pe_int (pe_callB call_len (by rfl) T.len PySem.boot_len (pa_cons (pv 0) pa_nil)) (pe_glob (v := .int 8) (by rfl) hm ⟨_, rfl⟩))) (pss_one (ps_ret pe_bl)) pss_nil)
      (pss_one (ps_ret (pe_callB (call_all rfl) (by rfl) T.all PyProof.Rows.boot_all (pa_cons
        (pe_comp ["sign"] [] [] (fun _ => compT_ok (osc := defScope s_is_word) (on := ["text"]) (by decide +kernel) rfl rfl rfl) (pi_str (pv 0)) (fun C s H fp => pg_name (i := 0) nd_sign rfl (Or.inl rfl) (Or.inr rfl)) (fun C s H fp => pts_nil)
          (fun C s H fp => pe_cmpR op_in_str (pv 0) (pe_glob (v := .str letters) (by rfl) hl ⟨_, rfl⟩) (by with_unfolding_all rfl))) pa_nil)))), ?_⟩
    refine ⟨_, rfl, _, _, rfl, ⟨small_line (by omega), rfl⟩, _, _, rfl, rfl, _, rfl, ?_⟩
    have no : ¬ (1 ≤ x.length ∧ x.length ≤ 8) → isWord x = false := fun h => by unfold isWord; rw [decide_eq_false h]; rfl
    have same : Same H H := Same.refl H
    refine ite2 (fun h1 => ?_) (fun h1 => ?_)
    · have h1 : (1 : Int) ≤ (x.length : Int) := of_decide_eq_true h1
      refine ⟨_, _, rfl, rfl, _, rfl, ?_⟩
      refine ite2 (fun h2 => ?_) (fun h2 => ?_)
      · have h2 : ¬ ((x.length : Int) ≤ 8) := by simpa using h2
        have q := k H same
        rw [no (by omega)] at q
        exact q
      · have h2 : ((x.length : Int) ≤ 8) := by simpa using h2
        refine ⟨_, rfl, _, rfl, comp_pure runs_str (by unfold signsV; rw [List.length_map, str_len]; exact small_line (by omega)) (fun _ => true) inLet (fun _ _ _ => trivial) ?_ ?_ ?_⟩
        · intro D ys v R _ _ hR
          exact hR
        · intro D ys v R _ hv _ hR
          obtain ⟨c, _, e⟩ := List.mem_map.mp hv
          subst e
          exact ⟨_, rfl, _, _, rfl, rfl, hR⟩
        · intro D hD
          refine ⟨D, x.cps.toList.map isLow, rfl, SqL.of (by rw [← signs_low]; exact upd_same), ?_⟩
          have e : (x.cps.toList.map isLow).all id = isWord x := by
            unfold isWord
            rw [decide_eq_true (by omega), Bool.true_and, List.all_map]
            rfl
          have q := k (upd H D (.lst (((signsV x).filter fun _ => true).map inLet))) fun b o hb => by rw [upd_ne (ne_of_none hb hD)]; exact hb
          rw [← e] at q
          exact q
    · have h1 : ¬ ((1 : Int) ≤ (x.length : Int)) := fun z => h1 (decide_eq_true z)
      refine ⟨_, rfl, ?_⟩
      refine iteT ?_
      have q := k H same
      rw [no (by omega)] at q
      exact q
end
end K75

set_option Elab.async false
set_option linter.all false
set_option maxRecDepth 100000
set_option maxHeartbeats 4000000
namespace K75
open PySem L2 Md
abbrev Dt := W.Dat
theorem tupsS {H H' : Hp} (s : Same H H') : ∀ b xs, H b = some (.tup xs) → H' b = some (.tup xs) := fun _ _ e => s _ _ e
theorem at0 (v : V) (vs : List V) : atI (v :: vs) 0 = some v := atI_nat (j := 0) rfl
end K75

set_option Elab.async false
set_option linter.all false
set_option maxRecDepth 100000
set_option maxHeartbeats 4000000
namespace K75
open PySem L2 Md
/-! ### terms and what is none -/
mutual
inductive TmV (H : Hp) : Dt → V → Prop
  | int (i : Int) : TmV H (.int i) (.int i)
  | str (x : Str) (hx : PyData.strOk x = true) : TmV H (.str x) (.str x)
  | tup {a : Addr} {vs : List V} {ds : List Dt} : H a = some (.tup vs) → TmsV H ds vs → TmV H (.tuple ds) (.ref a)
inductive TmsV (H : Hp) : List Dt → List V → Prop
  | nil : TmsV H [] []
  | cons {d : Dt} {ds : List Dt} {v : V} {vs : List V} : TmV H d v → TmsV H ds vs → TmsV H (d :: ds) (v :: vs)
end
mutual
theorem TmV.keep {H H' : Hp} (k : ∀ b xs, H b = some (.tup xs) → H' b = some (.tup xs)) : ∀ {d : Dt} {v : V}, TmV H d v → TmV H' d v
  | _, _, .int i => .int i
  | _, _, .str x hx => .str x hx
  | _, _, .tup h t => .tup (k _ _ h) (t.keep k)
theorem TmsV.keep {H H' : Hp} (k : ∀ b xs, H b = some (.tup xs) → H' b = some (.tup xs)) : ∀ {ds : List Dt} {vs : List V}, TmsV H ds vs → TmsV H' ds vs
  | _, _, .nil => .nil
  | _, _, .cons h t => .cons (h.keep k) (t.keep k)
end
mutual
theorem TmV.rep {K : W.Frag} {H : Hp} : ∀ {d : Dt} {v : V}, TmV H d v → Rep K H v d
  | _, _, .int i => .int i
  | _, _, .str x _ => .str x
  | _, _, .tup h t => .tuple (SqT.of h) t.reps
theorem TmsV.reps {K : W.Frag} {H : Hp} : ∀ {ds : List Dt} {vs : List V}, TmsV H ds vs → Reps K H vs ds
  | _, _, .nil => .nil
  | _, _, .cons h t => .cons h.rep t.reps
end
mutual
theorem TmV.lay {H : Hp} : ∀ {d : Dt} {v : V}, TmV H d v → (W.kqdP d).canLay0 = true
  | _, _, .int i => by rw [W.kqdP]; rfl
  | _, _, .str x hx => by rw [W.kqdP]; exact hx
  | _, _, .tup h t => by rw [W.kqdP]; exact t.lays
theorem TmsV.lays {H : Hp} : ∀ {ds : List Dt} {vs : List V}, TmsV H ds vs → PyData.canLayAll0 (W.kqdPs ds) = true
  | _, _, .nil => by rw [W.kqdPs]; rfl
  | _, _, .cons h t => by
    rw [W.kqdPs]
    show (_ && _) = true
    rw [h.lay, t.lays]
    rfl
end
theorem TmsV.layL {H : Hp} {ds : List Dt} {vs : List V} (h : TmsV H ds vs) : (W.kqdP (.list ds)).canLay0 = true := by rw [W.kqdP]; exact h.lays
theorem TmsV.length {H : Hp} : ∀ {ds : List Dt} {vs : List V}, TmsV H ds vs → ds.length = vs.length
  | _, _, .nil => rfl
  | _, _, .cons _ t => by rw [List.length_cons, List.length_cons, t.length]
theorem TmsV.append {H : Hp} : ∀ {ds es : List Dt} {vs us : List V}, TmsV H ds vs → TmsV H es us → TmsV H (ds ++ es) (vs ++ us)
  | _, _, _, _, .nil, h => h
  | _, _, _, _, .cons a t, h => .cons a (t.append h)
theorem TmsV.at_ {H : Hp} : ∀ {ds : List Dt} {vs : List V}, TmsV H ds vs → ∀ {i : Nat} {v : V}, vs[i]? = some v → ∃ d, ds[i]? = some d ∧ TmV H d v
  | _, _, .cons h t, 0, v, e => by
    rw [List.getElem?_cons_zero] at e
    cases e
    exact ⟨_, rfl, h⟩
  | _, _, .cons h t, i + 1, v, e => by
    rw [List.getElem?_cons_succ] at e
    exact t.at_ e
  | _, _, .nil, i, v, e => by simp at e
theorem TmsV.drop {H : Hp} : ∀ {ds : List Dt} {vs : List V}, TmsV H ds vs → ∀ n, TmsV H (ds.drop n) (vs.drop n)
  | _, _, h, 0 => h
  | _, _, .nil, n + 1 => .nil
  | _, _, .cons _ t, n + 1 => t.drop n
def kids : Dt → List Dt
  | .tuple ds => ds.drop 1
  | _ => []
theorem lvl_ex : ∃ f : Nat → List Dt → List Dt, (∀ l, f 0 l = l) ∧ ∀ k l, f (k + 1) l = (f k l).flatMap kids := ⟨fun k l => Nat.rec l (fun _ r => r.flatMap kids) k, fun _ => rfl, fun _ _ => rfl⟩
noncomputable def lvl : Nat → List Dt → List Dt := Classical.choose lvl_ex
theorem lvl_zero (l : List Dt) : lvl 0 l = l := (Classical.choose_spec lvl_ex).1 l
theorem lvl_succ (k : Nat) (l : List Dt) : lvl (k + 1) l = (lvl k l).flatMap kids := (Classical.choose_spec lvl_ex).2 k l
theorem cnt_ex : ∃ f : Nat → List Dt → Nat, (∀ l, f 0 l = 0) ∧ ∀ k l, f (k + 1) l = f k l + (lvl k l).length := ⟨fun k l => Nat.rec 0 (fun k r => r + (lvl k l).length) k, fun _ => rfl, fun _ _ => rfl⟩
noncomputable def cntL : Nat → List Dt → Nat := Classical.choose cnt_ex
theorem cntL_zero (l : List Dt) : cntL 0 l = 0 := (Classical.choose_spec cnt_ex).1 l
theorem cntL_succ (k : Nat) (l : List Dt) : cntL (k + 1) l = cntL k l + (lvl k l).length := (Classical.choose_spec cnt_ex).2 k l
noncomputable def smallB (d : Dt) : Bool := (lvl 12 [d]).isEmpty && decide (cntL 12 [d] ≤ 40)
theorem cut1 (xs : List V) : cutV xs (some 1) none = xs.drop 1 := by
  unfold cutV
  have e : HT.sIx xs.length 0 (some (1 : Int)) = min 1 xs.length := HT.sIx_nat xs.length 0 1
  rw [e, HT.sIx_none]
  cases xs with
  | nil => rfl
  | cons x r =>
    have e2 : min 1 (x :: r).length = 1 := by rw [List.length_cons]; omega
    rw [e2]
    exact List.take_of_length_le (by rw [List.length_drop]; omega)
def spIsNum : Sp := fun vs H Q _ => ∃ (d : Dt) (v : V), vs = [v] ∧ TmV H d v ∧ Q (.bl (match d with | .int _ => true | _ => false)) H
def spParts : Sp := fun vs H Q _ => ∃ (l : Addr) (ds : List Dt) (us : List V), vs = [.ref l] ∧ H l = some (.lst us) ∧ TmsV H ds us ∧ (ds.flatMap kids).length ≤ 1000 ∧ ∀ l' us' H', H l' = none → Same H H' → H' l' = some (.lst us') → TmsV H' (ds.flatMap kids) us' → Q (.ref l') H'
def spSmall : Sp := fun vs H Q _ => ∃ (d : Dt) (v : V), vs = [v] ∧ TmV H d v ∧ (∀ k, (lvl k [d]).length ≤ 1000) ∧ ∀ H', Same H H' → Q (.bl (smallB d)) H'
structure TxtT (mg : Str → Option Value) : Prop where
  isi : mg "isinstance" = none
  int : mg "int" = none
  bool : mg "bool" = none
  tuple : mg "tuple" = none
  len : mg "len" = none
  range : mg "range" = none
theorem flat_take {α β : Type} (f : α → List β) : ∀ (l : List α) (i : Nat), ((l.take i).flatMap f).length ≤ (l.flatMap f).length
  | [], i => by rw [List.take_nil]; exact Nat.le_refl _
  | a :: l, 0 => Nat.zero_le _
  | a :: l, i + 1 => by
    have := flat_take f l i
    rw [List.take_succ_cons, List.flatMap_cons, List.flatMap_cons, List.length_append, List.length_append]
    omega
section
variable {P : Program} {w : World} {K : W.Frag} {mg : Str → Option Value} {base : Heap}
abbrev nPO : List Str := ["level", "parts", "part"]
theorem scPO : FnScope nPO ["level"] (defScope s_parts_of) := ⟨rfl, rfl, rfl, by decide +kernel, rfl, by decide +kernel, by decide +kernel⟩
theorem ok_parts {f : Addr} {fd : FuncData} (F : Def K mg "parts_of" s_parts_of ["level"] f fd) (T : TxtT mg) : FnOk P w K mg base CX0 1 f fd ["level"] spParts := by
  refine F.fn.ok scPO (fun vs H Q E h => ?_) (fun cdv A outer s H vs Q E hr h => ?_)
  · obtain ⟨l, ds, us, rfl, _⟩ := h
    rfl
  · obtain ⟨l, ds, us, rfl, hl, hT, hz, q⟩ := h
    have nd := scPO.nd
    refine' ⟨_, (pss_cons (ps_set (i := 1) nd rfl (Or.inl rfl) (pe_lst pa_nil))
      (pss_cons (ps_for PassesOwn.never rfl (pi_list (pv 0)) (pg_name (i := 2) nd rfl (Or.inl rfl))
        (pss_one (ps_if (pt_val (pe_callB call_isi (by rfl) T.isi PyProof.Rows.boot_isinstance (pa_cons (pv 2) (pa_cons (pe_bltn (v := .ty "tuple") (by rfl) T.tuple PyProof.Rows.boot_tuple rfl) pa_nil))))
          (pss_one (ps_expr (pe_bm PySem.F.plainAttrs_list PySem.F.slot_list_extend PySem.F.type_list_extend mt_extT (pv 1) (pa_cons (pe_slice (r := rSlA K) sl_tupA (pv 2) (po_some pe_int) po_none) pa_nil)))) pss_nil)))
      (pss_one (ps_ret (pv 1))))), ?_⟩
    refine ⟨Nat.zero_le _, fun p hp => ?_⟩
    have s1 : Same H (upd H p (.lst [])) := snew hp
    have lp : l ≠ p := ne_of_none hl hp
    have dl := hT.length
    refine ⟨_, rfl, l, rfl, ⟨_, SqL.of (s1 _ _ hl)⟩, for_runs (runs_list (xs := us)) (fun i σ H' => ∃ (x : Option V) (ws : List V), σ = [some (.ref l), some (.ref p), x] ∧ Same H H' ∧ H' p = some (.lst ws) ∧ TmsV H' ((ds.take i).flatMap kids) ws)
      ⟨none, [], rfl, s1, upd_same, by rw [List.take_zero]; exact .nil⟩ (fun i σ H' _ ⟨_, _, _, s, _⟩ => SqL.of (s _ _ hl)) ?_ ?_⟩
    · rintro i v σ H2 hi ⟨x, ws, rfl, s2, hp2, hW⟩
      obtain ⟨d, hd, hv⟩ := hT.at_ hi
      have e : (ds.take (i + 1)).flatMap kids = (ds.take i).flatMap kids ++ kids d := by
        rw [List.take_add_one, hd]
        simp [List.flatMap_append]
      have lz := flat_take kids ds (i + 1)
      rw [e, List.length_append] at lz
      have wl := hW.length
      cases hv with
      | int j => exact ⟨_, rfl, _, _, _, _, rfl, .int j, rfl, _, rfl, iteF ⟨_, ws, rfl, s2, hp2, by rw [e]; show TmsV H2 (_ ++ []) ws; rw [List.append_nil]; exact hW⟩⟩
      | str j hj => exact ⟨_, rfl, _, _, _, _, rfl, .str j, rfl, _, rfl, iteF ⟨_, ws, rfl, s2, hp2, by rw [e]; show TmsV H2 (_ ++ []) ws; rw [List.append_nil]; exact hW⟩⟩
      | @tup a vs es ha ht =>
        refine ⟨_, rfl, _, _, _, _, rfl, .tup (s2 _ _ ha), rfl, _, rfl, iteT ⟨_, rfl, .inl ⟨rfl, _, SqL.of hp2⟩, _, rfl, _, rfl, ?_⟩⟩
        unfold tNoPart
        refine rSlA_of (K := K) (lo := some 1) (hi := none) (s2 _ _ ha) fun b H3 s3 hb => ?_
        rw [cut1] at hb
        have hp3 := s3 _ _ hp2
        have bp : b ≠ p := fun z => by rw [z, hp3] at hb; cases hb
        have kd : TmsV H3 (kids (.tuple es)) (vs.drop 1) := (ht.keep fun b xs e => s3 _ _ (s2 _ _ e)).drop 1
        have kl := kd.length
        refine ⟨p, b, _, _, rfl, rfl, hp3, SqT.of hb, small_line (by omega), _, _, rfl, fun b' o e' => by rw [upd_ne (ne_of_none e' hp)]; exact s3 _ _ (s2 _ _ e'), upd_same, ?_⟩
        rw [e]
        have tk : ∀ b xs, H3 b = some (.tup xs) → (upd H3 p (.lst (ws ++ vs.drop 1))) b = some (.tup xs) := fun b xs e => by rw [upd_ne (fun z => by rw [z, hp3] at e; cases e)]; exact e
        exact ((hW.keep (tupsS s3)).keep tk).append (kd.keep tk)
    · rintro σ H2 ⟨x, ws, rfl, s2, hp2, hW⟩
      rw [← dl, List.take_length] at hW
      exact ⟨_, rfl, q p ws H2 hp s2 hp2 hW⟩
abbrev nSm : List Str := ["term", "level", "number", "deep"]
theorem scSm : FnScope nSm ["term"] (defScope s_is_small) := ⟨rfl, rfl, rfl, by decide +kernel, rfl, by decide +kernel, by decide +kernel⟩
theorem ok_small {f fP : Addr} {fd fdP : FuncData} {T1 T2 : Tok} (F : Def K mg "is_small" s_is_small ["term"] f fd) (T : TxtT mg) (c1 : mg "MOST_DEEP" = some (.int 12 T1)) (c2 : mg "MOST_PARTS" = some (.int 40 T2)) (DP : Def K mg "parts_of" s_parts_of ["level"] fP fdP) : FnOk P w K mg base CX0 2 f fd ["term"] spSmall := by
  have GP : FnOk P w K mg base CX0 1 fP fdP ["level"] spParts := ok_parts DP T
  refine F.fn.ok scSm (fun vs H Q E h => ?_) (fun cdv A outer s H vs Q E hr h => ?_)
  · obtain ⟨d, v, rfl, _⟩ := h
    rfl
  · obtain ⟨d, v, rfl, hv, hz, q⟩ := h
    have nd := scSm.nd
    refine' ⟨_, (pss_cons (ps_set (i := 1) nd rfl (Or.inl rfl) (pe_lst (pa_cons (pv 0) pa_nil)))
      (pss_cons (ps_set (i := 2) nd rfl (Or.inl rfl) pe_int)
      (pss_cons (ps_for PassesOwn.never rfl (pi_range1 (by rfl) T.range (pa_cons (pe_glob (v := .int 12) (by rfl) c1 ⟨_, rfl⟩) pa_nil)) (pg_name (i := 3) nd rfl (Or.inl rfl))
        (pss_cons (ps_set (i := 2) nd rfl (Or.inl rfl) (pe_op op_add (pv 2) (pe_callB call_len_seq (by rfl) T.len PySem.boot_len (pa_cons (pv 1) pa_nil))))
      (pss_one (ps_set (i := 1) nd rfl (Or.inl rfl) (pe_callD DP GP hr (pa_cons (pv 1) pa_nil))))))
      (pss_one (ps_ret (pe_and (pe_notL (pv 1)) (pe_one (pe_cmpR op_le (pv 2) (pe_glob (v := .int 40) (by rfl) c2 ⟨_, rfl⟩) (nomark _))))))))), ?_⟩
    refine ⟨_, rfl, small_line (by show 1 ≤ 100000; decide), fun p hp => ?_⟩
    have s1 : Same H (upd H p (.lst [v])) := snew hp
    refine ⟨12, rfl, by decide, by decide, for_runs runs_range (fun i σ H' => ∃ (x : Option V) (l : Addr) (us : List V), σ = [some v, some (.ref l), some (.int (cntL i [d] : Nat)), x] ∧ Same H H' ∧ H' l = some (.lst us) ∧ TmsV H' (lvl i [d]) us)
      ⟨none, p, [v], by rw [cntL_zero]; rfl, s1, upd_same, by rw [lvl_zero]; exact .cons (hv.keep (tupsS s1)) .nil⟩ (fun _ _ _ _ _ => trivial) ?_ ?_⟩
    · rintro i v' σ H2 hi ⟨x, l, us, rfl, s2, hl2, hT2⟩
      obtain ⟨hi, rfl⟩ := rangeV_get hi
      have ll := hT2.length
      have hz1 := hz (i + 1)
      rw [lvl_succ] at hz1
      refine ⟨_, rfl, _, rfl, l, us, rfl, .inl (SqL.of hl2), _, _, rfl, rfl, ?_⟩
      refine ⟨_, rfl, l, _, us, rfl, hl2, hT2, hz1, fun l' us' H3 hl' s3 hl3 hT3 => ⟨some (.int (0 + (i : Int))), l', us', ?_, s2.trans s3, hl3, by rw [lvl_succ]; exact hT3⟩⟩
      have e : ((cntL i [d] : Nat) : Int) + (us.length : Int) = ((cntL (i + 1) [d] : Nat) : Int) := by
        rw [cntL_succ, ll]
        omega
      rw [← e]
      rfl
    · rintro σ H2 ⟨x, l, us, rfl, s2, hl2, hT2⟩
      have ll := hT2.length
      have len12 : (rangeV 0 (12 : Int).toNat).length = 12 := by decide
      rw [len12] at hT2 ll
      rw [len12]
      have q2 := q H2 s2
      unfold smallB at q2
      have e : (lvl 12 [d]).isEmpty = us.isEmpty := by
        cases us with
        | nil => exact List.isEmpty_iff.mpr (List.length_eq_zero_iff.mp ll)
        | cons u r =>
          cases hh : lvl 12 [d] with
          | nil => rw [hh] at ll; cases ll
          | cons => rfl
      rw [e] at q2
      refine ⟨_, rfl, _, .inl ⟨us, SqL.of hl2, rfl⟩, _, rfl, ?_⟩
      cases us with
      | nil =>
        refine iteT ⟨_, rfl, _, _, rfl, rfl, ?_⟩
        have z : decide (((cntL 12 [d] : Nat) : Int) ≤ 40) = decide (cntL 12 [d] ≤ 40) := by
          congr 1
          exact propext ⟨fun h => by omega, fun h => by omega⟩
        show Q (.bl (decide (((cntL 12 [d] : Nat) : Int) ≤ 40))) H2
        rw [z]
        exact q2
      | cons u r => exact iteF q2
end
end K75

set_option Elab.async false
set_option linter.all false
set_option maxRecDepth 100000
set_option maxHeartbeats 4000000
namespace K75
open PySem L2 Md
theorem lvl_append : ∀ (k : Nat) (a b : List Dt), lvl k (a ++ b) = lvl k a ++ lvl k b
  | 0, a, b => by rw [lvl_zero, lvl_zero, lvl_zero]
  | k + 1, a, b => by rw [lvl_succ, lvl_succ, lvl_succ, lvl_append k, List.flatMap_append]
theorem lvl_in : ∀ (k : Nat) (l : List Dt), lvl (k + 1) l = lvl k (l.flatMap kids)
  | 0, l => by rw [lvl_succ, lvl_zero, lvl_zero]
  | k + 1, l => by rw [lvl_succ, lvl_in k, lvl_succ]
theorem cntL_append : ∀ (k : Nat) (a b : List Dt), cntL k (a ++ b) = cntL k a + cntL k b
  | 0, a, b => by rw [cntL_zero, cntL_zero, cntL_zero]
  | k + 1, a, b => by rw [cntL_succ, cntL_succ, cntL_succ, cntL_append k, lvl_append, List.length_append]; omega
theorem cntL_in : ∀ (k : Nat) (l : List Dt), cntL (k + 1) l = l.length + cntL k (l.flatMap kids)
  | 0, l => by rw [cntL_succ, cntL_zero, cntL_zero, lvl_zero]; omega
  | k + 1, l => by rw [cntL_succ, cntL_in k, cntL_succ, lvl_in]; omega
theorem lvl_cnt (k : Nat) (l : List Dt) : (lvl k l).length ≤ cntL (k + 1) l := by rw [cntL_succ]; omega
theorem kids_one (d : Dt) : [d].flatMap kids = kids d := by simp
theorem cnt_nil : ∀ k, cntL k [] = 0
  | 0 => cntL_zero _
  | k + 1 => by rw [cntL_in]; show 0 + cntL k [] = 0; rw [cnt_nil k]
theorem cnt_int (i : Int) : ∀ k, cntL k [.int i] ≤ 1
  | 0 => by rw [cntL_zero]; omega
  | k + 1 => by rw [cntL_in, kids_one]; show 1 + cntL k [] ≤ 1; rw [cnt_nil]; exact Nat.le_refl _
theorem cnt_tup (h : Dt) (ds : List Dt) : ∀ k, cntL (k + 1) [.tuple (h :: ds)] = 1 + cntL k ds := fun k => by rw [cntL_in, kids_one]; rfl
structure TmSt (p r : Addr) (H H' : Hp) (ρ : Nat) : Prop where
  keep : ∀ b o, b ≠ p → b ≠ r → H b = some o → H' b = some o
  pot : ∃ o, H' p = some o ∧ PotO o
  room : H' r = some (.lst [.int ρ])
end K75

set_option Elab.async false
set_option linter.all false
set_option maxRecDepth 100000
set_option maxHeartbeats 4000000
namespace K75
open PySem L2 Md
/-! ### terms of words and numbers -/
/-- names with parts, numbers below a hundred -/
def tkB : Nat → Dt → Bool
  | 0, _ => false
  | k + 1, d => match d with
    | .int i => decide (0 ≤ i) && decide (i < 100)
    | .tuple (.str w :: c :: cs) => isWord w && (c :: cs).all (tkB k)
    | _ => false
theorem tk_int {dp : Nat} {v : Int} (h : 1 ≤ dp) (h0 : 0 ≤ v) (h1 : v < 100) : tkB dp (.int v) = true := by
  obtain ⟨k, rfl⟩ : ∃ k, dp = k + 1 := ⟨dp - 1, by omega⟩
  show (decide (0 ≤ v) && decide (v < 100)) = true
  rw [decide_eq_true h0, decide_eq_true h1]
  rfl
theorem tk_tup {dp : Nat} {x : Str} {c : Dt} {cs : List Dt} (h : 2 ≤ dp) (hw : isWord x = true) (hk : ∀ d ∈ c :: cs, tkB (dp - 1) d = true) : tkB dp (.tuple (.str x :: c :: cs)) = true := by
  obtain ⟨k, rfl⟩ : ∃ k, dp = k + 1 := ⟨dp - 1, by omega⟩
  show (isWord x && (c :: cs).all (tkB k)) = true
  rw [hw, Bool.true_and, List.all_eq_true]
  exact hk
theorem tk_inv {k : Nat} {d : Dt} (h : tkB (k + 1) d = true) : (∃ i : Nat, d = .int i ∧ i < 100) ∨ ∃ x c cs, d = .tuple (.str x :: c :: cs) ∧ isWord x = true ∧ ∀ e ∈ c :: cs, tkB k e = true := by
  cases d with
  | int i =>
    have h : (decide (0 ≤ i) && decide (i < (100 : Int))) = true := h
    rw [Bool.and_eq_true] at h
    have h1 := of_decide_eq_true h.1
    have h2 := of_decide_eq_true h.2
    exact .inl ⟨i.toNat, by rw [Int.toNat_of_nonneg h1], by omega⟩
  | tuple ds =>
    match ds, h with
    | .str x :: c :: cs, h =>
      have h : (isWord x && (c :: cs).all (tkB k)) = true := h
      rw [Bool.and_eq_true, List.all_eq_true] at h
      exact .inr ⟨x, c, cs, rfl, h.1, h.2⟩
  | _ => cases h
def spAny (j : Nat) : Sp := fun vs H Q _ => ∃ (p r : Addr) (ρ dp : Nat), vs = [.ref p, .ref r, .int dp] ∧ 1 ≤ dp ∧ dp ≤ j ∧ (∃ o, H p = some o ∧ PotO o) ∧ H r = some (.lst [.int ρ]) ∧ p ≠ r ∧ ρ ≤ 100 ∧
  ∀ (v : V) (d : Dt) (ρ' : Nat) (H' : Hp), TmSt p r H H' ρ' → TmV H' d v → tkB dp d = true → (∀ k, cntL k [d] + ρ' ≤ 1 + ρ) → Q v H'
structure TxtA (mg : Str → Option Value) : Prop where
  min : mg "min" = none
  tuple : mg "tuple" = none
  range : mg "range" = none
section
variable {P : Program} {w : World} {K : W.Frag} {mg : Str → Option Value} {base : Heap}
abbrev nAn : List Str := ["pot", "room", "deep", "many", "word"]
abbrev pAn : List Str := ["pot", "room", "deep"]
abbrev cAn : List Str := ["k", "deep", "pot", "room"]
theorem nd_cAn : cAn.Nodup := by decide +kernel
theorem scAn : FnScope nAn pAn (defScope s__law_any_term) := ⟨rfl, rfl, rfl, by decide +kernel, rfl, by decide +kernel, by decide +kernel⟩
set_option maxHeartbeats 8000000 in
theorem ok_any {f fT fW : Addr} {fd fdT fdW : FuncData} (F : Def K mg "_law_any_term" s__law_any_term pAn f fd) (T : TxtA mg) (DT : Def K mg "_law_take" s__law_take ["pot", "many"] fT fdT) (GT : FnOk P w K mg base CX0 1 fT fdT ["pot", "many"] spTake) (DW : Def K mg "_law_word" s__law_word ["pot", "words"] fW fdW) (GW : FnOk P w K mg base CX0 2 fW fdW ["pot", "words"] spWord) :
    ∀ j, FnOk P w K mg base CX0 (3 + j) f fd pAn (spAny j) := by
  intro j
  induction j with
  | zero =>
    refine F.fn.ok scAn (fun vs H Q E h => ?_) (fun cdv A outer s H vs Q E hr h => ?_)
    · obtain ⟨p, r, ρ, dp, rfl, _⟩ := h
      rfl
    · obtain ⟨p, r, ρ, dp, rfl, h1, h2, _⟩ := h
      omega
  | succ j GS =>
    refine F.fn.ok scAn (fun vs H Q E h => ?_) (fun cdv A outer s H vs Q E hr h => ?_)
    · obtain ⟨p, r, ρ, dp, rfl, _⟩ := h
      rfl
    · obtain ⟨p, r, ρ, dp, rfl, dp1, hdp, ⟨o, hp, ho⟩, hr0, hpr, hρ, q⟩ := h
      have nd := scAn.nd
      have hr1 : Room 1 _ := hr.mono (show 1 ≤ 3 + j by omega)
      have hr2 : Room 2 _ := hr.mono (show 2 ≤ 3 + j by omega)
      refine' ⟨_, (pss_cons (ps_if (PW.pt (pw_or (pt_cmpR op_lt (pv 2) pe_int (nomark _)) (pw_or (pt_cmpR op_lt (pe_ix (r := rIxL K) ix_list (pv 1) pe_int (fun _ _ => rfl)) pe_int (nomark _)) (pw_or1 (pt_cmpR op_eq (pe_callD DT GT hr1 (pa_cons (pv 0) (pa_cons pe_int pa_nil))) pe_int (nomark _)))))) (pss_one (ps_ret (pe_callD DT GT hr1 (pa_cons (pv 0) (pa_cons (pe_ix (r := rIxT K) ix_tup (pe_tup (pa_cons pe_int (pa_cons pe_int pa_nil))) (pe_callD DT GT hr1 (pa_cons (pv 0) (pa_cons pe_int pa_nil))) (fun _ _ => rfl)) pa_nil))))) pss_nil)
      (pss_cons (ps_set (i := 3) nd rfl (Or.inl rfl) (pe_op op_add pe_int (pe_callD DT GT hr1 (pa_cons (pv 0) (pa_cons (pe_callB (call_min2 rfl) (by rfl) T.min PyProof.Rows.boot_min (pa_cons pe_int (pa_cons (pe_ix (r := rIxL K) ix_list (pv 1) pe_int (fun _ _ => rfl)) pa_nil))) pa_nil)))))
      (pss_cons (ps_asg (pe_op op_sub (pe_ix (r := rIxL K) ix_list (pv 1) pe_int (fun _ _ => rfl)) (pv 3)) (pg_sub (pv 1) pe_int set_list))
      (pss_cons (ps_set (i := 4) nd rfl (Or.inl rfl) (pe_callD DW GW hr2 (pa_cons (pv 0) (pa_cons (pe_lst pa_nil) pa_nil))))
      (pss_one (ps_ret (pe_op op_catA (pe_tup (pa_cons (pv 4) pa_nil)) (pe_callTy call_tuple_of (by rfl) T.tuple PyProof.Rows.boot_tuple (pa_cons ?eC pa_nil))))))))), ?_⟩
      case eC => exact (pe_comp ["k"] ["deep", "pot", "room"] [2, 0, 1] (fun _ => compT_ok (osc := defScope s__law_any_term) (on := nAn) (by decide +kernel) rfl rfl rfl) (pi_range1 (by rfl) T.range (pa_cons (pv 3) pa_nil)) (fun C s H fp => pg_name (i := 0) nd_cAn rfl (Or.inl rfl) (Or.inr rfl)) (fun C s H fp => pts_nil) (fun C s H fp => pe_callD F GS hr (pa_cons (pv 2) (pa_cons (pv 3) (pa_cons (pe_op op_sub (pv 1) pe_int) pa_nil)))))
      have fin : ∀ (HX : Hp) (oX : HO), (∀ b o, b ≠ p → b ≠ r → H b = some o → HX b = some o) → HX p = some oX → PotO oX → HX r = some (.lst [.int ρ]) → ∀ (v : Int) (o' : HO), 0 ≤ v → v < 100 → PotO o' → Q (.int v) (upd HX p o') := fun HX oX kX _ _ rX v o' a0 a1 ho' =>
        q (.int v) (.int v) ρ _ ⟨fun b u hb hb2 e => by rw [upd_ne hb]; exact kX b u hb hb2 e, ⟨o', upd_same, ho'⟩, by rw [upd_ne (Ne.symm hpr)]; exact rX⟩ (.int v) (tk_int dp1 a0 a1) (fun k => by have := cnt_int v k; omega)
      have num : ∀ (HX : Hp) (oX : HO), (∀ b o, b ≠ p → b ≠ r → H b = some o → HX b = some o) → HX p = some oX → PotO oX → HX r = some (.lst [.int ρ]) → tCall spTake [] E0 (tCons (tVar 0) (tCons (tOp (rIxT K) (tTup (tCons (tC (.int 10)) (tCons (tC (.int 100)) tNil))) (tCall spTake [] E0 (tCons (tVar 0) (tCons (tC (.int 2)) tNil)))) tNil)) [some (.ref p), some (.ref r), some (.int dp), none, none] HX Q := fun HX oX kX pX oX' rX => by
        refine ⟨_, rfl, small_line (by show 2 ≤ 100000; decide), fun t ht => ?_⟩
        have sX : Same HX (upd HX t (.tup [.int 10, .int 100])) := snew ht
        have htt : (upd HX t (.tup [.int 10, .int 100])) t = some (.tup [.int 10, .int 100]) := upd_same
        generalize upd HX t (.tup [.int 10, .int 100]) = HY at sX htt
        have tp : t ≠ p := fun z => by rw [z, sX _ _ pX] at htt; obtain ⟨_, _, q', _⟩ := oX'; rw [q'] at htt; cases htt
        refine ⟨_, rfl, p, 2, oX, rfl, sX _ _ pX, oX', by decide, by decide, fun vi o2 i0 i1 ho2 => ?_⟩
        have kY : ∀ b o, b ≠ p → b ≠ r → H b = some o → (upd HY p o2) b = some o := fun b o hb hb2 e => by rw [upd_ne hb]; exact sX _ _ (kX _ _ hb hb2 e)
        have pY : (upd HY p o2) p = some o2 := upd_same
        have rY : (upd HY p o2) r = some (.lst [.int ρ]) := by rw [upd_ne (Ne.symm hpr)]; exact sX _ _ rX
        have tY : (upd HY p o2) t = some (.tup [.int 10, .int 100]) := by rw [upd_ne tp]; exact htt
        generalize upd HY p o2 = HZ at kY pY rY tY
        obtain ⟨m, hm, m0, m1⟩ : ∃ m : Int, atI [V.int 10, V.int 100] vi = some (.int m) ∧ 0 < m ∧ m ≤ 100 := by
          have : vi = 0 ∨ vi = 1 := by omega
          rcases this with rfl | rfl
          · exact ⟨10, rfl, by decide, by decide⟩
          · exact ⟨100, rfl, by decide, by decide⟩
        exact ⟨t, _, _, _, rfl, rfl, SqT.of tY, hm, p, m, o2, rfl, pY, ho2, m0, by omega, fun v o' a0 a1 ho' => fin HZ o2 kY pY ho2 rY v o' a0 (by omega) ho'⟩
      have kH : ∀ b o, b ≠ p → b ≠ r → H b = some o → H b = some o := fun _ _ _ _ e => e
      refine ⟨_, rfl, _, _, rfl, rfl, _, rfl, ite2 (fun _ => num H o kH hp ho hr0) (fun hz2 => ?_)⟩
      have dp2 : 2 ≤ dp := by
        have : ¬ ((dp : Int) < 2) := fun z => hz2 (decide_eq_true z)
        omega
      refine ⟨_, rfl, r, _, _, _, rfl, rfl, SqL.of hr0, rfl, _, _, rfl, rfl, _, rfl, ite2 (fun _ => num H o kH hp ho hr0) (fun hz3 => ?_)⟩
      have ρ1 : 1 ≤ ρ := by
        have : ¬ ((ρ : Int) < 1) := fun z => hz3 (decide_eq_true z)
        omega
      refine ⟨_, rfl, p, 4, o, rfl, hp, ho, by decide, by decide, fun v4 o4 _ _ ho4 => ⟨rfl, _, rfl, ?_⟩⟩
      have k4 : ∀ b u, b ≠ p → b ≠ r → H b = some u → (upd H p o4) b = some u := fun b u hb _ e => by rw [upd_ne hb]; exact e
      have hp4 : (upd H p o4) p = some o4 := upd_same
      have hr4 : (upd H p o4) r = some (.lst [.int ρ]) := by rw [upd_ne (Ne.symm hpr)]; exact hr0
      generalize upd H p o4 = H4 at k4 hp4 hr4
      refine ite2 (fun _ => num H4 o4 k4 hp4 ho4 hr4) (fun _ => ?_)
      obtain ⟨mn, emn, mn1, mn2⟩ : ∃ mn : Nat, (if ((ρ : Int) < 10) then (ρ : Int) else 10) = (mn : Int) ∧ 1 ≤ mn ∧ mn ≤ ρ := by
        by_cases h : (ρ : Int) < 10
        · rw [if_pos h]; exact ⟨ρ, rfl, ρ1, Nat.le_refl _⟩
        · rw [if_neg h]; exact ⟨10, rfl, by decide, by omega⟩
      refine ⟨_, rfl, _, rfl, r, _, _, _, rfl, rfl, SqL.of hr4, rfl, _, _, rfl, p, (mn : Int), o4, (by rw [← emn]; rfl), hp4, ho4, by omega, by omega, fun v5 o5 h50 h51 ho5 => ⟨_, _, rfl, rfl, ?_⟩⟩
      obtain ⟨j5, rfl⟩ := Int.eq_ofNat_of_zero_le h50
      obtain ⟨m, em, m1, mρ⟩ : ∃ m : Nat, (1 : Int) + (j5 : Int) = (m : Int) ∧ 1 ≤ m ∧ m ≤ ρ := ⟨1 + j5, by omega, by omega, by omega⟩
      have k5 : ∀ b u, b ≠ p → b ≠ r → H b = some u → (upd H4 p o5) b = some u := fun b u hb hb2 e => by rw [upd_ne hb]; exact k4 _ _ hb hb2 e
      have hp5 : (upd H4 p o5) p = some o5 := upd_same
      have hr5 : (upd H4 p o5) r = some (.lst [.int ρ]) := by rw [upd_ne (Ne.symm hpr)]; exact hr4
      generalize upd H4 p o5 = H5 at k5 hp5 hr5
      dsimp only
      rw [em]
      refine ⟨_, rfl, r, _, _, _, rfl, rfl, SqL.of hr5, rfl, _, rfl, _, _, rfl, rfl, _, rfl, r, _, _, 0, rfl, rfl, hr5, rfl, ?_⟩
      have er : ((ρ : Int) - (m : Int)) = ((ρ - m : Nat) : Int) := by omega
      have k6 : ∀ b u, b ≠ p → b ≠ r → H b = some u → (upd H5 r (.lst [.int ((ρ - m : Nat) : Int)])) b = some u := fun b u hb hb2 e => by rw [upd_ne hb2]; exact k5 _ _ hb hb2 e
      have hp6 : (upd H5 r (.lst [.int ((ρ - m : Nat) : Int)])) p = some o5 := by rw [upd_ne hpr]; exact hp5
      have hr6 : (upd H5 r (.lst [.int ((ρ - m : Nat) : Int)])) r = some (.lst [.int ((ρ - m : Nat) : Int)]) := upd_same
      rw [← er] at k6 hp6 hr6
      dsimp only [List.set_cons_zero]
      generalize upd H5 r (.lst [.int ((ρ : Int) - (m : Int))]) = H6 at k6 hp6 hr6 ⊢
      rw [er] at hr6
      refine ⟨_, rfl, Nat.zero_le _, fun lw hlw => ?_⟩
      have s6w : Same H6 (upd H6 lw (.lst [])) := snew hlw
      have hw0 : (upd H6 lw (.lst [])) lw = some (.lst []) := upd_same
      generalize upd H6 lw (.lst []) = H6w at s6w hw0
      have plw : p ≠ lw := ne_of_none hp6 hlw
      have rlw : r ≠ lw := ne_of_none hr6 hlw
      refine ⟨p, lw, [], rfl, plw, ⟨o5, s6w _ _ hp6, ho5⟩, hw0, ⟨(fun _ h => nomatch h), List.nodup_nil⟩, by decide, fun x H6x dx hx _ => ?_⟩
      obtain ⟨o6, hp6x, ho6⟩ := dx.pot
      have k6x : ∀ b u, b ≠ p → b ≠ r → H b = some u → H6x b = some u := fun b u hb hb2 e => dx.keep _ _ hb (s6w _ _ (k6 _ _ hb hb2 e))
      have hr6x := dx.keep _ _ (Ne.symm hpr) (s6w _ _ hr6)
      refine ⟨_, rfl, small_line (by show 1 ≤ 100000; decide), fun t1 ht1 => ?_⟩
      have s67 : Same H6x (upd H6x t1 (.tup [.str x])) := snew ht1
      have ht17 : (upd H6x t1 (.tup [.str x])) t1 = some (.tup [.str x]) := upd_same
      generalize upd H6x t1 (.tup [.str x]) = H7 at s67 ht17
      have hp7 := s67 _ _ hp6x
      have hr7 := s67 _ _ hr6x
      have k7 : ∀ b u, b ≠ p → b ≠ r → H b = some u → H7 b = some u := fun b u hb hb2 e => s67 _ _ (k6x _ _ hb hb2 e)
      refine ⟨_, rfl, (m : Int), rfl, by omega, by omega, comp_runs runs_range (small_line (by rw [rangeV_len]; omega)) (fun D i ys σ' H' => H7 D = none ∧ (∀ b o, b ≠ p → b ≠ r → b ≠ D → H7 b = some o → H' b = some o) ∧ (∃ o, H' p = some o ∧ PotO o) ∧ H' D = some (.lst ys) ∧ ∃ (x : Option V) (ds : List Dt) (ρi : Nat), σ' = [x, some (.int dp), some (.ref p), some (.ref r)] ∧ H' r = some (.lst [.int ρi]) ∧ TmsV H' ds ys ∧ (∀ k, cntL k ds + ρi ≤ i + (ρ - m)) ∧ ds.length = i ∧ ∀ c ∈ ds, tkB (dp - 1) c = true)
        (fun D hD => ⟨hD, fun b o _ _ _ e => snew hD _ _ e, ⟨o6, snew hD _ _ hp7, ho6⟩, upd_same, none, [], ρ - m, rfl, snew hD _ _ hr7, .nil, (fun k => by rw [cnt_nil]; omega), rfl, (fun _ h => nomatch h)⟩) (fun D i ys σ' H' hi ⟨_, _, _, _, _, ds, _, _, _, ht, _, dl, _⟩ => ⟨trivial, by have := ht.length; omega⟩) ?_ ?_⟩
      · rintro D i v' ys' σ' H8 hD hi ⟨hDn, k8, ⟨o8, hp8, ho8⟩, hD8, x8, ds, ρi, rfl, hr8, hT8, cn8, dl8, sn8⟩
        obtain ⟨hi, rfl⟩ := rangeV_get hi
        have Dp : D ≠ p := fun z => by rw [z, hp7] at hDn; cases hDn
        have Dr' : D ≠ r := fun z => by rw [z, hr7] at hDn; cases hDn
        have c0 := cn8 0
        refine ⟨_, rfl, _, rfl, _, rfl, _, _, rfl, rfl, p, r, ρi, dp - 1, by rw [show ((dp - 1 : Nat) : Int) = (dp : Int) - 1 by omega]; rfl, by omega, by omega, ⟨o8, hp8, ho8⟩, hr8, hpr, by omega, fun v d ρ' H9 st hv sd cn => ?_⟩
        have hD9 := st.keep _ _ Dp Dr' hD8
        have tk : ∀ b xs, H9 b = some (.tup xs) → (upd H9 D (.lst (ys' ++ [v]))) b = some (.tup xs) := fun b xs e => by rw [upd_ne (fun z => by rw [z, hD9] at e; cases e)]; exact e
        have t89 : ∀ b xs, H8 b = some (.tup xs) → H9 b = some (.tup xs) := fun b xs e => st.keep _ _ (fun z => by rw [z, hp8] at e; obtain ⟨_, _, q', _⟩ := ho8; rw [q'] at e; cases e) (fun z => by rw [z, hr8] at e; cases e) e
        obtain ⟨o9, hp9, ho9⟩ := st.pot
        refine ⟨hD9, hDn, fun b u hb hb2 hb3 e => by rw [upd_ne hb3]; exact st.keep _ _ hb hb2 (k8 _ _ hb hb2 hb3 e), ⟨o9, by rw [upd_ne (Ne.symm Dp)]; exact hp9, ho9⟩, upd_same, _, ds ++ [d], ρ', rfl, by rw [upd_ne (Ne.symm Dr')]; exact st.room, ((hT8.keep t89).keep tk).append (.cons (hv.keep tk) .nil), fun k => ?_, by rw [List.length_append, List.length_singleton]; omega, fun c hc => (List.mem_append.mp hc).elim (sn8 c) fun z => by rw [List.mem_singleton.mp z]; exact sd⟩
        have a1 := cn8 k
        have a2 := cn k
        rw [cntL_append]
        omega
      · rintro D ys' σ' H8 hD ⟨hDn, k8, ⟨o8, hp8, ho8⟩, hD8, x8, ds, ρi, rfl, hr8, hT8, cn8, dl8, sn8⟩
        rw [rangeV_len] at cn8 dl8
        have t1D : t1 ≠ D := ne_of_none ht17 hDn
        have t1p : t1 ≠ p := fun z => by rw [z, hp6x] at ht1; cases ht1
        have t1r : t1 ≠ r := fun z => by rw [z, hr6x] at ht1; cases ht1
        have yl8 := hT8.length
        refine ⟨D, _, rfl, .inl ⟨SqL.of hD8, fun tt htt => ?_⟩⟩
        have s89 : Same H8 (upd H8 tt (.tup ys')) := snew htt
        have htt9 : (upd H8 tt (.tup ys')) tt = some (.tup ys') := upd_same
        generalize upd H8 tt (.tup ys') = H9 at s89 htt9
        have c0 := cn8 0
        refine rCatA_of (K := K) (s89 _ _ (k8 _ _ t1p t1r t1D ht17)) htt9 (small_line (by show 1 + _ ≤ _; omega)) fun pR HR sR hR => ?_
        cases ds with
        | nil => exact absurd dl8 (by show ¬ 0 = _; omega)
        | cons d0 dr0 =>
          refine q (.ref pR) (.tuple (.str x :: d0 :: dr0)) ρi HR ⟨fun b u hb hb2 e => sR _ _ (s89 _ _ (k8 _ _ hb hb2 (ne_of_none (k7 _ _ hb hb2 e) hDn) (k7 _ _ hb hb2 e))), ⟨o8, sR _ _ (s89 _ _ hp8), ho8⟩, sR _ _ (s89 _ _ hr8)⟩ (.tup hR (.cons (.str _ (word_ok hx)) ((hT8.keep (tupsS s89)).keep (tupsS sR)))) (tk_tup dp2 hx sn8) fun k => ?_
          cases k with
          | zero => rw [cntL_zero] at c0 ⊢; omega
          | succ k =>
            have a1 := cn8 k
            rw [cnt_tup]
            omega
end
end K75

set_option Elab.async false
set_option linter.all false
set_option maxRecDepth 100000
set_option maxHeartbeats 4000000
namespace K75
open PySem L2 Md
/-! ### the text of a term, by its signs -/
def tx : Nat → Dt → List Nat
  | 0, _ => []
  | k + 1, d => match d with
    | .int i => digs i.toNat
    | .tuple (.str w :: cs) => w.cps.toList ++ 40 :: (jn (cs.map (tx k)) ++ [41])
    | _ => []
theorem tx_int (k : Nat) (i : Nat) : tx (k + 1) (.int i) = digs i := rfl
theorem tx_tup (k : Nat) (w : Str) (cs : List Dt) : tx (k + 1) (.tuple (.str w :: cs)) = w.cps.toList ++ 40 :: (jn (cs.map (tx k)) ++ [41]) := rfl
theorem digs_len : ∀ n : Fin 100, 1 ≤ (digs n).length ∧ (digs n).length ≤ 2 := by decide +kernel
theorem digs_plain : ∀ n : Fin 100, (digs n).all isDig = true := by decide +kernel
theorem jn_len : ∀ l : List (List Nat), (jn l).length + 2 ≤ (l.map fun a => a.length + 2).sum + 2
  | [] => by simp [jn]
  | a :: r => by
    show (a ++ r.flatMap fun b => 44 :: 32 :: b).length + 2 ≤ _
    rw [List.length_append, List.map_cons, List.sum_cons]
    have : (r.flatMap fun b => 44 :: 32 :: b).length = (r.map fun a => a.length + 2).sum := by
      rw [List.length_flatMap]
      congr 1
    omega
/-- a text is not much longer than its term -/
theorem tx_len : ∀ (k : Nat) (d : Dt), tkB k d = true → (tx k d).length + 2 ≤ 13 * cntL k [d]
  | 0, d, h => by cases h
  | k + 1, d, h => by
    rcases tk_inv h with ⟨i, rfl, hi⟩ | ⟨x, c, cs, rfl, hx, hk⟩
    · rw [tx_int]
      have := (digs_len ⟨i, hi⟩).2
      have e : cntL (k + 1) [(.int i : Dt)] = 1 := by
        rw [cntL_in, kids_one]
        show 1 + cntL k [] = 1
        rw [cnt_nil]
      rw [e]
      have : (digs i).length ≤ 2 := this
      omega
    · rw [tx_tup, cnt_tup]
      have wl := word_len hx
      have sl := str_len x
      have jl := jn_len ((c :: cs).map (tx k))
      have ls : ∀ l : List Dt, (∀ e ∈ l, tkB k e = true) → ((l.map (tx k)).map fun a => a.length + 2).sum ≤ 13 * cntL k l := fun l => by
        induction l with
        | nil => intro _; exact Nat.zero_le _
        | cons e r ih =>
          intro hl
          rw [List.map_cons, List.map_cons, List.sum_cons, show e :: r = [e] ++ r from rfl, cntL_append]
          have h1 := tx_len k e (hl e (.head _))
          have h2 := ih fun z hz => hl z (.tail _ hz)
          omega
      have l1 := ls (c :: cs) hk
      rw [List.length_append, List.length_cons, List.length_append, List.length_singleton]
      omega
/-! scanning -/
def step (full : List Nat) (i : Nat) (s : Int × List Nat) : Int × List Nat :=
  if full[i]? = some 40 then (s.1 + 1, s.2) else if full[i]? = some 41 then (s.1 - 1, s.2) else if s.1 = 0 ∧ (full.drop i).take 2 = [44, 32] then (s.1, s.2 ++ [i + 2]) else s
def sg (full : List Nat) : Nat → Nat → Int × List Nat → Int × List Nat
  | _, 0, s => s
  | i, m + 1, s => sg full (i + 1) m (step full i s)
theorem sg_add (full : List Nat) : ∀ (m i m' : Nat) (s : Int × List Nat), sg full i (m + m') s = sg full (i + m) m' (sg full i m s)
  | 0, i, m', s => by rw [Nat.zero_add]; rfl
  | m + 1, i, m', s => by
    rw [show m + 1 + m' = (m + m') + 1 by omega]
    show sg full (i + 1) (m + m') (step full i s) = _
    rw [sg_add full m (i + 1) m', show i + 1 + m = i + (m + 1) by omega]
    rfl
theorem sg_snoc (full : List Nat) (i m : Nat) (s : Int × List Nat) : sg full i (m + 1) s = step full (i + m) (sg full i m s) := by rw [sg_add]; rfl
def plain (c : Nat) : Prop := c ≠ 40 ∧ c ≠ 41 ∧ c ≠ 44
theorem step_plain {full : List Nat} {i c : Nat} (h : full[i]? = some c) (hc : plain c) (s : Int × List Nat) : step full i s = s := by
  obtain ⟨h1, h2, h3⟩ := hc
  have hi := (List.getElem?_eq_some_iff.mp h).1
  unfold step
  rw [h, if_neg (fun z => h1 (Option.some.inj z)), if_neg (fun z => h2 (Option.some.inj z)), if_neg]
  rintro ⟨_, z⟩
  rw [List.drop_eq_getElem_cons hi, List.take_succ_cons] at z
  injection z with z
  rw [List.getElem?_eq_getElem hi] at h
  exact h3 ((Option.some.inj h).symm.trans z)
theorem step_deep {full : List Nat} {i : Nat} (h : full[i]? = some 44) {s : Int × List Nat} (hs : s.1 ≠ 0) : step full i s = s := by
  unfold step
  rw [h, if_neg (by decide), if_neg (by decide), if_neg (fun z => hs z.1)]
theorem step_open {full : List Nat} {i : Nat} (h : full[i]? = some 40) (s : Int × List Nat) : step full i s = (s.1 + 1, s.2) := by
  unfold step
  rw [h, if_pos rfl]
theorem step_close {full : List Nat} {i : Nat} (h : full[i]? = some 41) (s : Int × List Nat) : step full i s = (s.1 - 1, s.2) := by
  unfold step
  rw [h, if_neg (by decide), if_pos rfl]
theorem at_mid {full pre p post : List Nat} (h : full = pre ++ (p ++ post)) {j : Nat} {c : Nat} (hj : p[j]? = some c) : full[pre.length + j]? = some c := by
  have hl := (List.getElem?_eq_some_iff.mp hj).1
  rw [h, List.getElem?_append_right (by omega), show pre.length + j - pre.length = j by omega, List.getElem?_append_left hl]
  exact hj
/-- a text that leaves the scan as it was -/
def Cl (p : List Nat) : Prop := ∀ (full pre post : List Nat), full = pre ++ (p ++ post) → ∀ s : Int × List Nat, 0 ≤ s.1 → sg full pre.length p.length s = s
theorem cl_plain {p : List Nat} (h : ∀ c ∈ p, plain c) : Cl p := fun full pre post e s _ => by
  have : ∀ m, m ≤ p.length → sg full pre.length m s = s := fun m => by
    induction m with
    | zero => intro _; rfl
    | succ m ih =>
      intro hm
      rw [sg_snoc, ih (by omega)]
      have hp : p[m]? = some p[m] := List.getElem?_eq_getElem (by omega)
      exact step_plain (at_mid e hp) (h _ (List.mem_of_getElem? hp)) s
  exact this p.length (Nat.le_refl _)
theorem cl_append {p q : List Nat} (hp : Cl p) (hq : Cl q) : Cl (p ++ q) := fun full pre post e s hs => by
  rw [List.length_append, sg_add, hp full pre (q ++ post) (by rw [e, List.append_assoc]) s hs]
  have := hq full (pre ++ p) post (by rw [e, List.append_assoc, List.append_assoc]) s hs
  rw [List.length_append] at this
  exact this
/-- separators in the depth -/
theorem sg_sep {full pre q post : List Nat} (e : full = pre ++ ((44 :: 32 :: q) ++ post)) (hq : Cl q) {s : Int × List Nat} (h0 : 0 ≤ s.1) (hs : s.1 ≠ 0) : sg full pre.length (44 :: 32 :: q).length s = s := by
  have h1 : full[pre.length]? = some 44 := at_mid (j := 0) e rfl
  have h2 : full[pre.length + 1]? = some 32 := at_mid (j := 1) e rfl
  rw [show (44 :: 32 :: q).length = 2 + q.length by rw [List.length_cons, List.length_cons]; omega, sg_add]
  have s2 : sg full pre.length 2 s = s := by
    show step full (pre.length + 1) (step full pre.length s) = s
    rw [step_deep h1 hs, step_plain h2 ⟨by decide, by decide, by decide⟩]
  rw [s2]
  have := hq full (pre ++ [44, 32]) post (by rw [e]; simp) s h0
  rw [List.length_append] at this
  exact this
theorem sg_jn {full : List Nat} : ∀ {qs : List (List Nat)} {pre post : List Nat}, full = pre ++ (jn qs ++ post) → (∀ q ∈ qs, Cl q) → ∀ {s : Int × List Nat}, 0 ≤ s.1 → s.1 ≠ 0 → sg full pre.length (jn qs).length s = s := by
  have sep : ∀ {r : List (List Nat)} {pre post : List Nat}, full = pre ++ ((r.flatMap fun b => 44 :: 32 :: b) ++ post) → (∀ q ∈ r, Cl q) → ∀ {s : Int × List Nat}, 0 ≤ s.1 → s.1 ≠ 0 → sg full pre.length (r.flatMap fun b => 44 :: 32 :: b).length s = s := fun {r} => by
    induction r with
    | nil => intro pre post _ _ s _ _; rfl
    | cons q r ih =>
      intro pre post e hq s h0 hs
      rw [List.flatMap_cons] at e ⊢
      rw [List.length_append, sg_add, sg_sep (post := (r.flatMap fun b => 44 :: 32 :: b) ++ post) (by rw [e, List.append_assoc]) (hq q (.head _)) h0 hs]
      have := ih (pre := pre ++ (44 :: 32 :: q)) (post := post) (by rw [e]; simp) (fun q hq' => hq q (.tail _ hq')) h0 hs
      rw [List.length_append] at this
      exact this
  intro qs pre post e hq s h0 hs
  cases qs with
  | nil => rfl
  | cons a r =>
    have e : full = pre ++ ((a ++ r.flatMap fun b => 44 :: 32 :: b) ++ post) := e
    show sg full pre.length (a ++ r.flatMap fun b => 44 :: 32 :: b).length s = s
    rw [List.length_append, sg_add, hq a (.head _) full pre ((r.flatMap fun b => 44 :: 32 :: b) ++ post) (by rw [e, List.append_assoc]) s h0]
    have := sep (r := r) (pre := pre ++ a) (post := post) (by rw [e]; simp) (fun q hq' => hq q (.tail _ hq')) h0 hs
    rw [List.length_append] at this
    exact this
theorem low_plain {c : Nat} (h : isLow c = true) : plain c := by
  unfold isLow at h
  have := of_decide_eq_true h
  exact ⟨by omega, by omega, by omega⟩
theorem dig_plain {c : Nat} (h : isDig c = true) : plain c := by
  unfold isDig at h
  have := of_decide_eq_true h
  exact ⟨by omega, by omega, by omega⟩
theorem tx_closed : ∀ (k : Nat) (d : Dt), tkB k d = true → Cl (tx k d)
  | 0, d, h => by cases h
  | k + 1, d, h => by
    rcases tk_inv h with ⟨i, rfl, hi⟩ | ⟨x, c, cs, rfl, hx, hk⟩
    · rw [tx_int]
      exact cl_plain fun z hz => dig_plain (List.all_eq_true.mp (digs_plain ⟨i, hi⟩) z hz)
    · rw [tx_tup]
      have hw := ((isWord_iff x).mp hx).2
      refine cl_append (cl_plain fun z hz => low_plain (hw z hz)) fun full pre post e s hs => ?_
      have h1 : full[pre.length]? = some 40 := at_mid (j := 0) e rfl
      have hc : ∀ q ∈ (c :: cs).map (tx k), Cl q := fun q hq => by
        obtain ⟨d, hd, rfl⟩ := List.mem_map.mp hq
        exact tx_closed k d (hk d hd)
      generalize (c :: cs).map (tx k) = qs at e hc ⊢
      have e2 : full = (pre ++ [40]) ++ (jn qs ++ ([41] ++ post)) := by rw [e]; simp
      have m := sg_jn e2 hc (s := (s.1 + 1, s.2)) (by show 0 ≤ s.1 + 1; omega) (by show s.1 + 1 ≠ 0; omega)
      rw [List.length_append, List.length_singleton] at m
      have h3 : full[pre.length + (1 + (jn qs).length)]? = some 41 := at_mid e (by
        rw [show 1 + (jn qs).length = (jn qs).length + 1 by omega, List.getElem?_cons_succ, List.getElem?_append_right (Nat.le_refl _), Nat.sub_self]
        rfl)
      rw [show (40 :: (jn qs ++ [41])).length = 1 + ((jn qs).length + 1) by rw [List.length_cons, List.length_append, List.length_singleton]; omega, sg_add, sg_add]
      have s1 : sg full pre.length 1 s = (s.1 + 1, s.2) := step_open h1 s
      rw [s1, m]
      show step full (pre.length + 1 + (jn qs).length) (s.1 + 1, s.2) = s
      rw [step_close (by rw [← h3, show pre.length + 1 + (jn qs).length = pre.length + (1 + (jn qs).length) by omega])]
      show (s.1 + 1 - 1, s.2) = s
      rw [show s.1 + 1 - 1 = s.1 by omega]
/-! where the parts begin -/
def offs : Nat → List (List Nat) → List Nat
  | _, [] => []
  | o, p :: r => o :: offs (o + p.length + 2) r
theorem sg_offs {full : List Nat} : ∀ {r : List (List Nat)} {pre post : List Nat} {ss : List Nat}, full = pre ++ ((r.flatMap fun b => 44 :: 32 :: b) ++ post) → (∀ q ∈ r, Cl q) → sg full pre.length (r.flatMap fun b => 44 :: 32 :: b).length (0, ss) = (0, ss ++ offs (pre.length + 2) r)
  | [], pre, post, ss, _, _ => by
    show (0, ss) = (0, ss ++ [])
    rw [List.append_nil]
  | q :: r, pre, post, ss, e, hq => by
    rw [List.flatMap_cons] at e ⊢
    have e0 : full = pre ++ ((44 :: 32 :: q) ++ ((r.flatMap fun b => 44 :: 32 :: b) ++ post)) := by rw [e, List.append_assoc]
    have h2 : full[pre.length + 1]? = some 32 := at_mid (j := 1) e0 rfl
    have h1 : full[pre.length]? = some 44 := at_mid (j := 0) e0 rfl
    have hd : (full.drop pre.length).take 2 = [44, 32] := by rw [e0, List.drop_left]; rfl
    have st : step full pre.length (0, ss) = (0, ss ++ [pre.length + 2]) := by
      unfold step
      rw [h1, if_neg (by decide), if_neg (by decide), if_pos ⟨rfl, hd⟩]
    rw [List.length_append, sg_add, show (44 :: 32 :: q).length = 2 + q.length by rw [List.length_cons, List.length_cons]; omega, sg_add]
    have s2 : sg full pre.length 2 (0, ss) = (0, ss ++ [pre.length + 2]) := by
      show step full (pre.length + 1) (step full pre.length (0, ss)) = _
      rw [st, step_plain h2 ⟨by decide, by decide, by decide⟩]
    rw [s2]
    have cq := hq q (.head _) full (pre ++ [44, 32]) ((r.flatMap fun b => 44 :: 32 :: b) ++ post) (by rw [e0]; simp) (0, ss ++ [pre.length + 2]) (Int.le_refl _)
    rw [List.length_append] at cq
    have cq : sg full (pre.length + 2) q.length (0, ss ++ [pre.length + 2]) = (0, ss ++ [pre.length + 2]) := cq
    rw [cq]
    have ih := sg_offs (full := full) (r := r) (pre := pre ++ (44 :: 32 :: q)) (post := post) (ss := ss ++ [pre.length + 2]) (by rw [e0]; simp) fun z hz => hq z (.tail _ hz)
    rw [List.length_append, show (44 :: 32 :: q).length = 2 + q.length by rw [List.length_cons, List.length_cons]; omega] at ih
    rw [ih, List.append_assoc]
    show (0, ss ++ ((pre.length + 2) :: offs (pre.length + (2 + q.length) + 2) r)) = (0, ss ++ ((pre.length + 2) :: offs (pre.length + 2 + q.length + 2) r))
    rw [show pre.length + (2 + q.length) + 2 = pre.length + 2 + q.length + 2 by omega]
theorem sg_top {p : List Nat} {r : List (List Nat)} (h : ∀ q ∈ p :: r, Cl q) : sg (jn (p :: r)) 0 (jn (p :: r)).length (0, [0]) = (0, offs 0 (p :: r)) := by
  have e : jn (p :: r) = [] ++ (p ++ ((r.flatMap fun b => 44 :: 32 :: b) ++ [])) := by rw [List.append_nil]; rfl
  have l : (jn (p :: r)).length = p.length + (r.flatMap fun b => 44 :: 32 :: b).length := List.length_append
  rw [l, sg_add]
  have c := h p (.head _) _ [] _ e (0, [0]) (Int.le_refl _)
  have c : sg (jn (p :: r)) 0 p.length (0, [0]) = (0, [0]) := c
  rw [c]
  have o := sg_offs (full := jn (p :: r)) (r := r) (pre := p) (post := []) (ss := [0]) (by rw [e]; rfl) fun q hq => h q (.tail _ hq)
  rw [Nat.zero_add, o]
  show (0, [0] ++ offs (p.length + 2) r) = (0, 0 :: offs (0 + p.length + 2) r)
  rw [Nat.zero_add]
  rfl
/-- the parts cut out again -/
def zz (ss : List Nat) (n : Nat) : List (Nat × Nat) := ss.zip ((ss.drop 1).map (· - 2) ++ [n])
theorem zz_parts {full : List Nat} : ∀ {r : List (List Nat)} {p pre : List Nat}, full = pre ++ jn (p :: r) → (zz (offs pre.length (p :: r)) full.length).map (fun ab => (full.drop ab.1).take (ab.2 - ab.1)) = p :: r ∧ ∀ ab ∈ zz (offs pre.length (p :: r)) full.length, ab.1 ≤ ab.2 ∧ ab.2 ≤ full.length
  | [], p, pre, e => by
    have e : full = pre ++ (p ++ []) := e
    have ez : zz (offs pre.length [p]) full.length = [(pre.length, full.length)] := rfl
    rw [ez]
    have l : full.length = pre.length + p.length := by rw [e, List.append_nil, List.length_append]
    refine ⟨?_, fun ab h => by rw [List.mem_singleton.mp h]; exact ⟨by omega, Nat.le_refl _⟩⟩
    show [(full.drop pre.length).take (full.length - pre.length)] = [p]
    rw [l, show pre.length + p.length - pre.length = p.length by omega, e, List.drop_left, List.append_nil, List.take_length]
  | q :: r, p, pre, e => by
    have e1 : full = (pre ++ p ++ [44, 32]) ++ jn (q :: r) := by
      rw [e]
      show pre ++ (p ++ (q :: r).flatMap fun b => 44 :: 32 :: b) = _
      rw [List.flatMap_cons]
      show pre ++ (p ++ ((44 :: 32 :: q) ++ _)) = (pre ++ p ++ [44, 32]) ++ (q ++ _)
      simp
    have l1 : (pre ++ p ++ [44, 32]).length = pre.length + p.length + 2 := by rw [List.length_append, List.length_append]; rfl
    have ih := zz_parts (r := r) (p := q) (pre := pre ++ p ++ [44, 32]) e1
    rw [l1] at ih
    have ez : zz (offs pre.length (p :: q :: r)) full.length = (pre.length, pre.length + p.length) :: zz (offs (pre.length + p.length + 2) (q :: r)) full.length := rfl
    have ll : full.length = pre.length + p.length + 2 + (jn (q :: r)).length := by
      have := congrArg List.length e1
      rw [List.length_append, l1] at this
      exact this
    rw [ez]
    refine ⟨?_, fun ab h => ?_⟩
    · rw [List.map_cons, ih.1]
      congr 1
      show (full.drop pre.length).take (pre.length + p.length - pre.length) = p
      rw [show pre.length + p.length - pre.length = p.length by omega, e1, List.append_assoc, List.append_assoc, List.drop_left, List.take_left]
    · rcases List.mem_cons.mp h with z | z
      · rw [z]; exact ⟨by show pre.length ≤ pre.length + p.length; omega, by show pre.length + p.length ≤ full.length; omega⟩
      · exact ih.2 ab z
end K75

set_option Elab.async false
set_option linter.all false
set_option maxRecDepth 100000
set_option maxHeartbeats 4000000
namespace K75
open PySem L2 Md
/-! ### terms written -/
theorem tx_sum {k : Nat} : ∀ l : List Dt, (∀ e ∈ l, tkB k e = true) → ((l.map (tx k)).map fun a => a.length + 2).sum ≤ 13 * cntL k l
  | [], _ => Nat.zero_le _
  | e :: r, hl => by
    rw [List.map_cons, List.map_cons, List.sum_cons, show e :: r = [e] ++ r from rfl, cntL_append]
    have h1 := tx_len k e (hl e (.head _))
    have h2 := tx_sum r fun z hz => hl z (.tail _ hz)
    omega
theorem cnt_take (k : Nat) (l : List Dt) (i : Nat) : cntL k (l.take i) ≤ cntL k l := by
  have : cntL k l = cntL k (l.take i) + cntL k (l.drop i) := by rw [← cntL_append, List.take_append_drop]
  omega
theorem jn_small {k : Nat} {l : List Dt} (h : ∀ e ∈ l, tkB k e = true) (i : Nat) : (jn ((l.take i).map (tx k))).length ≤ 13 * cntL k l := by
  have h1 := jn_len ((l.take i).map (tx k))
  have h2 := tx_sum (l.take i) fun e he => h e (List.mem_of_mem_take he)
  have h3 := cnt_take k l i
  omega
theorem jn_next {k : Nat} {l : List Dt} {i : Nat} {d : Dt} (h : l[i]? = some d) : jn ((l.take (i + 1)).map (tx k)) = jn ((l.take i).map (tx k)) ++ ((if i = 0 then [] else [44, 32]) ++ tx k d) := by
  rw [List.take_add_one, h, List.map_append]
  cases i with
  | zero =>
    rw [List.take_zero, if_pos rfl]
    show jn [tx k d] = [] ++ ([] ++ tx k d)
    show tx k d ++ [] = _
    rw [List.append_nil]
    rfl
  | succ i =>
    rw [if_neg (by omega)]
    cases l with
    | nil => cases h
    | cons a r =>
      rw [List.take_succ_cons, List.map_cons]
      exact jn_snoc _ _ _
theorem cnt_kid {k : Nat} {l : List Dt} {d : Dt} (h : d ∈ l) : cntL k [d] ≤ cntL k l := by
  obtain ⟨a, b, e⟩ := List.append_of_mem h
  rw [e, show a ++ d :: b = a ++ ([d] ++ b) from rfl, cntL_append, cntL_append]
  omega
def spLtt (j : Nat) : Sp := fun vs H Q _ => ∃ (d : Dt) (v : V), vs = [v] ∧ TmV H d v ∧ tkB j d = true ∧ cntL j [d] ≤ 60 ∧ ∀ (s : Str) (H' : Hp), Same H H' → s.cps.toList = tx j d → Q (.str s) H'
structure TxtS4 (mg : Str → Option Value) : Prop where
  isi : mg "isinstance" = none
  tuple : mg "tuple" = none
  str : mg "str" = none
  len : mg "len" = none
  range : mg "range" = none
theorem log_small {i : Nat} (h : i < 100) : ((i : Int)).natAbs.log2 < 1920 := by
  have : ((i : Int)).natAbs = i := by omega
  rw [this]
  exact Nat.lt_of_le_of_lt (Nat.log2_le_self i) (by omega)
theorem cps_open : ("(" : Str).cps.toList = [40] := by decide +kernel
theorem cps_close : (")" : Str).cps.toList = [41] := by decide +kernel
theorem cps_sep : (", " : Str).cps.toList = [44, 32] := by decide +kernel
section
variable {P : Program} {w : World} {K : W.Frag} {mg : Str → Option Value} {base : Heap}
abbrev nLt : List Str := ["term", "text", "k"]
theorem scLt : FnScope nLt ["term"] (defScope s__law_term_text) := ⟨rfl, rfl, rfl, by decide +kernel, rfl, by decide +kernel, by decide +kernel⟩
theorem ok_ltt {f : Addr} {fd : FuncData} (F : Def K mg "_law_term_text" s__law_term_text ["term"] f fd) (T : TxtS4 mg) : ∀ j, FnOk P w K mg base CX0 (1 + j) f fd ["term"] (spLtt j) := by
  intro j
  induction j with
  | zero =>
    refine F.fn.ok scLt (fun vs H Q E h => ?_) (fun cdv A outer s H vs Q E hr h => ?_)
    · obtain ⟨d, v, rfl, _⟩ := h
      rfl
    · obtain ⟨d, v, rfl, _, z, _⟩ := h
      cases z
  | succ j GS =>
    refine F.fn.ok scLt (fun vs H Q E h => ?_) (fun cdv A outer s H vs Q E hr h => ?_)
    · obtain ⟨d, v, rfl, _⟩ := h
      rfl
    · obtain ⟨d, v, rfl, hv, ht, hc, q⟩ := h
      have nd := scLt.nd
      refine' ⟨_, (pss_cons (ps_if (pt_not (pt_val (pe_callB call_isi (by rfl) T.isi PyProof.Rows.boot_isinstance (pa_cons (pv 0) (pa_cons (pe_bltn (v := .ty "tuple") (by rfl) T.tuple PyProof.Rows.boot_tuple rfl) pa_nil))))) (pss_one (ps_ret (pe_callTy call_str_int (by rfl) T.str PyProof.Rows.boot_str (pa_cons (pv 0) pa_nil)))) pss_nil)
      (pss_cons (ps_set (i := 1) nd rfl (Or.inl rfl) (pe_op op_add_str (pe_ix (r := rIxT K) ix_tup (pv 0) pe_int (fun _ _ => rfl)) pe_str))
      (pss_cons (ps_for PassesOwn.never rfl (pi_range2 (by rfl) T.range (pa_cons pe_int (pa_cons (pe_callB call_len_seq (by rfl) T.len PySem.boot_len (pa_cons (pv 0) pa_nil)) pa_nil))) (pg_name (i := 2) nd rfl (Or.inl rfl))
          (pss_cut (ps_if (pt_cmpR op_gt (pv 2) pe_int (nomark _)) (pss_one (ps_set (i := 1) nd rfl (Or.inl rfl) (pe_op op_add_str (pv 1) pe_str))) pss_nil)
      (pss_one (ps_set (i := 1) nd rfl (Or.inl rfl) (pe_op op_add_str (pv 1) (pe_callD F GS hr (pa_cons (pe_ix (r := rIxT K) ix_tup (pv 0) (pv 2) (fun _ _ => rfl)) pa_nil)))))))
      (pss_one (ps_ret (pe_op op_add_str (pv 1) pe_str)))))), ?_⟩
      rcases tk_inv ht with ⟨i, rfl, hi⟩ | ⟨x, c, cs, rfl, hx, hk⟩
      · cases hv
        exact ⟨_, rfl, _, _, _, _, rfl, .int _, rfl, _, rfl, iteT ⟨_, rfl, _, rfl, log_small hi, q _ H (Same.refl _) (by rw [tx_int]; exact digs_str i)⟩⟩
      · cases hv with
        | @tup a vs _ ha hts =>
        cases hts with
        | @cons _ _ v0 vs h0 hts =>
        cases h0
        rw [cnt_tup] at hc
        have wl := word_len hx
        have vl := hts.length
        generalize c :: cs = ds at hk hts hc q vl
        refine ⟨_, rfl, _, _, _, _, rfl, .tup ha, rfl, _, rfl, iteF ⟨_, rfl, a, _, _, _, rfl, rfl, SqT.of ha, at0 _ _, x, _, rfl, rfl, small_line (by show x.length + 1 ≤ _; omega), ?_⟩⟩
        have v60 : vs.length ≤ 60 := by
          cases j with
          | zero =>
            cases ds with
            | nil => rw [← vl]; exact Nat.zero_le _
            | cons e r => exact absurd (hk e (.head _)) (fun z => by cases z)
          | succ j =>
            have : ds.length ≤ cntL (j + 1) ds := by rw [cntL_in]; omega
            omega
        have bound : ∀ i, (jn ((ds.take i).map (tx j))).length ≤ 780 := fun i => by have := jn_small hk i; omega
        refine ⟨_, rfl, a, _, rfl, .inr (SqT.of ha), 1, ((V.str x :: vs).length : Int), rfl, ⟨by omega, by omega, by omega, by rw [List.length_cons]; omega⟩, for_runs runs_range (fun i σ H' => ∃ (s : Str) (y : Option V), σ = [some (.ref a), some (.str s), y] ∧ Same H H' ∧ s.cps.toList = x.cps.toList ++ 40 :: jn ((ds.take i).map (tx j)))
          ⟨x ++ ("(" : Str), none, rfl, Same.refl _, by rw [app_list, cps_open, List.take_zero]; rfl⟩ (fun _ _ _ _ _ => trivial) ?_ ?_⟩
        · rintro i v' σ H1 hi ⟨s, y, rfl, s1, hs⟩
          obtain ⟨hi, rfl⟩ := rangeV_get hi
          have hi : i < ds.length := by
            have e : (((V.str x :: vs).length : Int) - 1).toNat = vs.length := by rw [List.length_cons]; omega
            rw [e] at hi
            omega
          have sl : s.length ≤ 800 := by
            have := congrArg List.length hs
            rw [str_len, List.length_append, List.length_cons, str_len] at this
            have := bound i
            omega
          refine ⟨(fun σ' H' => H' = H1 ∧ ∃ s' : Str, σ' = [some (.ref a), some (.str s'), some (.int (1 + (i : Int)))] ∧ s'.cps.toList = s.cps.toList ++ (if i = 0 then [] else [44, 32])), ?_, ?_⟩
          · refine ⟨_, rfl, _, _, rfl, rfl, _, rfl, ite2 (fun z => ?_) (fun z => ?_)⟩
            · have z := of_decide_eq_true z
              refine ⟨_, rfl, s, _, rfl, rfl, small_line (by show s.length + 2 ≤ _; omega), rfl, s ++ (", " : Str), rfl, ?_⟩
              rw [app_list, cps_sep, if_neg (by omega)]
            · have z : ¬ ((1 : Int) < 1 + (i : Int)) := fun w => z (decide_eq_true w)
              exact ⟨rfl, s, rfl, by rw [if_pos (by omega), List.append_nil]⟩
          · rintro σ' H' ⟨e, s', rfl, hs'⟩
            have e := e.symm
            subst e
            obtain ⟨v, hv⟩ : ∃ v, vs[i]? = some v := ⟨vs[i]'(by omega), List.getElem?_eq_getElem _⟩
            obtain ⟨d, hd, hvd⟩ := hts.at_ hv
            have hdm := List.mem_of_getElem? hd
            have ck := cnt_kid (k := j) hdm
            have sl' : s'.length ≤ 802 := by
              have := congrArg List.length hs'
              rw [str_len, List.length_append, str_len] at this
              split at this
              · rw [List.length_nil] at this; omega
              · have e2 : ([44, 32] : List Nat).length = 2 := rfl
                rw [e2] at this; omega
            refine ⟨_, rfl, _, rfl, _, rfl, a, _, _, v, rfl, rfl, SqT.of (s1 _ _ ha), (by rw [show (1 : Int) + (i : Int) = ((i + 1 : Nat) : Int) by omega]; exact atI_nat (by rw [List.getElem?_cons_succ]; exact hv)), d, v, rfl, hvd.keep (tupsS s1), hk d hdm, by omega, fun s2 H2 s12 hs2 => ?_⟩
            have tl := tx_len j d (hk d hdm)
            have s2l : s2.length ≤ 780 := by
              have := congrArg List.length hs2
              rw [str_len] at this
              omega
            refine ⟨s', s2, rfl, rfl, small_line (by omega), s' ++ s2, _, rfl, s1.trans s12, ?_⟩
            rw [app_list, hs', hs, hs2, jn_next hd]
            simp
        · rintro σ H1 ⟨s, y, rfl, s1, hs⟩
          rw [rangeV_len, show (((V.str x :: vs).length : Int) - 1).toNat = ds.length by rw [List.length_cons]; omega, List.take_length] at hs
          have sl : s.length ≤ 800 := by
            have := congrArg List.length hs
            rw [str_len, List.length_append, List.length_cons, str_len] at this
            have := bound ds.length
            rw [List.take_length] at this
            omega
          refine ⟨_, rfl, s, _, rfl, rfl, small_line (by show s.length + 1 ≤ _; omega), q _ H1 s1 ?_⟩
          rw [app_list, hs, cps_close, tx_tup]
          simp
end
end K75

set_option Elab.async false
set_option linter.all false
set_option maxRecDepth 100000
set_option maxHeartbeats 4000000
namespace K75
open PySem L2 Md
/-! ### what a text writes -/
theorem tk_up : ∀ (k : Nat) (d : Dt), tkB k d = true → tkB (k + 1) d = true ∧ tx (k + 1) d = tx k d
  | 0, d, h => by cases h
  | k + 1, d, h => by
    rcases tk_inv h with ⟨i, rfl, hi⟩ | ⟨x, c, cs, rfl, hx, hk⟩
    · exact ⟨tk_int (by omega) (by omega) (by omega), by rw [tx_int, tx_int]⟩
    · refine ⟨tk_tup (by omega) hx fun d hd => (tk_up k d (hk d hd)).1, ?_⟩
      rw [tx_tup, tx_tup, List.map_congr_left fun d hd => (tk_up k d (hk d hd)).2]
theorem tk_le {k : Nat} {d : Dt} (h : tkB k d = true) : ∀ m, tkB (k + m) d = true ∧ tx (k + m) d = tx k d
  | 0 => ⟨h, rfl⟩
  | m + 1 => by
    have a := tk_le h m
    have b := tk_up _ _ a.1
    exact ⟨b.1, b.2.trans a.2⟩
def Wr (d : Dt) (t : List Nat) : Prop := ∃ k, tkB k d = true ∧ tx k d = t
inductive Wrs : List Dt → List (List Nat) → Prop
  | nil : Wrs [] []
  | cons {d : Dt} {t : List Nat} {ds : List Dt} {ts : List (List Nat)} : Wr d t → Wrs ds ts → Wrs (d :: ds) (t :: ts)
theorem Wrs.fuel {ds : List Dt} {ts : List (List Nat)} (h : Wrs ds ts) : ∃ k, (∀ d ∈ ds, tkB k d = true) ∧ ds.map (tx k) = ts := by
  induction h with
  | nil => exact ⟨0, (fun _ z => nomatch z), rfl⟩
  | @cons d t ds ts h1 _ ih =>
    obtain ⟨k, h2, h3⟩ := ih
    obtain ⟨k1, h4, h5⟩ := h1
    have l1 := tk_le h4 k
    refine ⟨k1 + k, fun e he => ?_, ?_⟩
    · rcases List.mem_cons.mp he with z | z
      · rw [z]; exact l1.1
      · rw [Nat.add_comm]; exact (tk_le (h2 e z) k1).1
    · rw [List.map_cons, l1.2, h5, ← h3]
      congr 1
      exact List.map_congr_left fun e he => by rw [Nat.add_comm]; exact (tk_le (h2 e he) k1).2
theorem Wrs.of {k : Nat} : ∀ (ds : List Dt), (∀ d ∈ ds, tkB k d = true) → Wrs ds (ds.map (tx k))
  | [], _ => .nil
  | d :: r, h => .cons ⟨k, h d (.head _), rfl⟩ (Wrs.of r fun e he => h e (.tail _ he))
theorem Wrs.append {ds es : List Dt} {ts us : List (List Nat)} (h : Wrs ds ts) (h' : Wrs es us) : Wrs (ds ++ es) (ts ++ us) := by
  induction h with
  | nil => exact h'
  | cons a _ ih => exact .cons a ih
theorem wr_tup {x : Str} {c : Dt} {cs : List Dt} {ts : List (List Nat)} (hw : isWord x = true) (h : Wrs (c :: cs) ts) : Wr (.tuple (.str x :: c :: cs)) (x.cps.toList ++ 40 :: (jn ts ++ [41])) := by
  obtain ⟨k, h1, h2⟩ := h.fuel
  refine ⟨k + 2, tk_tup (by omega) hw fun d hd => (tk_up k d (h1 d hd)).1, ?_⟩
  rw [tx_tup, ← h2, List.map_congr_left fun d hd => (tk_up k d (h1 d hd)).2]
theorem wr_inv {d : Dt} {t : List Nat} (h : Wr d t) : (∃ i : Nat, i < 100 ∧ d = .int i ∧ t = digs i) ∨ ∃ x c cs ts, d = .tuple (.str x :: c :: cs) ∧ isWord x = true ∧ Wrs (c :: cs) ts ∧ t = x.cps.toList ++ 40 :: (jn ts ++ [41]) := by
  obtain ⟨k, h1, h2⟩ := h
  cases k with
  | zero => cases h1
  | succ k =>
    rcases tk_inv h1 with ⟨i, rfl, hi⟩ | ⟨x, c, cs, rfl, hx, hk⟩
    · exact .inl ⟨i, hi, rfl, by rw [← h2, tx_int]⟩
    · exact .inr ⟨x, c, cs, _, rfl, hx, Wrs.of _ hk, by rw [← h2, tx_tup]⟩
theorem wr_int {i : Nat} (h : i < 100) : Wr (.int i) (digs i) := ⟨1, tk_int (by omega) (by omega) (by omega), tx_int 0 i⟩
theorem wr_cl {d : Dt} {t : List Nat} (h : Wr d t) : Cl t := by
  obtain ⟨k, h1, rfl⟩ := h
  exact tx_closed k d h1
theorem Wrs.cl {ds : List Dt} {ts : List (List Nat)} (h : Wrs ds ts) : ∀ t ∈ ts, Cl t := by
  induction h with
  | nil => exact fun _ z => nomatch z
  | cons a _ ih => exact fun t ht => (List.mem_cons.mp ht).elim (fun z => z ▸ wr_cl a) (ih t)
theorem offs_inj {p p' : List Nat} {r r' : List (List Nat)} (e : jn (p :: r) = jn (p' :: r')) (o : offs 0 (p :: r) = offs 0 (p' :: r')) : p :: r = p' :: r' := by
  have z := (zz_parts (full := jn (p' :: r')) (pre := []) (p := p) (r := r) (by rw [← e]; rfl)).1
  have z' := (zz_parts (full := jn (p' :: r')) (pre := []) (p := p') (r := r') rfl).1
  have z : (zz (offs 0 (p :: r)) (jn (p' :: r')).length).map (fun ab => ((jn (p' :: r')).drop ab.1).take (ab.2 - ab.1)) = p :: r := z
  rw [o] at z
  exact z.symm.trans z'
theorem jn_inj {p p' : List Nat} {r r' : List (List Nat)} (h : ∀ q ∈ p :: r, Cl q) (h' : ∀ q ∈ p' :: r', Cl q) (e : jn (p :: r) = jn (p' :: r')) : p :: r = p' :: r' := by
  have a := sg_top h
  have b := sg_top h'
  rw [e] at a
  rw [a] at b
  exact offs_inj e (Prod.mk.inj b).2
theorem cut_at {c : Nat} : ∀ {a a' b b' : List Nat}, a ++ c :: b = a' ++ c :: b' → c ∉ a → c ∉ a' → a = a' ∧ b = b'
  | [], [], b, b', e, _, _ => ⟨rfl, (List.cons.inj e).2⟩
  | [], x :: a', b, b', e, _, h => absurd (by rw [(List.cons.inj e).1]; exact .head _) h
  | x :: a, [], b, b', e, h, _ => absurd (by rw [← (List.cons.inj e).1]; exact .head _) h
  | x :: a, y :: a', b, b', e, h, h' => by
    have e := List.cons.inj e
    have r := cut_at e.2 (fun z => h (.tail _ z)) fun z => h' (.tail _ z)
    exact ⟨by rw [e.1, r.1], r.2⟩
theorem word_open {x : Str} (h : isWord x = true) : 40 ∉ x.cps.toList := fun z => (low_plain (((isWord_iff x).mp h).2 _ z)).1 rfl
theorem digs_open {i : Nat} (h : i < 100) : 40 ∉ digs i := fun z => (dig_plain (List.all_eq_true.mp (digs_plain ⟨i, h⟩) 40 z)).1 rfl
theorem digs_inj {i j : Nat} (hi : i < 100) (hj : j < 100) (e : digs i = digs j) : i = j := by
  have a := digs_reads (x := ⟨(digs i).toArray⟩) (n := i) rfl hi
  have b := digs_reads (x := ⟨(digs i).toArray⟩) (n := j) e hj
  rw [a] at b
  have := Option.some.inj b
  omega
theorem tx_inj : ∀ (k : Nat) (d d' : Dt) (t : List Nat), tkB k d = true → tx k d = t → Wr d' t → d = d'
  | 0, d, d', t, h, _, _ => by cases h
  | k + 1, d, d', t, h, e, h' => by
    rcases tk_inv h with ⟨i, rfl, hi⟩ | ⟨x, c, cs, rfl, hx, hk⟩
    · rw [tx_int] at e
      rcases wr_inv h' with ⟨i', hi', rfl, e'⟩ | ⟨y, c', cs', ts, rfl, hy, ht, e'⟩
      · rw [digs_inj hi hi' (e.trans e')]
      · exact absurd (by rw [e, e']; exact List.mem_append.mpr (.inr (.head _))) (digs_open hi)
    · rw [tx_tup] at e
      rcases wr_inv h' with ⟨i', hi', rfl, e'⟩ | ⟨y, c', cs', ts, rfl, hy, ht, e'⟩
      · exact absurd (by rw [← e', ← e]; exact List.mem_append.mpr (.inr (.head _))) (digs_open hi')
      · obtain ⟨e1, e2⟩ := cut_at (e.trans e') (word_open hx) (word_open hy)
        have e2 := List.append_cancel_right e2
        have all : ∀ (ds ds' : List Dt), (∀ d ∈ ds, tkB k d = true) → Wrs ds' (ds.map (tx k)) → ds = ds' := fun ds => by
          induction ds with
          | nil => intro ds' _ h; cases h; rfl
          | cons a r ih =>
            intro ds' hk h
            rw [List.map_cons] at h
            cases h with
            | cons h1 h2 => rw [tx_inj k a _ _ (hk a (.head _)) rfl h1, ih _ (fun d hd => hk d (.tail _ hd)) h2]
        have cl := ht.cl
        cases ht with
        | @cons _ t1 _ ts1 w1 w2 =>
          have e3 := jn_inj (p := tx k c) (r := cs.map (tx k)) (p' := t1) (r' := ts1) (fun q hq => (Wrs.of (c :: cs) hk).cl q hq) cl e2
          have := all (c :: cs) (c' :: cs') hk (by rw [List.map_cons, e3]; exact .cons w1 w2)
          rw [this, Md.str_ext e1]
theorem wr_inj {d d' : Dt} {t : List Nat} (h : Wr d t) (h' : Wr d' t) : d = d' := by
  obtain ⟨k, h1, h2⟩ := h
  exact tx_inj k d d' t h1 h2 h'
theorem jn_ge : ∀ l : List (List Nat), (l.map List.length).sum ≤ (jn l).length
  | [] => Nat.le_refl _
  | a :: r => by
    show _ ≤ (a ++ r.flatMap fun b => 44 :: 32 :: b).length
    rw [List.map_cons, List.sum_cons, List.length_append, List.length_flatMap]
    have : (r.map List.length).sum ≤ (r.map fun b => (44 :: 32 :: b).length).sum := by
      induction r with
      | nil => exact Nat.le_refl _
      | cons b r ih =>
        rw [List.map_cons, List.map_cons, List.sum_cons, List.sum_cons, List.length_cons, List.length_cons]
        omega
    omega
/-- no more parts than signs -/
theorem cnt_txt : ∀ (j k : Nat) (e : Dt), tkB j e = true → cntL k [e] ≤ (tx j e).length
  | 0, k, e, h => by cases h
  | j + 1, 0, e, h => by rw [cntL_zero]; exact Nat.zero_le _
  | j + 1, k + 1, e, h => by
    rcases tk_inv h with ⟨i, rfl, hi⟩ | ⟨x, c, cs, rfl, hx, hk⟩
    · rw [tx_int]
      have h1 := cnt_int (i : Int) (k + 1)
      have h2 : 1 ≤ (digs i).length := (digs_len ⟨i, hi⟩).1
      omega
    · rw [tx_tup, cnt_tup]
      have all : ∀ l : List Dt, (∀ d ∈ l, tkB j d = true) → cntL k l ≤ ((l.map (tx j)).map List.length).sum := fun l => by
        induction l with
        | nil => intro _; rw [cnt_nil]; exact Nat.zero_le _
        | cons a r ih =>
          intro hl
          rw [show a :: r = [a] ++ r from rfl, cntL_append, show [a] ++ r = a :: r from rfl, List.map_cons, List.map_cons, List.sum_cons]
          have h1 := cnt_txt j k a (hl a (.head _))
          have h2 := ih fun d hd => hl d (.tail _ hd)
          omega
      have h1 := all (c :: cs) hk
      have h2 := jn_ge ((c :: cs).map (tx j))
      rw [List.length_append, List.length_cons, List.length_append, List.length_singleton]
      omega
theorem wr_cnt {d : Dt} {t : List Nat} (h : Wr d t) (k : Nat) : cntL k [d] ≤ t.length := by
  obtain ⟨j, h1, rfl⟩ := h
  exact cnt_txt j k d h1
/-! ### the parts of any text -/
def Chn (t : List Nat) : List Nat → Prop
  | [] => True
  | [_] => True
  | a :: b :: r => a + 2 ≤ b ∧ (t.drop (b - 2)).take 2 = [44, 32] ∧ Chn t (b :: r)
theorem Chn.snoc {t : List Nat} {a b : Nat} (hb : a + 2 ≤ b) (hs : (t.drop (b - 2)).take 2 = [44, 32]) : ∀ l : List Nat, Chn t (l ++ [a]) → Chn t (l ++ [a] ++ [b])
  | [], _ => ⟨hb, hs, trivial⟩
  | [x], h => ⟨h.1, h.2.1, hb, hs, trivial⟩
  | x :: y :: l, h => ⟨h.1, h.2.1, Chn.snoc hb hs (y :: l) h.2.2⟩
theorem chn_parts {t : List Nat} : ∀ (ss : List Nat) (a : Nat), Chn t (a :: ss) → ∃ p r, t.drop a = jn (p :: r) ∧ a :: ss = offs a (p :: r)
  | [], a, _ => ⟨t.drop a, [], by show _ = t.drop a ++ []; rw [List.append_nil], rfl⟩
  | b :: ss, a, h => by
    obtain ⟨h1, h2, h3⟩ := h
    obtain ⟨q, r, e1, e2⟩ := chn_parts ss b h3
    have hl := congrArg List.length h2
    rw [List.length_take, List.length_drop] at hl
    have hl : min 2 (t.length - (b - 2)) = 2 := hl
    have pl : ((t.drop a).take (b - 2 - a)).length = b - 2 - a := by rw [List.length_take, List.length_drop]; omega
    refine ⟨(t.drop a).take (b - 2 - a), q :: r, ?_, ?_⟩
    · have d1 : t.drop a = (t.drop a).take (b - 2 - a) ++ (t.drop a).drop (b - 2 - a) := (List.take_append_drop _ _).symm
      have d2 : (t.drop a).drop (b - 2 - a) = t.drop (b - 2) := by rw [List.drop_drop]; congr 1; omega
      have d3 : t.drop (b - 2) = (t.drop (b - 2)).take 2 ++ (t.drop (b - 2)).drop 2 := (List.take_append_drop _ _).symm
      have d4 : (t.drop (b - 2)).drop 2 = t.drop b := by rw [List.drop_drop]; congr 1; omega
      rw [d4, h2, e1] at d3
      rw [d2, d3] at d1
      refine d1.trans ?_
      show _ = _ ++ (q :: r).flatMap fun b => 44 :: 32 :: b
      rw [List.flatMap_cons]
      rfl
    · show a :: b :: ss = a :: offs (a + _ + 2) (q :: r)
      rw [pl, show a + (b - 2 - a) + 2 = b by omega, e2]
theorem sg_chn (t : List Nat) : ∀ i, ∃ pre last, (sg t 0 i (0, [0])).2 = pre ++ [last] ∧ (sg t 0 i (0, [0])).2[0]? = some 0 ∧ Chn t (pre ++ [last]) ∧ (last ≤ i ∨ (last = i + 1 ∧ t[i]? = some 32))
  | 0 => ⟨[], 0, rfl, rfl, trivial, .inl (Nat.le_refl _)⟩
  | i + 1 => by
    obtain ⟨pre, last, h1, h0, h2, h3⟩ := sg_chn t i
    rw [sg_snoc, Nat.zero_add]
    generalize sg t 0 i (0, [0]) = st at h1 h0
    have up : last ≤ i + 1 := by rcases h3 with z | z <;> omega
    unfold step
    by_cases c1 : t[i]? = some 40
    · rw [if_pos c1]; exact ⟨pre, last, h1, h0, h2, .inl up⟩
    rw [if_neg c1]
    by_cases c2 : t[i]? = some 41
    · rw [if_pos c2]; exact ⟨pre, last, h1, h0, h2, .inl up⟩
    rw [if_neg c2]
    by_cases c3 : st.1 = 0 ∧ (t.drop i).take 2 = [44, 32]
    · rw [if_pos c3]
      have g : ∀ n, n < 2 → t[i + n]? = ([44, 32] : List Nat)[n]? := fun n hn => by rw [← c3.2, List.getElem?_take, if_pos hn, List.getElem?_drop]
      have g0 : t[i]? = some 44 := g 0 (by decide)
      have g1 : t[i + 1]? = some 32 := g 1 (by decide)
      have le : last ≤ i := by
        rcases h3 with z | z
        · exact z
        · rw [z.2] at g0; cases g0
      refine ⟨pre ++ [last], i + 2, by show st.2 ++ [i + 2] = _; rw [h1], ?_, Chn.snoc (by omega) (by rw [show i + 2 - 2 = i by omega]; exact c3.2) pre h2, .inr ⟨rfl, g1⟩⟩
      show (st.2 ++ [i + 2])[0]? = some 0
      rw [h1] at h0 ⊢
      rw [List.getElem?_append_left (by simp)]
      exact h0
    · rw [if_neg c3]; exact ⟨pre, last, h1, h0, h2, .inl up⟩
theorem split_any (t : List Nat) : ∃ p r, t = jn (p :: r) ∧ (sg t 0 t.length (0, [0])).2 = offs 0 (p :: r) := by
  obtain ⟨pre, last, h1, h0, h2, _⟩ := sg_chn t t.length
  rw [h1] at h0
  obtain ⟨ss, e⟩ : ∃ ss, pre ++ [last] = 0 :: ss := by
    cases hh : pre ++ [last] with
    | nil => simp at hh
    | cons a ss => rw [hh] at h0; exact ⟨ss, by rw [Option.some.inj h0]⟩
  rw [e] at h2
  obtain ⟨p, r, e1, e2⟩ := chn_parts ss 0 h2
  exact ⟨p, r, e1, by rw [h1, e, e2]⟩
theorem split_one {t p : List Nat} {r : List (List Nat)} {p' : List Nat} {r' : List (List Nat)} (e : t = jn (p :: r)) (o : (sg t 0 t.length (0, [0])).2 = offs 0 (p :: r)) (e' : t = jn (p' :: r')) (h : ∀ q ∈ p' :: r', Cl q) : p :: r = p' :: r' := by
  have b := sg_top h
  rw [← e'] at b
  rw [b] at o
  exact offs_inj (e.symm.trans e') o.symm
end K75

set_option Elab.async false
set_option linter.all false
set_option maxRecDepth 100000
set_option maxHeartbeats 4000000
namespace K75
open PySem L2 Md
/-! ### a text read from left to right -/
def isAn (c : Nat) : Bool := isLow c || isDig c
abbrev Frm := Str × List (Dt × List Nat)
def pf : List Frm → List Nat
  | [] => []
  | (x, ps) :: fs => pf fs ++ (x.cps.toList ++ 40 :: ps.flatMap fun p => p.2 ++ [44, 32])
def Pth : List Frm → Dt → List Nat → Dt → List Nat → Prop
  | [], d0, t0, d, t => d = d0 ∧ t = t0
  | (x, ps) :: fs, d0, t0, d, t => ∃ ds ts, Wrs ds ts ∧ Pth fs d0 t0 (.tuple (.str x :: (ps.map (·.1) ++ d :: ds))) (x.cps.toList ++ 40 :: (jn (ps.map (·.2) ++ t :: ts) ++ [41]))
theorem jn_cons {a : List Nat} {r : List (List Nat)} (h : r ≠ []) : jn (a :: r) = a ++ 44 :: 32 :: jn r := by
  cases r with
  | nil => exact absurd rfl h
  | cons b r => show a ++ (b :: r).flatMap _ = _; rw [List.flatMap_cons]; rfl
theorem jn_app : ∀ (ps : List (Dt × List Nat)) (B : List (List Nat)), B ≠ [] → jn (ps.map (·.2) ++ B) = (ps.flatMap fun p => p.2 ++ [44, 32]) ++ jn B
  | [], B, _ => rfl
  | p :: ps, B, h => by
    rw [List.map_cons, List.cons_append, jn_cons (by simp [h]), jn_app ps B h, List.flatMap_cons]
    simp
theorem jn_one (t : List Nat) (ts : List (List Nat)) : jn (t :: ts) = t ++ ts.flatMap fun b => 44 :: 32 :: b := rfl
/-- what stands behind a part -/
def EndS (s : List Nat) : Prop := s = [] ∨ (∃ s', s = 41 :: s') ∨ ∃ s', s = 44 :: 32 :: s'
theorem pth_pre : ∀ (fs : List Frm) {d0 d : Dt} {t0 t : List Nat}, Pth fs d0 t0 d t → ∃ s, t0 = pf fs ++ (t ++ s) ∧ EndS s
  | [], d0, d, t0, t, h => ⟨[], by rw [h.2, List.append_nil]; rfl, .inl rfl⟩
  | (x, ps) :: fs, d0, d, t0, t, h => by
    obtain ⟨ds, ts, _, h⟩ := h
    obtain ⟨s, e, _⟩ := pth_pre fs h
    rw [jn_app _ _ (by simp), jn_one] at e
    refine ⟨ts.flatMap (fun b => 44 :: 32 :: b) ++ (41 :: s), ?_, ?_⟩
    · rw [e]
      show _ = (pf fs ++ (x.cps.toList ++ 40 :: ps.flatMap fun p => p.2 ++ [44, 32])) ++ _
      simp
    · cases ts with
      | nil => exact .inr (.inl ⟨s, rfl⟩)
      | cons b ts => exact .inr (.inr ⟨b ++ (ts.flatMap (fun b => 44 :: 32 :: b) ++ 41 :: s), by simp⟩)
theorem pth_cons {x : Str} {ps : List (Dt × List Nat)} {fs : List Frm} {d0 d : Dt} {t0 t : List Nat} (h : Pth ((x, ps) :: fs) d0 t0 d t) : ∃ s, t0 = pf ((x, ps) :: fs) ++ (t ++ s) ∧
    ((s.take 1 = [41] ∧ Pth fs d0 t0 (.tuple (.str x :: (ps.map (·.1) ++ [d]))) (x.cps.toList ++ 40 :: (jn (ps.map (·.2) ++ [t]) ++ [41]))) ∨
     (s.take 2 = [44, 32] ∧ ∃ e te, Wr e te ∧ Pth ((x, ps ++ [(d, t)]) :: fs) d0 t0 e te)) := by
  obtain ⟨ds, ts, hw, h⟩ := h
  obtain ⟨s, e, _⟩ := pth_pre fs h
  rw [jn_app _ _ (by simp), jn_one] at e
  refine ⟨ts.flatMap (fun b => 44 :: 32 :: b) ++ (41 :: s), ?_, ?_⟩
  · rw [e]
    show _ = (pf fs ++ (x.cps.toList ++ 40 :: ps.flatMap fun p => p.2 ++ [44, 32])) ++ _
    simp
  · cases hw with
    | nil => exact .inl ⟨rfl, h⟩
    | @cons q te ds ts h1 h2 =>
      refine .inr ⟨by simp, q, te, h1, ds, ts, h2, ?_⟩
      rw [List.map_append, List.map_append, List.append_assoc, List.append_assoc]
      exact h
theorem run_all {l s : List Nat} (h : ∀ c ∈ l, isAn c = true) (hs : ∀ c, s.head? = some c → isAn c = false) : (l ++ s).takeWhile isAn = l := by
  induction l with
  | nil =>
    cases s with
    | nil => rfl
    | cons c s => show List.takeWhile isAn (c :: s) = []; rw [List.takeWhile_cons, hs c rfl]; rfl
  | cons a l ih => rw [List.cons_append, List.takeWhile_cons, h a (.head _), if_pos rfl, ih fun c hc => h c (.tail _ hc)]
theorem low_an {c : Nat} (h : isLow c = true) : isAn c = true := by unfold isAn; rw [h]; rfl
theorem dig_an {c : Nat} (h : isDig c = true) : isAn c = true := by unfold isAn; rw [h, Bool.or_true]
theorem EndS.an {s : List Nat} (h : EndS s) : ∀ c, s.head? = some c → isAn c = false := by
  rintro c hc
  rcases h with rfl | ⟨s', rfl⟩ | ⟨s', rfl⟩
  · cases hc
  · cases hc; decide
  · cases hc; decide
theorem run_word {x : Str} (h : isWord x = true) (s : List Nat) : (x.cps.toList ++ 40 :: s).takeWhile isAn = x.cps.toList :=
  run_all (fun c hc => low_an (((isWord_iff x).mp h).2 c hc)) fun c hc => by cases hc; decide
theorem run_digs {i : Nat} (h : i < 100) {s : List Nat} (hs : EndS s) : (digs i ++ s).takeWhile isAn = digs i :=
  run_all (fun c hc => dig_an (List.all_eq_true.mp (digs_plain ⟨i, h⟩) c hc)) hs.an
theorem word_digs {x : Str} (h : isWord x = true) {i : Nat} (hi : i < 100) : x.cps.toList ≠ digs i := fun e => by
  have hw := (isWord_iff x).mp h
  have l : 1 ≤ (digs i).length := (digs_len ⟨i, hi⟩).1
  have a := List.all_eq_true.mp (digs_plain ⟨i, hi⟩)
  obtain ⟨c, hc⟩ : ∃ c, (digs i)[0]? = some c := ⟨(digs i)[0]'(by omega), List.getElem?_eq_getElem (by omega)⟩
  have m := List.mem_of_getElem? hc
  have c1 := a c m
  have c2 := hw.2 c (by rw [e]; exact m)
  unfold isDig at c1
  unfold isLow at c2
  have := of_decide_eq_true c1
  have := of_decide_eq_true c2
  omega
structure MI (t : List Nat) (n : Nat) (fs : List Frm) : Prop where
  pre : t.take n = pf fs
  le : n ≤ t.length
  good : ∀ f ∈ fs, isWord f.1 = true ∧ Wrs (f.2.map (·.1)) (f.2.map (·.2))
  comp : ∀ d0, Wr d0 t → ∃ d td, Wr d td ∧ Pth fs d0 t d td
structure NI (t : List Nat) (n : Nat) (fs : List Frm) (d : Dt) (td : List Nat) : Prop where
  pre : t.take n = pf fs ++ td
  le : n ≤ t.length
  good : ∀ f ∈ fs, isWord f.1 = true ∧ Wrs (f.2.map (·.1)) (f.2.map (·.2))
  wr : Wr d td
  comp : ∀ d0, Wr d0 t → Pth fs d0 t d td
theorem mi_start (t : List Nat) : MI t 0 [] := ⟨rfl, Nat.zero_le _, (fun _ z => nomatch z), fun d0 h => ⟨d0, t, h, rfl, rfl⟩⟩
theorem cut_pre {t a b : List Nat} {n : Nat} (h : t.take n = a) (hn : n ≤ t.length) (e : t = a ++ b) : t.drop n = b := by
  have l := congrArg List.length h
  rw [List.length_take, Nat.min_eq_left hn] at l
  rw [e, l, List.drop_left]
theorem MI.focus {t : List Nat} {n : Nat} {fs : List Frm} (h : MI t n fs) {d0 : Dt} (h0 : Wr d0 t) : ∃ d td s, Wr d td ∧ Pth fs d0 t d td ∧ t.drop n = td ++ s ∧ EndS s := by
  obtain ⟨d, td, h1, h2⟩ := h.comp d0 h0
  obtain ⟨s, e, hs⟩ := pth_pre fs h2
  exact ⟨d, td, s, h1, h2, cut_pre h.pre h.le e, hs⟩
theorem take_more {t a b : List Nat} {n m : Nat} (h : t.take n = a) (e : (t.drop n).take m = b) : t.take (n + m) = a ++ b := by
  rw [List.take_add, h, e]
theorem run_take {t : List Nat} {x : List Nat} (h : t.takeWhile isAn = x) : t.take x.length = x ∧ x.length ≤ t.length := by
  have e : t = x ++ t.dropWhile isAn := by rw [← h]; exact List.takeWhile_append_dropWhile.symm
  exact ⟨(congrArg (List.take x.length) e).trans List.take_left, by rw [e, List.length_append]; omega⟩
theorem MI.opens {t : List Nat} {n : Nat} {fs : List Frm} (h : MI t n fs) {x : Str} (hx : isWord x = true) (hr : (t.drop n).takeWhile isAn = x.cps.toList) (ho : (t.drop (n + x.cps.toList.length)).take 1 = [40]) : MI t (n + x.cps.toList.length + 1) ((x, []) :: fs) := by
  obtain ⟨r1, r2⟩ := run_take hr
  rw [List.length_drop] at r2
  have ol := congrArg List.length ho
  rw [List.length_take, List.length_drop, List.length_singleton] at ol
  have hle := h.le
  refine ⟨?_, by omega, fun f hf => ?_, fun d0 h0 => ?_⟩
  · rw [take_more (take_more h.pre r1) ho]
    show _ = pf fs ++ (x.cps.toList ++ [40])
    rw [List.append_assoc]
  · rcases List.mem_cons.mp hf with z | z
    · rw [z]; exact ⟨hx, .nil⟩
    · exact h.good f z
  · obtain ⟨d, td, s, h1, h2, e, hs⟩ := h.focus h0
    rw [e] at hr
    rcases wr_inv h1 with ⟨i, hi, rfl, rfl⟩ | ⟨y, c, cs, ts, rfl, hy, ht, rfl⟩
    · rw [run_digs hi hs] at hr
      exact absurd hr.symm (word_digs hx hi)
    · rw [List.append_assoc, List.cons_append, run_word hy] at hr
      have exy : y = x := Md.str_ext hr
      subst exy
      cases ht with
      | @cons _ tc _ ts hc hcs => exact ⟨c, tc, hc, cs, ts, hcs, h2⟩
theorem MI.stuck {t : List Nat} {n : Nat} {fs : List Frm} (h : MI t n fs) {x : Str} (hr : (t.drop n).takeWhile isAn = x.cps.toList) (hno : ¬ (isWord x = true ∧ (t.drop (n + x.cps.toList.length)).take 1 = [40])) (hd : ∀ i, i < 100 → x.cps.toList ≠ digs i) : ∀ d0, ¬ Wr d0 t := fun d0 h0 => by
  obtain ⟨d, td, s, h1, h2, e, hs⟩ := h.focus h0
  have e0 := e
  rw [e] at hr
  rcases wr_inv h1 with ⟨i, hi, rfl, rfl⟩ | ⟨y, c, cs, ts, rfl, hy, ht, rfl⟩
  · rw [run_digs hi hs] at hr
    exact hd i hi hr.symm
  · rw [List.append_assoc, List.cons_append, run_word hy] at hr
    have exy : y = x := Md.str_ext hr
    subst exy
    refine hno ⟨hy, ?_⟩
    rw [← List.drop_drop, e0, List.append_assoc, List.drop_left]
    rfl
theorem MI.num {t : List Nat} {n i : Nat} {fs : List Frm} (h : MI t n fs) (hi : i < 100) (hr : (t.drop n).takeWhile isAn = digs i) : NI t (n + (digs i).length) fs (.int i) (digs i) := by
  obtain ⟨r1, r2⟩ := run_take hr
  rw [List.length_drop] at r2
  have hle := h.le
  refine ⟨take_more h.pre r1, by omega, h.good, wr_int hi, fun d0 h0 => ?_⟩
  obtain ⟨d, td, s, h1, h2, e, hs⟩ := h.focus h0
  rw [e] at hr
  rcases wr_inv h1 with ⟨j, hj, rfl, rfl⟩ | ⟨y, c, cs, ts, rfl, hy, ht, rfl⟩
  · rw [run_digs hj hs] at hr
    rw [digs_inj hj hi hr] at h2
    exact h2
  · rw [List.append_assoc, List.cons_append, run_word hy] at hr
    exact absurd hr (word_digs hy hi)
theorem NI.behind {t : List Nat} {n : Nat} {x : Str} {ps : List (Dt × List Nat)} {fs : List Frm} {d : Dt} {td : List Nat} (h : NI t n ((x, ps) :: fs) d td) {d0 : Dt} (h0 : Wr d0 t) : 
    (((t.drop n).take 1 = [41] ∧ Pth fs d0 t (.tuple (.str x :: (ps.map (·.1) ++ [d]))) (x.cps.toList ++ 40 :: (jn (ps.map (·.2) ++ [td]) ++ [41]))) ∨
     ((t.drop n).take 2 = [44, 32] ∧ ∃ e te, Wr e te ∧ Pth ((x, ps ++ [(d, td)]) :: fs) d0 t e te)) := by
  obtain ⟨s, e, hh⟩ := pth_cons (h.comp d0 h0)
  rw [cut_pre h.pre h.le (by rw [e, List.append_assoc])]
  exact hh
theorem NI.close {t : List Nat} {n : Nat} {x : Str} {ps : List (Dt × List Nat)} {fs : List Frm} {d : Dt} {td : List Nat} (h : NI t n ((x, ps) :: fs) d td) (ho : (t.drop n).take 1 = [41]) :
    NI t (n + 1) fs (.tuple (.str x :: (ps.map (·.1) ++ [d]))) (x.cps.toList ++ 40 :: (jn (ps.map (·.2) ++ [td]) ++ [41])) := by
  have ol := congrArg List.length ho
  rw [List.length_take, List.length_drop, List.length_singleton] at ol
  have hle := h.le
  obtain ⟨g1, g2⟩ := h.good (x, ps) (.head _)
  refine ⟨?_, by omega, fun f hf => h.good f (.tail _ hf), ?_, fun d0 h0 => ?_⟩
  · rw [take_more h.pre ho, jn_app _ _ (by simp), jn_one]
    show ((pf fs ++ (x.cps.toList ++ 40 :: ps.flatMap fun p => p.2 ++ [44, 32])) ++ td) ++ [41] = _
    simp
  · have a : Wrs (ps.map (·.1) ++ [d]) (ps.map (·.2) ++ [td]) := g2.append (.cons h.wr .nil)
    cases hp : ps.map (·.1) ++ [d] with
    | nil => simp at hp
    | cons c cs => rw [hp] at a; exact wr_tup g1 a
  · rcases h.behind h0 with z | z
    · exact z.2
    · have e : (t.drop n).take 1 = [44] := by
        have := congrArg (List.take 1) z.1
        rw [List.take_take] at this
        exact this
      rw [ho] at e
      cases e
theorem NI.ends {t : List Nat} {n : Nat} {d : Dt} {td : List Nat} (h : NI t n [] d td) (hn : n = t.length) : Wr d t := by
  have e := h.pre
  rw [hn, List.take_length] at e
  rw [e]
  exact h.wr
theorem NI.more {t : List Nat} {n : Nat} {d : Dt} {td : List Nat} (h : NI t n [] d td) (hn : n ≠ t.length) : ∀ d0, ¬ Wr d0 t := fun d0 h0 => by
  have e : td = t := (h.comp d0 h0).2
  have p := h.pre
  have hle := h.le
  have := congrArg List.length p
  rw [List.length_take, e] at this
  have : min n t.length = t.length := this
  omega
theorem NI.bad {t : List Nat} {n : Nat} {x : Str} {ps : List (Dt × List Nat)} {fs : List Frm} {d : Dt} {td : List Nat} (h : NI t n ((x, ps) :: fs) d td) (h1 : (t.drop n).take 1 ≠ [41]) (h2 : (t.drop n).take 2 ≠ [44, 32]) : ∀ d0, ¬ Wr d0 t := fun d0 h0 => by
  rcases h.behind h0 with z | z
  · exact h1 z.1
  · exact h2 z.1
theorem NI.next {t : List Nat} {n : Nat} {x : Str} {ps : List (Dt × List Nat)} {fs : List Frm} {d : Dt} {td : List Nat} (h : NI t n ((x, ps) :: fs) d td) (ho : (t.drop n).take 2 = [44, 32]) : MI t (n + 2) ((x, ps ++ [(d, td)]) :: fs) := by
  have ol := congrArg List.length ho
  rw [List.length_take, List.length_drop] at ol
  have ol : min 2 (t.length - n) = 2 := ol
  have hle := h.le
  refine ⟨?_, by omega, fun f hf => ?_, fun d0 h0 => ?_⟩
  · rw [take_more h.pre ho]
    show ((pf fs ++ (x.cps.toList ++ 40 :: ps.flatMap fun p => p.2 ++ [44, 32])) ++ td) ++ [44, 32] = pf fs ++ (x.cps.toList ++ 40 :: (ps ++ [(d, td)]).flatMap fun p => p.2 ++ [44, 32])
    rw [List.flatMap_append]
    simp
  · rcases List.mem_cons.mp hf with z | z
    · rw [z]
      obtain ⟨g1, g2⟩ := h.good (x, ps) (.head _)
      exact ⟨g1, by rw [List.map_append, List.map_append]; exact g2.append (.cons h.wr .nil)⟩
    · exact h.good f (.tail _ z)
  · rcases h.behind h0 with z | z
    · have e : (t.drop n).take 1 = [44] := by
        have := congrArg (List.take 1) ho
        rw [List.take_take] at this
        exact this
      rw [z.1] at e
      cases e
    · exact z.2
end K75

set_option Elab.async false
set_option linter.all false
set_option maxRecDepth 100000
set_option maxHeartbeats 4000000
namespace K75
open PySem L2 Md
def spFig : Sp := fun vs H Q _ => ∃ x : Str, vs = [.str x] ∧ x.length ≤ 1000 ∧ ∀ H', Same H H' → Q (.bl (figB x.cps.toList)) H'
def spSplit : Sp := fun vs H Q _ => ∃ (x : Str), vs = [.str x] ∧ x.length ≤ 1000 ∧
  ∀ (l : Addr) (xs : List Str) (H' : Hp) (p : List Nat) (r : List (List Nat)), H l = none → Same H H' → H' l = some (.lst (xs.map V.str)) → xs.map (fun x => x.cps.toList) = p :: r → x.cps.toList = jn (p :: r) → (∀ p' r', x.cps.toList = jn (p' :: r') → (∀ q ∈ p' :: r', Cl q) → p :: r = p' :: r') → Q (.ref l) H'
theorem sgn_eq (c d : Nat) : decide (V.str ⟨#[c]⟩ = V.str ⟨#[d]⟩) = decide (c = d) := decide_eq_decide.mpr ⟨fun z => by injection z with z; injection z with z; have := congrArg (fun a => a.toList) z; simpa using this, fun z => by rw [z]⟩
theorem lit_open : ("(" : Str) = ⟨#[40]⟩ := by decide +kernel
theorem lit_close : (")" : Str) = ⟨#[41]⟩ := by decide +kernel
theorem lit_nought : ("0" : Str) = ⟨#[48]⟩ := by decide +kernel
theorem str_iff {x y : Str} : (V.str x = V.str y) ↔ x.cps.toList = y.cps.toList := ⟨fun z => by injection z with z; rw [z], fun z => by rw [Md.str_ext z]⟩
theorem offs_ge : ∀ (l : List (List Nat)) (o : Nat), ∀ s ∈ offs o l, o ≤ s
  | [], o, s, h => by cases h
  | p :: r, o, s, h => by
    rcases List.mem_cons.mp h with z | z
    · omega
    · have := offs_ge r _ s z
      omega
def lessV : V → V
  | .int i => .int (i - 2)
  | v => v
def cutT (x : Str) : V × V → V
  | (.int a, .int b) => .str (Txt.slice x (some a) (some b))
  | _ => .non
theorem nd_st1 : (["start"] : List Str).Nodup := by decide +kernel
theorem nd_set : (["start", "end", "text"] : List Str).Nodup := by decide +kernel
structure TxtSp (mg : Str → Option Value) : Prop where
  enum : mg "enumerate" = none
  len : mg "len" = none
  zip : mg "zip" = none
section
variable {P : Program} {w : World} {K : W.Frag} {mg : Str → Option Value} {base : Heap}
theorem scFg : FnScope ["text"] ["text"] (defScope s_is_figures) := ⟨rfl, rfl, rfl, by decide +kernel, rfl, by decide +kernel, by decide +kernel⟩
theorem ok_fig {f : Addr} {fd : FuncData} {T1 : Tok} (F : Def K mg "is_figures" s_is_figures ["text"] f fd) (len : mg "len" = none) (all : mg "all" = none) (hl : mg "DIGITS" = some (.str figures T1)) : FnOk P w K mg base CX0 1 f fd ["text"] spFig := by
  refine F.fn.ok scFg (fun vs H Q E h => ?_) (fun cdv A outer s H vs Q E hr h => ?_)
  · obtain ⟨x, rfl, _⟩ := h
    rfl
  · obtain ⟨x, rfl, hx, k⟩ := h
    refine' ⟨_, (pss_cons (ps_if (PW.pt (pw_or (pt_not (pt_chain op_le op_le pe_int (pe_callB call_len (by rfl) len PySem.boot_len (pa_cons (pv 0) pa_nil)) pe_int)) (pw_or1 (pt_not (pt_val (pe_callB (r := rAll K fun bs => bs.all id) (call_all rfl) (by rfl) all PyProof.Rows.boot_all (pa_cons ?eC pa_nil))))))) (pss_one (ps_ret pe_bl)) pss_nil)
      (pss_one (ps_ret (pe_or (pe_cmpR op_eq (pe_callB call_len (by rfl) len PySem.boot_len (pa_cons (pv 0) pa_nil)) pe_int (nomark _)) (pe_one (pe_cmpR op_ne (pe_ix (r := rIxS) ix_str (pv 0) pe_int (fun _ _ => rfl)) pe_str (nomark _))))))), ?_⟩
    case eC => exact (pe_comp ["sign"] [] [] (fun _ => compT_ok (osc := defScope s_is_figures) (on := ["text"]) (by decide +kernel) rfl rfl rfl) (pi_str (pv 0)) (fun C s H fp => pg_name (i := 0) nd_sign rfl (Or.inl rfl) (Or.inr rfl)) (fun C s H fp => pts_nil)
          (fun C s H fp => pe_cmpR op_in_str (pv 0) (pe_glob (v := .str figures) (by rfl) hl ⟨_, rfl⟩) (by with_unfolding_all rfl)))
    have sl := str_len x
    have same : Same H H := Same.refl H
    have no : ¬ (1 ≤ x.length ∧ x.length ≤ 2) → figB x.cps.toList = false := fun h => by unfold figB; rw [sl, decide_eq_false h]; rfl
    refine ⟨_, rfl, _, _, rfl, ⟨small_line (by omega), rfl⟩, _, _, rfl, rfl, _, rfl, ?_⟩
    refine ite2 (fun h1 => ?_) (fun h1 => ?_)
    · have h1 : (1 : Int) ≤ (x.length : Int) := of_decide_eq_true h1
      refine ⟨_, _, rfl, rfl, _, rfl, ?_⟩
      refine ite2 (fun h2 => ?_) (fun h2 => ?_)
      · have h2 : ¬ ((x.length : Int) ≤ 2) := by simpa using h2
        have q := k H same
        rw [no (by omega)] at q
        exact q
      · have h2 : ((x.length : Int) ≤ 2) := by simpa using h2
        refine ⟨_, rfl, _, rfl, comp_pure runs_str (by unfold signsV; rw [List.length_map, str_len]; exact small_line (by omega)) (fun _ => true) inFig (fun _ _ _ => trivial) ?_ ?_ ?_⟩
        · intro D ys v R _ _ hR
          exact hR
        · intro D ys v R _ hv _ hR
          obtain ⟨c, _, e⟩ := List.mem_map.mp hv
          subst e
          exact ⟨_, rfl, _, _, rfl, rfl, hR⟩
        · intro D hD
          refine ⟨D, x.cps.toList.map isDig, rfl, SqL.of (by rw [← signs_dig]; exact upd_same), _, rfl, ?_⟩
          have s1 : Same H (upd H D (.lst (((signsV x).filter fun _ => true).map inFig))) := snew hD
          generalize upd H D (.lst (((signsV x).filter fun _ => true).map inFig)) = H1 at s1
          have k1 := k H1 s1
          unfold figB at k1
          rw [sl, decide_eq_true (show 1 ≤ x.length ∧ x.length ≤ 2 by omega), Bool.true_and] at k1
          have e : (x.cps.toList.map isDig).all id = x.cps.toList.all isDig := by rw [List.all_map]; rfl
          show (if (!((x.cps.toList.map isDig).all id)) = true then _ else _)
          rw [e]
          cases ha : x.cps.toList.all isDig with
          | false =>
            rw [ha] at k1
            exact iteT k1
          | true =>
            rw [ha, Bool.true_and] at k1
            refine iteF ⟨_, rfl, _, _, rfl, ⟨small_line (by omega), rfl⟩, rfl, _, rfl, ?_⟩
            have el : decide (V.int (x.length : Int) = V.int 1) = decide (x.length = 1) := decide_eq_decide.mpr ⟨fun z => by injection z with z; omega, fun z => by rw [z]; rfl⟩
            rw [el]
            cases hx1 : decide (x.length = 1) with
            | true =>
              rw [hx1] at k1
              exact iteT k1
            | false =>
              rw [hx1, Bool.false_or] at k1
              obtain ⟨c, hc⟩ : ∃ c, x.cps.toList[0]? = some c := ⟨x.cps.toList[0], List.getElem?_eq_getElem (by omega)⟩
              have hh : x.cps.toList.head? = some c := by rw [List.head?_eq_getElem?]; exact hc
              refine iteF ⟨_, rfl, x, 0, c, rfl, rfl, small_line (by omega), atI_nat (j := 0) hc, rfl, ?_⟩
              rw [hh] at k1
              show Q (.bl (!decide (V.str ⟨#[c]⟩ = V.str ("0" : Str)))) H1
              rw [lit_nought, sgn_eq]
              have e2 : decide (some c = some 48) = decide (c = 48) := decide_eq_decide.mpr ⟨fun z => Option.some.inj z, fun z => by rw [z]⟩
              rw [e2] at k1
              exact k1
    · have h1 : ¬ ((1 : Int) ≤ (x.length : Int)) := fun z => h1 (decide_eq_true z)
      refine ⟨_, rfl, ?_⟩
      refine iteT ?_
      have q := k H same
      rw [no (by omega)] at q
      exact q
abbrev nSpl : List Str := ["text", "starts", "depth", "spot", "sign", "ends"]
theorem scSpl : FnScope nSpl ["text"] (defScope s_split_parts) := ⟨rfl, rfl, rfl, by decide +kernel, rfl, by decide +kernel, by decide +kernel⟩
theorem ok_split {f : Addr} {fd : FuncData} (F : Def K mg "split_parts" s_split_parts ["text"] f fd) (T : TxtSp mg) : FnOk P w K mg base CX0 1 f fd ["text"] spSplit := by
  refine F.fn.ok scSpl (fun vs H Q E h => ?_) (fun cdv A outer s H vs Q E hr h => ?_)
  · obtain ⟨x, rfl, _⟩ := h
    rfl
  · obtain ⟨x, rfl, hx, q⟩ := h
    obtain ⟨p, r, hj, top⟩ := split_any x.cps.toList
    have uni : ∀ p' r', x.cps.toList = jn (p' :: r') → (∀ q ∈ p' :: r', Cl q) → p :: r = p' :: r' := fun p' r' e h => split_one hj top e h
    have nd := scSpl.nd
    refine' ⟨_, (pss_cons (ps_set (i := 1) nd rfl (Or.inl rfl) (pe_lst (pa_cons pe_int pa_nil)))
      (pss_cons (ps_set (i := 2) nd rfl (Or.inl rfl) pe_int)
      (pss_cons (ps_for PassesOwn.never rfl (pi_enumS (by rfl) T.enum (pa_cons (pv 0) pa_nil)) (pg_tup rfl (pgs_cons (pg_name (i := 3) nd rfl (Or.inl rfl)) (pgs_cons (pg_name (i := 4) nd rfl (Or.inl rfl)) pgs_nil)))
        (pss_one (ps_if (pt_cmpR op_eq (pv 4) pe_str (nomark _)) (pss_one (ps_set (i := 2) nd rfl (Or.inl rfl) (pe_op op_add (pv 2) pe_int)))
          (pss_one (ps_if (pt_cmpR op_eq (pv 4) pe_str (nomark _)) (pss_one (ps_set (i := 2) nd rfl (Or.inl rfl) (pe_op op_sub (pv 2) pe_int)))
            (pss_one (ps_if (PW.pt (pw_and (pt_cmpR op_eq (pv 2) pe_int (nomark _)) (pw_and1 (pt_cmpR op_eq (pe_slice (r := rSlS) sl_str (pv 0) (po_some (pv 3)) (po_some (pe_op op_add (pv 3) pe_int))) pe_str (nomark _))))) (pss_one (ps_expr (pe_bm PySem.F.plainAttrs_list PySem.F.slot_list_append PySem.F.type_list_append mt_append (pv 1) (pa_cons (pe_op op_add (pv 3) pe_int) pa_nil)))) pss_nil)))))))
      (pss_cons (ps_set (i := 5) nd rfl (Or.inl rfl) (pe_op op_cat ?eE (pe_lst (pa_cons (pe_callB call_len (by rfl) T.len PySem.boot_len (pa_cons (pv 0) pa_nil)) pa_nil))))
      (pss_one (ps_ret ?eP)))))), ?_⟩
    case eE => exact (pe_comp ["start"] [] [] (fun _ => compT_ok (osc := defScope s_split_parts) (on := nSpl) (by decide +kernel) rfl rfl rfl) (pi_list (pe_slice (r := rSlL K) sl_list (pv 1) (po_some pe_int) po_none)) (fun C s H fp => pg_name (i := 0) nd_st1 rfl (Or.inl rfl) (Or.inr rfl)) (fun C s H fp => pts_nil) (fun C s H fp => pe_op op_sub (pv 0) pe_int))
    case eP => exact (pe_comp ["start", "end"] ["text"] [0] (fun _ => compT_ok (osc := defScope s_split_parts) (on := nSpl) (by decide +kernel) rfl rfl rfl) (pi_zipL (by rfl) T.zip (pa_cons (pv 1) (pa_cons (pv 5) pa_nil))) (fun C s H fp => pg_two (K := K) (i := 0) (j := 1) rfl rfl nd_set rfl rfl (Or.inl rfl) (Or.inl rfl) (Or.inr rfl) (Or.inr rfl)) (fun C s H fp => pts_nil) (fun C s H fp => pe_slice (r := rSlS) sl_str (pv 2) (po_some (pv 0)) (po_some (pv 1))))
    have sl := str_len x
    refine ⟨small_line (by show 1 ≤ 100000; decide), fun ls hls => ?_⟩
    have s1 : Same H (upd H ls (.lst [.int 0])) := snew hls
    have h11 : (upd H ls (.lst [.int 0])) ls = some (.lst (([0] : List Nat).map natV)) := upd_same
    generalize upd H ls (.lst [.int 0]) = H1 at s1 h11
    refine ⟨_, rfl, x, rfl, for_pairs (fun i σ H' => ∃ y3 y4 : Option V, σ = [some (.str x), some (.ref ls), some (.int (sg x.cps.toList 0 i (0, [0])).1), y3, y4, none] ∧ Same H H' ∧ H' ls = some (.lst ((sg x.cps.toList 0 i (0, [0])).2.map natV)) ∧ (sg x.cps.toList 0 i (0, [0])).2.length ≤ i + 1)
      ⟨none, none, rfl, s1, h11, Nat.le_refl _⟩ (fun _ _ _ _ _ => trivial) ?_ ?_⟩
    · rintro i pr t σ H2 hi ⟨y3, y4, rfl, s2, h2, sl2⟩ ht0
      obtain ⟨e1, hx'⟩ := enumV_get hi
      unfold signsV at hx'
      rw [List.getElem?_map] at hx'
      obtain ⟨c, hc, e2⟩ := Option.map_eq_some_iff.mp hx'
      have il : i < x.cps.toList.length := (List.getElem?_eq_some_iff.mp hc).1
      refine g2_new ?_
      have s23 : Same H2 (upd H2 t (.tup [pr.1, pr.2])) := snew ht0
      generalize upd H2 t (.tup [pr.1, pr.2]) = H3 at s23
      rw [e1, ← e2]
      have es : sg x.cps.toList 0 (i + 1) (0, [0]) = step x.cps.toList i (sg x.cps.toList 0 i (0, [0])) := by rw [sg_snoc, Nat.zero_add]
      rw [es]
      have h3 := s23 _ _ h2
      have s3 := s2.trans s23
      generalize sg x.cps.toList 0 i (0, [0]) = st at h3 sl2 ⊢
      refine ⟨_, rfl, rfl, _, rfl, ?_⟩
      have lo : decide (V.str ⟨#[c]⟩ = V.str ("(" : Str)) = decide (c = 40) := by rw [lit_open]; exact sgn_eq c 40
      have lc : decide (V.str ⟨#[c]⟩ = V.str (")" : Str)) = decide (c = 41) := by rw [lit_close]; exact sgn_eq c 41
      rw [lo]
      by_cases c40 : c = 40
      · rw [decide_eq_true c40]
        have : step x.cps.toList i st = (st.1 + 1, st.2) := step_open (by rw [hc, c40]) st
        rw [this]
        exact iteT ⟨_, rfl, _, _, rfl, rfl, _, _, rfl, s3, h3, by show st.2.length ≤ i + 1 + 1; omega⟩
      · rw [decide_eq_false c40]
        refine iteF ⟨_, rfl, rfl, _, rfl, ?_⟩
        rw [lc]
        by_cases c41 : c = 41
        · rw [decide_eq_true c41]
          have : step x.cps.toList i st = (st.1 - 1, st.2) := step_close (by rw [hc, c41]) st
          rw [this]
          exact iteT ⟨_, rfl, _, _, rfl, rfl, _, _, rfl, s3, h3, by show st.2.length ≤ i + 1 + 1; omega⟩
        · rw [decide_eq_false c41]
          have est : step x.cps.toList i st = if st.1 = 0 ∧ (x.cps.toList.drop i).take 2 = [44, 32] then (st.1, st.2 ++ [i + 2]) else st := by
            unfold step
            rw [hc, if_neg (fun z => c40 (Option.some.inj z)), if_neg (fun z => c41 (Option.some.inj z))]
          have d0 : decide (V.int st.1 = V.int 0) = decide (st.1 = 0) := decide_eq_decide.mpr ⟨fun z => by injection z, fun z => by rw [z]⟩
          refine iteF ⟨_, rfl, rfl, _, rfl, ?_⟩
          rw [d0]
          by_cases z0 : st.1 = 0
          · rw [decide_eq_true z0]
            refine iteT ⟨_, rfl, _, rfl, _, rfl, _, rfl, _, _, rfl, rfl, _, rfl, x, rfl, small_line (by omega), rfl, _, rfl, ?_⟩
            have dt : decide (V.str (Txt.slice x (some (i : Int)) (some ((i : Int) + 2))) = V.str (", " : Str)) = decide ((x.cps.toList.drop i).take 2 = [44, 32]) := decide_eq_decide.mpr (by rw [str_iff, slice_two x i (by omega), cps_sep])
            rw [dt]
            by_cases zt : (x.cps.toList.drop i).take 2 = [44, 32]
            · rw [decide_eq_true zt, est, if_pos ⟨z0, zt⟩]
              refine iteT ⟨_, rfl, .inl ⟨rfl, _, SqL.of h3⟩, _, rfl, _, _, rfl, rfl, ls, _, _, rfl, rfl, h3, small_lt (by rw [List.length_map]; omega), _, _, rfl, fun b o e => by rw [upd_ne (ne_of_none e hls)]; exact s3 _ _ e, ?_, by show (st.2 ++ [i + 2]).length ≤ i + 1 + 1; rw [List.length_append, List.length_singleton]; omega⟩
              rw [upd_same]
              show _ = some (HO.lst ((st.2 ++ [i + 2]).map natV))
              rw [List.map_append]
              rfl
            · rw [decide_eq_false zt, est, if_neg (fun z => zt z.2)]
              exact iteF ⟨_, _, rfl, s3, h3, by omega⟩
          · rw [decide_eq_false z0, est, if_neg (fun z => z0 z.1)]
            exact iteF ⟨_, _, rfl, s3, h3, by omega⟩
    · rintro σ H2 ⟨y3, y4, rfl, s2, h2, sl2⟩
      have el : (enumV (signsV x)).length = x.cps.toList.length := by rw [enumV_len]; unfold signsV; rw [List.length_map]
      rw [el] at h2 sl2
      rw [top] at h2 sl2
      have h2 : H2 ls = some (.lst ((offs 0 (p :: r)).map natV)) := h2
      have zp := zz_parts (full := x.cps.toList) (r := r) (p := p) (pre := []) hj
      have zp1 : (zz (offs 0 (p :: r)) x.cps.toList.length).map (fun ab => (x.cps.toList.drop ab.1).take (ab.2 - ab.1)) = p :: r := zp.1
      have zp2 : ∀ ab ∈ zz (offs 0 (p :: r)) x.cps.toList.length, ab.1 ≤ ab.2 ∧ ab.2 ≤ x.cps.toList.length := zp.2
      have ge : ∀ s ∈ (offs 0 (p :: r)).drop 1, 2 ≤ s := fun s hs => by
        have := offs_ge r (0 + p.length + 2) s hs
        omega
      have sl2 : (offs 0 (p :: r)).length ≤ x.cps.toList.length + 1 := sl2
      generalize offs 0 (p :: r) = ss at h2 sl2 zp1 zp2 ge
      refine ⟨_, rfl, _, rfl, ?_⟩
      unfold tNoPart
      refine ⟨ls, _, rfl, SqL.of h2, fun lr hlr => ?_⟩
      have ec : cutV (ss.map natV) (some (1 : Int)) none = (ss.drop 1).map natV := by rw [cut1, List.map_drop]
      rw [ec]
      have s23 : Same H2 (upd H2 lr (.lst ((ss.drop 1).map natV))) := snew hlr
      have h33 : (upd H2 lr (.lst ((ss.drop 1).map natV))) lr = some (.lst ((ss.drop 1).map natV)) := upd_same
      generalize upd H2 lr (.lst ((ss.drop 1).map natV)) = H3 at s23 h33
      have dl : (ss.drop 1).length ≤ 1001 := by rw [List.length_drop]; omega
      refine ⟨lr, rfl, ⟨_, SqL.of h33⟩, comp_pure (runs_list (xs := (ss.drop 1).map natV)) (small_line (by rw [List.length_map]; omega)) (fun _ => true) lessV (fun D ys hD => SqL.of (by rw [upd_ne (ne_of_none h33 hD)]; exact h33)) ?_ ?_ ?_⟩
      · intro D ys v R _ _ hR
        exact hR
      · intro D ys v R _ hv _ hR
        obtain ⟨z, _, e⟩ := List.mem_map.mp hv
        subst e
        exact ⟨_, rfl, _, _, rfl, rfl, hR⟩
      · intro le hle
        have ee : (((ss.drop 1).map natV).filter fun _ => true).map lessV = ((ss.drop 1).map (· - 2)).map natV := by
          rw [List.filter_eq_self.mpr fun _ _ => rfl, List.map_map, List.map_map]
          refine List.map_congr_left fun z hz => ?_
          have := ge z hz
          show V.int ((z : Int) - 2) = V.int ((z - 2 : Nat) : Int)
          rw [show ((z - 2 : Nat) : Int) = (z : Int) - 2 by omega]
        rw [ee]
        have s34 : Same H3 (upd H3 le (.lst (((ss.drop 1).map (· - 2)).map natV))) := snew hle
        have h44 : (upd H3 le (.lst (((ss.drop 1).map (· - 2)).map natV))) le = some (.lst (((ss.drop 1).map (· - 2)).map natV)) := upd_same
        generalize upd H3 le (.lst (((ss.drop 1).map (· - 2)).map natV)) = H4 at s34 h44
        refine ⟨_, rfl, _, _, rfl, ⟨small_line (by omega), rfl⟩, small_line (by show 1 ≤ 100000; decide), fun l1 hl1 => ?_⟩
        have s45 : Same H4 (upd H4 l1 (.lst [.int (x.length : Int)])) := snew hl1
        have h55 : (upd H4 l1 (.lst [.int (x.length : Int)])) l1 = some (.lst [.int (x.length : Int)]) := upd_same
        generalize upd H4 l1 (.lst [.int (x.length : Int)]) = H5 at s45 h55
        refine ⟨le, l1, _, _, rfl, rfl, s45 _ _ h44, h55, small_line (by rw [List.length_map, List.length_map]; show _ + 1 ≤ _; omega), fun l6 hl6 => ?_⟩
        have e6 : ((ss.drop 1).map (· - 2)).map natV ++ [.int (x.length : Int)] = ((ss.drop 1).map (· - 2) ++ [x.cps.toList.length]).map natV := by
          rw [List.map_append, sl]
          rfl
        rw [e6]
        have s56 : Same H5 (upd H5 l6 (.lst (((ss.drop 1).map (· - 2) ++ [x.cps.toList.length]).map natV))) := snew hl6
        have h66 : (upd H5 l6 (.lst (((ss.drop 1).map (· - 2) ++ [x.cps.toList.length]).map natV))) l6 = some (.lst (((ss.drop 1).map (· - 2) ++ [x.cps.toList.length]).map natV)) := upd_same
        generalize upd H5 l6 (.lst (((ss.drop 1).map (· - 2) ++ [x.cps.toList.length]).map natV)) = H6 at s56 h66
        have s26 := (s23.trans s34).trans (s45.trans s56)
        have s6 := s2.trans s26
        have h26 := s26 _ _ h2
        have ez : (ss.map natV).zip (((ss.drop 1).map (· - 2) ++ [x.cps.toList.length]).map natV) = (zz ss x.cps.toList.length).map fun ab => (natV ab.1, natV ab.2) := by
          rw [List.zip_map]
          rfl
        have zl : (zz ss x.cps.toList.length).length ≤ 1001 := by
          unfold zz
          rw [List.length_zip]
          omega
        refine ⟨_, rfl, _, rfl, ls, l6, _, _, rfl, SqL.of h26, SqL.of h66, ?_⟩
        rw [ez]
        refine comp_val2 (small_line (by rw [List.length_map]; omega)) (fun _ => true) (cutT x) (fun H' s' => ⟨SqL.of (s' _ _ h26), SqL.of (s' _ _ h66)⟩) ?_ ?_ ?_
        · intro y H' R _ _ hR
          exact hR H' (Same.refl _)
        · intro y H' R _ hy _ hR
          obtain ⟨ab, hab, rfl⟩ := List.mem_map.mp hy
          exact ⟨_, rfl, _, rfl, _, rfl, _, rfl, _, rfl, x, rfl, small_line (by omega), hR H' (Same.refl _)⟩
        · intro D H' hD s' hl'
          rw [List.filter_eq_self.mpr fun _ _ => rfl, List.map_map] at hl'
          refine q D ((zz ss x.cps.toList.length).map fun ab => Txt.slice x (some (ab.1 : Int)) (some (ab.2 : Int))) H' p r (s6.free hD) (s6.trans s') ?_ ?_ hj uni
          · rw [hl', List.map_map]
            rfl
          · rw [List.map_map, ← zp1]
            refine List.map_congr_left fun ab hab => ?_
            have h := zp2 ab hab
            exact slice_ab x ab.1 ab.2 h.1 (by omega)
end
end K75

set_option Elab.async false
set_option linter.all false
set_option maxRecDepth 100000
set_option maxHeartbeats 4000000
namespace K75
open PySem L2 Md
/-! ### terms read, or refused -/
structure ErrP (K : W.Frag) (mg : Str → Option Value) (x : Str) (C : Addr) : Prop where
  m : mg x = some (.ref C)
  ex : ExC K C
  ini : W.findIn K (.ref C) "__init__" = some (some (.builtin "ValueError.__init__"))
theorem pe_c1 {X : Cx} {E : XK} {k : Nat} {f : Addr} {fd : FuncData} {ps : List Str} {sp : Sp} {x : Str} {st : Stmt} {p pos : Pos} {e : Expr} {es : List Expr} {t : TA} (FF : Fns X E) (d : Def X.K X.mg x st ps f fd) (G : FnOk X.prog X.w X.K X.mg X.base (CX1 X.prog X.w) k f fd ps sp) (hr : Room k X.A)
    (ha : PA X (e :: es) t) (hg : Gl X x := by rfl) (hdb : (x == ("__debug__" : Str)) = false := by decide) (he : starEach (e :: es) X.env = (false, eval e X.env) :: starEach es X.env := by rfl) (hpl : (backTo pos (starEach es X.env)).any (·.1) = false := by rfl) :
    PE X (.Call (.Name x p) (e :: es) [] pos) (tCall sp [] E t) := pe_call G hr hg d.m d.fn.kp d.b .nil (pass1 FF) ha hdb he hpl
theorem pe_cC {X : Cx} {E : XK} {k : Nat} {f : Addr} {fd : FuncData} {ps : List Str} {sp : Sp} {x : Str} {st : Stmt} {p pos : Pos} {e : Expr} {es : List Expr} {t : TA} (d : Def X.K X.mg x st ps f fd) (G : FnOk X.prog X.w X.K X.mg X.base (CX1 X.prog X.w) k f fd ps sp) (hr : Room k X.A)
    (ha : PA (X.wish (xeC E X)) (e :: es) t) (hg : Gl X x := by rfl) (hdb : (x == ("__debug__" : Str)) = false := by decide) (he : starEach (e :: es) X.env = (false, eval e X.env) :: starEach es X.env := by rfl) (hpl : (backTo pos (starEach es X.env)).any (·.1) = false := by rfl) :
    PE (X.wish (xeC E X)) (.Call (.Name x p) (e :: es) [] pos) (tCall sp [] E t) := pe_call (X := X.wish (xeC E X)) G hr hg d.m d.fn.kp d.b .nil passC ha hdb he hpl
theorem fig1 : ∀ k : _root_.Fin 10, digs k.val = [48 + k.val] := by decide +kernel
theorem fig2 : ∀ (a : _root_.Fin 9) (b : _root_.Fin 10), digs (10 * (a.val + 1) + b.val) = [49 + a.val, 48 + b.val] := by decide +kernel
theorem fig_digs {l : List Nat} (h : figB l = true) : ∃ n, n < 100 ∧ l = digs n := by
  unfold figB at h
  rw [Bool.and_eq_true, Bool.and_eq_true] at h
  obtain ⟨⟨h1, h2⟩, h3⟩ := h
  have h1 := of_decide_eq_true h1
  have dg : ∀ c ∈ l, 48 ≤ c ∧ c ≤ 57 := fun c hc => of_decide_eq_true (List.all_eq_true.mp h2 c hc)
  match l, h1, dg, h3 with
  | [a], _, dg, _ =>
    have := dg a (.head _)
    exact ⟨a - 48, by omega, by rw [fig1 ⟨a - 48, by omega⟩]; show [a] = [48 + (a - 48)]; rw [show 48 + (a - 48) = a by omega]⟩
  | [a, b], _, dg, h3 =>
    have ha := dg a (.head _)
    have hb := dg b (.tail _ (.head _))
    have a0 : a ≠ 48 := fun z => by rw [z] at h3; cases h3
    refine ⟨10 * ((a - 49) + 1) + (b - 48), by omega, ?_⟩
    rw [fig2 ⟨a - 49, by omega⟩ ⟨b - 48, by omega⟩]
    show [a, b] = [49 + (a - 49), 48 + (b - 48)]
    rw [show 49 + (a - 49) = a by omega, show 48 + (b - 48) = b by omega]
theorem find_no {x : Str} {c : Nat} (h : c ∉ x.cps.toList) : Txt.find x ⟨#[c]⟩ = -1 := by
  rcases PyProof.Rows.find_whole x ⟨#[c]⟩ with ⟨e, hn⟩ | ⟨i, e, hi, hn⟩
  · exact e
  · exact absurd (List.mem_of_getElem? (at_one.mp hi)) h
theorem cut_first {c : Nat} : ∀ {l : List Nat}, c ∈ l → ∃ a b, l = a ++ c :: b ∧ c ∉ a
  | x :: l, h => by
    by_cases e : x = c
    · exact ⟨[], l, by rw [e]; rfl, by simp⟩
    · rcases List.mem_cons.mp h with z | z
      · exact absurd z.symm e
      · obtain ⟨a, b, h1, h2⟩ := cut_first z
        exact ⟨x :: a, b, by rw [h1]; rfl, fun z => (List.mem_cons.mp z).elim (fun q => e q.symm) h2⟩
/-- what stands ahead of an opening bracket -/
theorem head_word {j : Nat} {d : Dt} {t a b : List Nat} (ht : tkB (j + 1) d = true) (hx : tx (j + 1) d = t) (e : t = a ++ 40 :: b) (ha : 40 ∉ a) : ∃ x c cs, d = .tuple (.str x :: c :: cs) ∧ isWord x = true ∧ a = x.cps.toList ∧ b = jn ((c :: cs).map (tx j)) ++ [41] ∧ ∀ e ∈ c :: cs, tkB j e = true := by
  rcases tk_inv ht with ⟨i, rfl, hi⟩ | ⟨x, c, cs, rfl, hw, hk⟩
  · rw [tx_int] at hx
    exact absurd (by rw [hx, e]; exact List.mem_append.mpr (.inr (.head _))) (digs_open hi)
  · rw [tx_tup, e] at hx
    obtain ⟨e1, e2⟩ := cut_at hx (word_open hw) ha
    exact ⟨x, c, cs, rfl, hw, e1.symm, e2.symm, hk⟩
def spRpX (C : Addr) (j : Nat) : Sp := fun vs H Q E => ∃ (x : Str) (dp : Nat), vs = [.str x, .int dp] ∧ x.length ≤ 1000 ∧ (∀ c ∈ x.cps.toList, c < 128) ∧ dp + j = 13 ∧
  (∀ d v H', tkB j d = true → tx j d = x.cps.toList → Same H H' → TmV H' d v → Q v H') ∧ ((∀ d, tkB j d = true → tx j d ≠ x.cps.toList) → ∀ H', Same H H' → E (.ref C) none H')
theorem nd_pd : (["part", "deep"] : List Str).Nodup := by decide +kernel
section
variable {P : Program} {w : World} {K : W.Frag} {mg : Str → Option Value} {base : Heap}
abbrev nRp : List Str := ["text", "deep", "spot", "parts"]
theorem scRp : FnScope nRp ["text", "deep"] (defScope s_read_part) := ⟨rfl, rfl, rfl, by decide +kernel, rfl, by decide +kernel, by decide +kernel⟩
set_option maxHeartbeats 8000000 in
theorem ok_rpartX {f fF fW fS C : Addr} {fd fdF fdW fdS : FuncData} {T1 : Tok} (F : Def K mg "read_part" s_read_part ["text", "deep"] f fd) (T : TxtT mg) (c1 : mg "MOST_DEEP" = some (.int 12 T1)) (TT : ErrP K mg "NoTerm" C)
    (DF : Def K mg "is_figures" s_is_figures ["text"] fF fdF) (GF : FnOk P w K mg base CX0 1 fF fdF ["text"] spFig) (DW : Def K mg "is_word" s_is_word ["text"] fW fdW) (GW : FnOk P w K mg base CX0 1 fW fdW ["text"] spIsWord)
    (DS : Def K mg "split_parts" s_split_parts ["text"] fS fdS) (GS : FnOk P w K mg base CX0 1 fS fdS ["text"] spSplit) : ∀ j, FnOk P w K mg base (CX1 P w) (2 + j) f fd ["text", "deep"] (spRpX C j) := by
  intro j
  induction j with
  | zero =>
    refine F.fn.ok1 scRp (fun vs H Q E h => ?_) (fun cdv A outer s H vs Q E hr h => ?_)
    · obtain ⟨x, dp, rfl, _⟩ := h
      rfl
    · obtain ⟨x, dp, rfl, hx, _, hd, _, re⟩ := h
      refine' ⟨_, pss_cons (ps_if (pt_cmpR op_gt (pv 1) (pe_glob (v := .int 12) (by rfl) c1 ⟨_, rfl⟩) (nomark _)) (pss_one (ps_raise (C := C) Fns.of hr.hd TT.ex TT.ini (by rfl) TT.m (pa_cons (pe_fstr ?fs1) pa_nil))) pss_nil) pss_never, ?_⟩
      case fs1 => exact pfs_cons pf_con (pfs_cons (pf_int (pe_glob (v := .int 12) (by rfl) c1 ⟨_, rfl⟩)) (pfs_cons pf_con pfs_nil))
      refine ⟨_, rfl, _, _, rfl, rfl, _, rfl, ite2 (fun _ => ?_) (fun z => absurd (decide_eq_true (show (dp : Int) > 12 by omega)) z)⟩
      exact ⟨by decide +kernel, 12, rfl, by decide, by decide +kernel, fun t => ⟨small_line (by show 1 ≤ 100000; decide), re (fun d z => by cases z) H (Same.refl _)⟩⟩
  | succ j GR =>
    have GF := FnOk.any (CX := CX1 P w) GF
    have GW := FnOk.any (CX := CX1 P w) GW
    have GS := FnOk.any (CX := CX1 P w) GS
    refine F.fn.ok1 scRp (fun vs H Q E h => ?_) (fun cdv A outer s H vs Q E hr h => ?_)
    · obtain ⟨x, dp, rfl, _⟩ := h
      rfl
    · obtain ⟨x, dp, rfl, hx, hc, hdp, q, re⟩ := h
      have nd := scRp.nd
      have hr1 : Room 1 _ := hr.mono (show 1 ≤ 2 + j by omega)
      refine' ⟨_, (pss_cons (ps_if (pt_cmpR op_gt (pv 1) (pe_glob (v := .int 12) (by rfl) c1 ⟨_, rfl⟩) (nomark _)) pss_never pss_nil)
      (pss_cons (ps_if (pt_val (pe_c1 Fns.of DF GF hr1 (pa_cons (pv 0) pa_nil))) (pss_one (ps_ret (pe_callTy call_intS (by rfl) T.int PyProof.Rows.boot_int (pa_cons (pv 0) pa_nil)))) pss_nil)
      (pss_cons (ps_set (i := 2) nd rfl (Or.inl rfl) (pe_bm PySem.F.plainAttrs_str PySem.F.slot_str_find PySem.F.type_str_find mt_find (pv 0) (pa_cons pe_str pa_nil)))
      (pss_cons (ps_if (PW.pt (pw_or (pt_cmpR op_lt (pv 2) pe_int (nomark _)) (pw_or (pt_not (pt_val (pe_c1 Fns.of DW GW hr1 (pa_cons (pe_slice (r := rSlS) sl_str (pv 0) po_none (po_some (pv 2))) pa_nil)))) (pw_or1 (pt_cmpR op_ne (pe_ix (r := rIxS) ix_str (pv 0) (pe_un un_neg pe_int) (fun _ _ => rfl)) pe_str (nomark _)))))) (pss_one (ps_raise (C := C) Fns.of hr.hd TT.ex TT.ini (by rfl) TT.m (pa_cons (pe_fstr ?fs2) pa_nil))) pss_nil)
      (pss_cons (ps_setCompX (k := 3) ["part"] ["deep"] [1] nd rfl rfl (fun _ => compT_ok (osc := defScope s_read_part) (on := nRp) (by decide +kernel) rfl rfl rfl) (pi_list (pe_c1 Fns.of DS GS hr1 (pa_cons (pe_slice (r := rSlS) sl_str (pv 0) (po_some (pe_op op_add (pv 2) pe_int)) (po_some (pe_un un_neg pe_int))) pa_nil))) (fun C s H fp => pg_name (i := 0) nd_pd rfl (Or.inl rfl) (Or.inr rfl)) (fun C s H fp => pts_nil) Fns.of (fun C s H fp => pe_cC F GR hr (pa_cons (pv 0) (pa_cons (pe_op op_add (pv 1) pe_int) pa_nil))))
      (pss_one (ps_ret (pe_op op_catA (pe_tup (pa_cons (pe_slice (r := rSlS) sl_str (pv 0) po_none (po_some (pv 2))) pa_nil)) (pe_callTy call_tuple_of (by rfl) T.tuple PyProof.Rows.boot_tuple (pa_cons (pv 3) pa_nil)))))))))), ?_⟩
      case fs2 => exact pfs_cons (pf_repS (pv 0)) (pfs_cons pf_con pfs_nil)
      have sl := str_len x
      have rz : ∀ {HX : Hp} {σ : St}, σ[0]? = some (some (.str x)) → Same H HX → (∀ d, tkB (j + 1) d = true → tx (j + 1) d ≠ x.cps.toList) → tRz E C (tCons (tFs (fSeq (fRepS (tVar 0)) (fSeq (fCon " is no text of a term") fNil))) tNil) { nx := fun _ H' => Q .non H', rt := Q } σ HX := fun {HX σ} h0 sX no =>
        ⟨_, h0, x, rfl, hx, fun c hc' => Nat.lt_trans (hc c hc') (by decide), by decide +kernel, fun t => ⟨small_line (by show 1 ≤ 100000; decide), re no HX sX⟩⟩
      refine ⟨_, rfl, _, _, rfl, rfl, _, rfl, ite2 (fun z => absurd (of_decide_eq_true z) (by show ¬ ((dp : Int) > 12); omega)) (fun _ => ⟨_, rfl, x, rfl, hx, fun H1 s1 => ⟨_, rfl, ?_⟩⟩)⟩
      cases hf : figB x.cps.toList with
      | true =>
        obtain ⟨i, hi, ei⟩ := fig_digs hf
        have l2 : (digs i).length ≤ 2 := (digs_len ⟨i, hi⟩).2
        rw [← ei] at l2
        exact iteT ⟨_, rfl, _, _, rfl, digs_reads ei hi, by omega, q (.int i) _ H1 (tk_int (by omega) (by omega) (by omega)) (by rw [tx_int, ei]) s1 (.int _)⟩
      | false =>
        refine iteF ⟨_, rfl, rfl, _, _, rfl, rfl, ?_⟩
        rw [lit_open]
        by_cases ho : 40 ∈ x.cps.toList
        · obtain ⟨a, b, e, ha⟩ := cut_first ho
          have hfind : Txt.find x ⟨#[40]⟩ = (a.length : Int) := find_one e ha
          rw [hfind]
          have al : a.length < x.length := by have := congrArg List.length e; rw [List.length_append, List.length_cons] at this; omega
          have hsl : (Txt.slice x none (some (a.length : Int))).cps.toList = a := by rw [slice_take x _ (by omega), e, show (a.length : Int).toNat = a.length by omega, List.take_left]
          generalize hy : Txt.slice x none (some (a.length : Int)) = y at hsl
          have sly := str_len y
          rw [hsl] at sly
          refine ⟨_, rfl, _, _, rfl, rfl, _, rfl, ite2 (fun z => absurd (of_decide_eq_true z) (by show ¬ ((a.length : Int) < 0); omega)) (fun _ => ⟨_, rfl, _, rfl, _, rfl, x, rfl, small_line (by omega), ?_⟩)⟩
          rw [hy]
          refine ⟨y, rfl, by omega, fun H2 s2 => ⟨_, rfl, ?_⟩⟩
          cases hw : isWord y with
          | false =>
            refine iteT (rz rfl (s1.trans s2) fun d ht hx' => ?_)
            obtain ⟨x', c, cs, rfl, hw', ea, _, _⟩ := head_word ht hx' e ha
            rw [Md.str_ext (show y.cps.toList = x'.cps.toList by rw [hsl, ea]), hw'] at hw
            cases hw
          | true =>
          obtain ⟨z, hz⟩ : ∃ z, x.cps.toList.getLast? = some z := by
            cases hh : x.cps.toList.getLast? with
            | none => rw [List.getLast?_eq_none_iff.mp hh] at ho; cases ho
            | some z => exact ⟨z, rfl⟩
          obtain ⟨pre, epre⟩ := List.getLast?_eq_some_iff.mp hz
          have he : atI x.cps.toList (-1) = some z := by rw [epre]; exact atI_last _ _
          refine iteF ⟨_, rfl, _, rfl, x, -1, z, rfl, rfl, small_line (by omega), he, rfl, _, rfl, ?_⟩
          have e41 : decide (V.str ⟨#[z]⟩ = V.str (")" : Str)) = decide (z = 41) := by rw [lit_close]; exact sgn_eq z 41
          rw [e41]
          by_cases z41 : z = 41
          · rw [decide_eq_true z41]
            subst z41
            -- the text is a word, brackets around c
            obtain ⟨c, ec⟩ : ∃ c, b = c ++ [41] := by
              have hb : b ≠ [] := fun z => by
                rw [z] at e
                have : x.cps.toList.getLast? = some 40 := by rw [e]; simp
                rw [hz] at this
                cases this
              have : b.getLast? = some 41 := by
                have h0 := hz
                rw [e, List.getLast?_append, List.getLast?_cons_of_ne_nil hb] at h0
                cases hl : b.getLast? with
                | none => exact absurd (List.getLast?_eq_none_iff.mp hl) hb
                | some v => rw [hl] at h0; exact h0
              exact List.getLast?_eq_some_iff.mp this
            have cl : c.length + a.length + 2 = x.length := by
              have := congrArg List.length e
              rw [ec, List.length_append, List.length_cons, List.length_append, List.length_singleton] at this
              omega
            refine iteF ⟨_, rfl, _, rfl, _, _, rfl, rfl, _, rfl, _, rfl, _, rfl, x, rfl, small_line (by omega), ?_⟩
            have hin : (Txt.slice x (some ((a.length : Int) + 1)) (some (-1))).cps.toList = c := by
              have := slice_last x (a.length + 1) (by omega)
              rw [show ((a.length + 1 : Nat) : Int) = (a.length : Int) + 1 by omega] at this
              rw [this, e, ec, show a ++ 40 :: (c ++ [41]) = (a ++ [40]) ++ (c ++ [41]) by simp, show a.length + 1 = (a ++ [40]).length by simp, List.drop_left]
              exact List.take_left' (by rw [List.length_append, List.length_singleton]; omega)
            generalize Txt.slice x (some ((a.length : Int) + 1)) (some (-1)) = u at hin
            have slu := str_len u
            rw [hin] at slu
            refine ⟨u, rfl, by omega, fun l xs H3 p r hl0 s3 hl hxs ej uni => ?_⟩
            rw [hin] at ej uni
            have inx : ∀ xi ∈ xs, xi.length ≤ 1000 ∧ ∀ k ∈ xi.cps.toList, k < 128 := fun xi hxi => by
              have hm : xi.cps.toList ∈ p :: r := by rw [← hxs]; exact List.mem_map.mpr ⟨xi, hxi, rfl⟩
              have sub : ∀ k ∈ xi.cps.toList, k ∈ c := fun k hk => by
                rw [ej]
                show k ∈ p ++ r.flatMap fun b => 44 :: 32 :: b
                rcases List.mem_cons.mp hm with z | z
                · rw [z] at hk; exact List.mem_append.mpr (.inl hk)
                · exact List.mem_append.mpr (.inr (List.mem_flatMap.mpr ⟨_, z, .tail _ (.tail _ hk)⟩))
              refine ⟨?_, fun k hk => hc k (by rw [e, ec]; exact List.mem_append.mpr (.inr (.tail _ (List.mem_append.mpr (.inl (sub k hk))))))⟩
              have g := jn_ge (p :: r)
              rw [← ej] at g
              have : xi.cps.toList.length ≤ ((p :: r).map List.length).sum := by
                have : ∀ (L : List (List Nat)) (q : List Nat), q ∈ L → q.length ≤ (L.map List.length).sum := fun L => by
                  induction L with
                  | nil => intro q h; cases h
                  | cons a L ih =>
                    intro q h
                    rw [List.map_cons, List.sum_cons]
                    rcases List.mem_cons.mp h with z | z
                    · rw [z]; omega
                    · have := ih q z; omega
                exact this _ _ hm
              rw [str_len] at this
              omega
            have xsl : xs.length ≤ 1001 := by
              have g := congrArg List.length hxs
              have g2 : ∀ (p : List Nat) (r : List (List Nat)), (p :: r).length ≤ (jn (p :: r)).length + 1 := fun p r => by
                have h2 : r.length ≤ (r.flatMap fun b => 44 :: 32 :: b).length := by
                  induction r with
                  | nil => exact Nat.zero_le _
                  | cons b r ih => rw [List.flatMap_cons, List.length_append, List.length_cons, List.length_cons, List.length_cons]; omega
                have h1 : (jn (p :: r)).length = p.length + (r.flatMap fun b => 44 :: 32 :: b).length := List.length_append
                rw [List.length_cons]
                omega
              have := g2 p r
              rw [← ej] at this
              rw [List.length_map] at g
              omega
            refine ⟨l, rfl, ⟨_, SqL.of hl⟩, comp_runs (runs_list (xs := xs.map V.str)) (small_line (by rw [List.length_map]; omega)) (fun D i ys σ' H' => H3 D = none ∧ Same H3 H' ∧ H' D = some (.lst ys) ∧ ∃ o : Option V, σ' = [o, some (.int dp)] ∧ ∃ ds : List Dt, TmsV H' ds ys ∧ (∀ d ∈ ds, tkB j d = true) ∧ ds.map (tx j) = (xs.take i).map fun x => x.cps.toList) ?_ ?_ ?_ ?_⟩
            · intro D hD
              exact ⟨hD, snew hD, upd_same, none, rfl, [], .nil, (fun _ z => nomatch z), by rw [List.take_zero]; rfl⟩
            · rintro D i ys σ' H' hi ⟨hD, hs, hl', o, rfl, ds, hT, _, hm⟩
              refine ⟨SqL.of (hs _ _ hl), ?_⟩
              have := hT.length
              have hm := congrArg List.length hm
              rw [List.length_map, List.length_map, List.length_take] at hm
              omega
            · rintro D i v ys σ' H' hD hx' ⟨_, hs, hl', o, rfl, ds, hT, hk, hm⟩
              rw [List.getElem?_map] at hx'
              obtain ⟨xi, hxi, rfl⟩ := Option.map_eq_some_iff.mp hx'
              have hxm := List.mem_of_getElem? hxi
              refine ⟨_, rfl, _, rfl, _, _, rfl, rfl, xi, dp + 1, rfl, (inx xi hxm).1, (inx xi hxm).2, by omega, fun d v2 H2 hd1 hd2 s12 hv2 => ?_, fun no H2 s12 => ?_⟩
              · have hD2 := s12 _ _ hl'
                have tk : ∀ b xs, H2 b = some (.tup xs) → (upd H2 D (.lst (ys ++ [v2]))) b = some (.tup xs) := fun b xs e => by rw [upd_ne (fun z => by rw [z, hD2] at e; cases e)]; exact e
                refine ⟨hD2, hD, fun b o e => by rw [upd_ne (ne_of_none e hD)]; exact s12 _ _ (hs _ _ e), upd_same, _, rfl, ds ++ [d], ((hT.keep (tupsS s12)).keep tk).append (.cons (hv2.keep tk) .nil), fun q hq => ?_, ?_⟩
                · rcases List.mem_append.mp hq with z | z
                  · exact hk q z
                  · rw [List.mem_singleton.mp z]; exact hd1
                · rw [List.map_append, hm, List.take_add_one, hxi]
                  show _ ++ [tx j d] = (_ ++ [xi]).map _
                  rw [List.map_append, hd2]
                  rfl
              · refine re (fun d ht hx' => ?_) H2 ((s1.trans s2).trans (s3.trans (hs.trans s12)))
                obtain ⟨x', k, ks, rfl, hw', ea, eb, hks⟩ := head_word ht hx' e ha
                rw [ec] at eb
                have eb := List.append_cancel_right eb
                have un := uni (tx j k) (ks.map (tx j)) eb (fun q hq => (Wrs.of (k :: ks) hks).cl q hq)
                rw [un] at hxs
                have g := congrArg (fun l => l[i]?) hxs
                simp only [List.getElem?_map, hxi] at g
                have g : some xi.cps.toList = ((k :: ks).map (tx j))[i]? := g
                rw [List.getElem?_map] at g
                obtain ⟨d', hd', ed⟩ := Option.map_eq_some_iff.mp g.symm
                exact no d' (hks d' (List.mem_of_getElem? hd')) ed
            · rintro D ys σ' H' hD ⟨_, hs, hl', o, rfl, ds, hT, hk, hm⟩
              rw [List.length_map, List.take_length, hxs] at hm
              have yl := hT.length
              have ml := congrArg List.length hm
              rw [List.length_map, ← hxs, List.length_map] at ml
              refine ⟨_, rfl, _, rfl, _, rfl, x, rfl, small_line (by omega), ?_⟩
              rw [hy]
              refine ⟨small_line (by show 1 ≤ 100000; decide), fun t1 ht1 => ?_⟩
              have s4 : Same H' (upd H' t1 (.tup [.str y])) := snew ht1
              have ht14 : (upd H' t1 (.tup [.str y])) t1 = some (.tup [.str y]) := upd_same
              generalize upd H' t1 (.tup [.str y]) = H4 at s4 ht14
              refine ⟨_, rfl, D, _, rfl, .inl ⟨SqL.of (s4 _ _ hl'), fun tt htt => ?_⟩⟩
              have s5 : Same H4 (upd H4 tt (.tup ys)) := snew htt
              have htt5 : (upd H4 tt (.tup ys)) tt = some (.tup ys) := upd_same
              generalize upd H4 tt (.tup ys) = H5 at s5 htt5
              refine rCatA_of (K := K) (s5 _ _ ht14) htt5 (small_line (by show 1 + _ ≤ _; omega)) fun pR HR sR hR => ?_
              have s6 := (s4.trans s5).trans sR
              cases ds with
              | nil => cases hm
              | cons k ks =>
                refine q (.tuple (.str y :: k :: ks)) (.ref pR) HR (tk_tup (by cases j with | zero => exact absurd (hk k (.head _)) (fun z => by cases z) | succ j => omega) hw hk) ?_ ((s1.trans s2).trans ((s3.trans hs).trans s6)) (.tup hR (.cons (.str _ (word_ok hw)) (hT.keep (tupsS s6))))
                rw [tx_tup, hm, ← ej, hsl, e, ec]
          · rw [decide_eq_false z41]
            refine iteT (rz rfl (s1.trans s2) fun d ht hx' => ?_)
            obtain ⟨x', c, cs, rfl, hw', ea, eb, _⟩ := head_word ht hx' e ha
            rw [eb] at e
            have : x.cps.toList.getLast? = some 41 := by rw [e, show ∀ J : List Nat, a ++ 40 :: (J ++ [41]) = (a ++ 40 :: J) ++ [41] from fun J => by simp]; exact List.getLast?_concat
            rw [hz] at this
            exact z41 (Option.some.inj this)
        · rw [find_no ho]
          refine ⟨_, rfl, _, _, rfl, rfl, _, rfl, ite2 (fun _ => ?_) (fun z => absurd (decide_eq_true (show (-1 : Int) < 0 by decide)) z)⟩
          refine rz rfl s1 fun d ht hx' => ?_
          rcases tk_inv ht with ⟨i, rfl, hi⟩ | ⟨x', c, cs, rfl, hw, hk⟩
          · rw [tx_int] at hx'
            rw [← hx', show figB (digs i) = true from digs_fig ⟨i, hi⟩] at hf
            cases hf
          · rw [tx_tup] at hx'
            exact ho (by rw [← hx']; exact List.mem_append.mpr (.inr (.head _)))
end
end K75

set_option Elab.async false
set_option linter.all false
set_option maxRecDepth 100000
set_option maxHeartbeats 4000000
namespace K75
open PySem L2 Md
/-! ### the law's own reading -/
theorem slice_one1 (x : Str) (a : Nat) (ha : a ≤ x.length) : (Txt.slice x (some (a : Int)) (some ((a : Int) + 1))).cps.toList = (x.cps.toList.drop a).take 1 := by
  by_cases h : a + 1 ≤ x.length
  · have := slice_ab x a (a + 1) (by omega) h
    rw [show ((a + 1 : Nat) : Int) = (a : Int) + 1 by omega, show a + 1 - a = 1 by omega] at this
    exact this
  · have e : (Txt.slice x (some (a : Int)) (some ((a : Int) + 1))).cps.toList = (x.cps.toList.drop a).take (x.length - a) := by
      refine slice_st (t := x.length) ?_ ha (Nat.le_refl _)
      unfold Builtin.Str.strSliceIndices
      have h1 : ¬ (a : Int) < 0 := by omega
      have h2 : ¬ (a : Int) + 1 < 0 := by omega
      simp only [show (1 : Int) > 0 by decide, if_true, if_neg h1, if_neg h2]
      have e1 : max (0 : Int) (min (a : Int) (x.length : Int)) = (a : Int) := by omega
      have e2 : max (0 : Int) (min ((a : Int) + 1) (x.length : Int)) = (x.length : Int) := by omega
      rw [e1, e2]
    have hl := str_len x
    rw [e, List.take_of_length_le (by rw [List.length_drop]; omega), List.take_of_length_le (by rw [List.length_drop]; omega)]
abbrev anS : Str := "abcdefghijklmnopqrstuvwxyz0123456789"
theorem an_eq : anS.cps.toList = (List.range 26).map (97 + ·) ++ (List.range 10).map (48 + ·) := by decide +kernel
theorem an_in (c : Nat) : (!(Builtin.Str.occurrences anS ⟨#[c]⟩ 0 anS.length 1).isEmpty) = isAn c := by
  rw [StrLaws.found_one, an_eq]
  unfold isAn isLow isDig
  rw [← Bool.decide_or]
  rw [decide_eq_decide, List.mem_append, List.mem_map, List.mem_map]
  constructor
  · rintro (⟨a, ha, rfl⟩ | ⟨a, ha, rfl⟩)
    · have := List.mem_range.mp ha
      exact .inl (by omega)
    · have := List.mem_range.mp ha
      exact .inr (by omega)
  · rintro (h | h)
    · exact .inl ⟨c - 97, List.mem_range.mpr (by omega), by omega⟩
    · exact .inr ⟨c - 48, List.mem_range.mpr (by omega), by omega⟩
def spWat : Sp := fun vs H Q _ => ∃ (x : Str) (n : Nat), vs = [.str x, .int n] ∧ n ≤ x.length ∧ x.length ≤ 1000 ∧ ∀ y : Str, y.cps.toList = (x.cps.toList.drop n).takeWhile isAn → Q (.str y) H
/-- an open bracket's list -/
inductive FrV (H : Hp) : List Frm → List Addr → Prop
  | nil : FrV H [] []
  | cons {x : Str} {ps : List (Dt × List Nat)} {fs : List Frm} {a : Addr} {as : List Addr} {vs : List V} : H a = some (.lst (.str x :: vs)) → TmsV H (ps.map (·.1)) vs → PyData.strOk x = true → a ∉ as → FrV H fs as → FrV H ((x, ps) :: fs) (a :: as)
theorem FrV.keep {H H' : Hp} (kt : ∀ b xs, H b = some (.tup xs) → H' b = some (.tup xs)) : ∀ {fs : List Frm} {as : List Addr}, FrV H fs as → (∀ a ∈ as, ∀ xs, H a = some (.lst xs) → H' a = some (.lst xs)) → FrV H' fs as
  | _, _, .nil, _ => .nil
  | _, _, .cons h1 h2 h3 h4 h5, k => .cons (k _ (.head _) _ h1) (h2.keep kt) h3 h4 (h5.keep kt fun a ha => k a (.tail _ ha))
def fdD (f : Frm) : Dt := .list (.str f.1 :: f.2.map (·.1))
theorem FrV.reps {K : W.Frag} {H : Hp} : ∀ {fs : List Frm} {as : List Addr}, FrV H fs as → Reps K H (as.map V.ref) (fs.map fdD)
  | _, _, .nil => .nil
  | _, _, .cons h1 h2 h3 h4 h5 => .cons (.list (SqL.of h1) (.cons (.str _) h2.reps)) h5.reps
theorem FrV.lay {H : Hp} : ∀ {fs : List Frm} {as : List Addr}, FrV H fs as → ∀ d ∈ fs.map fdD, (W.kqdP d).canLay0 = true
  | _, _, .nil, d, h => nomatch h
  | _, _, .cons (vs := vs) h1 h2 h3 h4 h5, d, h => by
    rcases List.mem_cons.mp h with z | z
    · rw [z]; exact (TmsV.cons (.str _ h3) h2).layL
    · exact h5.lay d z
theorem FrV.len {H : Hp} : ∀ {fs : List Frm} {as : List Addr}, FrV H fs as → fs.length = as.length
  | _, _, .nil => rfl
  | _, _, .cons h1 h2 h3 h4 h5 => by rw [List.length_cons, List.length_cons, h5.len]
theorem reps_app {K : W.Frag} {H : Hp} : ∀ {vs us : List V} {ds es : List Dt}, Reps K H vs ds → Reps K H us es → Reps K H (vs ++ us) (ds ++ es)
  | _, _, _, _, .nil, h => h
  | _, _, _, _, .cons a t, h => .cons a (reps_app t h)
theorem reps_rev {K : W.Frag} {H : Hp} : ∀ {vs : List V} {ds : List Dt}, Reps K H vs ds → Reps K H vs.reverse ds.reverse
  | _, _, .nil => .nil
  | _, _, .cons a t => by rw [List.reverse_cons, List.reverse_cons]; exact reps_app (reps_rev t) (.cons a .nil)
theorem lay_all : ∀ {l : List Dt}, (∀ d ∈ l, (W.kqdP d).canLay0 = true) → (W.kqdP (.list l)).canLay0 = true := fun {l} h => by
  have : ∀ l : List Dt, (∀ d ∈ l, (W.kqdP d).canLay0 = true) → PyData.canLayAll0 (W.kqdPs l) = true := fun l => by
    induction l with
    | nil => intro _; rw [W.kqdPs]; rfl
    | cons d l ih =>
      intro h
      rw [W.kqdPs]
      show (_ && _) = true
      rw [h d (.head _), ih fun e he => h e (.tail _ he)]
      rfl
  rw [W.kqdP]
  exact this l h
structure PSt (H H' : Hp) (l : Addr) (fs : List Frm) (as : List Addr) : Prop where
  same : Same H H'
  opn : H' l = some (.lst (as.map V.ref).reverse)
  fr : FrV H' fs as
  new : ∀ a ∈ as, H a = none
  ln : H l = none
  lna : l ∉ as
theorem PSt.up {H H' H'' : Hp} {l : Addr} {fs : List Frm} {as : List Addr} (h : PSt H H' l fs as) (s : Same H' H'') : PSt H H'' l fs as :=
  ⟨h.same.trans s, s _ _ h.opn, h.fr.keep (tupsS s) fun _ _ _ e => s _ _ e, h.new, h.ln, h.lna⟩
theorem PSt.push {H H' : Hp} {l a : Addr} {fs : List Frm} {as : List Addr} {y : Str} (h : PSt H H' l fs as) (ha : H' a = none) (hy : PyData.strOk y = true) : PSt H (upd (upd H' a (.lst [.str y])) l (.lst ((as.map V.ref).reverse ++ [.ref a]))) l ((y, []) :: fs) (a :: as) := by
  have al : a ≠ l := fun z => by rw [z, h.opn] at ha; cases ha
  have aas : a ∉ as := fun z => by
    have : ∀ {fs : List Frm} {as : List Addr}, FrV H' fs as → a ∈ as → False := fun {fs as} f => by
      induction f with
      | nil => exact fun z => nomatch z
      | cons h1 _ _ _ _ ih =>
        intro z
        rcases List.mem_cons.mp z with z | z
        · rw [← z, ha] at h1; cases h1
        · exact ih z
    exact this h.fr z
  have s1 : Same H' (upd H' a (.lst [.str y])) := snew ha
  refine ⟨fun b o e => ?_, by rw [upd_same, List.map_cons, List.reverse_cons], ?_, fun b hb => ?_, h.ln, fun z => (List.mem_cons.mp z).elim (fun q => al q.symm) h.lna⟩
  · rw [upd_ne (ne_of_none e h.ln)]
    exact s1 _ _ (h.same _ _ e)
  · refine .cons (vs := []) (by rw [upd_ne al]; exact upd_same) .nil hy aas (h.fr.keep (fun b xs e => ?_) fun b hb xs e => ?_)
    · rw [upd_ne (fun z => by rw [z, h.opn] at e; cases e)]
      exact s1 _ _ e
    · rw [upd_ne (fun z => h.lna (by rw [← z]; exact hb))]
      exact s1 _ _ e
  · rcases List.mem_cons.mp hb with z | z
    · rw [z]; exact h.same.free ha
    · exact h.new b z
theorem PSt.add {H H' : Hp} {l a : Addr} {fs : List Frm} {as : List Addr} {x : Str} {ps : List (Dt × List Nat)} {vs : List V} {d : Dt} {v : V} (h : PSt H H' l ((x, ps) :: fs) (a :: as)) (ha : H' a = some (.lst (.str x :: vs))) (hv : TmV H' d v) (td : List Nat) :
    PSt H (upd H' a (.lst (.str x :: vs ++ [v]))) l ((x, ps ++ [(d, td)]) :: fs) (a :: as) := by
  have al : a ≠ l := fun z => h.lna (by rw [← z]; exact .head _)
  have kt : ∀ b xs, H' b = some (.tup xs) → (upd H' a (.lst (.str x :: vs ++ [v]))) b = some (.tup xs) := fun b xs e => by rw [upd_ne (fun z => by rw [z, ha] at e; cases e)]; exact e
  have f := h.fr
  cases f with
  | @cons _ _ _ _ _ us h1 h2 h3 h4 h5 =>
    rw [ha] at h1
    cases h1
    refine ⟨fun b o e => ?_, by rw [upd_ne (Ne.symm al)]; exact h.opn, .cons (vs := vs ++ [v]) upd_same ?_ h3 h4 (h5.keep kt fun b hb xs e => ?_), h.new, h.ln, h.lna⟩
    · rw [upd_ne (ne_of_none e (h.new a (.head _)))]
      exact h.same _ _ e
    · rw [List.map_append]
      exact (h2.keep kt).append (.cons (hv.keep kt) .nil)
    · rw [upd_ne (fun z => h4 (by rw [← z]; exact hb))]
      exact e
theorem PSt.pop {H H' : Hp} {l a : Addr} {fs : List Frm} {as : List Addr} {f : Frm} (h : PSt H H' l (f :: fs) (a :: as)) : PSt H (upd H' l (.lst (as.map V.ref).reverse)) l fs as := by
  have kt : ∀ b xs, H' b = some (.tup xs) → (upd H' l (.lst (as.map V.ref).reverse)) b = some (.tup xs) := fun b xs e => by rw [upd_ne (fun z => by rw [z, h.opn] at e; cases e)]; exact e
  have g := h.fr
  cases g with
  | cons h1 h2 h3 h4 h5 =>
    refine ⟨fun b o e => ?_, upd_same, h5.keep kt fun b hb xs e => ?_, fun b hb => h.new b (.tail _ hb), h.ln, fun z => h.lna (.tail _ z)⟩
    · rw [upd_ne (ne_of_none e h.ln)]
      exact h.same _ _ e
    · rw [upd_ne (fun z => h.lna (by rw [← z]; exact .tail _ hb))]
      exact e
theorem pf_len : ∀ fs : List Frm, fs.length ≤ (pf fs).length
  | [] => Nat.le_refl _
  | (x, ps) :: fs => by
    show _ ≤ (pf fs ++ (x.cps.toList ++ 40 :: _)).length
    rw [List.length_cons, List.length_append, List.length_append, List.length_cons]
    have := pf_len fs
    omega
theorem pf_top (x : Str) (ps : List (Dt × List Nat)) (fs : List Frm) : ps.length ≤ (pf ((x, ps) :: fs)).length := by
  show _ ≤ (pf fs ++ (x.cps.toList ++ 40 :: _)).length
  rw [List.length_append, List.length_append, List.length_cons]
  have : ps.length ≤ (ps.flatMap fun p => p.2 ++ [44, 32]).length := by
    induction ps with
    | nil => exact Nat.le_refl _
    | cons p ps ih => rw [List.flatMap_cons, List.length_append, List.length_cons, List.length_append]; show _ ≤ _ + 2 + _; omega
  omega
def spRead : Sp := fun vs H Q _ => ∃ (x : Str), vs = [.str x] ∧ x.length ≤ 1000 ∧ (∀ d v H', Wr d x.cps.toList → Same H H' → TmV H' d v → Q v H') ∧ ((∀ d, ¬ Wr d x.cps.toList) → ∀ H', Same H H' → Q .non H')
def numS (n : Nat) : Str := Str.ofString (toString ((n : Nat) : Int))
def numV : V → V
  | .int i => .str (Str.ofString (toString i))
  | _ => .non
theorem num_list : (((rangeV 0 100).filter fun _ => true).map numV) = ((List.range 100).map numS).map V.str := by
  unfold rangeV
  rw [List.filter_eq_self.mpr fun _ _ => rfl, List.map_map, List.map_map]
  refine List.map_congr_left fun n _ => ?_
  show V.str (Str.ofString (toString (0 + (n : Int)))) = V.str (Str.ofString (toString (n : Int)))
  rw [Int.zero_add]
abbrev L100 : List Str := (List.range 100).map numS
theorem num_ok : (L100.map W.Dat.str).all (W.kqdOk 8) = true := by decide +kernel
theorem num_any (y : Str) : ((L100.map W.Dat.str).any fun e => dEq e (.str y)) = true ↔ ∃ i, i < 100 ∧ y.cps.toList = digs i := by
  rw [List.any_eq_true]
  constructor
  · rintro ⟨e, he, h⟩
    obtain ⟨s, hs, rfl⟩ := List.mem_map.mp he
    obtain ⟨n, hn, rfl⟩ := List.mem_map.mp hs
    refine ⟨n, List.mem_range.mp hn, ?_⟩
    by_cases c : W.Dat.str (numS n) = .str y
    · injection c with c
      rw [← c]
      exact digs_str n
    · rw [dEq_neg c] at h
      cases h
  · rintro ⟨i, hi, e⟩
    refine ⟨_, List.mem_map.mpr ⟨_, List.mem_map.mpr ⟨i, List.mem_range.mpr hi, rfl⟩, rfl⟩, dEq_pos ?_⟩
    rw [Md.str_ext (show (numS i).cps.toList = y.cps.toList from (digs_str i).trans e.symm)]
structure TxtRd (mg : Str → Option Value) : Prop where
  len : mg "len" = none
  range : mg "range" = none
  str : mg "str" = none
  int : mg "int" = none
  tuple : mg "tuple" = none
section
variable {P : Program} {w : World} {K : W.Frag} {mg : Str → Option Value} {base : Heap}
theorem scWa : FnScope ["text", "at", "end"] ["text", "at"] (defScope s__law_word_at) := ⟨rfl, rfl, rfl, by decide +kernel, rfl, by decide +kernel, by decide +kernel⟩
theorem ok_wat {f : Addr} {fd : FuncData} (F : Def K mg "_law_word_at" s__law_word_at ["text", "at"] f fd) (len : mg "len" = none) : FnOk P w K mg base CX0 1 f fd ["text", "at"] spWat := by
  refine F.fn.ok scWa (fun vs H Q E h => ?_) (fun cdv A outer s H vs Q E hr h => ?_)
  · obtain ⟨x, n, rfl, _⟩ := h
    rfl
  · obtain ⟨x, n, rfl, hn, hx, q⟩ := h
    have nd := scWa.nd
    refine' ⟨_, (pss_cons (ps_set (i := 2) nd rfl (Or.inl rfl) (pv 1))
      (pss_cons (ps_while PassesOwn.never (PW.pt (pw_and (pt_cmpR op_lt (pv 2) (pe_callB call_len (by rfl) len PySem.boot_len (pa_cons (pv 0) pa_nil)) (nomark _)) (pw_and1 (pt_cmpR op_in_str (pe_ix (r := rIxS) ix_str (pv 0) (pv 2) (fun _ _ => rfl)) pe_str (by with_unfolding_all rfl)))))
        (pss_one (ps_set (i := 2) nd rfl (Or.inl rfl) (pe_op op_add (pv 2) pe_int))))
      (pss_one (ps_ret (pe_slice (r := rSlS) sl_str (pv 0) (po_some (pv 1)) (po_some (pv 2))))))), ?_⟩
    have sl := str_len x
    refine ⟨_, rfl, fun m σ H' => ∃ e : Nat, σ = [some (.str x), some (.int n), some (.int e)] ∧ H' = H ∧ n ≤ e ∧ e ≤ x.length ∧ m = x.length - e ∧ ∀ c ∈ (x.cps.toList.drop n).take (e - n), isAn c = true, ⟨_, n, rfl, rfl, Nat.le_refl _, hn, rfl, by rw [Nat.sub_self, List.take_zero]; exact fun _ z => nomatch z⟩, ?_⟩
    rintro m σ H' ⟨e, rfl, rfl, ne, ex, rfl, an⟩
    have fin : (∀ c, (x.cps.toList.drop e).head? = some c → isAn c = false) → tRet (tSl rSlS (tVar 0) (tPart (tVar 1)) (tPart (tVar 2))) { nx := fun _ H' => Q .non H', rt := Q } [some (.str x), some (.int n), some (.int e)] H' := fun hd => by
      refine ⟨_, rfl, _, rfl, _, rfl, _, rfl, _, rfl, x, rfl, small_line (by omega), q _ ?_⟩
      rw [slice_ab x n e ne ex]
      have e1 : x.cps.toList.drop n = (x.cps.toList.drop n).take (e - n) ++ x.cps.toList.drop e := by
        have := (List.take_append_drop (e - n) (x.cps.toList.drop n)).symm
        rw [List.drop_drop, show n + (e - n) = e by omega] at this
        exact this
      have := run_all an hd
      rw [← e1] at this
      exact this.symm
    refine ⟨_, rfl, _, rfl, _, _, rfl, ⟨small_line (by omega), rfl⟩, _, _, rfl, rfl, _, rfl, ite2 (fun h1 => ?_) (fun h1 => ?_)⟩
    · have h1 : (e : Int) < (x.length : Int) := of_decide_eq_true h1
      obtain ⟨c, hc⟩ : ∃ c, x.cps.toList[e]? = some c := ⟨x.cps.toList[e]'(by omega), List.getElem?_eq_getElem (by omega)⟩
      refine ⟨_, rfl, _, rfl, x, (e : Int), c, rfl, rfl, small_line (by omega), atI_nat hc, _, _, rfl, rfl, _, rfl, ?_⟩
      rw [an_in]
      have hd0 : (x.cps.toList.drop e).head? = some c := by rw [List.head?_drop]; exact hc
      cases ha : isAn c with
      | true =>
        refine iteT ⟨fun σ' H'' => ∃ m', m' < x.length - e ∧ ∃ e' : Nat, σ' = [some (.str x), some (.int n), some (.int e')] ∧ H'' = H' ∧ n ≤ e' ∧ e' ≤ x.length ∧ m' = x.length - e' ∧ ∀ c ∈ (x.cps.toList.drop n).take (e' - n), isAn c = true, fun _ _ z => z, ?_⟩
        refine ⟨_, rfl, _, _, rfl, rfl, x.length - (e + 1), by omega, e + 1, rfl, rfl, by omega, by omega, rfl, fun k hk => ?_⟩
        rw [show e + 1 - n = (e - n) + 1 by omega, List.take_add_one, List.getElem?_drop, show n + (e - n) = e by omega, hc] at hk
        rcases List.mem_append.mp hk with z | z
        · exact an k z
        · rw [List.mem_singleton.mp z]; exact ha
      | false => exact iteF (fin fun k hk => by rw [hd0] at hk; cases hk; exact ha)
    · have h1 : ¬ (e : Int) < (x.length : Int) := fun z => h1 (decide_eq_true z)
      exact fin fun k hk => by rw [List.head?_drop, List.getElem?_eq_none (by omega)] at hk; cases hk
end
end K75

set_option Elab.async false
set_option linter.all false
set_option maxRecDepth 100000
set_option maxHeartbeats 8000000
namespace K75
open PySem L2 Md
theorem atI_top {as : List Addr} {a : Addr} : atI ((a :: as).map V.ref).reverse (-1) = some (V.ref a) := by
  rw [List.map_cons, List.reverse_cons]
  exact atI_last _ _
theorem str_dec (y z : Str) : decide (V.str y = V.str z) = decide (y.cps.toList = z.cps.toList) := decide_eq_decide.mpr str_iff
theorem ite_sh {b : Bool} {A Y : Prop} (Z : Prop) (hZ : Z → Y) (h1 : b = true → (Z → Y) → A) (h2 : b = false → Z) : if b = true then A else Y := by
  cases b with
  | true => rw [if_pos rfl]; exact h1 rfl hZ
  | false => rw [if_neg Bool.false_ne_true]; exact hZ (h2 rfl)
theorem emp_rev (fs : List Frm) : ((fs.map fdD).reverse).isEmpty = fs.isEmpty := by
  cases fs with
  | nil => rfl
  | cons f fs => rw [List.map_cons, List.reverse_cons]; simp
def RdM (x : Str) (H : Hp) (l : Addr) (m : Nat) (σ : St) (H' : Hp) : Prop := ∃ (n : Nat) (fs : List Frm) (as : List Addr) (y3 y4 : Option V), σ = [some (.str x), some (.ref l), some (.int n), y3, y4] ∧ PSt H H' l fs as ∧ MI x.cps.toList n fs ∧ m = x.length - n
def RdN (x : Str) (H : Hp) (l : Addr) (n0 : Nat) (m : Nat) (σ : St) (H' : Hp) : Prop := ∃ (n : Nat) (fs : List Frm) (as : List Addr) (d : Dt) (td : List Nat) (v : V) (y3 : Option V), σ = [some (.str x), some (.ref l), some (.int n), y3, some v] ∧ PSt H H' l fs as ∧ NI x.cps.toList n fs d td ∧ TmV H' d v ∧ n0 < n ∧ m = fs.length
section
variable {P : Program} {w : World} {K : W.Frag} {mg : Str → Option Value} {base : Heap}
abbrev nRd : List Str := ["text", "opened", "at", "word", "part"]
theorem scRd : FnScope nRd ["text"] (defScope s__law_term_read) := ⟨rfl, rfl, rfl, by decide +kernel, rfl, by decide +kernel, by decide +kernel⟩
theorem nd_num : (["number"] : List Str).Nodup := by decide +kernel
set_option maxHeartbeats 16000000 in
theorem ok_lread {f fA fW : Addr} {fd fdA fdW : FuncData} (F : Def K mg "_law_term_read" s__law_term_read ["text"] f fd) (T : TxtRd mg) (DA : Def K mg "_law_word_at" s__law_word_at ["text", "at"] fA fdA) (GA : FnOk P w K mg base CX0 1 fA fdA ["text", "at"] spWat)
    (DW : Def K mg "_law_is_word" s__law_is_word ["text"] fW fdW) (GW : FnOk P w K mg base CX0 1 fW fdW ["text"] spIsWord) : FnOk P w K mg base CX0 2 f fd ["text"] spRead := by
  refine F.fn.ok scRd (fun vs H Q E h => ?_) (fun cdv A outer s H vs Q E hr h => ?_)
  · obtain ⟨x, rfl, _⟩ := h
    rfl
  · obtain ⟨x, rfl, hx, q1, q2⟩ := h
    have nd := scRd.nd
    have hu := hr.units
    refine' ⟨_, (pss_cons (ps_set (i := 1) nd rfl (Or.inl rfl) (pe_lst pa_nil))
      (pss_cons (ps_set (i := 2) nd rfl (Or.inl rfl) pe_int)
      (pss_one (ps_while PassesOwn.never (pt_val pe_bl)
        (pss_cons (ps_set (i := 3) nd rfl (Or.inl rfl) (pe_callD DA GA hr (pa_cons (pv 0) (pa_cons (pv 2) pa_nil))))
      (pss_cons (ps_set (i := 2) nd rfl (Or.inl rfl) (pe_op op_add (pv 2) (pe_callB call_len (by rfl) T.len PySem.boot_len (pa_cons (pv 3) pa_nil))))
      (pss_one (ps_if (PW.pt (pw_and (pt_val (pe_callD DW GW hr (pa_cons (pv 3) pa_nil))) (pw_and1 (pt_cmpR op_eq (pe_slice (r := rSlS) sl_str (pv 0) (po_some (pv 2)) (po_some (pe_op op_add (pv 2) pe_int))) pe_str (nomark _)))))
          (pss_cons (ps_expr (pe_bm PySem.F.plainAttrs_list PySem.F.slot_list_append PySem.F.type_list_append mt_append (pv 1) (pa_cons (pe_lst (pa_cons (pv 3) pa_nil)) pa_nil)))
      (pss_one (ps_set (i := 2) nd rfl (Or.inl rfl) (pe_op op_add (pv 2) pe_int))))
          (pss_one (ps_if (pt_cmpR (op_notInD (hu65 hr)) (pv 3) ?eC (by with_unfolding_all rfl)) (pss_one (ps_ret pe_non))
            (pss_cons (ps_set (i := 4) nd rfl (Or.inl rfl) (pe_callTy call_intS (by rfl) T.int PyProof.Rows.boot_int (pa_cons (pv 3) pa_nil)))
      (pss_cons (ps_while PassesOwn.never (PW.pt (pw_and (pt_cmpR (op_neW hu) (pv 1) (pe_lst pa_nil) (nomark _)) (pw_and1 (pt_cmpR op_eq (pe_slice (r := rSlS) sl_str (pv 0) (po_some (pv 2)) (po_some (pe_op op_add (pv 2) pe_int))) pe_str (nomark _)))))
              (pss_cons (ps_expr (pe_bm PySem.F.plainAttrs_list PySem.F.slot_list_append PySem.F.type_list_append mt_append (pe_ix (r := rIxL K) ix_list (pv 1) (pe_un un_neg pe_int) (fun _ _ => rfl)) (pa_cons (pv 4) pa_nil)))
      (pss_cons (ps_set (i := 4) nd rfl (Or.inl rfl) (pe_callTy call_tuple_of (by rfl) T.tuple PyProof.Rows.boot_tuple (pa_cons (pe_bm0 PySem.F.plainAttrs_list PySem.F.slot_list_pop PySem.F.type_list_pop mt_pop (pv 1)) pa_nil)))
      (pss_one (ps_set (i := 2) nd rfl (Or.inl rfl) (pe_op op_add (pv 2) pe_int))))))
      (pss_cons (ps_if (pt_cmpR (op_eqW hu) (pv 1) (pe_lst pa_nil) (nomark _)) (pss_one (ps_ret (pe_ix (r := rIxT K) ix_tup (pe_tup (pa_cons pe_non (pa_cons (pv 4) pa_nil))) (pe_callTy call_int1 (by rfl) T.int PyProof.Rows.boot_int (pa_cons (pe_cmpR op_eq (pv 2) (pe_callB call_len (by rfl) T.len PySem.boot_len (pa_cons (pv 0) pa_nil)) (nomark _)) pa_nil)) (fun _ _ => rfl)))) pss_nil)
      (pss_cons (ps_if (pt_cmpR op_ne (pe_slice (r := rSlS) sl_str (pv 0) (po_some (pv 2)) (po_some (pe_op op_add (pv 2) pe_int))) pe_str (nomark _)) (pss_one (ps_ret pe_non)) pss_nil)
      (pss_cons (ps_expr (pe_bm PySem.F.plainAttrs_list PySem.F.slot_list_append PySem.F.type_list_append mt_append (pe_ix (r := rIxL K) ix_list (pv 1) (pe_un un_neg pe_int) (fun _ _ => rfl)) (pa_cons (pv 4) pa_nil)))
      (pss_one (ps_set (i := 2) nd rfl (Or.inl rfl) (pe_op op_add (pv 2) pe_int)))))))))))))))))), ?_⟩
    case eC => exact (pe_comp ["number"] [] [] (fun _ => compT_ok (osc := defScope s__law_term_read) (on := nRd) (by decide +kernel) rfl rfl rfl) (pi_range1 (by rfl) T.range (pa_cons pe_int pa_nil)) (fun C s H fp => pg_name (i := 0) nd_num rfl (Or.inl rfl) (Or.inr rfl)) (fun C s H fp => pts_nil) (fun C s H fp => pe_callTy call_str_int (by rfl) T.str PyProof.Rows.boot_str (pa_cons (pv 0) pa_nil)))
    have sl := str_len x
    refine ⟨Nat.zero_le _, fun l hl => ?_⟩
    have s1 : Same H (upd H l (.lst [])) := snew hl
    refine ⟨RdM x H l, ⟨_, 0, [], [], none, none, rfl, ⟨s1, upd_same, .nil, (fun _ z => nomatch z), hl, (fun z => nomatch z)⟩, mi_start _, rfl⟩, ?_⟩
    rintro m σ H2 ⟨n, fs, as, y3, y4, rfl, ps, mi, rfl⟩
    have nle := mi.le
    rw [sl] at nle
    refine ⟨_, rfl, iteT ⟨fun σ' H' => ∃ m', m' < x.length - n ∧ RdM x H l m' σ' H', fun _ _ z => z, ?_⟩⟩
    refine ⟨_, rfl, _, rfl, x, n, rfl, nle, hx, fun y hy => ?_⟩
    obtain ⟨r1, r2⟩ := run_take hy.symm
    rw [List.length_drop] at r2
    have sly := str_len y
    have yan : ∀ c ∈ y.cps.toList, isAn c = true := fun c hc => by rw [hy] at hc; exact List.all_eq_true.mp List.all_takeWhile c hc
    have yok : PyData.strOk y = true := by
      unfold PyData.strOk
      rw [Array.all_eq_true']
      intro c hc
      have := yan c (by simpa using hc)
      unfold isAn isLow isDig at this
      rw [Bool.or_eq_true] at this
      rcases this with z | z
      · have := of_decide_eq_true z; exact decide_eq_true (by omega)
      · have := of_decide_eq_true z; exact decide_eq_true (by omega)
    refine ⟨_, rfl, _, rfl, _, _, rfl, ⟨small_line (by omega), rfl⟩, _, _, rfl, rfl, ?_⟩
    obtain ⟨N, hN⟩ : ∃ N, N = n + y.cps.toList.length := ⟨_, rfl⟩
    have en : (n : Int) + (y.length : Int) = ((N : Nat) : Int) := by omega
    show gName 2 (V.int ((n : Int) + (y.length : Int))) _ _ _
    rw [en]
    have Nle : N ≤ x.length := by omega
    refine ⟨_, rfl, y, rfl, by omega, fun H3 s23 => ⟨_, rfl, ite_sh (¬ (isWord y = true ∧ (x.cps.toList.drop N).take 1 = [40])) (fun hno => ?_) (fun hw fz => ?_) (fun hw c => by rw [hw] at c; cases c.1)⟩⟩
    · -- a number, or nothing
      refine ⟨_, rfl, 100, rfl, by decide, by decide, comp_pure runs_range (small_line (by rw [rangeV_len]; decide)) (fun _ => true) numV (fun _ _ _ => trivial) ?_ ?_ ?_⟩
      · intro D ys v R _ _ hR
        exact hR
      · intro D ys v R _ hv _ hR
        unfold rangeV at hv
        obtain ⟨k, hk, rfl⟩ := List.mem_map.mp hv
        have hk : k < 100 := List.mem_range.mp hk
        refine ⟨_, rfl, _, rfl, ?_, hR⟩
        rw [Int.zero_add]
        exact log_small hk
      · intro D hD
        have s34 : Same H3 (upd H3 D (.lst (((rangeV 0 (100 : Int).toNat).filter fun _ => true).map numV))) := snew hD
        have hD4 : (upd H3 D (.lst (((rangeV 0 (100 : Int).toNat).filter fun _ => true).map numV))) D = some (.lst (L100.map V.str)) := by
          rw [upd_same]
          exact congrArg (fun z => some (HO.lst z)) num_list
        generalize upd H3 D (.lst (((rangeV 0 (100 : Int).toNat).filter fun _ => true).map numV)) = H4 at s34 hD4
        have ps4 := (ps.up s23).up s34
        refine ⟨.str y, _, .str y, .list (SqL.of hD4) (reps_strs L100), yok, num_ok, _, rfl, ?_⟩
        by_cases hd : ∃ i, i < 100 ∧ y.cps.toList = digs i
        · rw [(num_any y).mpr hd]
          obtain ⟨i, hi, ey⟩ := hd
          have l2 : (digs i).length ≤ 2 := (digs_len ⟨i, hi⟩).2
          have l1 : 1 ≤ (digs i).length := (digs_len ⟨i, hi⟩).1
          rw [← ey] at l2 l1
          have ni0 : NI x.cps.toList N fs (.int i) (digs i) := by
            have := mi.num hi (by rw [← hy, ey])
            rw [← ey, ← hN] at this
            rw [← ey]
            exact this
          refine iteF ⟨_, rfl, y, _, rfl, digs_reads ey hi, by omega, RdN x H l n, ⟨_, N, fs, as, .int i, digs i, _, _, rfl, ps4, ni0, .int _, by omega, rfl⟩, ?_⟩
          rintro m2 σ2 H5 ⟨n2, fs2, as2, d, td, v, z3, rfl, ps5, ni, hv, hn2, rfl⟩
          have n2le := ni.le
          rw [sl] at n2le
          refine ⟨_, rfl, Nat.zero_le _, fun t2 ht2 => ?_⟩
          have s56 : Same H5 (upd H5 t2 (.lst [])) := snew ht2
          have ht6 : (upd H5 t2 (.lst [])) t2 = some (.lst []) := upd_same
          generalize upd H5 t2 (.lst []) = H6 at s56 ht6
          have ps6 := ps5.up s56
          have hv6 := hv.keep (tupsS s56)
          refine ⟨.list (fs2.map fdD).reverse, .list [], .list (SqL.of ps6.opn) (reps_rev ps6.fr.reps), .list (SqL.of ht6) .nil, lay_all (fun d hd => ps6.fr.lay d (List.mem_reverse.mp hd)), lay_lnil, dep_lnil, _, rfl, ?_⟩
          rw [eqv_lnil, emp_rev]
          cases fs2 with
          | nil =>
            refine iteF ⟨_, rfl, Nat.zero_le _, fun t3 ht3 => ?_⟩
            have s67 : Same H6 (upd H6 t3 (.lst [])) := snew ht3
            have ht7 : (upd H6 t3 (.lst [])) t3 = some (.lst []) := upd_same
            generalize upd H6 t3 (.lst []) = H7 at s67 ht7
            have ps7 := ps6.up s67
            refine ⟨.list (([] : List Frm).map fdD).reverse, .list [], .list (SqL.of ps7.opn) (reps_rev ps7.fr.reps), .list (SqL.of ht7) .nil, lay_all (fun d hd => ps7.fr.lay d (List.mem_reverse.mp hd)), lay_lnil, dep_lnil, _, rfl, ?_⟩
            rw [eqv_lnil, emp_rev]
            refine iteT ⟨_, rfl, small_line (by show 2 ≤ 100000; decide), fun tt htt => ?_⟩
            have s78 : Same H7 (upd H7 tt (.tup [.non, v])) := snew htt
            have htt8 : (upd H7 tt (.tup [.non, v])) tt = some (.tup [.non, v]) := upd_same
            generalize upd H7 tt (.tup [.non, v]) = H8 at s78 htt8
            have ps8 := ps7.up s78
            refine ⟨_, rfl, _, rfl, _, _, rfl, ⟨small_line (by omega), rfl⟩, rfl, .inr ⟨_, rfl, ?_⟩⟩
            by_cases e : n2 = x.length
            · rw [decide_eq_true (show V.int (n2 : Int) = V.int (x.length : Int) by rw [e])]
              exact ⟨tt, _, _, v, rfl, rfl, SqT.of htt8, rfl, q1 d v H8 (ni.ends (by rw [sl]; exact e)) ps8.same (hv6.keep (tupsS (s67.trans s78)))⟩
            · rw [decide_eq_false (show ¬ V.int (n2 : Int) = V.int (x.length : Int) from fun z => e (by injection z with z; omega))]
              exact ⟨tt, _, _, _, rfl, rfl, SqT.of htt8, rfl, q2 (ni.more (by rw [sl]; exact e)) H8 ps8.same⟩
          | cons f fs3 =>
            obtain ⟨xw, pp⟩ := f
            obtain ⟨a, as3, vs, rfl, ha6, hT6, hok, has, hfr⟩ : ∃ a as3 vs, as2 = a :: as3 ∧ H6 a = some (.lst (.str xw :: vs)) ∧ TmsV H6 (pp.map (·.1)) vs ∧ PyData.strOk xw = true ∧ a ∉ as3 ∧ FrV H6 fs3 as3 := by
              have g := ps6.fr
              cases g with
              | cons h1 h2 h3 h4 h5 => exact ⟨_, _, _, rfl, h1, h2, h3, h4, h5⟩
            have vl : vs.length ≤ 1000 := by
              have h1 := hT6.length
              rw [List.length_map] at h1
              have h2 := pf_top xw pp fs3
              have h3 := congrArg List.length ni.pre
              rw [List.length_take, List.length_append, sl] at h3
              omega
            have asl : (a :: as3).length ≤ 1000 := by
              have h1 := ps6.fr.len
              have h2 := pf_len ((xw, pp) :: fs3)
              have h3 := congrArg List.length ni.pre
              rw [List.length_take, List.length_append, sl] at h3
              omega
            refine iteT ⟨_, rfl, _, rfl, _, rfl, _, rfl, _, _, rfl, rfl, _, rfl, x, rfl, small_line (by omega), rfl, _, rfl, ?_⟩
            rw [str_dec, slice_one1 x n2 n2le, cps_close]
            by_cases ho : (x.cps.toList.drop n2).take 1 = [41]
            · rw [decide_eq_true ho]
              refine iteT ⟨fun σ' H' => ∃ m', m' < ((xw, pp) :: fs3).length ∧ RdN x H l n m' σ' H', fun _ _ z => z, ?_⟩
              refine ⟨_, rfl, _, rfl, l, _, -1, _, rfl, rfl, SqL.of ps6.opn, atI_top, .inl ⟨rfl, _, SqL.of ha6⟩, _, rfl, a, _, _, rfl, rfl, ha6, small_lt (by rw [List.length_cons]; omega), ?_⟩
              have ps7 := ps6.add ha6 hv6 td
              have tk : ∀ b xs, H6 b = some (.tup xs) → (upd H6 a (.lst (.str xw :: vs ++ [v]))) b = some (.tup xs) := fun b xs e => by rw [upd_ne (fun z => by rw [z, ha6] at e; cases e)]; exact e
              have ha7 : (upd H6 a (.lst (.str xw :: vs ++ [v]))) a = some (.lst (.str xw :: vs ++ [v])) := upd_same
              have hT7 : TmsV (upd H6 a (.lst (.str xw :: vs ++ [v]))) (.str xw :: (pp.map (·.1) ++ [d])) (.str xw :: vs ++ [v]) := .cons (.str _ hok) ((hT6.keep tk).append (.cons (hv6.keep tk) .nil))
              generalize upd H6 a (.lst (.str xw :: vs ++ [v])) = H7 at ps7 ha7 hT7
              refine ⟨_, rfl, .inl ⟨rfl, _, SqL.of ps7.opn⟩, l, _, .ref a, rfl, rfl, ps7.opn, by rw [List.map_cons, List.reverse_cons]; simp, ?_⟩
              have ed : (((a :: as3).map V.ref).reverse).dropLast = (as3.map V.ref).reverse := by rw [List.map_cons, List.reverse_cons, List.dropLast_concat]
              rw [ed]
              have ps8 := ps7.pop
              have al : a ≠ l := fun z => ps7.lna (by rw [← z]; exact .head _)
              have tk8 : ∀ b xs, H7 b = some (.tup xs) → (upd H7 l (.lst (as3.map V.ref).reverse)) b = some (.tup xs) := fun b xs e => by rw [upd_ne (fun z => by rw [z, ps7.opn] at e; cases e)]; exact e
              have ha8 : (upd H7 l (.lst (as3.map V.ref).reverse)) a = some (.lst (.str xw :: vs ++ [v])) := by rw [upd_ne al]; exact ha7
              have hT8 := hT7.keep tk8
              generalize upd H7 l (.lst (as3.map V.ref).reverse) = H8 at ps8 ha8 hT8
              refine ⟨a, _, rfl, .inl ⟨SqL.of ha8, fun tt htt => ?_⟩⟩
              have s89 : Same H8 (upd H8 tt (.tup (.str xw :: vs ++ [v]))) := snew htt
              have htt9 : (upd H8 tt (.tup (.str xw :: vs ++ [v]))) tt = some (.tup (.str xw :: vs ++ [v])) := upd_same
              generalize upd H8 tt (.tup (.str xw :: vs ++ [v])) = H9 at s89 htt9
              exact ⟨_, rfl, _, _, rfl, rfl, fs3.length, by rw [List.length_cons]; omega, n2 + 1, fs3, as3, _, _, .ref tt, _, rfl, ps8.up s89, ni.close ho, .tup htt9 (hT8.keep (tupsS s89)), by omega, rfl⟩
            · rw [decide_eq_false ho]
              refine iteF ⟨_, rfl, Nat.zero_le _, fun t3 ht3 => ?_⟩
              have s67 : Same H6 (upd H6 t3 (.lst [])) := snew ht3
              have ht7 : (upd H6 t3 (.lst [])) t3 = some (.lst []) := upd_same
              generalize upd H6 t3 (.lst []) = H7 at s67 ht7
              have ps7 := ps6.up s67
              have ha7 := s67 _ _ ha6
              have hv7 := hv6.keep (tupsS s67)
              refine ⟨.list (((xw, pp) :: fs3).map fdD).reverse, .list [], .list (SqL.of ps7.opn) (reps_rev ps7.fr.reps), .list (SqL.of ht7) .nil, lay_all (fun d hd => ps7.fr.lay d (List.mem_reverse.mp hd)), lay_lnil, dep_lnil, _, rfl, ?_⟩
              rw [eqv_lnil, emp_rev]
              refine iteF ⟨_, rfl, _, rfl, _, rfl, _, rfl, _, _, rfl, rfl, _, rfl, x, rfl, small_line (by omega), rfl, _, rfl, ?_⟩
              rw [str_dec, slice_two x n2 n2le, cps_sep]
              by_cases hs : (x.cps.toList.drop n2).take 2 = [44, 32]
              · rw [decide_eq_true hs]
                have mi2 := ni.next hs
                have le2 := mi2.le
                rw [sl] at le2
                refine iteF ⟨_, rfl, _, rfl, l, _, -1, _, rfl, rfl, SqL.of ps7.opn, atI_top, .inl ⟨rfl, _, SqL.of ha7⟩, _, rfl, a, _, _, rfl, rfl, ha7, small_lt (by rw [List.length_cons]; omega), ?_⟩
                exact ⟨_, rfl, _, _, rfl, rfl, x.length - (n2 + 2), by omega, n2 + 2, _, _, _, _, rfl, ps7.add ha7 hv7 td, mi2, rfl⟩
              · rw [decide_eq_false hs]
                exact iteT (q2 (ni.bad ho hs) H7 ps7.same)
        · have hf : ((L100.map W.Dat.str).any fun e => dEq e (.str y)) = false := by
            cases z : ((L100.map W.Dat.str).any fun e => dEq e (.str y)) with
            | false => rfl
            | true => exact absurd ((num_any y).mp z) hd
          rw [hf]
          exact iteT (q2 (mi.stuck hy.symm (by rw [← hN]; exact hno) fun i hi e => hd ⟨i, hi, e⟩) H4 ps4.same)
    · refine ⟨_, rfl, _, rfl, _, rfl, _, rfl, _, _, rfl, rfl, _, rfl, x, rfl, small_line (by omega), rfl, _, rfl, ?_⟩
      rw [str_dec, slice_one1 x N Nle, cps_open]
      by_cases ho : (x.cps.toList.drop N).take 1 = [40]
      · rw [decide_eq_true ho]
        have ps3 := ps.up s23
        have mi2 := mi.opens hw hy.symm (by rw [← hN]; exact ho)
        rw [← hN] at mi2
        have le2 := mi2.le
        rw [sl] at le2
        have asl : as.length ≤ 1000 := by
          have h1 := ps.fr.len
          have h2 := pf_len fs
          have h3 := congrArg List.length mi.pre
          rw [List.length_take, sl] at h3
          omega
        refine iteT ⟨_, rfl, .inl ⟨rfl, _, SqL.of ps3.opn⟩, _, rfl, small_line (by show 1 ≤ 100000; decide), fun a ha => ?_⟩
        have al : l ≠ a := fun z => by rw [← z, ps3.opn] at ha; cases ha
        refine ⟨l, _, _, rfl, rfl, by rw [upd_ne al]; exact ps3.opn, small_lt (by rw [List.length_reverse, List.length_map]; omega), ?_⟩
        exact ⟨_, rfl, _, _, rfl, rfl, x.length - (N + 1), by omega, N + 1, _, _, _, _, rfl, ps3.push ha yok, mi2, rfl⟩
      · rw [decide_eq_false ho]
        exact iteF (fz fun c => ho c.2)
end
end K75

set_option Elab.async false
set_option linter.all false
set_option maxRecDepth 100000
set_option maxHeartbeats 4000000
namespace K75
open PySem L2 Md
/-! ### terms that are told -/
def Gd (x : Str) (d : Dt) : Prop := tkB 12 d = true ∧ tx 12 d = x.cps.toList ∧ cntL 12 [d] ≤ 40
theorem Gd.wr {x : Str} {d : Dt} (h : Gd x d) : Wr d x.cps.toList := ⟨12, h.1, h.2.1⟩
theorem Gd.inj {x : Str} {d e : Dt} (h : Gd x d) (h' : Gd x e) : d = e := wr_inj h.wr h'.wr
def spRtX (C : Addr) : Sp := fun vs H Q E => ∃ x : Str, vs = [.str x] ∧ x.length ≤ 1000 ∧ (∀ c ∈ x.cps.toList, c < 128) ∧ (∀ d v H', Gd x d → Same H H' → TmV H' d v → Q v H') ∧ ((∀ d, ¬ Gd x d) → ∀ H', Same H H' → E (.ref C) none H')
abbrev nRt : List Str := ["text", "term"]
theorem tk_lvl : ∀ (k : Nat) (l : List Dt), (∀ e ∈ l, tkB k e = true) → lvl k l = []
  | 0, l, h => by
    cases l with
    | nil => exact lvl_zero _
    | cons e r => exact absurd (h e (.head _)) (fun z => by cases z)
  | k + 1, l, h => by
    rw [lvl_in]
    refine tk_lvl k _ fun e he => ?_
    obtain ⟨d, hd, hk⟩ := List.mem_flatMap.mp he
    rcases tk_inv (h d hd) with ⟨i, rfl, _⟩ | ⟨y, c, cs, rfl, _, hks⟩
    · cases hk
    · exact hks e hk
/-- no deeper than its levels -/
theorem lvl_tk : ∀ (k : Nat) (j : Nat) (d : Dt), tkB j d = true → lvl k [d] = [] → tkB k d = true
  | 0, j, d, h, z => by rw [lvl_zero] at z; cases z
  | k + 1, 0, d, h, z => by cases h
  | k + 1, j + 1, d, h, z => by
    rcases tk_inv h with ⟨i, rfl, hi⟩ | ⟨y, c, cs, rfl, hy, hks⟩
    · exact tk_int (by omega) (by omega) (by omega)
    · rw [lvl_in, kids_one] at z
      have all : ∀ l : List Dt, lvl k l = [] → ∀ e ∈ l, lvl k [e] = [] := fun l hz e he => by
        obtain ⟨a, b, rfl⟩ := List.append_of_mem he
        rw [show a ++ e :: b = a ++ ([e] ++ b) from rfl, lvl_append, lvl_append] at hz
        exact (List.append_eq_nil_iff.mp (List.append_eq_nil_iff.mp hz).2).1
      have z : lvl k (c :: cs) = [] := z
      have one := all _ z
      cases k with
      | zero => rw [lvl_zero] at z; cases z
      | succ k => exact tk_tup (by omega) hy fun e he => lvl_tk (k + 1) j e (hks e he) (one e he)
theorem TmsV.last {H : Hp} : ∀ {ds : List Dt} {vs : List V}, TmsV H ds vs → ds ≠ [] → ∃ ds' e vs' y, ds = ds' ++ [e] ∧ vs = vs' ++ [y] ∧ TmsV H ds' vs' ∧ TmV H e y
  | _, _, .nil, h => absurd rfl h
  | [d], [v], .cons h .nil, _ => ⟨[], d, [], v, rfl, rfl, .nil, h⟩
  | d :: d2 :: ds, v :: v2 :: vs, .cons h (.cons h2 t), _ => by
    obtain ⟨ds', e, vs', y, e1, e2, t', h'⟩ := TmsV.last (.cons h2 t) (by simp)
    exact ⟨d :: ds', e, v :: vs', y, by rw [e1]; rfl, by rw [e2]; rfl, .cons h t', h'⟩
theorem lvl_kids {z : Nat} {e : Dt} (h : lvl z [e] = []) : lvl z (kids e) = [] := by
  have : lvl (z + 1) [e] = [] := by rw [lvl_succ, h]; rfl
  rw [lvl_in, kids_one] at this
  exact this
theorem cnt_pop {z : Nat} {e : Dt} (h : lvl z [e] = []) : cntL z [e] = 1 + cntL z (kids e) := by
  have h1 : cntL (z + 1) [e] = cntL z [e] := by rw [cntL_succ, h]; rfl
  rw [← h1, cntL_in, kids_one]
  rfl
theorem len_cnt {z : Nat} {ds : List Dt} (h : lvl z ds = []) : ds.length ≤ cntL z ds := by
  cases z with
  | zero => rw [lvl_zero] at h; rw [h]; exact Nat.zero_le _
  | succ k => rw [cntL_in]; omega
/-- behind the last level nothing is counted -/
theorem cnt_stop {k : Nat} {l : List Dt} (h : lvl k l = []) : ∀ m, lvl (k + m) l = [] ∧ cntL (k + m) l = cntL k l
  | 0 => ⟨h, rfl⟩
  | m + 1 => by
    obtain ⟨a, b⟩ := cnt_stop h m
    refine ⟨by rw [← Nat.add_assoc, lvl_succ, a]; rfl, ?_⟩
    rw [← Nat.add_assoc, cntL_succ, a, b]
    rfl
def spPrt : Sp := fun vs H Q _ => ∃ (d : Dt) (v : V) (z : Nat), vs = [v] ∧ TmV H d v ∧ lvl z [d] = [] ∧ cntL z [d] ≤ 1000 ∧ ∀ H', Same H H' → Q (.int (cntL z [d] : Nat)) H'
def spDp : Sp := fun vs H Q _ => ∃ (d : Dt) (v : V) (z : Nat), vs = [v] ∧ TmV H d v ∧ lvl z [d] = [] ∧ cntL z [d] ≤ 1000 ∧ ∀ (k : Nat) H', Same H H' → lvl k [d] = [] → (∀ j, j < k → lvl j [d] ≠ []) → Q (.int (k : Nat)) H'
def PrW (v : V) (H : Hp) (l : Addr) (z c : Nat) (m : Nat) (σ : St) (H' : Hp) : Prop := ∃ (x : Option V) (ds : List Dt) (us : List V) (n : Nat), σ = [some v, some (.int n), some (.ref l), x] ∧ Same H H' ∧ H' l = some (.lst us) ∧ TmsV H' ds us ∧ lvl z ds = [] ∧ n + cntL z ds = c ∧ m = cntL z ds
def DpW (v : V) (d : Dt) (H : Hp) (z : Nat) (m : Nat) (σ : St) (H' : Hp) : Prop := ∃ (l : Addr) (us : List V) (k : Nat) (x3 x4 : Option V), σ = [some v, some (.ref l), some (.int k), x3, x4] ∧ Same H H' ∧ H' l = some (.lst us) ∧ H l = none ∧ TmsV H' (lvl k [d]) us ∧ (∀ j, j < k → lvl j [d] ≠ []) ∧ k ≤ z ∧ m = z - k
structure TxtPr (mg : Str → Option Value) : Prop where
  isi : mg "isinstance" = none
  tuple : mg "tuple" = none
  list : mg "list" = none
section
variable {P : Program} {w : World} {K : W.Frag} {mg : Str → Option Value} {base : Heap}
theorem scRt : FnScope nRt ["text"] (defScope s_read_term) := ⟨rfl, rfl, rfl, by decide +kernel, rfl, by decide +kernel, by decide +kernel⟩
theorem ok_rtermX {f fR fS C : Addr} {fd fdR fdS : FuncData} (F : Def K mg "read_term" s_read_term ["text"] f fd) (TT : ErrP K mg "NoTerm" C) (DR : Def K mg "read_part" s_read_part ["text", "deep"] fR fdR) (GR : FnOk P w K mg base (CX1 P w) 14 fR fdR ["text", "deep"] (spRpX C 12)) (DS : Def K mg "is_small" s_is_small ["term"] fS fdS) (GS : FnOk P w K mg base CX0 2 fS fdS ["term"] spSmall) : FnOk P w K mg base (CX1 P w) 15 f fd ["text"] (spRtX C) := by
  have GS := FnOk.any (CX := CX1 P w) GS
  refine F.fn.ok1 scRt (fun vs H Q E h => ?_) (fun cdv A outer s H vs Q E hr h => ?_)
  · obtain ⟨x, rfl, _⟩ := h
    rfl
  · obtain ⟨x, rfl, hx, hc, q, re⟩ := h
    have nd := scRt.nd
    have hr2 : Room 2 _ := hr.mono (show 2 ≤ 14 by decide)
    refine' ⟨_, (pss_cons (ps_set (i := 1) nd rfl (Or.inl rfl) (pe_c1 Fns.of DR GR hr (pa_cons (pv 0) (pa_cons pe_int pa_nil))))
      (pss_cons (ps_if (pt_not (pt_val (pe_c1 Fns.of DS GS hr2 (pa_cons (pv 1) pa_nil)))) (pss_one (ps_raise (C := C) Fns.of hr.hd TT.ex TT.ini (by rfl) TT.m (pa_cons pe_str pa_nil))) pss_nil)
      (pss_one (ps_ret (pv 1))))), ?_⟩
    refine ⟨_, rfl, x, 1, rfl, hx, hc, by decide, fun d v H1 ht hx' s1 hv => ⟨_, rfl, d, v, rfl, hv, fun k => ?_, fun H2 s2 => ⟨_, rfl, ?_⟩⟩, fun no H1 s1 => re (fun d g => no d g.1 g.2.1) H1 s1⟩
    · have h1 := lvl_cnt k [d]
      have h2 := wr_cnt ⟨12, ht, hx'⟩ (k + 1)
      rw [str_len] at h2
      omega
    · have e : smallB d = decide (cntL 12 [d] ≤ 40) := by
        unfold smallB
        rw [tk_lvl 12 [d] (fun e he => by rw [List.mem_singleton.mp he]; exact ht)]
        rfl
      rw [e]
      by_cases c : cntL 12 [d] ≤ 40
      · rw [decide_eq_true c]
        exact iteF ⟨_, rfl, q d v H2 ⟨ht, hx', c⟩ (s1.trans s2) (hv.keep (tupsS s2))⟩
      · rw [decide_eq_false c]
        refine iteT ⟨small_line (by show 1 ≤ 100000; decide), re (fun e g => ?_) H2 (s1.trans s2)⟩
        rw [← wr_inj ⟨12, ht, hx'⟩ g.wr] at g
        exact c g.2.2
theorem nd_sg : (["sign"] : List Str).Nodup := by decide +kernel
theorem scLw : FnScope ["text"] ["text"] (defScope s__law_is_word) := ⟨rfl, rfl, rfl, by decide +kernel, rfl, by decide +kernel, by decide +kernel⟩
theorem ok_lisword {f : Addr} {fd : FuncData} (F : Def K mg "_law_is_word" s__law_is_word ["text"] f fd) (len : mg "len" = none) (all : mg "all" = none) : FnOk P w K mg base CX0 1 f fd ["text"] spIsWord := by
  refine F.fn.ok scLw (fun vs H Q E h => ?_) (fun cdv A outer s H vs Q E hr h => ?_)
  · obtain ⟨x, rfl, _⟩ := h
    rfl
  · obtain ⟨x, rfl, hx, k⟩ := h
    refine' ⟨_, pss_one (ps_ret (pe_and (pe_chain op_lt op_lt pe_int (pe_callB call_len (by rfl) len PySem.boot_len (pa_cons (pv 0) pa_nil)) pe_int) (pe_one (pe_callB (call_all rfl) (by rfl) all PyProof.Rows.boot_all (pa_cons ?eC pa_nil))))), ?_⟩
    case eC => exact (pe_comp ["sign"] [] [] (fun _ => compT_ok (osc := defScope s__law_is_word) (on := ["text"]) (by decide +kernel) rfl rfl rfl) (pi_str (pv 0)) (fun C s H fp => pg_name (i := 0) nd_sg rfl (Or.inl rfl) (Or.inr rfl)) (fun C s H fp => pts_nil) (fun C s H fp => pe_cmpR op_in_str (pv 0) pe_str (by with_unfolding_all rfl)))
    have no : ¬ (1 ≤ x.length ∧ x.length ≤ 8) → isWord x = false := fun h => by unfold isWord; rw [decide_eq_false h]; rfl
    refine ⟨_, rfl, _, _, rfl, ⟨small_line (by omega), rfl⟩, _, _, rfl, rfl, _, rfl, ?_⟩
    by_cases h1 : 1 ≤ x.length
    · rw [decide_eq_true (show (0 : Int) < (x.length : Int) by omega)]
      refine iteT ⟨_, _, rfl, rfl, _, rfl, ?_⟩
      by_cases h2 : x.length ≤ 8
      · rw [decide_eq_true (show (x.length : Int) < 9 by omega)]
        refine iteT ⟨_, rfl, _, rfl, comp_pure runs_str (by unfold signsV; rw [List.length_map, str_len]; exact small_line (by omega)) (fun _ => true) inLet (fun _ _ _ => trivial) ?_ ?_ ?_⟩
        · intro D ys v R _ _ hR
          exact hR
        · intro D ys v R _ hv _ hR
          obtain ⟨c, _, e⟩ := List.mem_map.mp hv
          subst e
          exact ⟨_, rfl, _, _, rfl, rfl, hR⟩
        · intro D hD
          refine ⟨D, x.cps.toList.map isLow, rfl, SqL.of (by rw [← signs_low]; exact upd_same), ?_⟩
          have e : (x.cps.toList.map isLow).all id = isWord x := by
            unfold isWord
            rw [decide_eq_true ⟨h1, h2⟩, Bool.true_and, List.all_map]
            rfl
          have q := k (upd H D (.lst (((signsV x).filter fun _ => true).map inLet))) fun b o hb => by rw [upd_ne (ne_of_none hb hD)]; exact hb
          rw [← e] at q
          exact q
      · rw [decide_eq_false (show ¬ (x.length : Int) < 9 by omega)]
        have q := k H (Same.refl _)
        rw [no (fun z => h2 z.2)] at q
        exact iteF q
    · rw [decide_eq_false (show ¬ (0 : Int) < (x.length : Int) by omega)]
      have q := k H (Same.refl _)
      rw [no (fun z => h1 z.1)] at q
      exact iteF ⟨_, rfl, iteF q⟩
abbrev nPr : List Str := ["term", "count", "left", "part"]
theorem scPr : FnScope nPr ["term"] (defScope s__law_parts) := ⟨rfl, rfl, rfl, by decide +kernel, rfl, by decide +kernel, by decide +kernel⟩
theorem ok_lparts {f : Addr} {fd : FuncData} (F : Def K mg "_law_parts" s__law_parts ["term"] f fd) (T : TxtPr mg) : FnOk P w K mg base CX0 1 f fd ["term"] spPrt := by
  refine F.fn.ok scPr (fun vs H Q E h => ?_) (fun cdv A outer s H vs Q E hr h => ?_)
  · obtain ⟨d, v, z, rfl, _⟩ := h
    rfl
  · obtain ⟨d, v, z, rfl, hv, hz, hc, q⟩ := h
    have nd := scPr.nd
    have hu := hr.units
    refine' ⟨_, (pss_cons (ps_set (i := 1) nd rfl (Or.inl rfl) pe_int)
      (pss_cons (ps_set (i := 2) nd rfl (Or.inl rfl) (pe_lst (pa_cons (pv 0) pa_nil)))
      (pss_cons (ps_while PassesOwn.never (pt_cmpR (op_neW hu) (pv 2) (pe_lst pa_nil) (nomark _))
        (pss_cons (ps_set (i := 3) nd rfl (Or.inl rfl) (pe_bm0 PySem.F.plainAttrs_list PySem.F.slot_list_pop PySem.F.type_list_pop mt_pop (pv 2)))
      (pss_cons (ps_set (i := 1) nd rfl (Or.inl rfl) (pe_op op_add (pv 1) pe_int))
      (pss_one (ps_if (pt_val (pe_callB call_isi (by rfl) T.isi PyProof.Rows.boot_isinstance (pa_cons (pv 3) (pa_cons (pe_bltn (v := .ty "tuple") (by rfl) T.tuple PyProof.Rows.boot_tuple rfl) pa_nil))))
          (pss_one (ps_expr (pe_bm PySem.F.plainAttrs_list PySem.F.slot_list_extend PySem.F.type_list_extend mt_extend (pv 2) (pa_cons (pe_callTy call_list_of (by rfl) T.list PyProof.Rows.boot_list (pa_cons (pe_slice (r := rSlA K) sl_tupA (pv 3) (po_some pe_int) po_none) pa_nil)) pa_nil)))) pss_nil)))))
      (pss_one (ps_ret (pv 1)))))), ?_⟩
    refine ⟨_, rfl, small_line (by show 1 ≤ 100000; decide), fun l hl => ?_⟩
    have s1 : Same H (upd H l (.lst [v])) := snew hl
    refine ⟨PrW v H l z (cntL z [d]), ⟨_, none, [d], [v], 0, rfl, s1, upd_same, .cons (hv.keep (tupsS s1)) .nil, hz, by omega, rfl⟩, ?_⟩
    rintro m σ H2 ⟨x, ds, us, n, rfl, s2, hl2, hT2, hz2, hc2, rfl⟩
    refine ⟨_, rfl, Nat.zero_le _, fun t2 ht2 => ?_⟩
    have s23 : Same H2 (upd H2 t2 (.lst [])) := snew ht2
    have ht3 : (upd H2 t2 (.lst [])) t2 = some (.lst []) := upd_same
    generalize upd H2 t2 (.lst []) = H3 at s23 ht3
    have hl3 := s23 _ _ hl2
    have hT3 := hT2.keep (tupsS s23)
    have s3 := s2.trans s23
    refine ⟨.list ds, .list [], .list (SqL.of hl3) hT3.reps, .list (SqL.of ht3) .nil, hT3.layL, lay_lnil, dep_lnil, _, rfl, ?_⟩
    rw [eqv_lnil]
    cases hds : ds.isEmpty with
    | true =>
      rw [List.isEmpty_iff.mp hds, cnt_nil, Nat.add_zero] at hc2
      have q3 := q H3 s3
      rw [← hc2] at q3
      exact iteF ⟨_, rfl, q3⟩
    | false =>
      refine iteT ⟨fun σ' H' => ∃ m', m' < cntL z ds ∧ PrW v H l z (cntL z [d]) m' σ' H', fun _ _ h => h, ?_⟩
      obtain ⟨ds', e, us', y, rfl, rfl, hT', he⟩ := hT3.last (fun z => by rw [z] at hds; cases hds)
      rw [lvl_append, List.append_eq_nil_iff] at hz2
      rw [cntL_append, cnt_pop hz2.2] at hc2
      have ul := hT'.length
      refine ⟨_, rfl, .inl ⟨rfl, _, SqL.of hl3⟩, l, _, y, rfl, rfl, hl3, by simp, ?_⟩
      rw [List.dropLast_concat]
      have s4 : Same H (upd H3 l (.lst us')) := fun b o e => by rw [upd_ne (ne_of_none e hl)]; exact s3 _ _ e
      have hl4 : (upd H3 l (.lst us')) l = some (.lst us') := upd_same
      have tk : ∀ b xs, H3 b = some (.tup xs) → (upd H3 l (.lst us')) b = some (.tup xs) := fun b xs e => by rw [upd_ne (fun z => by rw [z, hl3] at e; cases e)]; exact e
      have hT4 := hT'.keep tk
      have he4 := he.keep tk
      generalize upd H3 l (.lst us') = H4 at s4 hl4 hT4 he4
      have lk := len_cnt (lvl_kids hz2.2)
      have lk1 := len_cnt hz2.1
      refine ⟨_, rfl, _, _, rfl, rfl, ?_⟩
      have flat : kids e = [] → ∃ m', m' < cntL z (ds' ++ [e]) ∧ PrW v H l z (cntL z [d]) m' [some v, some (.int ((n + 1 : Nat) : Int)), some (.ref l), some y] H4 := fun k => by
        rw [k, cnt_nil] at hc2
        exact ⟨cntL z ds', by rw [cntL_append, cnt_pop hz2.2]; omega, _, ds', us', n + 1, rfl, s4, hl4, hT4, hz2.1, by omega, rfl⟩
      cases he4 with
      | int i => exact ⟨_, rfl, _, _, _, _, rfl, .int i, rfl, _, rfl, iteF (flat rfl)⟩
      | str i hi => exact ⟨_, rfl, _, _, _, _, rfl, .str i, rfl, _, rfl, iteF (flat rfl)⟩
      | @tup a ws es ha ht' =>
        refine ⟨_, rfl, _, _, _, _, rfl, .tup ha, rfl, _, rfl, iteT ⟨_, rfl, .inl ⟨rfl, _, SqL.of hl4⟩, _, rfl, _, rfl, ?_⟩⟩
        unfold tNoPart
        refine rSlA_of (K := K) (lo := some 1) (hi := none) ha fun b H7 s67 hb => ?_
        rw [cut1] at hb
        refine ⟨b, _, rfl, .inr (SqT.of hb), fun lb hlb => ?_⟩
        have s78 : Same H7 (upd H7 lb (.lst (ws.drop 1))) := snew hlb
        have hlb8 : (upd H7 lb (.lst (ws.drop 1))) lb = some (.lst (ws.drop 1)) := upd_same
        generalize upd H7 lb (.lst (ws.drop 1)) = H8 at s78 hlb8
        have s48 := s67.trans s78
        have hl8 := s48 _ _ hl4
        have kd : TmsV H8 (kids (.tuple es)) (ws.drop 1) := (ht'.keep (tupsS s48)).drop 1
        have kl := kd.length
        refine ⟨l, lb, _, _, rfl, rfl, hl8, hlb8, small_line (by omega), cntL z (ds' ++ kids (.tuple es)), by rw [cntL_append, cntL_append, cnt_pop hz2.2]; omega, _, ds' ++ kids (.tuple es), us' ++ ws.drop 1, n + 1, rfl, fun b o e => by rw [upd_ne (ne_of_none e hl)]; exact s48 _ _ (s4 _ _ e), upd_same, ?_, by rw [lvl_append, hz2.1, lvl_kids hz2.2]; rfl, by rw [cntL_append]; omega, rfl⟩
        have tk6 : ∀ b xs, H8 b = some (.tup xs) → (upd H8 l (.lst (us' ++ ws.drop 1))) b = some (.tup xs) := fun b xs e => by rw [upd_ne (fun z => by rw [z, hl8] at e; cases e)]; exact e
        exact ((hT4.keep (tupsS s48)).keep tk6).append (kd.keep tk6)
abbrev nDp : List Str := ["term", "level", "deep", "below", "part"]
theorem scDp : FnScope nDp ["term"] (defScope s__law_deep) := ⟨rfl, rfl, rfl, by decide +kernel, rfl, by decide +kernel, by decide +kernel⟩
theorem ok_ldeep {f : Addr} {fd : FuncData} (F : Def K mg "_law_deep" s__law_deep ["term"] f fd) (T : TxtPr mg) : FnOk P w K mg base CX0 1 f fd ["term"] spDp := by
  refine F.fn.ok scDp (fun vs H Q E h => ?_) (fun cdv A outer s H vs Q E hr h => ?_)
  · obtain ⟨d, v, z, rfl, _⟩ := h
    rfl
  · obtain ⟨d, v, z, rfl, hv, hz, hc, q⟩ := h
    have nd := scDp.nd
    have hu := hr.units
    refine' ⟨_, (pss_cons (ps_set (i := 1) nd rfl (Or.inl rfl) (pe_lst (pa_cons (pv 0) pa_nil)))
      (pss_cons (ps_set (i := 2) nd rfl (Or.inl rfl) pe_int)
      (pss_cons (ps_while PassesOwn.never (pt_cmpR (op_neW hu) (pv 1) (pe_lst pa_nil) (nomark _))
        (pss_cons (ps_set (i := 2) nd rfl (Or.inl rfl) (pe_op op_add (pv 2) pe_int))
      (pss_cons (ps_set (i := 3) nd rfl (Or.inl rfl) (pe_lst pa_nil))
      (pss_cons (ps_for PassesOwn.never rfl (pi_list (pv 1)) (pg_name (i := 4) nd rfl (Or.inl rfl))
          (pss_one (ps_if (pt_val (pe_callB call_isi (by rfl) T.isi PyProof.Rows.boot_isinstance (pa_cons (pv 4) (pa_cons (pe_bltn (v := .ty "tuple") (by rfl) T.tuple PyProof.Rows.boot_tuple rfl) pa_nil))))
            (pss_one (ps_expr (pe_bm PySem.F.plainAttrs_list PySem.F.slot_list_extend PySem.F.type_list_extend mt_extend (pv 3) (pa_cons (pe_callTy call_list_of (by rfl) T.list PyProof.Rows.boot_list (pa_cons (pe_slice (r := rSlA K) sl_tupA (pv 4) (po_some pe_int) po_none) pa_nil)) pa_nil)))) pss_nil)))
      (pss_one (ps_set (i := 1) nd rfl (Or.inl rfl) (pv 3)))))))
      (pss_one (ps_ret (pv 2)))))), ?_⟩
    refine ⟨_, rfl, small_line (by show 1 ≤ 100000; decide), fun l hl => ?_⟩
    have s1 : Same H (upd H l (.lst [v])) := snew hl
    have z1 : 1 ≤ z := by
      cases z with
      | zero => rw [lvl_zero] at hz; cases hz
      | succ z => omega
    have few : ∀ k, (lvl k [d]).length ≤ 1000 := fun k => by
      by_cases hk : z ≤ k
      · rw [show k = z + (k - z) by omega, (cnt_stop hz (k - z)).1]; exact Nat.zero_le _
      · have h1 := lvl_cnt k [d]
        have : ∀ m, cntL (k + 1) [d] ≤ cntL (k + 1 + m) [d] := fun m => by
          induction m with
          | zero => exact Nat.le_refl _
          | succ m ih => rw [← Nat.add_assoc, cntL_succ (k + 1 + m)]; omega
        have h2 := this (z - (k + 1))
        rw [show k + 1 + (z - (k + 1)) = z by omega] at h2
        omega
    refine ⟨DpW v d H z, ⟨_, l, [v], 0, none, none, rfl, s1, upd_same, hl, by rw [lvl_zero]; exact .cons (hv.keep (tupsS s1)) .nil, (fun j hj => by omega), Nat.zero_le _, rfl⟩, ?_⟩
    rintro m σ H2 ⟨l2, us, k, x3, x4, rfl, s2, hl2, hl2n, hT2, low, kz, rfl⟩
    refine ⟨_, rfl, Nat.zero_le _, fun t2 ht2 => ?_⟩
    have s23 : Same H2 (upd H2 t2 (.lst [])) := snew ht2
    have ht3 : (upd H2 t2 (.lst [])) t2 = some (.lst []) := upd_same
    generalize upd H2 t2 (.lst []) = H3 at s23 ht3
    have hl3 := s23 _ _ hl2
    have hT3 := hT2.keep (tupsS s23)
    have s3 := s2.trans s23
    refine ⟨.list (lvl k [d]), .list [], .list (SqL.of hl3) hT3.reps, .list (SqL.of ht3) .nil, hT3.layL, lay_lnil, dep_lnil, _, rfl, ?_⟩
    rw [eqv_lnil]
    cases hds : (lvl k [d]).isEmpty with
    | true => exact iteF ⟨_, rfl, q k H3 s3 (List.isEmpty_iff.mp hds) low⟩
    | false =>
      have kne : lvl k [d] ≠ [] := fun z => by rw [z] at hds; cases hds
      have kz1 : k < z := by
        by_cases c : k = z
        · rw [c] at kne; exact absurd hz kne
        · omega
      refine iteT ⟨fun σ' H' => ∃ m', m' < z - k ∧ DpW v d H z m' σ' H', fun _ _ h => h, ?_⟩
      refine ⟨_, rfl, _, _, rfl, rfl, Nat.zero_le _, fun b hb => ?_⟩
      have s34 : Same H3 (upd H3 b (.lst [])) := snew hb
      have hb4 : (upd H3 b (.lst [])) b = some (.lst []) := upd_same
      generalize upd H3 b (.lst []) = H4 at s34 hb4
      have hbH : H b = none := s3.free hb
      have hl4 := s34 _ _ hl3
      have hT4 := hT3.keep (tupsS s34)
      have lb : l2 ≠ b := fun z => by rw [z, hb] at hl3; cases hl3
      have fk := few (k + 1)
      rw [lvl_succ] at fk
      refine ⟨_, rfl, l2, rfl, ⟨_, SqL.of hl4⟩, for_runs (runs_list (xs := us)) (fun i σ H' => ∃ (x4 : Option V) (ws : List V), σ = [some v, some (.ref l2), some (.int ((k + 1 : Nat) : Int)), some (.ref b), x4] ∧ Same H H' ∧ (∀ b' xs, H4 b' = some (.tup xs) → H' b' = some (.tup xs)) ∧ H' l2 = some (.lst us) ∧ H' b = some (.lst ws) ∧ TmsV H' (((lvl k [d]).take i).flatMap kids) ws)
        ⟨_, [], rfl, s3.trans s34, (fun _ _ e => e), hl4, hb4, by rw [List.take_zero]; exact .nil⟩ (fun i σ H' _ ⟨_, _, _, _, _, e, _⟩ => SqL.of e) ?_ ?_⟩
      · rintro i u σ H5 hi ⟨x, ws, rfl, s5, kt5, hl5, hb5, hW⟩
        obtain ⟨e, he, hv'⟩ := hT4.at_ hi
        have hv' := hv'.keep kt5
        have ee : ((lvl k [d]).take (i + 1)).flatMap kids = ((lvl k [d]).take i).flatMap kids ++ kids e := by
          rw [List.take_add_one, he]
          simp [List.flatMap_append]
        have lz := flat_take kids (lvl k [d]) (i + 1)
        rw [ee, List.length_append] at lz
        have wl := hW.length
        have flat : kids e = [] → TmsV H5 (((lvl k [d]).take (i + 1)).flatMap kids) ws := fun h => by rw [ee, h, List.append_nil]; exact hW
        cases hv' with
        | int j => exact ⟨_, rfl, _, _, _, _, rfl, .int j, rfl, _, rfl, iteF ⟨_, ws, rfl, s5, kt5, hl5, hb5, flat rfl⟩⟩
        | str j hj => exact ⟨_, rfl, _, _, _, _, rfl, .str j, rfl, _, rfl, iteF ⟨_, ws, rfl, s5, kt5, hl5, hb5, flat rfl⟩⟩
        | @tup a vs es ha ht =>
          refine ⟨_, rfl, _, _, _, _, rfl, .tup ha, rfl, _, rfl, iteT ⟨_, rfl, .inl ⟨rfl, _, SqL.of hb5⟩, _, rfl, _, rfl, ?_⟩⟩
          unfold tNoPart
          refine rSlA_of (K := K) (lo := some 1) (hi := none) ha fun c H6 s56 hc6 => ?_
          rw [cut1] at hc6
          refine ⟨c, _, rfl, .inr (SqT.of hc6), fun lc hlc => ?_⟩
          have s67 : Same H6 (upd H6 lc (.lst (vs.drop 1))) := snew hlc
          have hlc7 : (upd H6 lc (.lst (vs.drop 1))) lc = some (.lst (vs.drop 1)) := upd_same
          generalize upd H6 lc (.lst (vs.drop 1)) = H7 at s67 hlc7
          have s57 := s56.trans s67
          have hb7 := s57 _ _ hb5
          have kd : TmsV H7 (kids (.tuple es)) (vs.drop 1) := (ht.keep (tupsS s57)).drop 1
          have kl := kd.length
          have tk : ∀ b' xs, H7 b' = some (.tup xs) → (upd H7 b (.lst (ws ++ vs.drop 1))) b' = some (.tup xs) := fun b' xs e => by rw [upd_ne (fun z => by rw [z, hb7] at e; cases e)]; exact e
          refine ⟨b, lc, _, _, rfl, rfl, hb7, hlc7, small_line (by omega), _, ws ++ vs.drop 1, rfl, fun b' o e' => by rw [upd_ne (ne_of_none e' hbH)]; exact s57 _ _ (s5 _ _ e'), fun b' xs e' => tk b' xs (s57 _ _ (kt5 _ _ e')), by rw [upd_ne lb]; exact s57 _ _ hl5, upd_same, ?_⟩
          rw [ee]
          exact ((hW.keep (tupsS s57)).keep tk).append (kd.keep tk)
      · rintro σ H5 ⟨x, ws, rfl, s5, kt5, hl5, hb5, hW⟩
        have dl := hT4.length
        rw [← dl, List.take_length] at hW
        refine ⟨_, rfl, z - (k + 1), by omega, b, ws, k + 1, _, _, rfl, s5, hb5, hbH, by rw [lvl_succ]; exact hW, fun j hj => ?_, by omega, rfl⟩
        by_cases c : j = k
        · rw [c]; exact kne
        · exact low j (by omega)
end
end K75

set_option Elab.async false
set_option linter.all false
set_option maxRecDepth 100000
set_option maxHeartbeats 4000000
namespace K75
open PySem L2 Md
/-! ### the refusals -/
def fsP (H : Hp) : V → V
  | .ref t => match H t with
    | some (.tup [x, _]) => x
    | _ => .non
  | _ => .non
def snP (H : Hp) : V → V
  | .ref t => match H t with
    | some (.tup [_, x]) => x
    | _ => .non
  | _ => .non
theorem fsP_at {H : Hp} {t : Addr} {x y : V} (h : H t = some (.tup [x, y])) : fsP H (.ref t) = x := by show (match H t with | some (.tup [x, _]) => x | _ => .non) = x; rw [h]
theorem snP_at {H : Hp} {t : Addr} {x y : V} (h : H t = some (.tup [x, y])) : snP H (.ref t) = y := by show (match H t with | some (.tup [_, x]) => x | _ => .non) = y; rw [h]
/-- DeedError -/
structure ErrD (K : W.Frag) (mg : Str → Option Value) (D : Addr) : Prop where
  m : mg "DeedError" = some (.ref D)
  ex : ExC K D
  cl : W.isClsIn K D = true
  ty : W.typeIn K (.ref D) = some (.type "type")
/-- the fifteen classes -/
structure Fifteen (K : W.Frag) (mg : Str → Option Value) (Ds : Nat → Addr) : Prop where
  m0 : mg "NoKind" = some (.ref (Ds 0))
  m1 : mg "Twice" = some (.ref (Ds 1))
  m2 : mg "NoName" = some (.ref (Ds 2))
  m3 : mg "Ring" = some (.ref (Ds 3))
  m4 : mg "NoDeed" = some (.ref (Ds 4))
  m5 : mg "Same" = some (.ref (Ds 5))
  m6 : mg "NoText" = some (.ref (Ds 6))
  m7 : mg "TooMany" = some (.ref (Ds 7))
  m8 : mg "NoBoard" = some (.ref (Ds 8))
  m9 : mg "NoCall" = some (.ref (Ds 9))
  m10 : mg "NoLine" = some (.ref (Ds 10))
  m11 : mg "NoPlace" = some (.ref (Ds 11))
  m12 : mg "NoWeights" = some (.ref (Ds 12))
  m13 : mg "NoTerm" = some (.ref (Ds 13))
  m14 : mg "NoRow" = some (.ref (Ds 14))
  cl : ∀ k, k < 15 → W.isClsIn K (Ds k) = true
  ty : ∀ k, k < 15 → W.typeIn K (.ref (Ds k)) = some (.type "type")
/-- a class that is the i-th of them alone -/
structure OneOf (K : W.Frag) (D : Addr) (Ds : Nat → Addr) (i : Nat) : Prop where
  ex : ExA K (Ds i)
  sub : W.subIn K (.ref (Ds i)) (.ref D) = some true
  one : ∀ k, k < 15 → W.subIn K (.ref (Ds i)) (.ref (Ds k)) = some (decide (k = i))
theorem all15 {P : Nat → Prop} (h0 : P 0) (h1 : P 1) (h2 : P 2) (h3 : P 3) (h4 : P 4) (h5 : P 5) (h6 : P 6) (h7 : P 7) (h8 : P 8) (h9 : P 9) (h10 : P 10) (h11 : P 11) (h12 : P 12) (h13 : P 13) (h14 : P 14) : ∀ k, k < 15 → P k := fun k h => by
  rcases k with _ | _ | _ | _ | _ | _ | _ | _ | _ | _ | _ | _ | _ | _ | _ | k
  · exact h0
  · exact h1
  · exact h2
  · exact h3
  · exact h4
  · exact h5
  · exact h6
  · exact h7
  · exact h8
  · exact h9
  · exact h10
  · exact h11
  · exact h12
  · exact h13
  · exact h14
  · omega
def fif (a0 a1 a2 a3 a4 a5 a6 a7 a8 a9 a10 a11 a12 a13 a14 : Addr) : Nat → Addr
  | 0 => a0 | 1 => a1 | 2 => a2 | 3 => a3 | 4 => a4 | 5 => a5 | 6 => a6 | 7 => a7 | 8 => a8 | 9 => a9 | 10 => a10 | 11 => a11 | 12 => a12 | 13 => a13 | _ => a14
/-- the classes by name, as the law goes through them -/
def L15 : List (Str × Nat) := [("TooMany", 7), ("NoKind", 0), ("Twice", 1), ("NoName", 2), ("Ring", 3), ("NoBoard", 8), ("NoDeed", 4), ("Same", 5), ("NoCall", 9), ("NoTerm", 13), ("NoText", 6), ("NoRow", 14), ("NoLine", 10), ("NoPlace", 11), ("NoWeights", 12)]
def nm15 : Nat → Str
  | 0 => "NoKind"
  | 1 => "Twice"
  | 2 => "NoName"
  | 3 => "Ring"
  | 4 => "NoDeed"
  | 5 => "Same"
  | 6 => "NoText"
  | 7 => "TooMany"
  | 8 => "NoBoard"
  | 9 => "NoCall"
  | 10 => "NoLine"
  | 11 => "NoPlace"
  | 12 => "NoWeights"
  | 13 => "NoTerm"
  | _ => "NoRow"
theorem L15_one : ∀ i, i < 15 → (L15.filter fun q => decide (q.2 = i)).map (·.1) = [nm15 i] := by decide +kernel
abbrev clT (n : Str) (k i : Nat) : HO := .tup [.str n, .bl (decide (k = i))]
def ClV (i : Nat) (H : Hp) (q : Str × Nat) (v : V) : Prop := ∃ t, v = .ref t ∧ H t = some (clT q.1 q.2 i)
def blV : V → Bool
  | .bl b => b
  | _ => false
theorem cls_filter {i : Nat} {H : Hp} : ∀ {L : List (Str × Nat)} {xs : List V}, Paired (ClV i H) L xs → (xs.filter fun x => blV (snP H x)).map (fsP H) = ((L.filter fun q => decide (q.2 = i)).map (·.1)).map V.str
  | _, _, .nil => rfl
  | q :: L, x :: xs, .cons ⟨t, e, h⟩ r => by
    have ih := cls_filter r
    have e1 : fsP H x = .str q.1 := by rw [e]; exact fsP_at h
    have e2 : snP H x = .bl (decide (q.2 = i)) := by rw [e]; exact snP_at h
    have e3 : blV (snP H x) = decide (q.2 = i) := by rw [e2]; rfl
    by_cases z : q.2 = i
    · rw [List.filter_cons_of_pos (by rw [e3]; exact decide_eq_true z), List.filter_cons_of_pos (by exact decide_eq_true z), List.map_cons, List.map_cons, List.map_cons, ih, e1]
    · rw [List.filter_cons_of_neg (by rw [e3, decide_eq_false z]; decide), List.filter_cons_of_neg (by rw [decide_eq_false z]; decide), ih]
theorem cls_at {i : Nat} {H : Hp} {L : List (Str × Nat)} {xs : List V} (h : Paired (ClV i H) L xs) {x : V} (hx : x ∈ xs) : ∃ t k n, x = .ref t ∧ H t = some (clT n k i) := by
  obtain ⟨j, hj⟩ := List.mem_iff_getElem?.mp hx
  obtain ⟨q, _, t, e, ht⟩ := paired_at h hj
  exact ⟨t, q.2, q.1, e, ht⟩
/-- an exception of the i-th class, held by the first name -/
def XAt (Ds : Nat → Addr) (i : Nat) (σ : St) (H : Hp) : Prop := ∃ (e : Addr) (dx : Option Addr), σ[0]? = some (some (.ref e)) ∧ H e = some (XO e (Ds i) dx) ∧ XDict H dx
theorem XAt.same {Ds : Nat → Addr} {i : Nat} {σ : St} {H H' : Hp} (h : XAt Ds i σ H) (s : Same H H') : XAt Ds i σ H' := by
  obtain ⟨e, dx, a, b, c⟩ := h
  exact ⟨e, dx, a, s _ _ b, Same.xdict c s⟩
def tCl (Ds : Nat → Addr) (i : Nat) (n : Str) (k : Nat) : TE := fun σ H Q => XAt Ds i σ H ∧ ∀ t, H t = none → Q (.ref t) (upd H t (clT n k i))
def tCls (Ds : Nat → Addr) (i : Nat) (L : List (Str × Nat)) : TA := fun σ H Q => XAt Ds i σ H ∧ ∀ ts H', Same H H' → Paired (ClV i H') L ts → Q ts H'
section
variable {X : Cx} {Ds : Nat → Addr} {i k : Nat} {n c : Str}
theorem pe_cl {p p1 p2 p3 p4 p5 : Pos} {j x1} (ex : ExA X.K (Ds i)) (isi : X.mg "isinstance" = none) (gi : Gl X "isinstance") (v : ∀ p, PE X (.Name "e" p) (tVar 0)) (one : W.kitOne X.K (.ref (Ds i)) (.ref (Ds k)) = some (decide (k = i))) (m : X.mg c = some (.ref (Ds k))) (g : Gl X c := by rfl) (hd : (c == ("__debug__" : Str)) = false := by decide) : PE X (.Tuple [.Constant (.str n) j p, .Call (.Name "isinstance" p2) [.Name "e" p1, .Name c p3] [] p4] x1 p5) (tCl Ds i n k) := by
  intro pins s σ H Q I h
  refine pe_tup (pa_cons pe_str (pa_cons (pe_callB call_isiX gi isi PyProof.Rows.boot_isinstance (pa_cons (v _) (pa_cons (pe_glob (v := .ref (Ds k)) g m rfl hd) pa_nil))) pa_nil)) pins s σ H Q I ?_
  obtain ⟨⟨e, dx, h0, hx, hd⟩, q⟩ := h
  exact ⟨_, h0, e, Ds i, dx, _, _, _, rfl, rfl, fun u z => z, hx, hd, ex, one, small_line (by show 2 ≤ 100000; decide), q⟩
theorem pa_cl0 : PA X [] (tCls Ds i []) := fun pos pins s σ H Q I h => pa_nil pos pins s σ H Q I (h.2 [] H (Same.refl _) .nil)
theorem pa_cl {e : Expr} {es : List Expr} {L : List (Str × Nat)} (he : PE X e (tCl Ds i n k)) (r : PA X es (tCls Ds i L)) (hs : starEach (e :: es) X.env = (false, eval e X.env) :: starEach es X.env := by rfl) : PA X (e :: es) (tCls Ds i ((n, k) :: L)) := by
  intro pos pins s σ H Q I h
  refine pa_cons he r hs pos pins s σ H Q I ?_
  obtain ⟨z, q⟩ := h
  exact ⟨z, fun t n => ⟨z.same (snew n), fun ts H' s' p => q (.ref t :: ts) H' ((snew n).trans s') (.cons ⟨t, rfl, s' _ _ upd_same⟩ p)⟩⟩
end
def spClasses (K : W.Frag) (D : Addr) (Ds : Nat → Addr) : Sp := fun vs H Q _ => ∃ (e : Addr) (i : Nat) (dx : Option Addr), vs = [.ref e] ∧ H e = some (XO e (Ds i) dx) ∧ XDict H dx ∧ OneOf K D Ds i ∧ i < 15 ∧ ∀ l H', Same H H' → H' l = some (.lst [.str (nm15 i)]) → Q (.ref l) H'
theorem nd_nte : (["name", "takes", "e"] : List Str).Nodup := by decide +kernel
section
variable {P : Program} {w : World} {K : W.Frag} {mg : Str → Option Value} {base : Heap}
abbrev nCs : List Str := ["e", "some"]
theorem scCs : FnScope nCs ["e"] (defScope s__law_classes) := ⟨rfl, rfl, rfl, by decide +kernel, rfl, by decide +kernel, by decide +kernel⟩
theorem ok_classes {f D : Addr} {Ds : Nat → Addr} {fd : FuncData} (F : Def K mg "_law_classes" s__law_classes ["e"] f fd) (TF : Fifteen K mg Ds) (isi : mg "isinstance" = none) (vr : mg "ValueError" = none) : FnOk P w K mg base CX0 1 f fd ["e"] (spClasses K D Ds) := by
  refine F.fn.ok scCs (fun vs H Q E h => ?_) (fun cdv A outer s H vs Q E hr h => ?_)
  · obtain ⟨e, i, dx, rfl, _⟩ := h
    rfl
  · obtain ⟨e, i, dx, rfl, hx, hd, O, i15, q⟩ := h
    have nd := scCs.nd
    have one : ∀ k, k < 15 → W.kitOne K (.ref (Ds i)) (.ref (Ds k)) = some (decide (k = i)) := fun k hk => kit_cls1 (TF.cl k hk) (TF.ty k hk) O.ex.toExC (O.one k hk)
    refine' ⟨_, (pss_cons (ps_set (i := 1) nd rfl (Or.inl rfl) (pe_lst (pa_cl (pe_cl O.ex isi rfl (fun _ => pv 0) (one 7 (by decide)) TF.m7) (pa_cl (pe_cl O.ex isi rfl (fun _ => pv 0) (one 0 (by decide)) TF.m0) (pa_cl (pe_cl O.ex isi rfl (fun _ => pv 0) (one 1 (by decide)) TF.m1) (pa_cl (pe_cl O.ex isi rfl (fun _ => pv 0) (one 2 (by decide)) TF.m2) (pa_cl (pe_cl O.ex isi rfl (fun _ => pv 0) (one 3 (by decide)) TF.m3) (pa_cl (pe_cl O.ex isi rfl (fun _ => pv 0) (one 8 (by decide)) TF.m8) (pa_cl (pe_cl O.ex isi rfl (fun _ => pv 0) (one 4 (by decide)) TF.m4) (pa_cl (pe_cl O.ex isi rfl (fun _ => pv 0) (one 5 (by decide)) TF.m5) (pa_cl (pe_cl O.ex isi rfl (fun _ => pv 0) (one 9 (by decide)) TF.m9) (pa_cl (pe_cl O.ex isi rfl (fun _ => pv 0) (one 13 (by decide)) TF.m13) (pa_cl (pe_cl O.ex isi rfl (fun _ => pv 0) (one 6 (by decide)) TF.m6) (pa_cl (pe_cl O.ex isi rfl (fun _ => pv 0) (one 14 (by decide)) TF.m14) (pa_cl (pe_cl O.ex isi rfl (fun _ => pv 0) (one 10 (by decide)) TF.m10) (pa_cl (pe_cl O.ex isi rfl (fun _ => pv 0) (one 11 (by decide)) TF.m11) pa_cl0))))))))))))))))
      (pss_cons (ps_expr (pe_bm PySem.F.plainAttrs_list PySem.F.slot_list_append PySem.F.type_list_append mt_append (pv 1) (pa_cons (pe_cl O.ex isi rfl (fun _ => pv 0) (one 12 (by decide)) TF.m12) pa_nil)))
      (pss_one (ps_ret ?c)))), ?_⟩
    case c => exact (pe_comp ["name", "takes"] ["e"] [0] (fun _ => compT_ok (osc := defScope s__law_classes) (on := nCs) (by decide +kernel) rfl rfl rfl) (pi_list (pv 1)) (fun C s H fp => pg_two (K := K) (i := 0) (j := 1) rfl rfl nd_nte rfl rfl (Or.inl rfl) (Or.inl rfl) (Or.inr rfl) (Or.inr rfl)) (fun C s H fp => pts_one (PW.pt (pw_and (pt_val (pv 1)) (pw_and1 (pt_val (pe_callB (r := rIsiX K) call_isiX (by rfl) isi PyProof.Rows.boot_isinstance (pa_cons (pv 2) (pa_cons (pe_bltn (v := .ty "ValueError") (by rfl) vr (by decide +kernel) rfl) pa_nil)))))))) (fun C s H fp => pv 0))
    refine ⟨⟨e, dx, rfl, hx, hd⟩, fun ts H1 s1 P1 => ⟨small_line (by rw [← Paired.length P1]; show 14 ≤ 100000; decide), fun l hl => ?_⟩⟩
    have sl : Same H1 (upd H1 l (.lst ts)) := snew hl
    have hll : (upd H1 l (.lst ts)) l = some (.lst ts) := upd_same
    generalize upd H1 l (.lst ts) = H2 at sl hll ⊢
    have s2 := s1.trans sl
    refine ⟨_, rfl, .inl ⟨rfl, _, SqL.of hll⟩, ⟨e, dx, rfl, s2 _ _ hx, Same.xdict hd s2⟩, fun t nt => ?_⟩
    have st : Same H2 (upd H2 t (clT "NoWeights" 12 i)) := snew nt
    have htt : (upd H2 t (clT "NoWeights" 12 i)) t = some (clT "NoWeights" 12 i) := upd_same
    generalize upd H2 t (clT "NoWeights" 12 i) = H3 at st htt ⊢
    have hl3 := st _ _ hll
    refine ⟨l, _, _, rfl, rfl, hl3, small_lt (by rw [← Paired.length P1]; show 14 ≤ 100000; decide), ?_⟩
    have P15 : Paired (ClV i (upd H3 l (.lst (ts ++ [.ref t])))) L15 (ts ++ [.ref t]) := by
      have tk : ∀ {b : Addr} {o : List V}, H3 b = some (.tup o) → (upd H3 l (.lst (ts ++ [.ref t]))) b = some (.tup o) := fun {b o} e => by
        rw [upd_ne (fun z => by rw [z, hl3] at e; cases e)]; exact e
      exact Paired.snoc (Paired.imp' (fun q v ⟨t, e, h⟩ => ⟨t, e, tk ((sl.trans st) _ _ h)⟩) P1) ⟨_, rfl, tk htt⟩
    have sU : Same H (upd H3 l (.lst (ts ++ [.ref t]))) := fun b o e => by rw [upd_ne (ne_of_none e (s1.free hl))]; exact st _ _ (s2 _ _ e)
    have hlU : (upd H3 l (.lst (ts ++ [.ref t]))) l = some (.lst (ts ++ [.ref t])) := upd_same
    generalize ts ++ [V.ref t] = xs at P15 hlU sU ⊢
    generalize upd H3 l (.lst xs) = HU at P15 sU hlU ⊢
    have xl : xs.length = 15 := by rw [← Paired.length P15]; rfl
    refine ⟨_, rfl, l, rfl, ⟨_, SqL.of hlU⟩, comp_relT (runs_list (xs := xs)) (small_line (by omega)) (fun x => blV (snP HU x)) (fun _ x v _ => v = fsP HU x) (fsP HU) (snP HU) (fun _ _ _ _ _ _ z => z) (fun H' s' => SqL.of (s' _ _ hlU)) (fun x hx' => ?_) ?_ ?_ ?_⟩
    · obtain ⟨t, k, n, e1, e2⟩ := cls_at P15 hx'
      rw [e1]
      exact ⟨t, rfl, by rw [fsP_at e2, snP_at e2]; exact e2⟩
    · intro x H' R s' hx' hR
      obtain ⟨t, k, n, e1, e2⟩ := cls_at P15 hx'
      have e3 : snP HU x = .bl (decide (k = i)) := by rw [e1]; exact snP_at e2
      rw [e3] at hR ⊢
      refine ⟨_, rfl, _, rfl, ite2 (fun z => ?_) (fun z => ?_)⟩
      · refine ⟨_, rfl, e, Ds i, dx, _, _, _, rfl, rfl, fun u z => z, s' _ _ (sU _ _ hx), Same.xdict (Same.xdict hd sU) s', O.ex, kit_value O.ex.toExC, _, rfl, ?_⟩
        rw [show decide (k = i) = true from z] at hR
        exact hR H' (Same.refl _)
      · rw [show decide (k = i) = false from by simpa using z] at hR
        exact hR H' (Same.refl _)
    · intro D x H' R s' _ _ hx' _ hR
      exact ⟨_, rfl, hR _ H' (Same.refl _) rfl⟩
    · intro D H' ys _ s' hD hP
      refine q D H' (sU.trans s') ?_
      rw [hD, paired_eq hP, cls_filter P15, L15_one i i15]
      rfl
end
end K75

set_option Elab.async false
set_option linter.all false
set_option maxRecDepth 100000
set_option maxHeartbeats 4000000
namespace K75
open PySem L2 Md
/-! ### heard and due -/
def spTxt : Sp := fun vs H Q _ => ∃ x : Str, vs = [.str x] ∧ x.length ≤ 1000 ∧ (∀ c ∈ x.cps.toList, c < 128) ∧ (∀ d v t H', Gd x d → Same H H' → TmV H' d v → H' t = some (.tup [v, .str ""]) → Q (.ref t) H') ∧ ((∀ d, ¬ Gd x d) → ∀ t H', Same H H' → H' t = some (.tup [.non, .str "NoTerm"]) → Q (.ref t) H')
theorem glue_one (s : Str) : Builtin.Str.glued " " [s] = s := by
  rfl
theorem slice_from (x : Str) (a : Nat) : (Txt.slice x (some (a : Int)) none).cps.toList = x.cps.toList.drop a := by
  have hl := str_len x
  have e : (Txt.slice x (some (a : Int)) none).cps.toList = (x.cps.toList.drop (min a x.length)).take (x.length - min a x.length) := by
    refine slice_st (t := x.length) ?_ (by omega) (Nat.le_refl _)
    unfold Builtin.Str.strSliceIndices
    have h1 : ¬ (a : Int) < 0 := by omega
    simp only [show (1 : Int) > 0 by decide, if_true, if_neg h1]
    have e1 : max (0 : Int) (min (a : Int) (x.length : Int)) = ((min a x.length : Nat) : Int) := by omega
    rw [e1]
  rw [e, List.take_of_length_le (by rw [List.length_drop]; omega)]
  by_cases h : a ≤ x.length
  · rw [Nat.min_eq_left h]
  · rw [Nat.min_eq_right (by omega), List.drop_eq_nil_of_le (by omega), List.drop_eq_nil_of_le (by omega)]
theorem cat_cps (x y : Str) : (x ++ y).cps.toList = x.cps.toList ++ y.cps.toList := by
  show (x.cps ++ y.cps).toList = _
  exact Array.toList_append
abbrev sgS : Str := "(), 0123456789abcdefghijklmnopqrstuvwxyz-ABZ.[]{}~!\"#$&'*+/:;<=>?@^_|"
theorem sg_len : sgS.length = 69 := by decide +kernel
theorem sg_low : sgS.cps.toList.all (fun c => decide (c < 128)) = true := by decide +kernel
theorem sg_at {i : Int} (h0 : 0 ≤ i) (h1 : i < 69) : ∃ c, atI sgS.cps.toList i = some c ∧ c < 128 := by
  obtain ⟨k, rfl⟩ := Int.eq_ofNat_of_zero_le h0
  have l : sgS.cps.toList.length = 69 := by rw [str_len, sg_len]
  have hk : k < sgS.cps.toList.length := by omega
  have e : sgS.cps.toList[k]? = some sgS.cps.toList[k] := List.getElem?_eq_getElem hk
  exact ⟨_, atI_nat e, of_decide_eq_true (List.all_eq_true.mp sg_low _ (List.mem_of_getElem? e))⟩
def som13 : List Str := ["00", "7", "07", "100", "-1", "()", ",", " ", "a()", "(0)", ", 0", ")", "a(0, 0)"]
theorem som_fine : som13.all (fun s => decide (s.length ≤ 7) && s.cps.toList.all fun c => decide (c < 128)) = true := by decide +kernel
theorem som_at {i : Int} (h0 : 0 ≤ i) (h1 : i < 13) : ∃ s : Str, atI (som13.map V.str) i = some (.str s) ∧ s.length ≤ 7 ∧ ∀ c ∈ s.cps.toList, c < 128 := by
  obtain ⟨k, rfl⟩ := Int.eq_ofNat_of_zero_le h0
  have hk : k < som13.length := by show k < 13; omega
  have e : som13[k]? = some som13[k] := List.getElem?_eq_getElem hk
  have f := List.all_eq_true.mp som_fine _ (List.mem_of_getElem? e)
  rw [Bool.and_eq_true] at f
  exact ⟨som13[k], atI_nat (by rw [List.getElem?_map, e]; rfl), of_decide_eq_true f.1, fun c hc => of_decide_eq_true (List.all_eq_true.mp f.2 c hc)⟩
theorem ps_strs {X : Cx} {i : Nat} {x : Str} {e : Expr} {p0 p2 : Pos} (l : List Str) (h : strsE e = some l) (hl : l.length ≤ 100000) (hN : X.N.Nodup) (hi : X.N[i]? = some x) (hx : Loc X.env.scope x) (hs : swapsWith e (some (.Name x p0)) p2.line X.env = pure false)
    (hf : X.fn x = true ∨ X.env.scope.names.lookup x = some .local) : PS X (.Assign [.Name x p0] e p2) (tAsg (tStrs l) (gName i)) := ps_set hN hi hx (pe_strsE l h hl) hs hf
def Txs (x : Str) (n : Nat) : Prop := x.length ≤ n ∧ ∀ c ∈ x.cps.toList, c < 128
theorem Txs.cat {x y : Str} {n m k : Nat} (h : Txs x n) (h' : Txs y m) (e : n + m ≤ k) : Txs (x ++ y) k := by
  refine ⟨?_, fun c hc => ?_⟩
  · have := congrArg List.length (cat_cps x y)
    rw [List.length_append, str_len, str_len, str_len] at this
    have := h.1
    have := h'.1
    omega
  · rw [cat_cps] at hc
    exact (List.mem_append.mp hc).elim (h.2 c) (h'.2 c)
def spBen : Sp := fun vs H Q _ => ∃ (p : Addr) (x : Str) (n : Nat), vs = [.ref p, .str x] ∧ (∃ o, H p = some o ∧ PotO o) ∧ Txs x n ∧ n ≤ 900 ∧ ∀ y H', Drawn p H H' → Txs y (n + 7) → Q (.str y) H'
structure TxtHe (mg : Str → Option Value) : Prop where
  len : mg "len" = none
section
variable {P : Program} {w : World} {K : W.Frag} {mg : Str → Option Value} {base : Heap}
abbrev nHe : List Str := ["text", "found", "wrong", "e"]
theorem scHe : FnScope nHe ["text"] (defScope s__law_term_heard) := ⟨rfl, rfl, rfl, by decide +kernel, rfl, by decide +kernel, by decide +kernel⟩
theorem ok_heard {f fR fC DE : Addr} {Ds : Nat → Addr} {fd fdR fdC : FuncData} (F : Def K mg "_law_term_heard" s__law_term_heard ["text"] f fd) (TD : ErrD K mg DE) (O13 : OneOf K DE Ds 13) (DR : Def K mg "read_term" s_read_term ["text"] fR fdR) (GR : FnOk P w K mg base (CX1 P w) 15 fR fdR ["text"] (spRtX (Ds 13)))
    (DC : Def K mg "_law_classes" s__law_classes ["e"] fC fdC) (GC : FnOk P w K mg base CX0 1 fC fdC ["e"] (spClasses K DE Ds)) : FnOk P w K mg base CX0 16 f fd ["text"] spTxt := by
  refine F.fn.ok scHe (fun vs H Q E h => ?_) (fun cdv A outer s H vs Q E hr h => ?_)
  · obtain ⟨x, rfl, _⟩ := h
    rfl
  · obtain ⟨x, rfl, hx, hc, q1, q2⟩ := h
    have nd := scHe.nd
    have hr1 : Room 1 _ := hr.mono (by decide)
    refine' ⟨_, (pss_cons (ps_set (i := 1) nd rfl (Or.inl rfl) pe_non)
      (pss_cons (ps_set (i := 2) nd rfl (Or.inl rfl) pe_non)
      (pss_cut (ps_try (i := 2) (j := 3) rfl rfl TD.ex nd (by rfl) TD.m rfl (Or.inl rfl) rfl rfl (pssx_one (psx_set (i := 1) nd rfl (Or.inl rfl) (pex_call DR GR hr (by rfl) (pa_cons (pv 0) pa_nil)))))
      (pss_cons (ps_if (pt_cmpR op_notN (pv 2) pe_non (nomark _)) (pss_one (ps_ret (pe_tup (pa_cons pe_non (pa_cons (pe_bm PySem.F.plainAttrs_str PySem.F.slot_str_join PySem.F.type_str_join mt_join pe_str (pa_cons (pe_callD DC GC hr1 (pa_cons (pv 2) pa_nil)) pa_nil)) pa_nil))))) pss_nil)
      (pss_one (ps_ret (pe_tup (pa_cons (pv 1) (pa_cons pe_str pa_nil))))))))), ?_⟩
    refine ⟨(fun σ' H' => (∃ (d : Dt) (v : V) (x3 : Option V), σ' = [some (.str x), some v, some .non, x3] ∧ Same H H' ∧ Gd x d ∧ TmV H' d v) ∨ ((∀ d, ¬ Gd x d) ∧ ∃ (e : Addr) (x3 : Option V), σ' = [some (.str x), some .non, some (.ref e), x3] ∧ Same H H' ∧ H' e = some (XO e (Ds 13) none))), ?_, ?_⟩
    · refine ⟨_, rfl, x, rfl, hx, hc, fun d v H' g s' hv => .inl ⟨d, v, _, rfl, s', g, hv⟩, fun no H' s' => ?_⟩
      exact ⟨Ds 13, rfl, O13.ex.toExC, O13.sub, fun e he => .inr ⟨no, e, _, rfl, s'.trans (snew he), upd_same⟩⟩
    · rintro σ' H1 (⟨d, v, x3, rfl, s1, g, hv⟩ | ⟨no, e, x3, rfl, s1, he⟩)
      · refine ⟨_, rfl, rfl, _, rfl, ?_⟩
        rw [decide_eq_true (show V.non = V.non from rfl)]
        refine iteF ⟨_, rfl, small_line (by show 2 ≤ 100000; decide), fun t ht => ?_⟩
        have s2 : Same H1 (upd H1 t (.tup [v, .str ""])) := snew ht
        exact q1 d v t _ g (s1.trans s2) (hv.keep (tupsS s2)) upd_same
      · refine ⟨_, rfl, rfl, _, rfl, ?_⟩
        rw [decide_eq_false (show ¬ V.ref e = V.non from fun z => by cases z)]
        refine iteT ⟨rfl, _, rfl, e, 13, none, rfl, he, .inl rfl, O13, by decide, fun l H2 s12 hl => ?_⟩
        refine ⟨_, l, [nm15 13], 10, rfl, rfl, hl, fun y hy => by rw [List.mem_singleton.mp hy]; decide +kernel, by decide +kernel, ?_⟩
        rw [glue_one]
        refine ⟨small_line (by show 2 ≤ 100000; decide), fun t ht => q2 no t _ ((s1.trans s12).trans (snew ht)) upd_same⟩
abbrev nDu : List Str := ["text", "term"]
theorem scDu : FnScope nDu ["text"] (defScope s__law_due) := ⟨rfl, rfl, rfl, by decide +kernel, rfl, by decide +kernel, by decide +kernel⟩
theorem ok_due {f fR fP fD : Addr} {fd fdR fdP fdD : FuncData} (F : Def K mg "_law_due" s__law_due ["text"] f fd) (DR : Def K mg "_law_term_read" s__law_term_read ["text"] fR fdR) (GR : FnOk P w K mg base CX0 2 fR fdR ["text"] spRead)
    (DP : Def K mg "_law_parts" s__law_parts ["term"] fP fdP) (GP : FnOk P w K mg base CX0 1 fP fdP ["term"] spPrt) (DD : Def K mg "_law_deep" s__law_deep ["term"] fD fdD) (GD : FnOk P w K mg base CX0 1 fD fdD ["term"] spDp) : FnOk P w K mg base CX0 3 f fd ["text"] spTxt := by
  refine F.fn.ok scDu (fun vs H Q E h => ?_) (fun cdv A outer s H vs Q E hr h => ?_)
  · obtain ⟨x, rfl, _⟩ := h
    rfl
  · obtain ⟨x, rfl, hx, hc, q1, q2⟩ := h
    have nd := scDu.nd
    have hr1 : Room 1 _ := hr.mono (by decide)
    refine' ⟨_, (pss_cons (ps_set (i := 1) nd rfl (Or.inl rfl) (pe_callD DR GR hr (pa_cons (pv 0) pa_nil)))
      (pss_cons (ps_if (PW.pt (pw_or (pt_cmpR op_isN (pv 1) pe_non (nomark _)) (pw_or (pt_cmpR op_gt (pe_callD DP GP hr1 (pa_cons (pv 1) pa_nil)) pe_int (nomark _)) (pw_or1 (pt_cmpR op_gt (pe_callD DD GD hr1 (pa_cons (pv 1) pa_nil)) pe_int (nomark _)))))) (pss_one (ps_ret (pe_tup (pa_cons pe_non (pa_cons pe_str pa_nil))))) pss_nil)
      (pss_one (ps_ret (pe_tup (pa_cons (pv 1) (pa_cons pe_str pa_nil))))))), ?_⟩
    have z2 : 2 ≤ sizeLine := small_line (by decide)
    have bad : ∀ {H' : Hp} {σ : St}, Same H H' → (∀ d, ¬ Gd x d) → tRet (tTup (tCons (tC .non) (tCons (tC (.str "NoTerm")) tNil))) { nx := fun _ H' => Q .non H', rt := Q } σ H' := fun {H' σ} s no => ⟨z2, fun t ht => q2 no t _ (s.trans (snew ht)) upd_same⟩
    refine ⟨_, rfl, x, rfl, hx, fun d v H1 hw s1 hv => ?_, fun no H1 s1 => ?_⟩
    · have nn : v ≠ .non := fun z => by rw [z] at hv; cases hv
      refine ⟨_, rfl, rfl, _, rfl, ?_⟩
      rw [decide_eq_false nn]
      obtain ⟨k, hk, ek⟩ := hw
      have hz : lvl k [d] = [] := tk_lvl k [d] (fun e he => by rw [List.mem_singleton.mp he]; exact hk)
      have hcn := wr_cnt ⟨k, hk, ek⟩ k
      rw [str_len] at hcn
      have eqs : tkB 12 d = true → tx 12 d = x.cps.toList ∧ cntL 12 [d] = cntL k [d] := fun h12 => by
        have z12 : lvl 12 [d] = [] := tk_lvl 12 [d] (fun e he => by rw [List.mem_singleton.mp he]; exact h12)
        have a := tk_le h12 k
        have b := tk_le hk 12
        rw [Nat.add_comm] at b
        refine ⟨by rw [← ek, ← a.2, b.2], ?_⟩
        have a' := (cnt_stop z12 k).2
        have b' := (cnt_stop hz 12).2
        rw [Nat.add_comm] at b'
        rw [← a', b']
      have uniq : ∀ e, Gd x e → e = d := fun e g => wr_inj g.wr ⟨k, hk, ek⟩
      refine iteF ⟨_, rfl, d, v, k, rfl, hv, hz, by omega, fun H2 s2 => ⟨_, _, rfl, rfl, _, rfl, ite2 (fun c => ?_) (fun c => ?_)⟩⟩
      · have c : ((cntL k [d] : Nat) : Int) > 40 := of_decide_eq_true c
        refine bad (s1.trans s2) fun e g => ?_
        rw [uniq e g] at g
        have := (eqs g.1).2
        have := g.2.2
        omega
      · have c : ¬ ((cntL k [d] : Nat) : Int) > 40 := fun z => c (decide_eq_true z)
        refine ⟨_, rfl, d, v, k, rfl, hv.keep (tupsS s2), hz, by omega, fun n H3 s3 hn low => ⟨_, _, rfl, rfl, _, rfl, ite2 (fun c2 => ?_) (fun c2 => ?_)⟩⟩
        · have c2 : ((n : Nat) : Int) > 12 := of_decide_eq_true c2
          refine bad ((s1.trans s2).trans s3) fun e g => ?_
          rw [uniq e g] at g
          exact low 12 (by omega) (tk_lvl 12 [d] (fun e he => by rw [List.mem_singleton.mp he]; exact g.1))
        · have c2 : ¬ ((n : Nat) : Int) > 12 := fun z => c2 (decide_eq_true z)
          have z12 : lvl 12 [d] = [] := by
            have := (cnt_stop hn (12 - n)).1
            rw [show n + (12 - n) = 12 by omega] at this
            exact this
          have t12 := lvl_tk 12 k d hk z12
          have e12 := eqs t12
          refine ⟨_, rfl, z2, fun t ht => ?_⟩
          have s4 : Same H3 (upd H3 t (.tup [v, .str ""])) := snew ht
          exact q1 d v t _ ⟨t12, e12.1, by rw [e12.2]; omega⟩ (((s1.trans s2).trans s3).trans s4) (hv.keep (tupsS ((s2.trans s3).trans s4))) upd_same
    · refine ⟨_, rfl, rfl, _, rfl, ?_⟩
      rw [decide_eq_true (show V.non = V.non from rfl)]
      exact iteT (bad s1 fun d g => no d g.wr)
abbrev nBe : List Str := ["pot", "text", "signs", "at", "sign", "way", "some"]
theorem scBe : FnScope nBe ["pot", "text"] (defScope s__law_bent) := ⟨rfl, rfl, rfl, by decide +kernel, rfl, by decide +kernel, by decide +kernel⟩
theorem ok_ben {f fT : Addr} {fd fdT : FuncData} (F : Def K mg "_law_bent" s__law_bent ["pot", "text"] f fd) (len : mg "len" = none) (DT : Def K mg "_law_take" s__law_take ["pot", "many"] fT fdT) (GT : FnOk P w K mg base CX0 1 fT fdT ["pot", "many"] spTake) : FnOk P w K mg base CX0 2 f fd ["pot", "text"] spBen := by
  refine F.fn.ok scBe (fun vs H Q E h => ?_) (fun cdv A outer s H vs Q E hr h => ?_)
  · obtain ⟨p, x, n, rfl, _⟩ := h
    rfl
  · obtain ⟨p, x, n, rfl, ⟨o, hp, ho⟩, hx, hn, q⟩ := h
    have nd := scBe.nd
    refine' ⟨_, @pss_cons _ _ _ _ _ (ps_set (i := 2) nd rfl (Or.inl rfl) pe_str) (@pss_cons _ _ _ _ _ (ps_set (i := 3) nd rfl (Or.inl rfl) (pe_callD DT GT hr (pa_cons (pv 0) (pa_cons (pe_op op_add (pe_callB call_len (by rfl) len PySem.boot_len (pa_cons (pv 1) pa_nil)) pe_int) pa_nil))))
      (@pss_cons _ _ _ _ _ (ps_set (i := 4) nd rfl (Or.inl rfl) (pe_ix (r := rIxS) ix_str (pv 2) (pe_callD DT GT hr (pa_cons (pv 0) (pa_cons (pe_ix (r := rIxT K) ix_tup (pe_tup (pa_cons pe_int (pa_cons (pe_callB call_len (by rfl) len PySem.boot_len (pa_cons (pv 2) pa_nil)) pa_nil))) (pe_callD DT GT hr (pa_cons (pv 0) (pa_cons pe_int pa_nil))) (fun _ _ => rfl)) pa_nil))) (fun _ _ => rfl)))
      (@pss_cons _ _ _ _ _ (ps_set (i := 5) nd rfl (Or.inl rfl) (pe_callD DT GT hr (pa_cons (pv 0) (pa_cons pe_int pa_nil))))
      (@pss_cons _ _ _ _ _ (ps_if (pt_cmpR op_eq (pv 5) pe_int (nomark _)) (pss_one (ps_ret (pe_op op_add_str (pe_op op_add_str (pe_slice (r := rSlS) sl_str (pv 1) po_none (po_some (pv 3))) (pv 4)) (pe_slice (r := rSlS) sl_str (pv 1) (po_some (pv 3)) po_none)))) pss_nil)
      (@pss_cons _ _ _ _ _ (ps_if (pt_cmpR op_eq (pv 5) pe_int (nomark _)) (pss_one (ps_ret (pe_op op_add_str (pe_slice (r := rSlS) sl_str (pv 1) po_none (po_some (pv 3))) (pe_slice (r := rSlS) sl_str (pv 1) (po_some (pe_op op_add (pv 3) pe_int)) po_none)))) pss_nil)
      (@pss_cons _ _ _ _ _ (ps_if (pt_cmpR op_eq (pv 5) pe_int (nomark _)) (pss_one (ps_ret (pe_op op_add_str (pe_op op_add_str (pe_slice (r := rSlS) sl_str (pv 1) po_none (po_some (pv 3))) (pv 4)) (pe_slice (r := rSlS) sl_str (pv 1) (po_some (pe_op op_add (pv 3) pe_int)) po_none)))) pss_nil)
      (@pss_cons _ _ _ _ _ (@ps_strs _ 6 _ _ _ _ som13 (by decide +kernel) (by decide) nd rfl (Or.inl rfl) rfl (Or.inr rfl))
      (pss_one (ps_ret (pe_op op_add_str (pe_op op_add_str (pe_slice (r := rSlS) sl_str (pv 1) po_none (po_some (pv 3))) (pe_ix (r := rIxT K) ix_tup (pv 6) (pe_callD DT GT hr (pa_cons (pv 0) (pa_cons pe_int pa_nil))) (fun _ _ => rfl))) (pe_slice (r := rSlS) sl_str (pv 1) (po_some (pe_op op_sub (pe_op op_add (pv 3) (pv 5)) pe_int)) po_none))))))))))), ?_⟩
    have hx1 := hx.1
    have sl := str_len x
    refine ⟨_, rfl, _, rfl, _, _, rfl, ⟨small_line (by omega), rfl⟩, _, _, rfl, rfl, p, _, o, rfl, hp, ho, by show (0 : Int) < (x.length : Int) + 1; omega, by show (x.length : Int) + 1 < 4611686018427387904; omega, fun a0 o1 a1 a2 ho1 => ?_⟩
    have a2 : a0 < (x.length : Int) + 1 := a2
    obtain ⟨a, rfl⟩ := Int.eq_ofNat_of_zero_le a1
    have d1 : Drawn p H (upd H p o1) := Drawn.upd ho1
    generalize upd H p o1 = H1 at d1
    have cuts : ∀ b : Nat, a ≤ b → Txs (Txt.slice x none (some (a : Int))) a ∧ Txs (Txt.slice x (some (b : Int)) none) (n - b) := fun b hab => by
      have e1 := slice_take x (a : Int) (by omega)
      have e2 := slice_from x b
      have l1 := congrArg List.length e1
      have l2 := congrArg List.length e2
      rw [str_len, List.length_take] at l1
      rw [str_len, List.length_drop] at l2
      exact ⟨⟨by omega, fun c hc => hx.2 c (List.mem_of_mem_take (by rw [e1] at hc; exact hc))⟩, ⟨by omega, fun c hc => hx.2 c (List.mem_of_mem_drop (by rw [e2] at hc; exact hc))⟩⟩
    refine ⟨_, rfl, _, rfl, _, rfl, _, _, rfl, ⟨by rw [sg_len]; exact small_line (by decide), rfl⟩, small_line (by show 2 ≤ 100000; decide), fun t ht => ?_⟩
    have htt : (upd H1 t (.tup [.int 14, .int (sgS.length : Int)])) t = some (.tup [.int 14, .int 69]) := by rw [upd_same, sg_len]; rfl
    have d2 : Drawn p H (upd H1 t (.tup [.int 14, .int (sgS.length : Int)])) := d1.new ht
    generalize upd H1 t (.tup [.int 14, .int (sgS.length : Int)]) = H2 at d2 htt
    obtain ⟨o2, hp2, ho2⟩ := d2.pot
    have tp : t ≠ p := fun z => by rw [z, hp2] at htt; obtain ⟨_, _, e, _⟩ := ho2; rw [e] at htt; cases htt
    refine ⟨_, rfl, p, 2, o2, rfl, hp2, ho2, by decide, by decide, fun b0 o3 b1 b2 ho3 => ?_⟩
    have d3 := d2.trans (Drawn.upd (p := p) (H := H2) ho3)
    have ht3 : (upd H2 p o3) t = some (.tup [.int 14, .int 69]) := by rw [upd_ne tp]; exact htt
    have hp3 : (upd H2 p o3) p = some o3 := upd_same
    generalize upd H2 p o3 = H3 at d3 ht3 hp3
    obtain ⟨m, hm, m0, m1⟩ : ∃ m : Int, atI [V.int 14, V.int 69] b0 = some (.int m) ∧ 0 < m ∧ m ≤ 69 := by
      have : b0 = 0 ∨ b0 = 1 := by omega
      rcases this with rfl | rfl
      · exact ⟨14, rfl, by decide, by decide⟩
      · exact ⟨69, rfl, by decide, by decide⟩
    refine ⟨t, _, _, _, rfl, rfl, SqT.of ht3, hm, p, m, o3, rfl, hp3, ho3, m0, by omega, fun c0 o4 c1 c2 ho4 => ?_⟩
    have d4 := d3.trans (Drawn.upd (p := p) (H := H3) ho4)
    generalize upd H3 p o4 = H4 at d4
    obtain ⟨c, hc, hcl⟩ := sg_at c1 (by omega)
    refine ⟨sgS, c0, c, rfl, rfl, by rw [sg_len]; exact small_line (by decide), hc, ?_⟩
    obtain ⟨o4', hp4, ho4'⟩ := d4.pot
    refine ⟨_, rfl, p, 5, o4', rfl, hp4, ho4', by decide, by decide, fun w0 o5 w1 w2 ho5 => ?_⟩
    have d5 := d4.trans (Drawn.upd (p := p) (H := H4) ho5)
    generalize upd H4 p o5 = H5 at d5
    have sg1 : Txs (⟨#[c]⟩ : Str) 1 := ⟨Nat.le_refl _, fun k hk => by rw [show k = c from (by simpa using hk)]; exact hcl⟩
    have line : ∀ {u v : Str} {n m : Nat}, Txs u n → Txs v m → n + m ≤ 2000 → u.length + v.length ≤ sizeLine := fun {u v n m} h1 h2 h3 => small_line (by have := h1.1; have := h2.1; omega)
    have wi : ∀ k : Int, decide (V.int w0 = V.int k) = decide (w0 = k) := fun k => decide_eq_decide.mpr ⟨fun z => by injection z, fun z => by rw [z]⟩
    have hz : a ≤ n ∨ n < a := by omega
    have an : a ≤ x.length := by omega
    refine ⟨_, rfl, rfl, _, rfl, ?_⟩
    rw [wi]
    by_cases k0 : w0 = 0
    · rw [decide_eq_true k0]
      obtain ⟨t1, t2⟩ := cuts a (Nat.le_refl _)
      have t12 := t1.cat sg1 (Nat.le_refl _)
      exact iteT ⟨_, rfl, _, rfl, _, rfl, x, rfl, small_line (by omega), _, rfl, _, _, rfl, rfl, line t1 sg1 (by omega), _, rfl, _, rfl, _, rfl, x, rfl, small_line (by omega), _, _, rfl, rfl, line t12 t2 (by omega), q _ H5 d5 (t12.cat t2 (by omega))⟩
    rw [decide_eq_false k0]
    refine iteF ⟨_, rfl, rfl, _, rfl, ?_⟩
    rw [wi]
    by_cases k1 : w0 = 1
    · rw [decide_eq_true k1]
      obtain ⟨t1, t2⟩ := cuts (a + 1) (by omega)
      exact iteT ⟨_, rfl, _, rfl, _, rfl, x, rfl, small_line (by omega), _, rfl, _, rfl, _, _, rfl, rfl, _, rfl, x, rfl, small_line (by omega), _, _, rfl, rfl, line t1 t2 (by omega), q _ H5 d5 (t1.cat t2 (by omega))⟩
    rw [decide_eq_false k1]
    refine iteF ⟨_, rfl, rfl, _, rfl, ?_⟩
    rw [wi]
    by_cases k2 : w0 = 2
    · rw [decide_eq_true k2]
      obtain ⟨t1, t2⟩ := cuts (a + 1) (by omega)
      have t12 := t1.cat sg1 (Nat.le_refl _)
      exact iteT ⟨_, rfl, _, rfl, _, rfl, x, rfl, small_line (by omega), _, rfl, _, _, rfl, rfl, line t1 sg1 (by omega), _, rfl, _, rfl, _, _, rfl, rfl, _, rfl, x, rfl, small_line (by omega), _, _, rfl, rfl, line t12 t2 (by omega), q _ H5 d5 (t12.cat t2 (by omega))⟩
    rw [decide_eq_false k2]
    refine iteF fun ts hts => ?_
    have d6 : Drawn p H (upd H5 ts (.tup (som13.map V.str))) := d5.new hts
    have ht6 : (upd H5 ts (.tup (som13.map V.str))) ts = some (.tup (som13.map V.str)) := upd_same
    generalize upd H5 ts (.tup (som13.map V.str)) = H6 at d6 ht6
    obtain ⟨o6, hp6, ho6⟩ := d6.pot
    have tsp : ts ≠ p := fun z => by rw [z, hp6] at ht6; obtain ⟨_, _, e, _⟩ := ho6; rw [e] at ht6; cases ht6
    refine ⟨_, rfl, _, rfl, _, rfl, x, rfl, small_line (by omega), _, rfl, _, rfl, p, 13, o6, rfl, hp6, ho6, by decide, by decide, fun v0 o7 v1 v2 ho7 => ?_⟩
    have d7 := d6.trans (Drawn.upd (p := p) (H := H6) ho7)
    have ht7 : (upd H6 p o7) ts = some (.tup (som13.map V.str)) := by rw [upd_ne tsp]; exact ht6
    generalize upd H6 p o7 = H7 at d7 ht7
    obtain ⟨sx, hsx, sx1⟩ := som_at v1 v2
    obtain ⟨b, hb, eb⟩ : ∃ b : Nat, a ≤ b ∧ (a : Int) + w0 - 3 = (b : Int) := ⟨(a + (w0 - 3).toNat), by omega, by omega⟩
    obtain ⟨t1, t2⟩ := cuts b hb
    have t12 := t1.cat (show Txs sx 7 from sx1) (Nat.le_refl _)
    refine ⟨ts, _, _, _, rfl, rfl, SqT.of ht7, hsx, _, _, rfl, rfl, line t1 (show Txs sx 7 from sx1) (by omega), _, rfl, _, rfl, _, rfl, _, _, rfl, rfl, _, _, rfl, rfl, _, rfl, x, rfl, small_line (by omega), ?_⟩
    show ∃ i j, V.str (_ ++ sx) = .str i ∧ V.str (Txt.slice x (some ((a : Int) + w0 - 3)) none) = .str j ∧ _ ∧ _
    rw [eb]
    exact ⟨_, _, rfl, rfl, line t12 t2 (by omega), q _ H7 d7 (t12.cat t2 (by omega))⟩
end
end K75

set_option Elab.async false
set_option linter.all false
set_option maxRecDepth 100000
set_option maxHeartbeats 4000000
namespace K75
open PySem L2 Md
theorem tk_kqd : ∀ (k : Nat) (d : Dt), tkB k d = true → W.kqdOk k d = true
  | 0, d, h => by cases h
  | k + 1, d, h => by
    rcases tk_inv h with ⟨i, rfl, _⟩ | ⟨x, c, cs, rfl, hx, hk⟩
    · rfl
    · show (W.Dat.str x :: c :: cs).all (W.kqdOk k) = true
      rw [List.all_eq_true]
      intro e he
      rcases List.mem_cons.mp he with z | z
      · rw [z]
        cases k <;> exact word_ok hx
      · exact tk_kqd k e (hk e z)
def spLaw (K : W.Frag) : Sp := fun vs H Q _ => ∃ (a : Addr) (ns : List Int), vs = [.ref a] ∧ SqL K H a (ns.map V.int) ∧ ns.length ≤ 63 ∧ ∀ H', Q (.bl true) H'
structure TxtL (mg : Str → Option Value) : Prop where
  int : mg "int" = none
  range : mg "range" = none
theorem lowS {s : Str} (h : s.cps.toList.all (fun c => decide (c < 128)) = true) : ∀ c ∈ s.cps.toList, c < 128 := fun c hc => of_decide_eq_true (List.all_eq_true.mp h c hc)
theorem rep_txs {i : Str} {k n : Nat} (h : ∀ c ∈ i.cps.toList, c < 128) (e : k * i.length ≤ n) : Txs (repS i k) n := by
  refine ⟨by rw [repS_len]; exact e, fun c hc => ?_⟩
  rw [repS_cps] at hc
  obtain ⟨l, hl, hcl⟩ := List.mem_flatten.mp hc
  rw [(List.mem_replicate.mp hl).2] at hcl
  exact h c hcl
theorem tx_low : ∀ (k : Nat) (d : Dt), tkB k d = true → ∀ c ∈ tx k d, c < 128
  | 0, d, h, c, hc => by cases h
  | k + 1, d, h, c, hc => by
    rcases tk_inv h with ⟨i, rfl, hi⟩ | ⟨x, e, es, rfl, hx, hk⟩
    · rw [tx_int] at hc
      have := List.all_eq_true.mp (digs_plain ⟨i, hi⟩) c hc
      unfold isDig at this
      have := of_decide_eq_true this
      omega
    · rw [tx_tup] at hc
      rcases List.mem_append.mp hc with z | z
      · have := ((isWord_iff x).mp hx).2 c z
        unfold isLow at this
        have := of_decide_eq_true this
        omega
      · rcases List.mem_cons.mp z with z | z
        · omega
        · rcases List.mem_append.mp z with z | z
          · have all : ∀ t ∈ (e :: es).map (tx k), ∀ c ∈ t, c < 128 := fun t ht c hc => by
              obtain ⟨d, hd, rfl⟩ := List.mem_map.mp ht
              exact tx_low k d (hk d hd) c hc
            have jl : ∀ (L : List (List Nat)), (∀ t ∈ L, ∀ c ∈ t, c < 128) → ∀ c ∈ jn L, c < 128 := fun L hL c hc => by
              cases L with
              | nil => cases hc
              | cons a r =>
                have hc : c ∈ a ++ r.flatMap fun b => 44 :: 32 :: b := hc
                rcases List.mem_append.mp hc with z | z
                · exact hL a (.head _) c z
                · obtain ⟨b, hb, hcb⟩ := List.mem_flatMap.mp z
                  rcases List.mem_cons.mp hcb with z | z
                  · omega
                  · rcases List.mem_cons.mp z with z | z
                    · omega
                    · exact hL b (.tail _ hb) c z
            exact jl _ all c z
          · rw [List.mem_singleton.mp z]; decide
section
variable {P : Program} {w : World} {K : W.Frag} {mg : Str → Option Value} {base : Heap}
abbrev nLaw : List Str := ["script", "k", "pot", "text", "many", "turn"]
theorem scLaw : FnScope nLaw ["script"] (defScope s_law) := ⟨rfl, rfl, rfl, by decide +kernel, rfl, by decide +kernel, by decide +kernel⟩
set_option maxHeartbeats 16000000 in
theorem ok_law {f fP fT fA fL fB fH fD : Addr} {fd fdP fdT fdA fdL fdB fdH fdD : FuncData} (F : Def K mg "law" s_law ["script"] f fd) (T : TxtL mg)
    (DP : Def K mg "_law_pot" s__law_pot ["script", "k"] fP fdP) (GP : FnOk P w K mg base CX0 1 fP fdP ["script", "k"] (spPot K)) (DT : Def K mg "_law_take" s__law_take ["pot", "many"] fT fdT) (GT : FnOk P w K mg base CX0 1 fT fdT ["pot", "many"] spTake) (DA : Def K mg "_law_any_term" s__law_any_term pAn fA fdA) (GA : FnOk P w K mg base CX0 17 fA fdA pAn (spAny 14))
    (DL : Def K mg "_law_term_text" s__law_term_text ["term"] fL fdL) (GL : FnOk P w K mg base CX0 15 fL fdL ["term"] (spLtt 14)) (DB : Def K mg "_law_bent" s__law_bent ["pot", "text"] fB fdB) (GB : FnOk P w K mg base CX0 2 fB fdB ["pot", "text"] spBen)
    (DH : Def K mg "_law_term_heard" s__law_term_heard ["text"] fH fdH) (GH : FnOk P w K mg base CX0 16 fH fdH ["text"] spTxt) (DD : Def K mg "_law_due" s__law_due ["text"] fD fdD) (GD : FnOk P w K mg base CX0 3 fD fdD ["text"] spTxt) :
    FnOk P w K mg base CX0 18 f fd ["script"] (spLaw K) := by
  refine F.fn.ok scLaw (fun vs H Q E h => ?_) (fun cdv A outer s H vs Q E hr h => ?_)
  · obtain ⟨a, ns, rfl, _⟩ := h
    rfl
  · obtain ⟨a, ns, rfl, hS, hlen, q⟩ := h
    have nd := scLaw.nd
    have hu := hr.units
    have hr1 : Room 1 _ := hr.mono (by decide)
    have hr2 : Room 2 _ := hr.mono (by decide)
    have hr3 : Room 3 _ := hr.mono (by decide)
    have hr15 : Room 15 _ := hr.mono (by decide)
    have hr16 : Room 16 _ := hr.mono (by decide)
    refine' ⟨_, (pss_cons (ps_for PassesOwn.never rfl (pi_range1 (by rfl) T.range (pa_cons pe_int pa_nil)) (pg_name (i := 1) nd rfl (Or.inl rfl))
        (pss_cons (ps_set (i := 2) nd rfl (Or.inl rfl) (pe_callD DP GP hr1 (pa_cons (pv 0) (pa_cons (pv 1) pa_nil))))
      (pss_cut (ps_set (i := 3) nd rfl (Or.inl rfl) (pe_callD DL GL hr15 (pa_cons (pe_callD DA GA hr (pa_cons (pv 2) (pa_cons (pe_lst (pa_cons (pe_op op_add pe_int (pe_callD DT GT hr1 (pa_cons (pv 2) (pa_cons pe_int pa_nil)))) pa_nil)) (pa_cons (pe_op op_add pe_int (pe_callD DT GT hr1 (pa_cons (pv 2) (pa_cons pe_int pa_nil)))) pa_nil)))) pa_nil)))
      (pss_cut (ps_if (pt_cmpR op_eq (pe_callD DT GT hr1 (pa_cons (pv 2) (pa_cons pe_int pa_nil))) pe_int (nomark _))
          (pss_cons (ps_set (i := 4) nd rfl (Or.inl rfl) (pe_ix (r := rIxT K) ix_tup (pe_tup (pa_cons pe_int (pa_cons pe_int (pa_cons pe_int (pa_cons (pe_op op_add pe_int (pe_callD DT GT hr1 (pa_cons (pv 2) (pa_cons pe_int pa_nil)))) pa_nil))))) (pe_callD DT GT hr1 (pa_cons (pv 2) (pa_cons pe_int pa_nil))) (fun _ _ => rfl)))
      (pss_one (ps_set (i := 3) nd rfl (Or.inl rfl) (pe_op op_add_str (pe_op op_add_str (pe_op op_repS pe_str (pv 4)) pe_str) (pe_op op_repS pe_str (pe_op op_sub (pv 4) (pe_callTy call_int1 (by rfl) T.int PyProof.Rows.boot_int (pa_cons (pe_cmpR op_eq (pe_callD DT GT hr1 (pa_cons (pv 2) (pa_cons pe_int pa_nil))) pe_int (nomark _)) pa_nil)))))))) pss_nil)
      (pss_cut (ps_if (pt_cmpR op_gt (pe_callD DT GT hr1 (pa_cons (pv 2) (pa_cons pe_int pa_nil))) pe_int (nomark _))
          (pss_one (ps_for PassesOwn.never rfl (pi_range1 (by rfl) T.range (pa_cons (pe_callD DT GT hr1 (pa_cons (pv 2) (pa_cons pe_int pa_nil))) pa_nil)) (pg_name (i := 5) nd rfl (Or.inl rfl))
            (pss_one (ps_set (i := 3) nd rfl (Or.inl rfl) (pe_callD DB GB hr2 (pa_cons (pv 2) (pa_cons (pv 3) pa_nil))))))) pss_nil)
      (pss_one (ps_if (pt_cmpR (op_neW hu) (pe_callD DH GH hr16 (pa_cons (pv 3) pa_nil)) (pe_callD DD GD hr3 (pa_cons (pv 3) pa_nil)) (nomark _)) (pss_one (ps_ret pe_bl)) pss_nil)))))))
      (pss_one (ps_ret pe_bl))), ?_⟩
    refine ⟨10, rfl, by decide, by decide, for_runs runs_range (fun i σ H' => ∃ x1 x2 x3 x4 x5 : Option V, σ = [some (.ref a), x1, x2, x3, x4, x5] ∧ Same H H')
      ⟨none, none, none, none, none, rfl, Same.refl _⟩ (fun _ _ _ _ _ => trivial) ?_ ?_⟩
    · rintro i v' σ H0 hi ⟨x1, x2, x3, x4, x5, rfl, s0⟩
      obtain ⟨hi10, rfl⟩ := rangeV_get hi
      have hi10 : i < 10 := hi10
      refine ⟨_, rfl, _, rfl, a, _, ns, rfl, s0.seq hS, by omega, by omega, by omega, fun p o hp ho => ?_⟩
      have s1 : Same H0 (upd H0 p o) := snew hp
      have hp1 : (upd H0 p o) p = some o := upd_same
      have dr0 : Drawn p (upd H0 p o) (upd H0 p o) := Drawn.refl ⟨o, hp1, ho⟩
      generalize hH1 : upd H0 p o = H1 at s1 hp1 dr0
      have back : ∀ {H' : Hp}, Drawn p H1 H' → Same H H' := fun {H'} d b u e => d.keep b u (ne_of_none (s0 _ _ e) hp) (s1 _ _ (s0 _ _ e))
      refine ⟨(fun σ' H' => ∃ (x : Str) (x4 x5 : Option V), σ' = [some (.ref a), some (.int (0 + (i : Int))), some (.ref p), some (.str x), x4, x5] ∧ Drawn p H1 H' ∧ Txs x 700), ?_, ?_⟩
      · refine ⟨_, rfl, _, rfl, p, 15, o, rfl, hp1, ho, by decide, by decide, fun a0 o2 a1 a2 ho2 => ⟨_, _, rfl, rfl, small_line (by show 1 ≤ 100000; decide), fun r hr' => ?_⟩⟩
        obtain ⟨m, rfl⟩ := Int.eq_ofNat_of_zero_le a1
        have d2 : Drawn p H1 (upd H1 p o2) := Drawn.upd ho2
        have r1 : H1 r = none := by
          cases e : H1 r with
          | none => rfl
          | some u =>
            by_cases z : r = p
            · rw [z, upd_same] at hr'; cases hr'
            · rw [upd_ne z, e] at hr'; cases hr'
        have pr : p ≠ r := fun z => by rw [← z, upd_same] at hr'; cases hr'
        have e30 : (30 : Int) + (m : Int) = ((30 + m : Nat) : Int) := by omega
        have d3 : Drawn p H1 (upd (upd H1 p o2) r (.lst [.int (30 + (m : Int))])) := d2.new hr'
        have hr3' : (upd (upd H1 p o2) r (.lst [.int (30 + (m : Int))])) r = some (.lst [.int ((30 + m : Nat) : Int)]) := by rw [upd_same, e30]
        generalize upd (upd H1 p o2) r (.lst [.int (30 + (m : Int))]) = H3 at d3 hr3'
        obtain ⟨o3, hp3, ho3⟩ := d3.pot
        refine ⟨_, rfl, p, 10, o3, rfl, hp3, ho3, by decide, by decide, fun b0 o4 b1 b2 ho4 => ⟨_, _, rfl, rfl, ?_⟩⟩
        obtain ⟨n, rfl⟩ := Int.eq_ofNat_of_zero_le b1
        have d4 := d3.trans (Drawn.upd (p := p) (H := H3) ho4)
        have hr4' : (upd H3 p o4) r = some (.lst [.int ((30 + m : Nat) : Int)]) := by rw [upd_ne (Ne.symm pr)]; exact hr3'
        generalize upd H3 p o4 = H4 at d4 hr4'
        have e5 : (5 : Int) + (n : Int) = ((5 + n : Nat) : Int) := by omega
        refine ⟨p, r, 30 + m, 5 + n, by show [V.ref p, V.ref r, V.int (5 + (n : Int))] = _; rw [e5], by omega, by omega, d4.pot, hr4', pr, by omega, fun v d ρ' H5 st hv ht hc => ?_⟩
        have d5 : Drawn p H1 H5 := ⟨fun b u hb e => st.keep b u hb (ne_of_none e r1) (d4.keep b u hb e), st.pot⟩
        have t14 := tk_le ht (14 - (5 + n))
        rw [show 5 + n + (14 - (5 + n)) = 14 by omega] at t14
        have c14 := hc 14
        refine ⟨d, v, rfl, hv, t14.1, by omega, fun tx0 H6 s56 htx => ⟨tx0, _, _, rfl, d5.same s56, ?_, fun c hc' => tx_low 14 d t14.1 c (by rw [← htx]; exact hc')⟩⟩
        have := tx_len 14 d t14.1
        rw [← htx, str_len] at this
        omega
      · rintro σ' H2 ⟨x, x4, x5, rfl, d2, hx⟩
        refine ⟨(fun σ' H' => ∃ (x : Str) (x4 x5 : Option V), σ' = [some (.ref a), some (.int (0 + (i : Int))), some (.ref p), some (.str x), x4, x5] ∧ Drawn p H1 H' ∧ Txs x 700), ?_, ?_⟩
        · obtain ⟨o2, hp2, ho2⟩ := d2.pot
          refine ⟨_, rfl, p, 9, o2, rfl, hp2, ho2, by decide, by decide, fun a0 o3 a1 a2 ho3 => ⟨rfl, _, rfl, ite2 (fun _ => ?_) (fun _ => ⟨x, _, _, rfl, d2.trans (Drawn.upd ho3), hx⟩)⟩⟩
          have d3 := d2.trans (Drawn.upd (p := p) (H := H2) ho3)
          generalize upd H2 p o3 = H3 at d3
          obtain ⟨o3', hp3, ho3'⟩ := d3.pot
          refine ⟨_, rfl, p, 41, o3', rfl, hp3, ho3', by decide, by decide, fun m0 o4 m1 m2 ho4 => ⟨_, _, rfl, rfl, small_line (by show 4 ≤ 100000; decide), fun t ht => ?_⟩⟩
          have d4 := d3.trans (Drawn.upd (p := p) (H := H3) ho4)
          generalize upd H3 p o4 = H4 at d4 ht
          obtain ⟨mm, rfl⟩ := Int.eq_ofNat_of_zero_le m1
          have d5 : Drawn p H1 (upd H4 t (.tup [.int 11, .int 12, .int 13, .int (60 + (mm : Int))])) := d4.new ht
          have ht5 : (upd H4 t (.tup [.int 11, .int 12, .int 13, .int (60 + (mm : Int))])) t = some (.tup [.int 11, .int 12, .int 13, .int (60 + (mm : Int))]) := upd_same
          generalize upd H4 t (.tup [.int 11, .int 12, .int 13, .int (60 + (mm : Int))]) = H5 at d5 ht5
          obtain ⟨o5, hp5, ho5⟩ := d5.pot
          have tp : t ≠ p := fun z => by rw [z, hp5] at ht5; obtain ⟨_, _, e, _⟩ := ho5; rw [e] at ht5; cases ht5
          refine ⟨_, rfl, p, 4, o5, rfl, hp5, ho5, by decide, by decide, fun j0 o6 j1 j2 ho6 => ?_⟩
          have d6 := d5.trans (Drawn.upd (p := p) (H := H5) ho6)
          have ht6 : (upd H5 p o6) t = some (.tup [.int 11, .int 12, .int 13, .int (60 + (mm : Int))]) := by rw [upd_ne tp]; exact ht5
          generalize upd H5 p o6 = H6 at d6 ht6
          obtain ⟨g, hg, g1, g2⟩ : ∃ g : Nat, atI [V.int 11, V.int 12, V.int 13, V.int (60 + (mm : Int))] j0 = some (.int (g : Int)) ∧ 11 ≤ g ∧ g ≤ 100 := by
            have : j0 = 0 ∨ j0 = 1 ∨ j0 = 2 ∨ j0 = 3 := by omega
            rcases this with rfl | rfl | rfl | rfl
            · exact ⟨11, rfl, by decide, by decide⟩
            · exact ⟨12, rfl, by decide, by decide⟩
            · exact ⟨13, rfl, by decide, by decide⟩
            · exact ⟨60 + mm, by rw [show ((60 + mm : Nat) : Int) = 60 + (mm : Int) by omega]; rfl, by omega, by omega⟩
          refine ⟨t, _, _, _, rfl, rfl, SqT.of ht6, hg, ?_⟩
          obtain ⟨o6', hp6, ho6'⟩ := d6.pot
          have ta : Txs (repS "a(" g) 200 := rep_txs (lowS (by decide +kernel)) (by show g * 2 ≤ 200; omega)
          have tz : Txs ("0" : Str) 1 := ⟨Nat.le_refl _, lowS (by decide +kernel)⟩
          refine ⟨_, rfl, _, g, rfl, rfl, by omega, by omega, by decide +kernel, by decide +kernel, _, _, rfl, rfl, small_line (by have := ta.1; have := tz.1; omega), ?_⟩
          have taz := ta.cat tz (Nat.le_refl _)
          refine ⟨_, rfl, _, rfl, p, 4, o6', rfl, hp6, ho6', by decide, by decide, fun l0 o7 l1 l2 ho7 => ⟨rfl, .inr ⟨_, rfl, ?_⟩⟩⟩
          have d7 := d6.trans (Drawn.upd (p := p) (H := H6) ho7)
          generalize upd H6 p o7 = H7 at d7
          obtain ⟨g', eg, h1, h2⟩ : ∃ g' : Nat, (g : Int) - (if decide (V.int l0 = V.int 0) = true then 1 else 0) = (g' : Int) ∧ 10 ≤ g' ∧ g' ≤ 100 := by
            by_cases z : decide (V.int l0 = V.int 0) = true
            · rw [if_pos z]; exact ⟨g - 1, by omega, by omega, by omega⟩
            · rw [if_neg z]; exact ⟨g, by omega, by omega, by omega⟩
          have tc : Txs (repS ")" g') 100 := rep_txs (lowS (by decide +kernel)) (by show g' * 1 ≤ 100; omega)
          refine ⟨_, _, rfl, rfl, _, g', rfl, by show V.int ((g : Int) - _) = V.int _; rw [eg], by omega, h2, by decide +kernel, by decide +kernel, _, _, rfl, rfl, small_line (by have := taz.1; have := tc.1; omega), ?_⟩
          exact ⟨_, _, _, rfl, d7, taz.cat tc (by omega)⟩
        · rintro σ' H3 ⟨x, x4, x5, rfl, d3, hx⟩
          refine ⟨(fun σ' H' => ∃ (x : Str) (x4 x5 : Option V), σ' = [some (.ref a), some (.int (0 + (i : Int))), some (.ref p), some (.str x), x4, x5] ∧ Drawn p H1 H' ∧ Txs x 800), ?_, ?_⟩
          · obtain ⟨o3, hp3, ho3⟩ := d3.pot
            have hx8 : Txs x 800 := ⟨Nat.le_trans hx.1 (by decide), hx.2⟩
            refine ⟨_, rfl, p, 5, o3, rfl, hp3, ho3, by decide, by decide, fun a0 o4 a1 a2 ho4 => ⟨_, _, rfl, rfl, _, rfl, ite2 (fun _ => ?_) (fun _ => ⟨x, _, _, rfl, d3.trans (Drawn.upd ho4), hx8⟩)⟩⟩
            have d4 := d3.trans (Drawn.upd (p := p) (H := H3) ho4)
            generalize upd H3 p o4 = H4 at d4
            obtain ⟨o4', hp4, ho4'⟩ := d4.pot
            refine ⟨_, rfl, p, 4, o4', rfl, hp4, ho4', by decide, by decide, fun t0 o5 t1 t2 ho5 => ?_⟩
            have d5 := d4.trans (Drawn.upd (p := p) (H := H4) ho5)
            generalize upd H4 p o5 = H5 at d5
            obtain ⟨tn, rfl⟩ := Int.eq_ofNat_of_zero_le t1
            refine ⟨_, rfl, by omega, by omega, for_runs runs_range (fun j σ H' => ∃ (x : Str) (x5 : Option V), σ = [some (.ref a), some (.int (0 + (i : Int))), some (.ref p), some (.str x), x4, x5] ∧ Drawn p H1 H' ∧ Txs x (700 + 7 * j))
              ⟨x, _, rfl, d5, hx⟩ (fun _ _ _ _ _ => trivial) ?_ ?_⟩
            · rintro j v' σ H6 hj ⟨x, x5, rfl, d6, hx⟩
              obtain ⟨hj2, rfl⟩ := rangeV_get hj
              have hj3 : j < (tn : Int).toNat := hj2
              exact ⟨_, rfl, _, rfl, p, x, 700 + 7 * j, rfl, d6.pot, hx, by omega, fun y H7 d7 hy => ⟨y, _, rfl, d6.trans d7, hy⟩⟩
            · rintro σ H6 ⟨x, x5, rfl, d6, hx⟩
              refine ⟨x, _, _, rfl, d6, Nat.le_trans hx.1 ?_, hx.2⟩
              rw [rangeV_len]
              have : (tn : Int).toNat = tn := by omega
              omega
          · rintro σ' H4 ⟨x, x4, x5, rfl, d4, hx⟩
            have hx1 : x.length ≤ 1000 := Nat.le_trans hx.1 (by decide)
            have sH := back d4
            have end_ : ∀ H', Same H4 H' → ∃ x1 x2 x3 x4' x5' : Option V, [some (.ref a), some (.int (0 + (i : Int))), some (.ref p), some (.str x), x4, x5] = [some (.ref a), x1, x2, x3, x4', x5'] ∧ Same H H' := fun H' s => ⟨_, _, _, _, _, rfl, sH.trans s⟩
            by_cases g : ∃ d, Gd x d
            · obtain ⟨d, g⟩ := g
              refine ⟨_, rfl, x, rfl, hx1, hx.2, fun d1 v1 t1 H5 g1 s5 hv1 ht1 => ?_, fun no => absurd g (no d)⟩
              refine ⟨_, rfl, x, rfl, hx1, hx.2, fun d2 v2 t2 H6 g2 s6 hv2 ht2 => ?_, fun no => absurd g (no d)⟩
              have e1 : d1 = d := g1.inj g
              have e2 : d2 = d := g2.inj g
              subst e1
              subst e2
              have lay := W.kqd_lay 13 (.tuple [d2, .str ""]) (by
                show ([d2, W.Dat.str ""] : List Dt).all (W.kqdOk 12) = true
                rw [List.all_cons, tk_kqd 12 d2 g2.1, Bool.true_and]
                decide +kernel)
              refine ⟨.tuple [d2, .str ""], .tuple [d2, .str ""], .tuple (SqT.of (s6 _ _ ht1)) (.cons (hv1.keep (tupsS s6)).rep (.cons (.str _) .nil)), .tuple (SqT.of ht2) (.cons hv2.rep (.cons (.str _) .nil)), lay.1, lay.1, by have := lay.2; omega, _, rfl, ?_⟩
              rw [PySem.SeqAt.eqv_refl _ lay.1]
              exact iteF (end_ H6 (s5.trans s6))
            · have no : ∀ d, ¬ Gd x d := fun d z => g ⟨d, z⟩
              refine ⟨_, rfl, x, rfl, hx1, hx.2, fun d1 v1 t1 H5 g1 _ _ _ => absurd g1 (no d1), fun _ t1 H5 s5 ht1 => ?_⟩
              refine ⟨_, rfl, x, rfl, hx1, hx.2, fun d1 v1 t1 H5 g1 _ _ _ => absurd g1 (no d1), fun _ t2 H6 s6 ht2 => ?_⟩
              have lay := W.kqd_lay 13 (.tuple [.none, .str "NoTerm"]) (by decide +kernel)
              refine ⟨.tuple [.none, .str "NoTerm"], .tuple [.none, .str "NoTerm"], .tuple (SqT.of (s6 _ _ ht1)) (.cons .none (.cons (.str _) .nil)), .tuple (SqT.of ht2) (.cons .none (.cons (.str _) .nil)), lay.1, lay.1, by have := lay.2; omega, _, rfl, ?_⟩
              rw [PySem.SeqAt.eqv_refl _ lay.1]
              exact iteF (end_ H6 (s5.trans s6))
    · rintro σ H0 ⟨x1, x2, x3, x4, x5, rfl, s0⟩
      exact q H0
end
end K75

set_option Elab.async false
set_option linter.all false
set_option maxRecDepth 100000
set_option maxHeartbeats 4000000
namespace K75
open PySem L2
def tq := @tp
def mq := @mp
set_option maxHeartbeats 4000000 in
theorem all_mk {l : W.OpenLaw} {w : World} {K : W.Frag} {h : Heap} {mg : Str → Option Value} {fa QD Q0 Q1 Q2 Q3 Q4 Q5 Q6 Q7 Q8 Q9 Q10 Q11 Q12 Q13 Q14 f_w f_po f_sm f_fg f_spl f_rdp f_rdt f_P f_T f_Le f_W f_cls f_liw f_lpa f_lde f_ltt f_any f_wat f_ltr f_hea f_due f_ben f_L : Addr} {d_w d_po d_sm d_fg d_spl d_rdp d_rdt d_P d_T d_Le d_W d_cls d_liw d_lpa d_lde d_ltt d_any d_wat d_ltr d_hea d_due d_ben d_L : FuncData} (X : K.In h) (G : h.Ns mainGlobals mg) (hfa : mg "law" = some (.ref fa))
    {T_LETTERS T_MOST_LETTERS T_MOST_PARTS T_MOST_DEEP T_DIGITS : Tok}
    (a_QD : W.nsIn K mainGlobals "DeedError" = some (some (.ref QD)))
    (cl_QD : W.isClsIn K QD = true)
    (ty_QD : W.typeIn K (.ref QD) = some (.type "type"))
    {nm_QD q_QD : Str} {N_QD : Addr} {bs_QD sub_QD : List Value} {ab_QD : Bool} {sn_QD : List Str} {col_QD : Option Bool} {dd_QD : Option Addr} {k0_QD k1_QD k2_QD k3_QD k5_QD : Option Value}
    {bm_QD : List Value} {hd_QD : Bool}
    (l_QD : K.lookup QD = some (excClassObj nm_QD q_QD QD N_QD bs_QD bm_QD hd_QD sn_QD sub_QD ab_QD col_QD dd_QD k0_QD k1_QD k2_QD k3_QD k5_QD "ValueError.__new__"))
    (val_QD : W.subIn K (.ref QD) (.type "ValueError") = some true)
    (bas_QD : W.subIn K (.ref QD) (.type "BaseException") = some true)
    (att_QD : W.subIn K (.ref QD) (.type "AttributeError") = some false)
    (nam_QD : W.subIn K (.ref QD) (.type "NameError") = some false)
    (kp_QD : W.keepIn K (.ref QD) = true)
    (a_Q0 : W.nsIn K mainGlobals "NoKind" = some (some (.ref Q0)))
    (cl_Q0 : W.isClsIn K Q0 = true)
    (ty_Q0 : W.typeIn K (.ref Q0) = some (.type "type"))
    (a_Q1 : W.nsIn K mainGlobals "Twice" = some (some (.ref Q1)))
    (cl_Q1 : W.isClsIn K Q1 = true)
    (ty_Q1 : W.typeIn K (.ref Q1) = some (.type "type"))
    (a_Q2 : W.nsIn K mainGlobals "NoName" = some (some (.ref Q2)))
    (cl_Q2 : W.isClsIn K Q2 = true)
    (ty_Q2 : W.typeIn K (.ref Q2) = some (.type "type"))
    (a_Q3 : W.nsIn K mainGlobals "Ring" = some (some (.ref Q3)))
    (cl_Q3 : W.isClsIn K Q3 = true)
    (ty_Q3 : W.typeIn K (.ref Q3) = some (.type "type"))
    (a_Q4 : W.nsIn K mainGlobals "NoDeed" = some (some (.ref Q4)))
    (cl_Q4 : W.isClsIn K Q4 = true)
    (ty_Q4 : W.typeIn K (.ref Q4) = some (.type "type"))
    (a_Q5 : W.nsIn K mainGlobals "Same" = some (some (.ref Q5)))
    (cl_Q5 : W.isClsIn K Q5 = true)
    (ty_Q5 : W.typeIn K (.ref Q5) = some (.type "type"))
    (a_Q6 : W.nsIn K mainGlobals "NoText" = some (some (.ref Q6)))
    (cl_Q6 : W.isClsIn K Q6 = true)
    (ty_Q6 : W.typeIn K (.ref Q6) = some (.type "type"))
    (a_Q7 : W.nsIn K mainGlobals "TooMany" = some (some (.ref Q7)))
    (cl_Q7 : W.isClsIn K Q7 = true)
    (ty_Q7 : W.typeIn K (.ref Q7) = some (.type "type"))
    (a_Q8 : W.nsIn K mainGlobals "NoBoard" = some (some (.ref Q8)))
    (cl_Q8 : W.isClsIn K Q8 = true)
    (ty_Q8 : W.typeIn K (.ref Q8) = some (.type "type"))
    (a_Q9 : W.nsIn K mainGlobals "NoCall" = some (some (.ref Q9)))
    (cl_Q9 : W.isClsIn K Q9 = true)
    (ty_Q9 : W.typeIn K (.ref Q9) = some (.type "type"))
    (a_Q10 : W.nsIn K mainGlobals "NoLine" = some (some (.ref Q10)))
    (cl_Q10 : W.isClsIn K Q10 = true)
    (ty_Q10 : W.typeIn K (.ref Q10) = some (.type "type"))
    (a_Q11 : W.nsIn K mainGlobals "NoPlace" = some (some (.ref Q11)))
    (cl_Q11 : W.isClsIn K Q11 = true)
    (ty_Q11 : W.typeIn K (.ref Q11) = some (.type "type"))
    (a_Q12 : W.nsIn K mainGlobals "NoWeights" = some (some (.ref Q12)))
    (cl_Q12 : W.isClsIn K Q12 = true)
    (ty_Q12 : W.typeIn K (.ref Q12) = some (.type "type"))
    (a_Q13 : W.nsIn K mainGlobals "NoTerm" = some (some (.ref Q13)))
    (cl_Q13 : W.isClsIn K Q13 = true)
    (ty_Q13 : W.typeIn K (.ref Q13) = some (.type "type"))
    {nm_Q13 q_Q13 : Str} {N_Q13 : Addr} {bs_Q13 sub_Q13 : List Value} {ab_Q13 : Bool} {sn_Q13 : List Str} {col_Q13 : Option Bool} {dd_Q13 : Option Addr} {k0_Q13 k1_Q13 k2_Q13 k3_Q13 k5_Q13 : Option Value}
    {bm_Q13 : List Value} {hd_Q13 : Bool}
    (l_Q13 : K.lookup Q13 = some (excClassObj nm_Q13 q_Q13 Q13 N_Q13 bs_Q13 bm_Q13 hd_Q13 sn_Q13 sub_Q13 ab_Q13 col_Q13 dd_Q13 k0_Q13 k1_Q13 k2_Q13 k3_Q13 k5_Q13 "ValueError.__new__"))
    (val_Q13 : W.subIn K (.ref Q13) (.type "ValueError") = some true)
    (bas_Q13 : W.subIn K (.ref Q13) (.type "BaseException") = some true)
    (att_Q13 : W.subIn K (.ref Q13) (.type "AttributeError") = some false)
    (nam_Q13 : W.subIn K (.ref Q13) (.type "NameError") = some false)
    (kp_Q13 : W.keepIn K (.ref Q13) = true)
    (a_Q14 : W.nsIn K mainGlobals "NoRow" = some (some (.ref Q14)))
    (cl_Q14 : W.isClsIn K Q14 = true)
    (ty_Q14 : W.typeIn K (.ref Q14) = some (.type "type"))
    (cg_Q : W.specialIn K (.builtin "object.__class__") "__get__" = some (some (.builtin "getset_descriptor.__get__")))
    (ct_Q : W.takesIn K (.builtin "object.__class__") = some true)
    (ga_Q13 : W.findIn K (.ref Q13) "__getattribute__" = some (some (.builtin "BaseException.__getattribute__")))
    (gt_Q13 : W.findIn K (.ref Q13) "__getattr__" = some none)
    (ca_Q13 : W.findIn K (.ref Q13) "__class__" = some (some (.builtin "object.__class__")))
    (ob_Q13 : W.mroIn K Q13 (.type "object") = some true)
    (sd_Q13 : W.subIn K (.ref Q13) (.ref QD) = some true)
    (s_Q13_0 : W.subIn K (.ref Q13) (.ref Q0) = some false)
    (s_Q13_1 : W.subIn K (.ref Q13) (.ref Q1) = some false)
    (s_Q13_2 : W.subIn K (.ref Q13) (.ref Q2) = some false)
    (s_Q13_3 : W.subIn K (.ref Q13) (.ref Q3) = some false)
    (s_Q13_4 : W.subIn K (.ref Q13) (.ref Q4) = some false)
    (s_Q13_5 : W.subIn K (.ref Q13) (.ref Q5) = some false)
    (s_Q13_6 : W.subIn K (.ref Q13) (.ref Q6) = some false)
    (s_Q13_7 : W.subIn K (.ref Q13) (.ref Q7) = some false)
    (s_Q13_8 : W.subIn K (.ref Q13) (.ref Q8) = some false)
    (s_Q13_9 : W.subIn K (.ref Q13) (.ref Q9) = some false)
    (s_Q13_10 : W.subIn K (.ref Q13) (.ref Q10) = some false)
    (s_Q13_11 : W.subIn K (.ref Q13) (.ref Q11) = some false)
    (s_Q13_12 : W.subIn K (.ref Q13) (.ref Q12) = some false)
    (s_Q13_13 : W.subIn K (.ref Q13) (.ref Q13) = some true)
    (s_Q13_14 : W.subIn K (.ref Q13) (.ref Q14) = some false)
    (in_Q13 : W.findIn K (.ref Q13) "__init__" = some (some (.builtin "ValueError.__init__")))
    (T_w : Tp K "is_word" s_is_word f_w d_w)
    (T_po : Tp K "parts_of" s_parts_of f_po d_po)
    (T_sm : Tp K "is_small" s_is_small f_sm d_sm)
    (T_fg : Tp K "is_figures" s_is_figures f_fg d_fg)
    (T_spl : Tp K "split_parts" s_split_parts f_spl d_spl)
    (T_rdp : Tp K "read_part" s_read_part f_rdp d_rdp)
    (T_rdt : Tp K "read_term" s_read_term f_rdt d_rdt)
    (T_P : Tp K "_law_pot" s__law_pot f_P d_P)
    (T_T : Tp K "_law_take" s__law_take f_T d_T)
    (T_Le : Tp K "_law_letters" s__law_letters f_Le d_Le)
    (T_W : Tp K "_law_word" s__law_word f_W d_W)
    (T_cls : Tp K "_law_classes" s__law_classes f_cls d_cls)
    (T_liw : Tp K "_law_is_word" s__law_is_word f_liw d_liw)
    (T_lpa : Tp K "_law_parts" s__law_parts f_lpa d_lpa)
    (T_lde : Tp K "_law_deep" s__law_deep f_lde d_lde)
    (T_ltt : Tp K "_law_term_text" s__law_term_text f_ltt d_ltt)
    (T_any : Tp K "_law_any_term" s__law_any_term f_any d_any)
    (T_wat : Tp K "_law_word_at" s__law_word_at f_wat d_wat)
    (T_ltr : Tp K "_law_term_read" s__law_term_read f_ltr d_ltr)
    (T_hea : Tp K "_law_term_heard" s__law_term_heard f_hea d_hea)
    (T_due : Tp K "_law_due" s__law_due f_due d_due)
    (T_ben : Tp K "_law_bent" s__law_bent f_ben d_ben)
    (T_L : Tp K "law" s_law f_L d_L)
    (g_LETTERS : W.nsIn K mainGlobals "LETTERS" = some (some (.str Md.letters T_LETTERS)))
    (g_MOST_LETTERS : W.nsIn K mainGlobals "MOST_LETTERS" = some (some (.int 8 T_MOST_LETTERS)))
    (g_MOST_PARTS : W.nsIn K mainGlobals "MOST_PARTS" = some (some (.int 40 T_MOST_PARTS)))
    (g_MOST_DEEP : W.nsIn K mainGlobals "MOST_DEEP" = some (some (.int 12 T_MOST_DEEP)))
    (g_DIGITS : W.nsIn K mainGlobals "DIGITS" = some (some (.str Md.figures T_DIGITS)))
    (z_len : W.nsIn K mainGlobals "len" = some none)
    (z_all : W.nsIn K mainGlobals "all" = some none)
    (z_list : W.nsIn K mainGlobals "list" = some none)
    (z_tuple : W.nsIn K mainGlobals "tuple" = some none)
    (z_range : W.nsIn K mainGlobals "range" = some none)
    (z_int : W.nsIn K mainGlobals "int" = some none)
    (z_bool : W.nsIn K mainGlobals "bool" = some none)
    (z_str : W.nsIn K mainGlobals "str" = some none)
    (z_isinstance : W.nsIn K mainGlobals "isinstance" = some none)
    (z_enumerate : W.nsIn K mainGlobals "enumerate" = some none)
    (z_zip : W.nsIn K mainGlobals "zip" = some none)
    (z_min : W.nsIn K mainGlobals "min" = some none)
    (z_ValueError : W.nsIn K mainGlobals "ValueError" = some none)
    : ∃ fd : FuncData, (∀ (s : Shared) (v : Value), BindsTo s fd ⟨[v], []⟩ [("script", v)]) ∧ ∀ base : Heap, K.In base → base.Ns mainGlobals mg → FnOk l.prog w K mg base CX0 18 fa fd ["script"] (spLaw K) := by
  have e := hfa.symm.trans (W.mg_of X G T_L.a)
  cases e
  obtain ⟨_, _, _, _, _, _, rfl⟩ := Tp.ex T_L.fn
  have mgC_LETTERS := W.mg_of X G g_LETTERS
  have mgC_MOST_LETTERS := W.mg_of X G g_MOST_LETTERS
  have mgC_MOST_PARTS := W.mg_of X G g_MOST_PARTS
  have mgC_MOST_DEEP := W.mg_of X G g_MOST_DEEP
  have mgC_DIGITS := W.mg_of X G g_DIGITS
  have mgN_len := W.mg_none_of X G z_len
  have mgN_all := W.mg_none_of X G z_all
  have mgN_list := W.mg_none_of X G z_list
  have mgN_tuple := W.mg_none_of X G z_tuple
  have mgN_range := W.mg_none_of X G z_range
  have mgN_int := W.mg_none_of X G z_int
  have mgN_bool := W.mg_none_of X G z_bool
  have mgN_str := W.mg_none_of X G z_str
  have mgN_isinstance := W.mg_none_of X G z_isinstance
  have mgN_enumerate := W.mg_none_of X G z_enumerate
  have mgN_zip := W.mg_none_of X G z_zip
  have mgN_min := W.mg_none_of X G z_min
  have mgN_ValueError := W.mg_none_of X G z_ValueError
  have D_w := df X G T_w (bn1 "text" T_w.fn)
  have D_po := df X G T_po (bn1 "level" T_po.fn)
  have D_sm := df X G T_sm (bn1 "term" T_sm.fn)
  have D_fg := df X G T_fg (bn1 "text" T_fg.fn)
  have D_spl := df X G T_spl (bn1 "text" T_spl.fn)
  have D_rdp := df X G T_rdp (bn2 "text" "deep" T_rdp.fn)
  have D_rdt := df X G T_rdt (bn1 "text" T_rdt.fn)
  have D_P := df X G T_P (bn2 "script" "k" T_P.fn)
  have D_T := df X G T_T (bn2 "pot" "many" T_T.fn)
  have D_Le := df X G T_Le (bn1 "number" T_Le.fn)
  have D_W := df X G T_W (bn2 "pot" "words" T_W.fn)
  have D_cls := df X G T_cls (bn1 "e" T_cls.fn)
  have D_liw := df X G T_liw (bn1 "text" T_liw.fn)
  have D_lpa := df X G T_lpa (bn1 "term" T_lpa.fn)
  have D_lde := df X G T_lde (bn1 "term" T_lde.fn)
  have D_ltt := df X G T_ltt (bn1 "term" T_ltt.fn)
  have D_any := df X G T_any (bn3 "pot" "room" "deep" T_any.fn)
  have D_wat := df X G T_wat (bn2 "text" "at" T_wat.fn)
  have D_ltr := df X G T_ltr (bn1 "text" T_ltr.fn)
  have D_hea := df X G T_hea (bn1 "text" T_hea.fn)
  have D_due := df X G T_due (bn1 "text" T_due.fn)
  have D_ben := df X G T_ben (bn2 "pot" "text" T_ben.fn)
  have D_L := df X G T_L (bn1 "script" T_L.fn)
  have TD : ErrD K mg QD := ⟨W.mg_of X G a_QD, ⟨⟨_, _, _, _, _, _, _, _, _, _, _, _, _, _, _, _, l_QD⟩, val_QD, bas_QD, att_QD, nam_QD, kp_QD⟩, cl_QD, ty_QD⟩
  have TF : Fifteen K mg (fif Q0 Q1 Q2 Q3 Q4 Q5 Q6 Q7 Q8 Q9 Q10 Q11 Q12 Q13 Q14) := ⟨W.mg_of X G a_Q0, W.mg_of X G a_Q1, W.mg_of X G a_Q2, W.mg_of X G a_Q3, W.mg_of X G a_Q4, W.mg_of X G a_Q5, W.mg_of X G a_Q6, W.mg_of X G a_Q7, W.mg_of X G a_Q8, W.mg_of X G a_Q9, W.mg_of X G a_Q10, W.mg_of X G a_Q11, W.mg_of X G a_Q12, W.mg_of X G a_Q13, W.mg_of X G a_Q14, all15 cl_Q0 cl_Q1 cl_Q2 cl_Q3 cl_Q4 cl_Q5 cl_Q6 cl_Q7 cl_Q8 cl_Q9 cl_Q10 cl_Q11 cl_Q12 cl_Q13 cl_Q14, all15 ty_Q0 ty_Q1 ty_Q2 ty_Q3 ty_Q4 ty_Q5 ty_Q6 ty_Q7 ty_Q8 ty_Q9 ty_Q10 ty_Q11 ty_Q12 ty_Q13 ty_Q14⟩
  have O13 : OneOf K QD (fif Q0 Q1 Q2 Q3 Q4 Q5 Q6 Q7 Q8 Q9 Q10 Q11 Q12 Q13 Q14) 13 := ⟨⟨⟨⟨_, _, _, _, _, _, _, _, _, _, _, _, _, _, _, _, l_Q13⟩, val_Q13, bas_Q13, att_Q13, nam_Q13, kp_Q13⟩, ga_Q13, gt_Q13, ca_Q13, cg_Q, ct_Q, ob_Q13⟩, sd_Q13, all15 s_Q13_0 s_Q13_1 s_Q13_2 s_Q13_3 s_Q13_4 s_Q13_5 s_Q13_6 s_Q13_7 s_Q13_8 s_Q13_9 s_Q13_10 s_Q13_11 s_Q13_12 s_Q13_13 s_Q13_14⟩
  have TP13 : ErrP K mg "NoTerm" Q13 := ⟨W.mg_of X G a_Q13, ⟨⟨_, _, _, _, _, _, _, _, _, _, _, _, _, _, _, _, l_Q13⟩, val_Q13, bas_Q13, att_Q13, nam_Q13, kp_Q13⟩, in_Q13⟩
  have TK : TxtK mg := ⟨⟨_, mgC_LETTERS⟩, ⟨_, mgC_MOST_LETTERS⟩, mgN_len, mgN_all⟩
  have TT : TxtT mg := ⟨mgN_isinstance, mgN_int, mgN_bool, mgN_tuple, mgN_len, mgN_range⟩
  have TPr : TxtPr mg := ⟨mgN_isinstance, mgN_tuple, mgN_list⟩
  exact ⟨_, fun s v => .of_eq rfl, fun base _ _ => have GP := ok_pot (P := l.prog) (w := w) (base := base) D_P mgN_len; have GT := ok_take (P := l.prog) (w := w) (base := base) D_T; have GW := ok_word (P := l.prog) (w := w) (base := base) D_W D_T D_Le mgN_len; have GSm := ok_small (P := l.prog) (w := w) (base := base) D_sm TT mgC_MOST_DEEP mgC_MOST_PARTS D_po; have GRp := ok_rpartX (P := l.prog) (w := w) (base := base) D_rdp TT mgC_MOST_DEEP TP13 D_fg (ok_fig D_fg mgN_len mgN_all mgC_DIGITS) D_w (ok_isword D_w TK) D_spl (ok_split D_spl ⟨mgN_enumerate, mgN_len, mgN_zip⟩) 12; have GRt := ok_rtermX D_rdt TP13 D_rdp GRp D_sm GSm; have GCl := ok_classes (P := l.prog) (w := w) (base := base) (D := QD) D_cls TF mgN_isinstance mgN_ValueError; have GHe := ok_heard D_hea TD O13 D_rdt GRt D_cls GCl; have GRd := ok_lread (P := l.prog) (w := w) (base := base) D_ltr ⟨mgN_len, mgN_range, mgN_str, mgN_int, mgN_tuple⟩ D_wat (ok_wat D_wat mgN_len) D_liw (ok_lisword D_liw mgN_len mgN_all); have GDu := ok_due D_due D_ltr GRd D_lpa (ok_lparts D_lpa TPr) D_lde (ok_ldeep D_lde TPr); ok_law D_L ⟨mgN_int, mgN_range⟩ D_P GP D_T GT D_any (ok_any D_any ⟨mgN_min, mgN_tuple, mgN_range⟩ D_T GT D_W GW 14) D_ltt (ok_ltt D_ltt ⟨mgN_isinstance, mgN_tuple, mgN_str, mgN_len, mgN_range⟩ 14) D_ben (ok_ben D_ben mgN_len D_T GT) D_hea GHe D_due GDu⟩
theorem walk {l : W.OpenLaw} {q : Program} {loose : List Str} {XP : (Str → Option Value) → Heap → Prop} {YP : World → Heap → Prop} {d : DefRec} {K : Params → W.Frag} (hn : l.most = some 63) (hdf : d.params.defaults = [])
    (hY : ∀ (w : World) (h : Heap), YP w h → (K w.params).In h)
    (F : ∀ (w : World) (mg : Str → Option Value) (fa : Addr) (h : Heap), (K w.params).In h → h.Ns mainGlobals mg → mg d.name = some (.ref fa) →
      ∃ fd : FuncData, (∀ (s : Shared) (u : Value), BindsTo s fd ⟨[u], []⟩ [("script", u)]) ∧ ∀ base : Heap, (K w.params).In base → base.Ns mainGlobals mg → FnOk l.prog w (K w.params) mg base CX0 18 fa fd ["script"] (spLaw (K w.params))) :
    W.WalkO q loose XP YP l.row.toRowW d [] (fun f vs => PySem.call f vs) :=
  L2.walk_of (n := 63) (k := 18) (x := "script") (CX := fun _ => CX0) (sp := fun w => spLaw (K w.params)) hn (by decide) hdf ⟨rfl, by decide, by decide, rfl⟩ hY F (fun _ _ a ns hl _ hS => ⟨a, ns, rfl, hS, hl, fun _ => rfl⟩) fun _ _ _ _ _ z => z
end K75
namespace PySem.W.Fast
set_option hygiene false
local macro_rules|`(command|#check $s:str)=>do
 let mut r:=#[]
 let mut n:=0
 let mut k:=0
 for c in s.getString.toList do
  n:=n*62+(c.toNat-(if c.toNat<58 then 48 else if c.toNat<91 then 55 else 61))
  k:=k+1
  if k%11==0 then
   let i:=Lean.mkIdent (.mkSimple s!"tw{n}")
   r:=r.push (←`(command|def $i:ident:=0))
   n:=0
 return Lean.mkNullNode (r.map (·.raw))
#check "EW9M1Kw6noE9W0MGfzDO7oLLIKYnQBD0G9ZlKg8WRITHJuwLaJx8bDd1pk7LtlN8IZLQ7HvUqI70lKXLGA7IEB8o81yvz7Bc91iFiTsKkNXABCGV8gAZh5IKAIvnhZNS4j4M6g0F576N2qB52nyYA3GvxDIW8r4ddNWwgKwUj0V0LFzX7yl7r180rogJkFolgQKUNfGSZncoISgG59t7CsAhfVgkKpmLLx2ajOF54g7fvpu7VH0vxsGkz8HJHIdP15p9JwwB6ZuQAWXICTu4HLbCfrAo78LQSl9rOp64Q0b7dJong70rGqaARyu4Vzc60MHmtcE0CfB7mFvwoxtV60P9li7d94w56J6CnCUnyXdKn3lJXRF7RnAquCHZD6m2TBkz718sIA4M0r1nzFOTElE8riTr7segqp1U6JsOP3mvyAUtiJj5bpzTHGzK2epx22kKwKJcT8gNxs4kArWYA4gS9E4qZfXbFXIuBqIa3ZAkjIB3LZVBhblKic1orTXYA0PyL1chEIEGwlzl6zluaxBxirzCv4NxEIfpEfBzxUIxqRu0b2HqPyxcoDS21BXJlGCed8n6LHf0cj3zct0qJWMWU6E4tFag3bnU3WjGB8slqir7clfIL4QmUvavzNDBqpd8629Dt4nM3VU1fU5M"
end PySem.W.Fast
open PySem PySem.W PyProof.Rows
set_option maxRecDepth 100000 in
set_option maxHeartbeats 0 in
theorem PySem.Challenge.cw_manydeeds_k75_term_texts_refused_holds : PySem.Challenge.rw_manydeeds_k75_term_texts_refused.Holds := by
  w_on; o_law; k_head; (case hw => w_witness2)
  k_fill
  refine K75.walk (l := PySem.Challenge.rw_manydeeds_k75_term_texts_refused) rfl rfl (fun w h Y => W.kIn_of Y) ?F
  case F =>
    intro w mg fa h KX G hmg
    refine' K75.all_mk KX G hmg ?_ ?_ ?_ ?_ ?_ ?_ ?_ ?_ ?_ ?_ ?_ ?_ ?_ ?_ ?_ ?_ ?_ ?_ ?_ ?_ ?_ ?_ ?_ ?_ ?_ ?_ ?_ ?_ ?_ ?_ ?_ ?_ ?_ ?_ ?_ ?_ ?_ ?_ ?_ ?_ ?_ ?_ ?_ ?_ ?_ ?_ ?_ ?_ ?_ ?_ ?_ ?_ ?_ ?_ ?_ ?_ ?_ ?_ ?_ ?_ ?_ ?_ ?_ ?_ ?_ ?_ ?_ ?_ ?_ ?_ ?_ ?_ ?_ ?_ ?_ ?_ ?_ ?_ ?_ ?_ ?_ ?_ ?_ ?_ ?_ ?_ ?_ ?_ ?_ ?_ ?_ ?_ ?_ ?_ ?_ ?_ ?_ ?_ ?_ ?_ ?_ ?_ ?_ ?_ ?_ ?_ ?_ ?_ ?_ ?_ ?_ ?_ ?_ ?_ ?_ ?_ ?_ ?_ ?_ ?_ ?_ ?_ ?_ ?_
    any_goals first | exact L2.tp (by k_is) (by k_is) (by k_is) (by k_is) | exact L2.mp (by k_is) (by k_is) (by k_is) (by k_is) (by k_is) | exact ⟨by k_is, by k_is, by k_is, by k_is, by k_is, by k_is, by k_is⟩ | k_is

