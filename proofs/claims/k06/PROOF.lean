import PyProof.Rows.All
import Wide.All
import OpenK.AllK
import Wide.FinOn
import Lean
import PyProof.EqAt
import PyProof.EqKinds
import PyProof.TupleCall
import PySem.Challenge.RW_manydeeds_k06_kinds_refused
set_option Elab.async false
set_option linter.all false
set_option maxRecDepth 100000
/-! THE HAND LAYER, for ints, bools, texts, own classes, LISTS and tuples (index, slices, in, append, pop ..), calls, loops. Paste it whole ahead of your own text; what your proof does not reach may be deleted. -/
namespace L2
open PySem PySem.Spec PyProof.Rows

/-- a key: an int or a str -/
abbrev Key := Sum Int Str
def keyIs : Key → Value → Bool
  | .inl k, v => Value.isInt k v
  | .inr x, v => Value.isStrOf x v
def keyH (w : World) : Key → Int
  | .inl k => hashInt k
  | .inr x => hashStr w x
theorem keyIs_shape : ∀ {k : Key} {v : Value}, keyIs k v = true → (∃ i t, k = Sum.inl i ∧ v = Value.int i t) ∨ (∃ x t, k = Sum.inr x ∧ v = Value.str x t)
  | .inl i, v, h => by
    obtain ⟨t, e⟩ := Value.isInt_shape (k := i) (v := v) h
    exact .inl ⟨i, t, rfl, e⟩
  | .inr x, v, h => by
    obtain ⟨t, e⟩ := Value.isStrOf_shape (x := x) (v := v) h
    exact .inr ⟨x, t, rfl, e⟩
theorem keyIs_int (i : Int) (t : Tok) : keyIs (.inl i) (.int i t) = true := by simp [keyIs, Value.isInt]
theorem keyIs_str (x : Str) (t : Tok) : keyIs (.inr x) (.str x t) = true := by simp [keyIs, Value.isStrOf]
theorem key_ll (a b : Int) : decide ((Sum.inl a : Key) = Sum.inl b) = (a == b) := by
  by_cases e : a = b
  · subst e; simp
  · have h : ¬ (Sum.inl a : Key) = Sum.inl b := fun q => e (Sum.inl.inj q)
    rw [decide_eq_false h]
    exact (beq_eq_false_iff_ne.mpr e).symm
theorem key_rr (a b : Str) : decide ((Sum.inr a : Key) = Sum.inr b) = decide (a = b) := by
  by_cases e : a = b
  · subst e; simp
  · have h : ¬ (Sum.inr a : Key) = Sum.inr b := fun q => e (Sum.inr.inj q)
    rw [decide_eq_false h, decide_eq_false e]
theorem key_lr (a : Int) (b : Str) : decide ((Sum.inl a : Key) = Sum.inr b) = false := decide_eq_false (fun q => nomatch q)
theorem key_rl (a : Str) (b : Int) : decide ((Sum.inr a : Key) = Sum.inl b) = false := decide_eq_false (fun q => nomatch q)

def mixKind (prog : Program) (w : World) : PySem.KeyKind prog w Key where
  is := keyIs
  hash := keyH w
  inj := fun v a b ha hb => by
    rcases keyIs_shape ha with ⟨i, t, rfl, rfl⟩ | ⟨x, t, rfl, rfl⟩
    · rcases keyIs_shape hb with ⟨j, u, rfl, e⟩ | ⟨y, u, rfl, e⟩
      · injection e with e1 _; rw [e1]
      · exact nomatch e
    · rcases keyIs_shape hb with ⟨j, u, rfl, e⟩ | ⟨y, u, rfl, e⟩
      · exact nomatch e
      · injection e with e1 _; rw [e1]
  byValue := fun k v h => by
    rcases keyIs_shape h with ⟨i, t, rfl, rfl⟩ | ⟨x, t, rfl, rfl⟩ <;> rfl
  pyHash := fun hv h => by
    rcases keyIs_shape hv with ⟨i, t, rfl, rfl⟩ | ⟨x, t, rfl, rfl⟩
    · exact wpAny_pyHash_int h
    · exact wpAny_pyHash_str h
  eqBool := fun hu hv h => by
    rcases keyIs_shape hu with ⟨i, t, rfl, rfl⟩ | ⟨x, t, rfl, rfl⟩
    · rcases keyIs_shape hv with ⟨j, u, rfl, rfl⟩ | ⟨y, u, rfl, rfl⟩
      · rw [key_ll] at h; exact wpAny_eqBool_int h
      · rw [key_lr] at h; exact SeqAt.EqAt.int_str i t y u _ _ _ _ h
    · rcases keyIs_shape hv with ⟨j, u, rfl, rfl⟩ | ⟨y, u, rfl, rfl⟩
      · rw [key_rl] at h; exact SeqAt.EqAt.str_int x t j u _ _ _ _ h
      · rw [key_rr] at h; exact wpAny_eqBool_str h
  «strs» := fun k x t v h => by
    rcases keyIs_shape h with ⟨i, u, rfl, e⟩ | ⟨y, u, rfl, e⟩
    · exact nomatch e
    · injection e with e1 _
      subst e1
      cases v <;> rfl

theorem mixKind_int (prog : Program) (w : World) (i : Int) (t : Tok) : (mixKind prog w).is (.inl i) (.int i t) = true := keyIs_int i t
theorem mixKind_str (prog : Program) (w : World) (x : Str) (t : Tok) : (mixKind prog w).is (.inr x) (.str x t) = true := keyIs_str x t
end L2

namespace L2
open PySem PySem.Spec PyProof.Rows

/-- a value, without the heap -/
inductive V where
  | non | bl (b : Bool) | int (i : Int) | str (x : Str) | byt (b : Array UInt8) | flt (b : UInt64) | ref (a : Addr) | ty (n : String)
  deriving DecidableEq

def RelV : V → Value → Prop
  | .non, u => u = Value.none
  | .bl b, u => u = Value.bool b
  | .int i, u => ∃ t, u = Value.int i t
  | .str x, u => ∃ t, u = Value.str x t
  | .byt b, u => ∃ t, u = Value.bytes b t
  | .flt b, u => ∃ t, u = Value.float b t
  | .ref a, u => u = Value.ref a
  | .ty n, u => u = Value.type n

abbrev Vals : List V → List Value → Prop := Paired RelV
theorem Vals.length {xs : List V} {us : List Value} (r : Vals xs us) : xs.length = us.length := Paired.length r
theorem Vals.get : ∀ {xs : List V} {us : List Value} {i : Nat} {x : V}, Vals xs us → xs[i]? = some x → ∃ u, us[i]? = some u ∧ RelV x u
  | _, _, _, _, .nil, e => by simp at e
  | _, _, 0, _, .cons r _, e => by simp at e; subst e; exact ⟨_, rfl, r⟩
  | _, _, i + 1, x, .cons _ t, e => by
    obtain ⟨u, h1, h2⟩ := Vals.get (i := i) (x := x) t (by simpa using e)
    exact ⟨u, by simpa using h1, h2⟩
theorem Vals.set {x : V} {u : Value} (r : RelV x u) : ∀ {xs : List V} {us : List Value} (i : Nat), Vals xs us → Vals (xs.set i x) (us.set i u)
  | _, _, _, .nil => .nil
  | _, _, 0, .cons _ t => .cons r t
  | _, _, i + 1, .cons q t => .cons q (Vals.set r i t)
theorem Vals.append : ∀ {xs ys : List V} {us ws : List Value}, Vals xs us → Vals ys ws → Vals (xs ++ ys) (us ++ ws)
  | _, _, _, _, .nil, s => s
  | _, _, _, _, .cons r t, s => .cons r (Vals.append t s)
theorem Vals.take : ∀ {xs : List V} {us : List Value} (n : Nat), Vals xs us → Vals (xs.take n) (us.take n)
  | _, _, 0, _ => .nil
  | _, _, _ + 1, .nil => .nil
  | _, _, n + 1, .cons r t => .cons r (Vals.take n t)
theorem Vals.drop : ∀ {xs : List V} {us : List Value} (n : Nat), Vals xs us → Vals (xs.drop n) (us.drop n)
  | _, _, 0, r => r
  | _, _, _ + 1, .nil => .nil
  | _, _, n + 1, .cons _ t => Vals.drop n t
def RelO : Option V → Option Value → Prop
  | some v, some u => RelV v u
  | none, none => True
  | _, _ => False
def KV {κ : Type} : List (κ × V) → List (κ × Value) → Prop := Paired fun (p : κ × V) (q : κ × Value) => p.1 = q.1 ∧ RelV p.2 q.2

/-- a key of a dict (00_mix): an int or a text -/
def kV : Key → V
  | .inl i => .int i
  | .inr x => .str x

/-- what stands at a tracked address -/
inductive HO where
  /-- a list -/
  | lst (xs : List V)
  /-- a tuple (never changes) -/
  | tup (xs : List V)
  /-- a dict whose keys are ints and texts; one whose keys are tuples of ints and texts (the empty one is both) -/
  | dK (kvs : List (Key × V)) | dT (kvs : List (List Key × V))
  /-- a set of ints: its members, its size -/
  | set (S : Int → Bool) (n : Nat)
  /-- an instance of the class at C, its dict at dx, its attributes -/
  | ins (C dx : Addr) (fs : List (Str × V))
  /-- the dict of the instance at x -/
  | own (x : Addr)
  /-- the dict of an exception -/
  | xd (fs : List (Str × V))
  /-- a bound method, f of x -/
  | met (f x : Addr)
  /-- a range object lo, lo + 1, .. below hi -/
  | rng (lo hi : Int)
  /-- a thing that is known to the object (the script; a dict while a loop walks it): read, never written while it is so -/
  | frz (o : Obj) (u : HO)
  /-- a code object's table -/
  | tbl (ps : Array Value)
  /-- any other thing, by what is true of its one object (a def of one's own: SetO a S n := HO.ext fun h => ..) -/
  | ext (φ : Heap → Prop)

abbrev Hp := Addr → Option HO
def upd (H : Hp) (a : Addr) (o : HO) : Hp := fun b => if b = a then some o else H b
theorem upd_same {H : Hp} {a : Addr} {o : HO} : upd H a o a = some o := by unfold upd; rw [if_pos rfl]
theorem upd_ne {H : Hp} {a b : Addr} {o : HO} (h : b ≠ a) : upd H a o b = H b := by unfold upd; rw [if_neg h]
theorem upd_upd {H : Hp} {a : Addr} {o u : HO} : upd (upd H a o) a u = upd H a u := by
  funext b; unfold upd; split <;> rfl
/-- two objects of different content stand apart -/
theorem ne_of {H : Hp} {a b : Addr} {o u : HO} (h : H a = some o) (h' : H b = some u) (d : o ≠ u) : a ≠ b := by
  intro e; subst e; rw [h] at h'; exact d (Option.some.inj h')
theorem ne_of_none {H : Hp} {a b : Addr} {o : HO} (h : H a = some o) (h' : H b = none) : a ≠ b := by
  intro e; subst e; rw [h] at h'; cases h'

section
variable (P : Program) (w : World)
def ObjOk (H : Hp) (h : Heap) (a : Addr) : HO → Prop
  | .lst xs => xs.length ≤ sizeLine ∧ ∃ (its : List Value) (n : Nat), Vals xs its ∧ h.get? a = some { cls := .type "list", data := .seq its.toArray n }
  | .tup xs => xs.length ≤ sizeLine ∧ ∃ its : List Value, Vals xs its ∧ IsTup h a its.toArray
  | .dK kvs => kvs.length ≤ sizeLine ∧ (a == sysModules) = false ∧ ∃ vs, KV kvs vs ∧ h.DictOf (mixKind P w) a vs
  | .dT kvs => kvs.length ≤ sizeLine ∧ (a == sysModules) = false ∧ ∃ xs : List (List Key × Addr × Value),
      Paired (fun (p : List Key × V) (q : List Key × Addr × Value) => p.1 = q.1 ∧ H q.2.1 = some (.tup (p.1.map kV)) ∧ RelV p.2 q.2.2) kvs xs ∧
      ∃ o es ep, h.get? a = some o ∧ o.ExactDict ∧ o.data = .dict es ep ∧ es.toList = xs.map (entryOfKey (tupleKind (mixKind P w))) ∧ (xs.map (·.1)).Nodup
  | .set S n => h.SetOf (intKind P w) a S n
  | .ins C dx fs => H dx = some (.own a) ∧ fs.length ≤ 1000 ∧ dx ≠ a ∧ h.get? a = some (PySem.W.instObj C dx) ∧
      ∃ mA, h.Ns1 dx mA ∧ (∀ f, RelO (fs.lookup f) (mA f)) ∧ PySem.Within mA (fs.map (·.1))
  | .own _ => ∃ o, h.get? a = some o
  | .xd fs => ∃ mA, h.Ns1 a mA ∧ ∀ f, RelO (fs.lookup f) (mA f)
  | .rng lo hi => ∃ t u v, h.get? a = some { cls := .type "range", data := .fields #[.int lo t, .int hi u, .int 1 v] }
  | .frz o u => h.get? a = some o ∧ ObjOk H h a u
  | .tbl ps => h.get? a = some { cls := .none, data := .fields ps }
  | .met f x => h.get? a = some (PySem.W.methodObj (.ref f) (.ref x))
  | .ext φ => φ h ∧ (∃ o, h.get? a = some o) ∧ ∀ h1 h2 : Heap, φ h1 → (∀ o, h1.get? a = some o → h2.get? a = some o) → φ h2
/-- the abstract heap is held -/
def HOk (H : Hp) (h : Heap) : Prop := ∀ a o, H a = some o → ObjOk P w H h a o
end

section
variable {P : Program} {w : World} {H H' : Hp} {h h' : Heap} {a : Addr} {o : HO}
theorem ObjOk.lt (x : ObjOk P w H h a o) : a < h.objs.size := by
  cases o with
  | lst xs => obtain ⟨_, _, _, _, e⟩ := x; exact Heap.lt_size e
  | tup xs => obtain ⟨_, _, _, p⟩ := x; exact p.lt
  | dK kvs => obtain ⟨_, _, _, _, o, _, _, e, _⟩ := x; exact Heap.lt_size e
  | dT kvs => obtain ⟨_, _, _, _, o, _, _, e, _⟩ := x; exact Heap.lt_size e
  | set S n => obtain ⟨o, _, _, _, e, _⟩ := x; exact Heap.lt_size e
  | ins C dx fs => obtain ⟨_, _, _, e, _⟩ := x; exact Heap.lt_size e
  | own y => obtain ⟨_, e⟩ := x; exact Heap.lt_size e
  | xd fs => obtain ⟨_, ⟨_, _, _, e, _⟩, _⟩ := x; exact Heap.lt_size e
  | rng lo hi => obtain ⟨_, _, _, e⟩ := x; exact Heap.lt_size e
  | frz ob u => obtain ⟨e, _⟩ := x; exact Heap.lt_size e
  | tbl ps => exact Heap.lt_size (show h.get? a = some _ from x)
  | met f y => exact Heap.lt_size (show h.get? a = some _ from x)
  | ext φ => obtain ⟨_, ⟨_, e⟩, _⟩ := x; exact Heap.lt_size e
theorem Paired.mapP {α β : Type} {F G : α → β → Prop} : ∀ {l₁ : List α} {l₂ : List β}, Paired F l₁ l₂ → (∀ a b, F a b → G a b) → Paired G l₁ l₂
  | _, _, .nil, _ => .nil
  | _, _, .cons r t, f => .cons (f _ _ r) (Paired.mapP t f)
/-- what an object's description leans on: its own object, its own dict, the tuples -/
theorem ObjOk.stay (x : ObjOk P w H h a o) (k : ∀ b u, (b = a ∨ H b = some (.own a)) → h.get? b = some u → h'.get? b = some u)
    (ho : ∀ b, H b = some (.own a) → H' b = some (.own a)) (ht : ∀ b xs, H b = some (.tup xs) → H' b = some (.tup xs)) : ObjOk P w H' h' a o := by
  induction o with
  | lst xs => obtain ⟨z, its, n, r, e⟩ := x; exact ⟨z, its, n, r, k _ _ (.inl rfl) e⟩
  | tup xs => obtain ⟨z, its, r, ob, e, c⟩ := x; exact ⟨z, its, r, ob, k _ _ (.inl rfl) e, c⟩
  | dK kvs => obtain ⟨z, y, vs, r, ob, es, ep, e, c⟩ := x; exact ⟨z, y, vs, r, ob, es, ep, k _ _ (.inl rfl) e, c⟩
  | dT kvs =>
    obtain ⟨z, y, xs, r, ob, es, ep, e, c⟩ := x
    exact ⟨z, y, xs, Paired.mapP r fun p q z => ⟨z.1, ht _ _ z.2.1, z.2.2⟩, ob, es, ep, k _ _ (.inl rfl) e, c⟩
  | set S n => obtain ⟨ob, es, ep, t, e, c⟩ := x; exact ⟨ob, es, ep, t, k _ _ (.inl rfl) e, c⟩
  | ins C dx fs =>
    obtain ⟨d, z, ne, e, mA, ⟨od, es, ep, e2, c⟩, r⟩ := x
    exact ⟨ho _ d, z, ne, k _ _ (.inl rfl) e, mA, ⟨od, es, ep, k _ _ (.inr d) e2, c⟩, r⟩
  | own y => obtain ⟨ob, e⟩ := x; exact ⟨ob, k _ _ (.inl rfl) e⟩
  | xd fs => obtain ⟨mA, ⟨od, es, ep, e, c⟩, r⟩ := x; exact ⟨mA, ⟨od, es, ep, k _ _ (.inl rfl) e, c⟩, r⟩
  | rng lo hi => obtain ⟨t, u, v, e⟩ := x; exact ⟨t, u, v, k _ _ (.inl rfl) e⟩
  | frz ob u ih => obtain ⟨e, q⟩ := x; exact ⟨k _ _ (.inl rfl) e, ih q⟩
  | tbl ps =>
    have e : h.get? a = some { cls := .none, data := .fields ps } := x
    show h'.get? a = some { cls := .none, data := .fields ps }
    exact k a _ (.inl rfl) e
  | met f y =>
    have e : h.get? a = some (PySem.W.methodObj (.ref f) (.ref y)) := x
    show h'.get? a = some (PySem.W.methodObj (.ref f) (.ref y))
    exact k a _ (.inl rfl) e
  | ext φ => obtain ⟨p, ⟨o, e⟩, st⟩ := x; exact ⟨st _ _ p fun o q => k _ _ (.inl rfl) q, ⟨o, k _ _ (.inl rfl) e⟩, st⟩
theorem HOk.lt (x : HOk P w H h) (e : H a = some o) : a < h.objs.size := (x a o e).lt
theorem HOk.fresh (x : HOk P w H h) (e : h.objs.size ≤ a) : H a = none := by
  cases q : H a with
  | none => rfl
  | some u => exact absurd (Nat.lt_of_lt_of_le (x.lt q) e) (Nat.lt_irrefl _)
/-- every object of the heap is kept -/
theorem HOk.kept (x : HOk P w H h) (k : ∀ b u, h.get? b = some u → h'.get? b = some u) : HOk P w H h' := fun a o e =>
  (x a o e).stay (fun b u _ q => k b u q) (fun _ q => q) fun _ _ q => q
/-- a new object is laid and tracked -/
theorem HOk.laid (x : HOk P w H h) (k : ∀ b u, h.get? b = some u → h'.get? b = some u) (hp : h.objs.size ≤ a) (new : ObjOk P w (upd H a o) h' a o) : HOk P w (upd H a o) h' := fun b u e => by
  have hn := x.fresh hp
  by_cases hb : b = a
  · subst hb; rw [upd_same] at e; cases e; exact new
  · rw [upd_ne hb] at e
    exact (x b u e).stay (fun c v _ q => k c v q) (fun c q => by rw [upd_ne (ne_of_none q hn)]; exact q) fun c xs q => by rw [upd_ne (ne_of_none q hn)]; exact q
end

/-- what may be read as u: it is u, or a known u -/
def Rd (H : Hp) (a : Addr) (u : HO) : Prop := H a = some u ∨ ∃ o, H a = some (.frz o u)
theorem Rd.ok {P : Program} {w : World} {H : Hp} {h : Heap} {a : Addr} {u : HO} (r : Rd H a u) (x : HOk P w H h) : ObjOk P w H h a u := by
  rcases r with r | ⟨o, r⟩
  · exact x a u r
  · obtain ⟨_, q⟩ := x a _ r
    exact q
/-- what may be written -/
def Mut : Option HO → Prop
  | some (.lst _) => True
  | some (.dK _) => True
  | some (.dT _) => True
  | some (.set _ _) => True
  | some (.ins _ _ _) => True
  | some (.ext _) => True
  | _ => False
section
variable {P : Program} {w : World} {H : Hp} {h h' : Heap} {x e : Addr} {o' : HO}
/-- the object at e is changed: x itself, or the dict of the instance x -/
theorem HOk.write (ok : HOk P w H h) (mu : Mut (H x)) (he : e = x ∨ H e = some (.own x)) (k : ∀ b u, b ≠ e → h.get? b = some u → h'.get? b = some u) (heo : ∃ u, h'.get? e = some u)
    (new : ObjOk P w (upd H x o') h' x o') : HOk P w (upd H x o') h' := fun b u q => by
  have nown : ∀ c y, H c = some (.own y) → c ≠ x := fun c y r z => by subst z; rw [r] at mu; exact mu
  have ntup : ∀ c xs, H c = some (.tup xs) → c ≠ x := fun c xs r z => by subst z; rw [r] at mu; exact mu
  by_cases hb : b = x
  · subst hb; rw [upd_same] at q; cases q; exact new
  · rw [upd_ne hb] at q
    by_cases hbe : b = e
    · have q' : H b = some (.own x) := by
        rcases he with z | z
        · exact absurd (hbe.trans z) hb
        · rw [hbe]; exact z
      rw [q] at q'; cases q'
      obtain ⟨v, hv⟩ := heo
      exact ⟨v, by rw [hbe]; exact hv⟩
    · refine (ok b u q).stay (fun c v hc r => k c v ?_ r) (fun c r => by rw [upd_ne (nown c b r)]; exact r) fun c xs r => by rw [upd_ne (ntup c xs r)]; exact r
      rcases hc with rfl | hc
      · exact hbe
      · rintro rfl
        rcases he with z | z
        · exact nown c b hc z
        · rw [hc] at z; cases z; exact hb rfl
end

/-! ### kept unless tracked; of the frames at fs (the callers') the slots may change (an exception that passes writes there); of the records at ex (iterators) nothing is said -/
structure Un (fs ex : List Addr) (H H' : Hp) (h h' : Heap) : Prop where
  keep : ∀ b o, h.get? b = some o → H b = none → b ∉ fs → b ∉ ex → h'.get? b = some o
  slot : ∀ b o, h.get? b = some o → H b = none → b ∈ fs → b ∉ ex → ∃ sl, h'.get? b = some { o with slots := sl }
  free : ∀ b o, h.get? b = some o → H b = none → b ∉ ex → H' b = none
  there : ∀ b o, h.get? b = some o → b ∉ ex → ∃ o', h'.get? b = some o'
  tups : ∀ b xs, H b = some (.tup xs) → H' b = some (.tup xs)
  frzs : ∀ b o u, H b = some (.frz o u) → H' b = some (.frz o u)
  tbls : ∀ b ps, H b = some (.tbl ps) → ∃ more, H' b = some (.tbl (ps ++ more))
section
variable {fs fs' ex ex' : List Addr} {H H1 H2 : Hp} {h h1 h2 h' : Heap} {a x e : Addr} {o : HO}
theorem Un.any (u : Un fs ex H H1 h h1) {b : Addr} {ob : Obj} (q : h.get? b = some ob) (n : H b = none) (hx : b ∉ ex) : ∃ sl, h1.get? b = some { ob with slots := sl } := by
  by_cases hb : b ∈ fs
  · exact u.slot b ob q n hb hx
  · exact ⟨ob.slots, u.keep b ob q n hb hx⟩
theorem Un.kept (k : ∀ b u, h.get? b = some u → h'.get? b = some u) : Un fs ex H H h h' :=
  ⟨fun b ob q _ _ _ => k b ob q, fun b ob q _ _ _ => ⟨ob.slots, k b ob q⟩, fun _ _ _ n _ => n, fun b ob q _ => ⟨ob, k b ob q⟩, fun _ _ q => q, fun _ _ _ q => q, fun _ ps q => ⟨#[], by rw [q]; simp⟩⟩
theorem Un.refl : Un fs ex H H h h := Un.kept fun _ _ q => q
theorem Un.laid (k : ∀ b u, h.get? b = some u → h'.get? b = some u) (hp : h.objs.size ≤ a) (hn : H a = none) : Un fs ex H (upd H a o) h h' where
  keep := fun b u q _ _ _ => k b u q
  slot := fun b u q _ _ _ => ⟨u.slots, k b u q⟩
  free := fun b u q n _ => by rw [upd_ne (Nat.ne_of_lt (Nat.lt_of_lt_of_le (Heap.lt_size q) hp))]; exact n
  there := fun b u q _ => ⟨u, k b u q⟩
  tups := fun b xs q => by rw [upd_ne (ne_of_none q hn)]; exact q
  frzs := fun b u xs q => by rw [upd_ne (ne_of_none q hn)]; exact q
  tbls := fun b ps q => ⟨#[], by rw [upd_ne (ne_of_none q hn), q]; simp⟩
theorem Un.write (mu : Mut (H x)) (he : e = x ∨ H e = some (.own x)) (k : ∀ b u, b ≠ e → h.get? b = some u → h'.get? b = some u) (heo : ∃ u, h'.get? e = some u) : Un fs ex H (upd H x o) h h' := by
  have hx : ∀ b, H b = none → b ≠ x := fun b n z => by subst z; rw [n] at mu; exact mu
  have hb : ∀ b, H b = none → b ≠ e := fun b n z => by
    subst z
    rcases he with r | r
    · exact hx b n r
    · rw [n] at r; cases r
  have hm : ∀ b u, H b = some u → ¬ Mut (some u) → b ≠ x := fun b u q nm z => by subst z; rw [q] at mu; exact nm mu
  refine ⟨fun b u q n _ _ => k b u (hb b n) q, fun b u q n _ _ => ⟨u.slots, k b u (hb b n) q⟩, fun b u q n _ => by rw [upd_ne (hx b n)]; exact n, fun b u q _ => ?_,
    fun b xs q => by rw [upd_ne (hm b _ q fun z => z)]; exact q, fun b u xs q => by rw [upd_ne (hm b _ q fun z => z)]; exact q, fun b ps q => ⟨#[], by rw [upd_ne (hm b _ q fun z => z), q]; simp⟩⟩
  by_cases hbe : b = e
  · subst hbe; exact heo
  · exact ⟨u, k b u hbe q⟩
end

/-! ### the heap without what is tracked -/
def trk (h : Heap) (H : Hp) : List Addr := (List.range h.objs.size).filter fun a => (H a).isSome
def hidT (h : Heap) (H : Hp) : Heap := PySem.W.hideAll h (trk h H)
theorem hidT_size (h : Heap) (H : Hp) : (hidT h H).objs.size = h.objs.size := PySem.W.hideAll_size _ _
theorem hidT_get {h : Heap} {H : Hp} {b : Addr} {o : Obj} (e : h.get? b = some o) (n : H b = none) : (hidT h H).get? b = some o :=
  PySem.W.hideAll_get _ e fun hm => by
    have q : (H b).isSome = true := (List.mem_filter.mp hm).2
    rw [n] at q; simp at q
theorem of_hidT {h : Heap} {H : Hp} {b : Addr} {o : Obj} (e : (hidT h H).get? b = some o) : h.get? b = some o ∧ H b = none := by
  have e' : h.get? b = some o := PySem.W.of_hideAll (trk h H) e
  refine ⟨e', ?_⟩
  cases q : H b with
  | none => rfl
  | some x =>
    have hm : b ∈ trk h H := List.mem_filter.mpr ⟨List.mem_range.mpr (Heap.lt_size e'), by simp [q]⟩
    have z : (hidT h H).get? b = none := PySem.W.hideAll_none (trk h H) hm
    rw [z] at e; cases e

/-! ### OpenK's ledger, filled with every new object but one -/
def allNews (g h : Heap) (L : Addr) : List (Addr × Obj) := (List.range h.objs.size).filterMap fun a => if a = L ∨ (g.get? a).isSome = true then none else (h.get? a).map fun o => (a, o)
def rest (g h : Heap) (L d : Addr) : List (Addr × Obj) := (allNews g h L).filter fun p => decide (p.1 ≠ d)
end L2

namespace L2
open PySem PySem.Spec PyProof.Rows

/-- the module's facts, over the base: the heap at the law's entry without what is tracked there -/
structure Mod (K : PySem.W.Frag) (mg : Str → Option Value) (base : Heap) : Prop where
  kin : K.In base
  glob : base.Ns mainGlobals mg
  blt : ∃ mb, base.Ns builtinsNs mb ∧ ∀ x : Str, x ≠ "__name__" → mb x = bootBuiltins x
  nolimit : base.NoLimit

/-- the context: a def's body (or a comprehension's block) running. base: fixed through the whole law; s₀, H₀: the entry; outer: the frames whose slots others may change (a def's callers); stack: all frames that run;
   ex: iterators that were made ahead of the entry and are walked here (a comprehension's); fn: the names whose cells were made at the entry (a def: all; a comprehension's block: its own); calm: not within an except suite; pn: pins that every state bears; xe: what is wanted of an exception that leaves the code -/
structure Cx where
  prog : Program
  w : World
  K : PySem.W.Frag
  mg : Str → Option Value
  base : Heap
  A : Around
  N : List Str
  s₀ : Shared
  H₀ : Hp
  env : Env
  outer : List Env
  stack : List Env
  ex : List Addr
  fn : Str → Bool
  calm : Bool
  pn : List (Addr × Obj)
  xe : Value → Shared → Prop
/-- the callers' frames -/
def frs (l : List Env) : List Addr := l.filterMap (·.frame)
abbrev Cx.fs (X : Cx) : List Addr := frs X.outer

def Vis (sc : Scope) (x : Str) : Prop := sc.names.lookup x = some .local ∨ sc.names.lookup x = some .cell ∨ sc.names.lookup x = some .free
def Loc (sc : Scope) (x : Str) : Prop := sc.names.lookup x = some .local ∨ sc.names.lookup x = some .cell
def Look (env : Env) (h : Heap) (m : Str → Option Value) (x : Str) (u : Value) : Prop :=
  (env.kindOf x = some .local ∧ m x = some u) ∨ ((env.kindOf x = some .cell ∨ env.kindOf x = some .free) ∧ ∃ c, env.cells.lookup x = some c ∧ h.IsCell c (some u))

structure Cx.Ok (X : Cx) : Prop where
  mod : Mod X.K X.mg X.base
  kind : X.env.scope.kind = .function
  glob : X.env.globals = mainGlobals
  blt : X.env.builtins = builtinsNs
  above : X.s₀.heap.objs.size ≤ X.env.locals
  inj : ∀ x y c, X.env.cells.lookup x = some c → X.env.cells.lookup y = some c → x = y
  has : ∀ x, (X.env.kindOf x = some .cell ∨ X.env.kindOf x = some .free) → ∃ c, X.env.cells.lookup x = some c
  cab : ∀ x c, X.fn x = true → X.env.cells.lookup x = some c → X.s₀.heap.objs.size ≤ c
  hd : X.calm = true → X.A.handled = none
  frames : X.A.frames = some X.stack
  stk : X.stack = X.outer ∨ (X.stack = X.env :: X.outer ∧ X.env.frame = some X.env.locals)
  exf : ∀ b ∈ X.ex, b ≠ X.env.locals ∧ ∀ x c, X.env.cells.lookup x = some c → c ≠ b
  bs : ∀ b o, X.base.get? b = some o → X.s₀.heap.get? b = some o ∧ X.H₀ b = none
  bsz : X.base.objs.size ≤ X.s₀.heap.objs.size
  noex : ∀ b o, X.base.get? b = some o → b ∉ X.ex
  exfs : ∀ b ∈ X.ex, b ∉ X.fs
  funs : X.s₀.heap.FunFrames X.base X.outer
  frf : ∀ b ∈ X.fs, X.H₀ b = none

structure Inv (X : Cx) (pins : List (Addr × Obj)) (σ : List (Option V)) (H : Hp) (s : Shared) : Prop where
  ok : X.Ok
  os : s.os = X.s₀.os
  bare : AllBare s.gens
  base : Un X.fs X.ex X.H₀ H X.s₀.heap s.heap
  loc : ∃ m, s.heap.Ns X.env.locals m ∧ ∀ (i : Nat) (x : Str) (v : V), X.N[i]? = some x → σ[i]? = some (some v) → Vis X.env.scope x → ∃ u, RelV v u ∧ Look X.env s.heap m x u
  cell : ∀ x c, X.env.cells.lookup x = some c → ∃ v, s.heap.IsCell c v
  free : H X.env.locals = none
  freeC : ∀ x c, X.env.cells.lookup x = some c → H c = none
  pin : ∀ p ∈ X.pn ++ pins, s.heap.get? p.1 = some p.2 ∧ H p.1 = none ∧ p.1 ≠ X.env.locals ∧ p.1 ∉ X.fs ∧ ∀ v, p.2.data ≠ .cell v
  hok : HOk X.prog X.w H s.heap
  len : σ.length = X.N.length

section
variable {X : Cx} {pins : List (Addr × Obj)} {σ : List (Option V)} {H H' : Hp} {s : Shared} {h' : Heap}

theorem Cx.Ok.nofr (ok : X.Ok) {b : Addr} {o : Obj} (e : X.base.get? b = some o) : b ∉ X.fs := fun hb => by
  have := (ok.funs.mem hb).1
  rw [e] at this; cases this
theorem Inv.bs (I : Inv X pins σ H s) : ∀ b o, X.base.get? b = some o → s.heap.get? b = some o ∧ H b = none := fun b o e =>
  ⟨I.base.keep b o (I.ok.bs b o e).1 (I.ok.bs b o e).2 (I.ok.nofr e) (I.ok.noex b o e), I.base.free b o (I.ok.bs b o e).1 (I.ok.bs b o e).2 (I.ok.noex b o e)⟩
theorem Inv.bk (I : Inv X pins σ H s) : ∀ b o, X.base.get? b = some o → s.heap.get? b = some o := fun b o e => (I.bs b o e).1
theorem Inv.mod (I : Inv X pins σ H s) : Mod X.K X.mg X.base := I.ok.mod
theorem Inv.kIn (I : Inv X pins σ H s) : X.K.In s.heap := I.ok.mod.kin.keeps I.bk
theorem Inv.lt (I : Inv X pins σ H s) : X.env.locals < s.heap.objs.size := let ⟨_, hn, _⟩ := I.loc; hn.lt
theorem Inv.sz (I : Inv X pins σ H s) : X.s₀.heap.objs.size ≤ s.heap.objs.size := Nat.le_trans I.ok.above (Nat.le_of_lt I.lt)
theorem Inv.nofs (I : Inv X pins σ H s) {a : Addr} (h : s.heap.objs.size ≤ a) : a ∉ X.fs := fun hb => by
  obtain ⟨_, o, ho, _⟩ := I.ok.funs.mem hb
  exact absurd (Nat.lt_of_lt_of_le (Heap.lt_size ho) (Nat.le_trans I.sz h)) (Nat.lt_irrefl _)
theorem Inv.cne (I : Inv X pins σ H s) : ∀ x c, X.env.cells.lookup x = some c → c ≠ X.env.locals := fun x c e z => by
  obtain ⟨v, o, ho, hd⟩ := I.cell x c e
  obtain ⟨m, ⟨o', es, ep, ho', hd', _⟩, _⟩ := I.loc
  rw [z, ho'] at ho; cases ho; rw [hd'] at hd; cases hd
theorem Inv.funs (I : Inv X pins σ H s) : s.heap.FunFrames X.base X.outer := by
  have all : ∀ (l : List Env), (∀ b ∈ frs l, b ∈ X.fs) → X.s₀.heap.FunFrames X.base l → s.heap.FunFrames X.base l := by
    intro l
    induction l with
    | nil => intro _ _; trivial
    | cons env r ih =>
      intro hs hl
      obtain ⟨hk, ⟨L, o, hf, hn, ho, hd⟩, hr⟩ := hl
      have hL : L ∈ X.fs := hs L (by unfold frs; rw [List.filterMap_cons, hf]; exact List.mem_cons_self)
      obtain ⟨sl, e⟩ := I.base.slot L o ho (I.ok.frf L hL) hL fun z => I.ok.exfs L z hL
      exact ⟨hk, ⟨L, _, hf, hn, e, hd⟩, ih (fun b hb => hs b (by unfold frs; rw [List.filterMap_cons, hf]; exact List.mem_cons_of_mem _ hb)) hr⟩
  exact all X.outer (fun _ hb => hb) I.ok.funs

/-- the frames that run, for a call -/
theorem Inv.stack (I : Inv X pins σ H s) : s.heap.FunFrames X.base X.stack := by
  rcases I.ok.stk with e | ⟨e, hf⟩
  · rw [e]; exact I.funs
  · rw [e]
    obtain ⟨m, hn, _⟩ := I.loc
    refine .cons (by rw [I.ok.kind]; decide) hf hn ?_ I.funs
    exact Heap.get?_none_of_le (Nat.le_trans I.ok.bsz I.ok.above)
theorem Inv.stkSub (I : Inv X pins σ H s) : ∀ b ∈ frs X.stack, b ∈ X.env.locals :: X.fs := fun b hb => by
  rcases I.ok.stk with e | ⟨e, hf⟩
  · rw [e] at hb; exact List.mem_cons_of_mem _ hb
  · rw [e] at hb
    unfold frs at hb
    rw [List.filterMap_cons, hf] at hb
    exact hb
theorem Inv.stkFree (I : Inv X pins σ H s) : ∀ b ∈ frs X.stack, H b = none := fun b hb => by
  rcases List.mem_cons.mp (I.stkSub b hb) with e | hb
  · rw [e]; exact I.free
  · obtain ⟨_, o, ho, _⟩ := I.ok.funs.mem hb
    exact I.base.free b o ho (I.ok.frf b hb) fun z => I.ok.exfs b z hb

/-- THE STEP: the untracked objects but the frame and the records at ch are kept (the callers' frames up to slots), the frame's map is kept, the new abstract heap is held -/
theorem Inv.step {g' : Array GenState} {t' : Nat} {d' : Drawn} {ch : List Addr} (I : Inv X pins σ H s)
    (hch : ∀ b ∈ ch, (b ∈ X.ex ∨ X.s₀.heap.objs.size ≤ b) ∧ b ≠ X.env.locals ∧ (∀ x c, X.env.cells.lookup x = some c → c ≠ b) ∧ ∀ p ∈ X.pn ++ pins, p.1 ≠ b)
    (keep : ∀ b o, b ≠ X.env.locals → b ∉ X.fs → b ∉ ch → s.heap.get? b = some o → H b = none → h'.get? b = some o)
    (slot : ∀ b o, b ≠ X.env.locals → b ∈ X.fs → b ∉ ch → s.heap.get? b = some o → H b = none → ∃ sl, h'.get? b = some { o with slots := sl }) (free : ∀ b o, b ∉ ch → s.heap.get? b = some o → H b = none → H' b = none)
    (there : ∀ b o, b ∉ ch → s.heap.get? b = some o → ∃ o', h'.get? b = some o')
    (tups : ∀ b xs, H b = some (.tup xs) → H' b = some (.tup xs)) (frzs : ∀ b o u, H b = some (.frz o u) → H' b = some (.frz o u)) (tbls : ∀ b ps, H b = some (.tbl ps) → ∃ more, H' b = some (.tbl (ps ++ more)))
    (ns : ∀ m, s.heap.Ns X.env.locals m → h'.Ns X.env.locals m) (hok : HOk X.prog X.w H' h') (hg : AllBare g') :
    Inv X pins σ H' { s with heap := h', gens := g', drawn := d', toks := t' } := by
  have neL : ∀ b o, X.s₀.heap.get? b = some o → b ≠ X.env.locals := fun b o e => Nat.ne_of_lt (Nat.lt_of_lt_of_le (Heap.lt_size e) I.ok.above)
  have neC : ∀ b o, X.s₀.heap.get? b = some o → b ∉ X.ex → b ∉ ch := fun b o e hx hb => by
    rcases (hch b hb).1 with z | z
    · exact hx z
    · exact absurd (Nat.lt_of_lt_of_le (Heap.lt_size e) z) (Nat.lt_irrefl _)
  have cellK : ∀ x c, X.env.cells.lookup x = some c → ∀ v, s.heap.IsCell c v → h'.IsCell c v := fun x c e v ⟨o, ho, hd⟩ => by
    have nch : c ∉ ch := fun z => (hch c z).2.2.1 x c e rfl
    by_cases hc : c ∈ X.fs
    · obtain ⟨sl, q⟩ := slot c o (I.cne x c e) hc nch ho (I.freeC x c e)
      exact ⟨_, q, hd⟩
    · exact ⟨o, keep c o (I.cne x c e) hc nch ho (I.freeC x c e), hd⟩
  refine ⟨I.ok, I.os, hg, ⟨fun b o e n hb hx => ?_, fun b o e n hb hx => ?_, fun b o e n hx => ?_, fun b o e hx => ?_, fun b xs e => tups b xs (I.base.tups b xs e), fun b o xs e => frzs b o xs (I.base.frzs b o xs e), fun b ps e => ?_⟩, ?_, fun x c e => ?_, ?_, fun x c e => ?_, fun p hp => ?_, hok, I.len⟩
  · exact keep b o (neL b o e) hb (neC b o e hx) (I.base.keep b o e n hb hx) (I.base.free b o e n hx)
  · obtain ⟨sl, e1⟩ := I.base.slot b o e n hb hx
    obtain ⟨sl', e2⟩ := slot b _ (neL b o e) hb (neC b o e hx) e1 (I.base.free b o e n hx)
    exact ⟨sl', e2⟩
  · obtain ⟨o', e1⟩ := I.base.there b o e hx
    exact free b o' (neC b o e hx) e1 (I.base.free b o e n hx)
  · obtain ⟨o', e1⟩ := I.base.there b o e hx
    exact there b o' (neC b o e hx) e1
  · obtain ⟨m1, e1⟩ := I.base.tbls b ps e
    obtain ⟨m2, e2⟩ := tbls b _ e1
    exact ⟨m1 ++ m2, by rw [e2, Array.append_assoc]⟩
  · obtain ⟨m, hn, hl⟩ := I.loc
    refine ⟨m, ns m hn, fun i x v e1 e2 e3 => ?_⟩
    obtain ⟨u, r, l⟩ := hl i x v e1 e2 e3
    refine ⟨u, r, ?_⟩
    rcases l with l | ⟨k, c, e, z⟩
    · exact .inl l
    · exact .inr ⟨k, c, e, cellK x c e _ z⟩
  · obtain ⟨v, z⟩ := I.cell x c e
    exact ⟨v, cellK x c e v z⟩
  · obtain ⟨m, ⟨o, _, _, ho, _⟩, _⟩ := I.loc
    exact free _ o (fun z => (hch _ z).2.1 rfl) ho I.free
  · obtain ⟨v, o, ho, hd⟩ := I.cell x c e
    exact free c o (fun z => (hch c z).2.2.1 x c e rfl) ho (I.freeC x c e)
  · obtain ⟨e, n, ne, nf, d⟩ := I.pin p hp
    have nch : p.1 ∉ ch := fun z => (hch p.1 z).2.2.2 p hp rfl
    exact ⟨keep p.1 p.2 ne nf nch e n, free p.1 p.2 nch e n, ne, nf, d⟩
/-- .. where the frame's own object is kept too -/
theorem Inv.un {t' : Nat} (I : Inv X pins σ H s) (u : Un X.fs [] H H' s.heap h') (hok : HOk X.prog X.w H' h') : Inv X pins σ H' { s with heap := h', toks := t' } := by
  obtain ⟨m, ⟨o, es, ep, ho, r⟩, _⟩ := id I.loc
  obtain ⟨sl, hL⟩ := u.any ho I.free (by simp)
  exact I.step (g' := s.gens) (d' := s.drawn) (ch := []) (fun _ z => nomatch z) (fun b o _ hb _ e n => u.keep b o e n hb (by simp)) (fun b o _ hb _ e n => u.slot b o e n hb (by simp)) (fun b o _ e n => u.free b o e n (by simp)) (fun b o _ e => u.there b o e (by simp)) u.tups u.frzs u.tbls (fun m' hm => by
    obtain ⟨o', es', ep', ho', r'⟩ := hm
    rw [ho] at ho'; cases ho'
    exact ⟨_, es', ep', hL, r'⟩) hok I.bare
/-- behind a call (or a comprehension's block): the slots of this frame may have changed too, the records at ch may have turned -/
theorem Inv.call {g' : Array GenState} {t' : Nat} {d' : Drawn} {ch : List Addr} (I : Inv X pins σ H s) (u : Un (frs X.stack) ch H H' s.heap h') (hok : HOk X.prog X.w H' h') (hg : AllBare g')
    (hch : ∀ b ∈ ch, (b ∈ X.ex ∨ X.s₀.heap.objs.size ≤ b) ∧ b ≠ X.env.locals ∧ (∀ x c, X.env.cells.lookup x = some c → c ≠ b) ∧ ∀ p ∈ X.pn ++ pins, p.1 ≠ b) :
    Inv X pins σ H' { s with heap := h', gens := g', drawn := d', toks := t' } := by
  obtain ⟨m, ⟨o, es, ep, ho, r⟩, _⟩ := id I.loc
  obtain ⟨sl, hL⟩ := u.any ho I.free fun z => (hch _ z).2.1 rfl
  exact I.step (ch := ch) hch (fun b o hL hb hc e n => u.keep b o e n (fun z => (List.mem_cons.mp (I.stkSub b z)).elim hL hb) hc) (fun b o _ _ hc e n => u.any e n hc) (fun b o hc e n => u.free b o e n hc) (fun b o hc e => u.there b o e hc) u.tups u.frzs u.tbls (fun m' hm => by
    obtain ⟨o', es', ep', ho', r'⟩ := hm
    rw [ho] at ho'; cases ho'
    exact ⟨_, es', ep', hL, r'⟩) hok hg
/-- an untracked record of ours (an iterator) has turned -/
theorem Inv.turned {t' : Nat} {it : Addr} (I : Inv X pins σ H s) (k : ∀ b o, b ≠ it → s.heap.get? b = some o → h'.get? b = some o) (hn : H it = none) (hL : it ≠ X.env.locals)
    (h1 : it ∈ X.ex ∨ X.s₀.heap.objs.size ≤ it) (h2 : ∀ x c, X.env.cells.lookup x = some c → c ≠ it) (h3 : ∀ p ∈ X.pn ++ pins, p.1 ≠ it) : Inv X pins σ H { s with heap := h', toks := t' } := by
  have nit : ∀ b u, H b = some u → b ≠ it := fun b u e z => by rw [z, hn] at e; cases e
  refine I.step (g' := s.gens) (d' := s.drawn) (ch := [it]) (fun b hb => ?_) (fun b o _ _ hc e _ => k b o (fun z => hc (by simp [z])) e) (fun b o _ _ hc e _ => ⟨o.slots, k b o (fun z => hc (by simp [z])) e⟩) (fun _ _ _ _ n => n)
    (fun b o hc e => ⟨o, k b o (fun z => hc (by simp [z])) e⟩) (fun _ _ e => e) (fun _ _ _ e => e) (fun b ps e => ⟨#[], by rw [e]; simp⟩) (fun m hm => ?_) (fun b u e => ?_) I.bare
  · have e : b = it := by simpa using hb
    subst e
    exact ⟨h1, hL, h2, h3⟩
  · obtain ⟨o, es, ep, ho, r⟩ := hm
    exact ⟨o, es, ep, k _ o (Ne.symm hL) ho, r⟩
  · refine (I.hok b u e).stay (fun c v hc q => k c v ?_ q) (fun _ q => q) fun _ _ q => q
    rcases hc with z | z
    · rw [z]; exact nit b u e
    · exact nit c _ z
theorem Inv.tok (I : Inv X pins σ H s) (t : Nat) : Inv X pins σ H { s with toks := t } := I.un (h' := s.heap) (t' := t) Un.refl I.hok
/-- all objects kept -/
theorem Inv.kept {t' : Nat} (I : Inv X pins σ H s) (k : ∀ b u, s.heap.get? b = some u → h'.get? b = some u) : Inv X pins σ H { s with heap := h', toks := t' } := I.un (Un.kept k) (I.hok.kept k)
/-- a new object laid and tracked -/
theorem Inv.laid {a : Addr} {o : HO} {t' : Nat} (I : Inv X pins σ H s) (k : ∀ b u, s.heap.get? b = some u → h'.get? b = some u) (hp : s.heap.objs.size ≤ a) (new : ObjOk X.prog X.w (upd H a o) h' a o) :
    Inv X pins σ (upd H a o) { s with heap := h', toks := t' } := I.un (Un.laid k hp (I.hok.fresh hp)) (I.hok.laid k hp new)
/-- an object written -/
theorem Inv.write {x e : Addr} {o : HO} {t' : Nat} (I : Inv X pins σ H s) (mu : Mut (H x)) (he : e = x ∨ H e = some (.own x)) (k : ∀ b u, b ≠ e → s.heap.get? b = some u → h'.get? b = some u) (heo : ∃ u, h'.get? e = some u)
    (new : ObjOk X.prog X.w (upd H x o) h' x o) : Inv X pins σ (upd H x o) { s with heap := h', toks := t' } := I.un (Un.write mu he k heo) (I.hok.write mu he k heo new)
theorem Inv.pins_of {pins' : List (Addr × Obj)} (I : Inv X pins σ H s) (h : ∀ p ∈ pins', s.heap.get? p.1 = some p.2 ∧ H p.1 = none ∧ p.1 ≠ X.env.locals ∧ p.1 ∉ X.fs ∧ ∀ v, p.2.data ≠ .cell v) : Inv X pins' σ H s :=
  ⟨I.ok, I.os, I.bare, I.base, I.loc, I.cell, I.free, I.freeC, fun p hp => (List.mem_append.mp hp).elim (fun z => I.pin p (List.mem_append_left _ z)) (h p), I.hok, I.len⟩

theorem nodup_ix {N : List Str} (hN : N.Nodup) {i j : Nat} {x : Str} (a : N[i]? = some x) (b : N[j]? = some x) : i = j := by
  obtain ⟨h1, e1⟩ := List.getElem?_eq_some_iff.mp a
  obtain ⟨h2, e2⟩ := List.getElem?_eq_some_iff.mp b
  exact (List.getElem_inj hN).mp (e1.trans e2.symm)

/-- a name is stored; what changed -/
theorem store_ok2 {M : Model} {A : Around} {E : Value → Shared → Prop} {i : Nat} {x : Str} {v : V} {u : Value} {Q : Unit → Shared → Prop} (I : Inv X pins σ H s) (hN : X.N.Nodup) (hi : X.N[i]? = some x) (hx : Loc X.env.scope x) (r : RelV v u)
    (h : ∀ s', Inv X pins (σ.set i (some v)) H s' → (∃ a, Heap.SameBut a s.heap s'.heap ∧ (a = X.env.locals ∨ X.env.cells.lookup x = some a)) → Q () s') (hf : X.fn x = true ∨ X.env.scope.names.lookup x = some .local := by first | exact .inl rfl | exact .inr rfl | assumption) : wpAny M A (storeName X.env x u) Q E s := by
  obtain ⟨m, hn, hl⟩ := id I.loc
  have hcls : (X.env.scope.kind == .class || (X.env.scope.kind == .module && X.env.locals != X.env.globals)) = false := by rw [I.ok.kind]; rfl
  have hiσ : i < σ.length := by rw [I.len]; exact (List.getElem?_eq_some_iff.mp hi).1
  have cne := I.cne
  have tracked : ∀ {a : Addr} {h' : Heap}, (∃ o, s.heap.get? a = some o ∧ H a = none) → Heap.SameBut a s.heap h' → HOk X.prog X.w H h' := fun {a h'} ha hs b ob e => by
    obtain ⟨_, _, hfree⟩ := ha
    refine (I.hok b ob e).stay (fun c w' hc q => (hs.2 c ?_).trans q) (fun _ q => q) fun _ _ q => q
    rintro rfl
    rcases hc with rfl | hc
    · rw [hfree] at e; cases e
    · rw [hfree] at hc; cases hc
  rcases hx with hk | hk
  · refine wpAny_storeName_local hk hn (fun h' hn' hs => ?_) hcls
    obtain ⟨oL, _, _, hoL, _⟩ := id hn
    refine h _ ⟨I.ok, I.os, I.bare, ⟨fun b o e n hb hx => ?_, fun b o e n hb hx => ?_, I.base.free, fun b o e hx => ?_, I.base.tups, I.base.frzs, I.base.tbls⟩, ⟨_, hn', fun j y v' e1 e2 e3 => ?_⟩, fun y c e => ?_, I.free, I.freeC, fun p hp => ?_, tracked ⟨oL, hoL, I.free⟩ hs, by simpa using I.len⟩ ⟨_, hs, .inl rfl⟩
    · exact (hs.2 b (Nat.ne_of_lt (Nat.lt_of_lt_of_le (Heap.lt_size e) I.ok.above))).trans (I.base.keep b o e n hb hx)
    · obtain ⟨sl, e1⟩ := I.base.slot b o e n hb hx
      exact ⟨sl, (hs.2 b (Nat.ne_of_lt (Nat.lt_of_lt_of_le (Heap.lt_size e) I.ok.above))).trans e1⟩
    · obtain ⟨o', e1⟩ := I.base.there b o e hx
      exact ⟨o', (hs.2 b (Nat.ne_of_lt (Nat.lt_of_lt_of_le (Heap.lt_size e) I.ok.above))).trans e1⟩
    · by_cases hj : j = i
      · subst hj
        rw [hi] at e1; cases e1
        rw [List.getElem?_set_self hiσ] at e2
        cases e2
        exact ⟨u, r, .inl ⟨hk, by simp⟩⟩
      · rw [List.getElem?_set_ne (Ne.symm hj)] at e2
        obtain ⟨u', r', q⟩ := hl j y v' e1 e2 e3
        refine ⟨u', r', ?_⟩
        rcases q with ⟨k, e⟩ | ⟨k, c, e, z⟩
        · refine .inl ⟨k, ?_⟩
          have : y ≠ x := fun e => hj (nodup_ix hN e1 (e ▸ hi))
          simp [this, e]
        · exact .inr ⟨k, c, e, z.sameBut hs (cne y c e)⟩
    · obtain ⟨w', z⟩ := I.cell y c e
      exact ⟨w', z.sameBut hs (cne y c e)⟩
    · obtain ⟨e, n, ne, nf, d⟩ := I.pin p hp
      exact ⟨(hs.2 p.1 ne).trans e, n, ne, nf, d⟩
  · have hfn : X.fn x = true := by
      rcases hf with z | z
      · exact z
      · rw [z] at hk; cases hk
    obtain ⟨c, hc⟩ := I.ok.has x (.inl hk)
    obtain ⟨w', z⟩ := I.cell x c hc
    refine wpAny_storeName_cell I.ok.kind hk hc z (fun h' hc' hs => ?_)
    obtain ⟨oc, hoc, hocd⟩ := id z
    refine h { s with heap := h' } ⟨I.ok, I.os, I.bare, ⟨fun b o e n hb hx => ?_, fun b o e n hb hx => ?_, I.base.free, fun b o e hx => ?_, I.base.tups, I.base.frzs, I.base.tbls⟩, ⟨m, hn.sameBut hs (Ne.symm (cne x c hc)), fun j y v' e1 e2 e3 => ?_⟩, fun y c' e => ?_, I.free, I.freeC, fun p hp => ?_, tracked ⟨oc, hoc, I.freeC x c hc⟩ hs, by simpa using I.len⟩ ⟨c, hs, .inr hc⟩
    · exact (hs.2 b (Nat.ne_of_lt (Nat.lt_of_lt_of_le (Heap.lt_size e) (I.ok.cab x c hfn hc)))).trans (I.base.keep b o e n hb hx)
    · obtain ⟨sl, e1⟩ := I.base.slot b o e n hb hx
      exact ⟨sl, (hs.2 b (Nat.ne_of_lt (Nat.lt_of_lt_of_le (Heap.lt_size e) (I.ok.cab x c hfn hc)))).trans e1⟩
    · obtain ⟨o', e1⟩ := I.base.there b o e hx
      exact ⟨o', (hs.2 b (Nat.ne_of_lt (Nat.lt_of_lt_of_le (Heap.lt_size e) (I.ok.cab x c hfn hc)))).trans e1⟩
    · by_cases hj : j = i
      · subst hj
        rw [hi] at e1; cases e1
        rw [List.getElem?_set_self hiσ] at e2
        cases e2
        exact ⟨u, r, .inr ⟨.inl hk, c, hc, hc'⟩⟩
      · rw [List.getElem?_set_ne (Ne.symm hj)] at e2
        obtain ⟨u', r', q⟩ := hl j y v' e1 e2 e3
        refine ⟨u', r', ?_⟩
        rcases q with q | ⟨k, c', e, z'⟩
        · exact .inl q
        · refine .inr ⟨k, c', e, z'.sameBut hs ?_⟩
          rintro rfl
          exact hj (nodup_ix hN e1 (I.ok.inj _ _ _ e hc ▸ hi))
    · by_cases hcc : c' = c
      · subst hcc; exact ⟨_, hc'⟩
      · obtain ⟨w2, z2⟩ := I.cell y c' e
        exact ⟨w2, z2.sameBut hs hcc⟩
    · obtain ⟨e, n, ne, nf, d⟩ := I.pin p hp
      refine ⟨(hs.2 p.1 ?_).trans e, n, ne, nf, d⟩
      intro q
      rw [q, hoc] at e
      have q' : oc = p.2 := Option.some.inj e
      exact d w' (by rw [← q']; exact hocd)
theorem store_ok {M : Model} {A : Around} {E : Value → Shared → Prop} {i : Nat} {x : Str} {v : V} {u : Value} {Q : Unit → Shared → Prop} (I : Inv X pins σ H s) (hN : X.N.Nodup) (hi : X.N[i]? = some x) (hx : Loc X.env.scope x) (r : RelV v u)
    (h : ∀ s', Inv X pins (σ.set i (some v)) H s' → Q () s') (hf : X.fn x = true ∨ X.env.scope.names.lookup x = some .local := by first | exact .inl rfl | exact .inr rfl | assumption) : wpAny M A (storeName X.env x u) Q E s :=
  store_ok2 I hN hi hx r (fun s' I' _ => h s' I') hf
/-- behind a call or a block, the state as it is -/
theorem Inv.call' {s' : Shared} {ch : List Addr} (I : Inv X pins σ H s) (ho : s'.os = s.os) (u : Un (frs X.stack) ch H H' s.heap s'.heap) (hok : HOk X.prog X.w H' s'.heap) (hg : AllBare s'.gens)
    (hch : ∀ b ∈ ch, (b ∈ X.ex ∨ X.s₀.heap.objs.size ≤ b) ∧ b ≠ X.env.locals ∧ (∀ x c, X.env.cells.lookup x = some c → c ≠ b) ∧ ∀ p ∈ X.pn ++ pins, p.1 ≠ b) : Inv X pins σ H' s' := by
  obtain ⟨h', g', d', t', o'⟩ := s'
  have e : o' = s.os := ho
  subst e
  exact I.call (g' := g') (t' := t') (d' := d') u hok hg hch
end

/-! ### the judgements -/
/-- an exception: its class, its own dict's address (where it has one), the abstract heap behind it -/
abbrev XK := Value → Option Addr → Hp → Prop
abbrev St := List (Option V)
abbrev VK := V → Hp → Prop
/-- an expression's reading; a test's; an argument list's -/
abbrev TE := St → Hp → VK → Prop
abbrev TT := St → Hp → (Bool → Hp → Prop) → Prop
abbrev TA := St → Hp → (List V → Hp → Prop) → Prop
/-- what is wanted behind a statement -/
structure Ends where
  nx : St → Hp → Prop
  rt : VK
  bk : St → Hp → Prop := fun _ _ => False
  ct : St → Hp → Prop := fun _ _ => False
abbrev TS := Ends → St → Hp → Prop

def EP (X : Cx) (pins : List (Addr × Obj)) (σ : St) (Q : VK) (u : Value) (s' : Shared) : Prop := ∃ v H', Inv X pins σ H' s' ∧ RelV v u ∧ Q v H'
def TP (X : Cx) (pins : List (Addr × Obj)) (σ : St) (Q : Bool → Hp → Prop) (b : Bool) (s' : Shared) : Prop := ∃ H', Inv X pins σ H' s' ∧ Q b H'
def AP (X : Cx) (pins : List (Addr × Obj)) (σ : St) (Q : List V → Hp → Prop) (us : List Value) (s' : Shared) : Prop := ∃ vs H', Inv X pins σ H' s' ∧ Vals vs us ∧ Q vs H'
def SP (X : Cx) (pins : List (Addr × Obj)) (D : Ends) (f : Flow) (s' : Shared) : Prop :=
  match f with
  | .next => ∃ σ' H', Inv X pins σ' H' s' ∧ D.nx σ' H'
  | .brk => ∃ σ' H', Inv X pins σ' H' s' ∧ D.bk σ' H'
  | .cont => ∃ σ' H', Inv X pins σ' H' s' ∧ D.ct σ' H'
  | .ret u => ∃ v σ' H', Inv X pins σ' H' s' ∧ RelV v u ∧ D.rt v H'

def PE (X : Cx) (e : Expr) (t : TE) : Prop :=
  ∀ (pins : List (Addr × Obj)) (s : Shared) (σ : St) (H : Hp) (Q : VK), Inv X pins σ H s → t σ H Q → wpAny (model X.prog X.w) X.A (eval e X.env) (EP X pins σ Q) X.xe s
def PT (X : Cx) (e : Expr) (t : TT) : Prop :=
  ∀ (pins : List (Addr × Obj)) (s : Shared) (σ : St) (H : Hp) (Q : Bool → Hp → Prop), Inv X pins σ H s → t σ H Q → wpAny (model X.prog X.w) X.A (isTrue e X.env (eval e X.env)) (TP X pins σ Q) X.xe s
/-- a test whatever its 'whole' is (and, or) -/
def PW (X : Cx) (e : Expr) (t : TT) : Prop :=
  ∀ (whole : Sem Value) (pins : List (Addr × Obj)) (s : Shared) (σ : St) (H : Hp) (Q : Bool → Hp → Prop), Inv X pins σ H s → t σ H Q → wpAny (model X.prog X.w) X.A (isTrue e X.env whole) (TP X pins σ Q) X.xe s
theorem PW.pt {X : Cx} {e : Expr} {t : TT} (h : PW X e t) : PT X e t := h _
/-- an argument list (no star), from the left -/
def PA (X : Cx) (es : List Expr) (t : TA) : Prop :=
  ∀ (pos : Pos) (pins : List (Addr × Obj)) (s : Shared) (σ : St) (H : Hp) (Q : List V → Hp → Prop), Inv X pins σ H s → t σ H Q → wpAny (model X.prog X.w) X.A (spliced (backTo pos (starEach es X.env))) (AP X pins σ Q) X.xe s
def PS (X : Cx) (st : Stmt) (t : TS) : Prop :=
  ∀ (pins : List (Addr × Obj)) (s : Shared) (σ : St) (H : Hp) (D : Ends), Inv X pins σ H s → t D σ H → wpAny (model X.prog X.w) X.A (exec st X.env) (SP X pins D) X.xe s
def PSs (X : Cx) (st : List Stmt) (t : TS) : Prop :=
  ∀ (pins : List (Addr × Obj)) (s : Shared) (σ : St) (H : Hp) (D : Ends), Inv X pins σ H s → t D σ H → wpAny (model X.prog X.w) X.A (execs st X.env) (SP X pins D) X.xe s
/-- weaken the end -/
theorem thn {α : Type} {t : Sem α} {Q Q' : α → Shared → Prop} {M : Model} {A : Around} {E : Value → Shared → Prop} {s : Shared} (h : wpAny M A t Q E s) (hQ : ∀ a s, Q a s → Q' a s) : wpAny M A t Q' E s := wpAny_mono h hQ fun _ _ x => x
end L2

namespace L2
open PySem PySem.Spec PyProof.Rows
section
variable {X : Cx}

/-! ### names and constants -/
def tVar (i : Nat) : TE := fun σ H Q => ∃ v, σ[i]? = some (some v) ∧ Q v H
def tC (v : V) : TE := fun _ H Q => Q v H
theorem pe_var {i : Nat} {x : Str} {pos : Pos} (hN : X.N[i]? = some x) (hv : Vis X.env.scope x) (hd : (x == ("__debug__" : Str)) = false := by decide) (hcd : (x == ("__classdict__" : Str)) = false := by decide) : PE X (.Name x pos) (tVar i) := by
  intro pins s σ H Q I h
  obtain ⟨v, e, h⟩ := h
  obtain ⟨m, hn, hl⟩ := I.loc
  obtain ⟨u, r, l⟩ := hl i x v hN e hv
  have fin : EP X pins σ Q u s := ⟨v, H, I, r, h⟩
  rcases l with ⟨hk, hm⟩ | ⟨hk, c, hc, hcell⟩
  · exact wpAny_Name (wpAny_loadName_local I.ok.kind hk hn hm fin) hd
  · rcases hk with hk | hk
    · exact wpAny_Name (wpAny_loadName_cell I.ok.kind hk hc hcell fin) hd
    · exact wpAny_Name (wpAny_loadName_free I.ok.kind hk hc hcell fin hcd) hd
theorem pe_int {i j pos} : PE X (.Constant (.int i) j pos) (tC (.int i)) := fun _ _ _ H _ I h => wpAny_Constant_int ⟨.int i, H, I.tok _, ⟨_, rfl⟩, h⟩
theorem pe_bl {b j pos} : PE X (.Constant (.bool b) j pos) (tC (.bl b)) := fun _ _ _ H _ I h => Constant_bool ⟨.bl b, H, I, rfl, h⟩
theorem pe_non {j pos} : PE X (.Constant .none j pos) (tC .non) := fun _ _ _ H _ I h => Constant_none ⟨.non, H, I, rfl, h⟩
theorem pe_str {x j pos} : PE X (.Constant (.str x) j pos) (tC (.str x)) := fun _ _ _ H _ I h => Calls.Constant_str ⟨.str x, H, I.tok _, ⟨_, rfl⟩, h⟩

/-- a global name of the def -/
def Gl (X : Cx) (x : Str) : Prop := X.env.kindOf x = some .globalImplicit
theorem ld_glob {E : Value → Shared → Prop} {pins : List (Addr × Obj)} {s : Shared} {σ : St} {H : Hp} {x : Str} {u : Value} {pos : Pos} {Q : Value → Shared → Prop} (I : Inv X pins σ H s) (hg : Gl X x) (hm : X.mg x = some u) (h : Q u s)
    (hd : (x == ("__debug__" : Str)) = false := by decide) : wpAny (model X.prog X.w) X.A (eval (.Name x pos) X.env) Q E s :=
  Calls.Name_function_global I.ok.kind hg (Calls.loadGlobal_global (by rw [I.ok.glob]; exact I.mod.glob.keeps I.bk) hm h) hd
theorem ld_blt {E : Value → Shared → Prop} {pins : List (Addr × Obj)} {s : Shared} {σ : St} {H : Hp} {x : Str} {u : Value} {pos : Pos} {Q : Value → Shared → Prop} (I : Inv X pins σ H s) (hg : Gl X x) (hm : X.mg x = none) (hv : bootBuiltins x = some u) (h : Q u s)
    (hn : x ≠ "__name__" := by decide) (hd : (x == ("__debug__" : Str)) = false := by decide) : wpAny (model X.prog X.w) X.A (eval (.Name x pos) X.env) Q E s := by
  obtain ⟨mb, h1, h2⟩ := I.mod.blt
  exact Calls.Name_function_global I.ok.kind hg (Calls.loadGlobal_builtin (by rw [I.ok.glob]; exact I.mod.glob.keeps I.bk) hm (by rw [I.ok.blt]; exact h1.keeps I.bk) ((h2 x hn).trans hv) h) hd
/-- a module's constant, a class, a function, as a value -/
theorem pe_glob {x : Str} {v : V} {u : Value} {pos : Pos} (hg : Gl X x) (hm : X.mg x = some u) (r : RelV v u) (hd : (x == ("__debug__" : Str)) = false := by decide) : PE X (.Name x pos) (tC v) :=
  fun _ _ _ H _ I h => ld_glob I hg hm ⟨v, H, I, r, h⟩ hd
theorem pe_bltn {x : Str} {v : V} {u : Value} {pos : Pos} (hg : Gl X x) (hm : X.mg x = none) (hv : bootBuiltins x = some u) (r : RelV v u) (hn : x ≠ "__name__" := by decide) (hd : (x == ("__debug__" : Str)) = false := by decide) : PE X (.Name x pos) (tC v) :=
  fun _ _ _ H _ I h => ld_blt I hg hm hv ⟨v, H, I, r, h⟩ hn hd

/-! ### arithmetic -/
/-- two ints -/
def t2I (ta tb : TE) (k : Int → Int → Hp → Prop) : St → Hp → Prop := fun σ H => ta σ H fun x H1 => tb σ H1 fun y H2 => ∃ i j, x = .int i ∧ y = .int j ∧ k i j H2
def tAdd (ta tb : TE) : TE := fun σ H Q => t2I ta tb (fun i j H2 => Q (.int (i + j)) H2) σ H
def tSub (ta tb : TE) : TE := fun σ H Q => t2I ta tb (fun i j H2 => Q (.int (i - j)) H2) σ H
/-- the left factor below 2^64 -/
def tMul (ta tb : TE) : TE := fun σ H Q => t2I ta tb (fun i j H2 => (-(2 ^ 64) < i ∧ i < 2 ^ 64) ∧ Q (.int (i * j)) H2) σ H
variable {a b : Expr} {ta tb : TE} {pos : Pos}
/-! ### comparisons -/
def PC (X : Cx) (op : CmpOp) (a b : Expr) (t : TE) : Prop :=
  ∀ (pins : List (Addr × Obj)) (s : Shared) (σ : St) (H : Hp) (Q : VK), Inv X pins σ H s → t σ H Q →
    wpAny (model X.prog X.w) X.A (eval a X.env) (fun v s₁ => wpAny (model X.prog X.w) X.A (eval b X.env) (fun u s₂ => wpAny (model X.prog X.w) X.A (compareOp op v u) (EP X pins σ Q) X.xe s₂) X.xe s₁) X.xe s
theorem nobehind (b : Expr) {op : CmpOp} (h : op ≠ .In) (h2 : op ≠ .NotIn) : behindInMarks op b = false := by
  have e1 : (op == CmpOp.In) = false := by cases op <;> first | rfl | exact absurd rfl h
  have e2 : (op == CmpOp.NotIn) = false := by cases op <;> first | rfl | exact absurd rfl h2
  cases b <;> simp [behindInMarks, e1, e2]
def tCmp (p : Int → Int → Bool) (ta tb : TE) : TE := fun σ H Q => t2I ta tb (fun i j H2 => Q (.bl (p i j)) H2) σ H
abbrev tLt : TE → TE → TE := tCmp fun i j => decide (i < j)
abbrev tLe : TE → TE → TE := tCmp fun i j => decide (i ≤ j)
abbrev tGt : TE → TE → TE := tCmp fun i j => decide (j < i)
abbrev tGe : TE → TE → TE := tCmp fun i j => decide (j ≤ i)
abbrev tEqI : TE → TE → TE := tCmp fun i j => decide (i = j)
abbrev tNeI : TE → TE → TE := tCmp fun i j => !decide (i = j)
/-- is None -/
def tIsN (ta : TE) : TE := fun σ H Q => ta σ H fun x H1 => Q (.bl (decide (x = .non))) H1
def tNotN (ta : TE) : TE := fun σ H Q => ta σ H fun x H1 => Q (.bl (!decide (x = .non))) H1
theorem RelV.none_iff {x : V} {v : Value} (r : RelV x v) : (v == Value.none) = decide (x = .non) := by
  cases x with
  | non => cases r; rfl
  | bl _ => cases r; rfl
  | int _ => obtain ⟨t, rfl⟩ := r; rfl
  | str _ => obtain ⟨t, rfl⟩ := r; rfl
  | byt _ => obtain ⟨t, rfl⟩ := r; rfl
  | flt _ => obtain ⟨t, rfl⟩ := r; rfl
  | ref _ => cases r; rfl
  | ty _ => cases r; rfl
theorem pc_notN {j pos'} (ha : PE X a ta) : PC X .IsNot a (.Constant .none j pos') (tNotN ta) := by
  intro pins s σ H Q I h
  refine thn (ha pins s σ H _ I h) fun v s1 ⟨x, H1, I1, r1, q1⟩ => ?_
  exact Constant_none (isnot_none_gen ⟨.bl _, H1, I1, by rw [r1.none_iff]; rfl, q1⟩)
/-- a comparison as a value, as a test -/
def tB (t : TE) : TT := fun σ H Q => t σ H fun x H1 => ∃ c, x = .bl c ∧ Q c H1
theorem pt_cmp {op : CmpOp} {t : TE} (h : PC X op a b t) (h1 : behindInMarks op b = false := by first | exact nobehind _ (by decide) (by decide) | rfl) : PT X (.Compare a [op] [b] pos) (tB t) := by
  intro pins s σ H Q I hw
  refine wpAny_isTrue_Compare1 (thn (h pins s σ H _ I hw) fun v s1 h1 => thn h1 fun u s2 h2 => thn h2 fun c s3 ⟨x, H1, I1, r1, q1⟩ => ?_) h1
  obtain ⟨d, rfl, q⟩ := q1
  cases r1
  exact wpAny_truthy_bool ⟨H1, I1, q⟩
/-- an expression whose value is a bool, as a test -/
theorem pt_val {e : Expr} {t : TE} (h : PE X e t) (he : ∀ whole, isTrue e X.env whole = (do let v ← whole; standAt e.pos; holding [v] (truthy v)) := by intro _; rfl) : PT X e (tB t) := by
  intro pins s σ H Q I hw
  refine isTrue_plain (thn (h pins s σ H _ I hw) fun v s1 ⟨x, H1, I1, r1, q1⟩ => ?_) (he _)
  obtain ⟨d, rfl, q⟩ := q1
  cases r1
  exact wpAny_truthy_bool ⟨H1, I1, q⟩

/-! ### and, or, not -/
variable {tA tB' : TT} {rest : List Expr}
def tAnd (t u : TT) : TT := fun σ H Q => t σ H fun c H1 => if c = true then u σ H1 Q else Q false H1
def tOr (t u : TT) : TT := fun σ H Q => t σ H fun c H1 => if c = true then Q true H1 else u σ H1 Q
def tNot (t : TT) : TT := fun σ H Q => t σ H fun c H1 => Q (!c) H1
theorem pw_and1 (ha : PT X a tA) : PW X (.BoolOp .And [a] pos) tA := by
  intro wh pins s σ H Q I h
  refine isTrue_and (thn (ha pins s σ H Q I h) fun c s1 e => ?_)
  cases c with
  | true => exact isTrue_and_nil e
  | false => exact e
theorem pw_or1 (ha : PT X a tA) : PW X (.BoolOp .Or [a] pos) tA := by
  intro wh pins s σ H Q I h
  refine isTrue_or (thn (ha pins s σ H Q I h) fun c s1 e => ?_)
  cases c with
  | false => exact isTrue_or_nil e
  | true => exact e
theorem pw_and (ha : PT X a tA) (hb : PW X (.BoolOp .And (b :: rest) pos) tB') : PW X (.BoolOp .And (a :: b :: rest) pos) (tAnd tA tB') := by
  intro wh pins s σ H Q I h
  refine isTrue_and (thn (ha pins s σ H _ I h) fun c s1 ⟨H1, I1, q1⟩ => ?_)
  cases c with
  | true => exact hb wh pins s1 σ H1 Q I1 q1
  | false => exact ⟨H1, I1, q1⟩
theorem pw_or (ha : PT X a tA) (hb : PW X (.BoolOp .Or (b :: rest) pos) tB') : PW X (.BoolOp .Or (a :: b :: rest) pos) (tOr tA tB') := by
  intro wh pins s σ H Q I h
  refine isTrue_or (thn (ha pins s σ H _ I h) fun c s1 ⟨H1, I1, q1⟩ => ?_)
  cases c with
  | true => exact ⟨H1, I1, q1⟩
  | false => exact hb wh pins s1 σ H1 Q I1 q1
theorem pt_not (ha : PT X a tA) : PT X (.UnaryOp .Not a pos) (tNot tA) := by
  intro pins s σ H Q I h
  exact isTrue_not (ha pins s σ H (fun c H1 => Q (!c) H1) I h)
/-- .. as values (bools) -/
def tAndV (ta tb : TE) : TE := fun σ H Q => ta σ H fun x H1 => ∃ c, x = .bl c ∧ if c = true then tb σ H1 Q else Q (.bl false) H1
def tOrV (ta tb : TE) : TE := fun σ H Q => ta σ H fun x H1 => ∃ c, x = .bl c ∧ if c = true then Q (.bl true) H1 else tb σ H1 Q
def tNotV (ta : TE) : TE := fun σ H Q => ta σ H fun x H1 => ∃ c, x = .bl c ∧ Q (.bl (!c)) H1
theorem pe_one {op} {t : TE} (h : PE X a t) : PE X (.BoolOp op [a] pos) t := fun pins s σ H Q I hw => BoolOp_one (h pins s σ H Q I hw)
theorem pe_and (ha : PE X a ta) (hb : PE X (.BoolOp .And (b :: rest) pos) tb) : PE X (.BoolOp .And (a :: b :: rest) pos) (tAndV ta tb) := by
  intro pins s σ H Q I h
  refine BoolOp_and (thn (ha pins s σ H _ I h) fun v s1 ⟨x, H1, I1, r1, q1⟩ => ?_)
  obtain ⟨c, rfl, q1⟩ := q1
  cases r1
  refine wpAny_truthy_bool ?_
  cases c with
  | true => exact hb pins s1 σ H1 Q I1 q1
  | false => exact ⟨.bl false, H1, I1, rfl, q1⟩
/-- a if t else b -/
def tIf (t : TT) (ta tb : TE) : TE := fun σ H Q => t σ H fun c H1 => if c = true then ta σ H1 Q else tb σ H1 Q
end
end L2

namespace L2
open PySem PySem.Spec PyProof.Rows

/-! ### a list, a tuple that is read: tracked, frozen, or an object of the module -/
def SqL (K : PySem.W.Frag) (H : Hp) (a : Addr) (xs : List V) : Prop :=
  Rd H a (.lst xs) ∨
    ∃ (o : Obj) (its : Array Value) (n : Nat), K.lookup a = some o ∧ o.cls = .type "list" ∧ o.dict = none ∧ o.data = .seq its n ∧ its.size ≤ sizeLine ∧ Vals xs its.toList
def SqT (K : PySem.W.Frag) (H : Hp) (a : Addr) (xs : List V) : Prop :=
  Rd H a (.tup xs) ∨
    ∃ (o : Obj) (its : Array Value) (n : Nat), K.lookup a = some o ∧ o.cls = .type "tuple" ∧ o.data = .seq its n ∧ its.size ≤ sizeLine ∧ Vals xs its.toList
def absV : Value → Option V
  | .none => some .non
  | .bool b => some (.bl b)
  | .int i _ => some (.int i)
  | .str x _ => some (.str x)
  | .bytes b _ => some (.byt b)
  | .float b _ => some (.flt b)
  | .ref a => some (.ref a)
  | .type n => some (.ty n)
  | _ => none
theorem RelV.abs {x : V} {u : Value} (r : RelV x u) : absV u = some x := by
  cases x with
  | non => cases r; rfl
  | bl _ => cases r; rfl
  | int _ => obtain ⟨t, rfl⟩ := r; rfl
  | str _ => obtain ⟨t, rfl⟩ := r; rfl
  | byt _ => obtain ⟨t, rfl⟩ := r; rfl
  | flt _ => obtain ⟨t, rfl⟩ := r; rfl
  | ref _ => cases r; rfl
  | ty _ => cases r; rfl
theorem RelV.inj {x y : V} {u : Value} (r : RelV x u) (q : RelV y u) : x = y := Option.some.inj (r.abs.symm.trans q.abs)
theorem Vals.inj : ∀ {xs ys : List V} {us : List Value}, Vals xs us → Vals ys us → xs = ys
  | _, _, _, .nil, .nil => rfl
  | _, _, _, .cons r t, .cons r' t' => by rw [r.inj r', Vals.inj t t']
section
variable {X : Cx} {pins : List (Addr × Obj)} {σ : St} {H : Hp} {s : Shared} {a : Addr} {xs ys : List V}
theorem SqL.of {K : PySem.W.Frag} (h : H a = some (.lst xs)) : SqL K H a xs := .inl (.inl h)
theorem SqT.of {K : PySem.W.Frag} (h : H a = some (.tup xs)) : SqT K H a xs := .inl (.inl h)
theorem Inv.list (I : Inv X pins σ H s) (h : SqL X.K H a xs) : ∃ its : List Value, Vals xs its ∧ PlainL s.heap a its.toArray ∧ xs.length ≤ sizeLine := by
  rcases h with h | ⟨o, its, n, hk, hc, hd, hs, hz, r⟩
  · obtain ⟨z, its, n, r, e⟩ := h.ok I.hok
    exact ⟨its, r, ⟨_, n, e, rfl, rfl, rfl⟩, z⟩
  · refine ⟨its.toList, r, ⟨o, n, I.kIn a o hk, hc, hd, by simpa using hs⟩, ?_⟩
    have e := r.length
    simp only [Array.length_toList] at e
    omega
theorem Inv.tuple (I : Inv X pins σ H s) (h : SqT X.K H a xs) : ∃ its : List Value, Vals xs its ∧ IsTup s.heap a its.toArray ∧ xs.length ≤ sizeLine := by
  rcases h with h | ⟨o, its, n, hk, hc, hs, hz, r⟩
  · obtain ⟨z, its, r, p⟩ := h.ok I.hok
    exact ⟨its, r, p, z⟩
  · refine ⟨its.toList, r, ⟨o, I.kIn a o hk, hc, n, by simpa using hs⟩, ?_⟩
    have e := r.length
    simp only [Array.length_toList] at e
    omega
theorem Inv.list_inj (I : Inv X pins σ H s) (h : SqL X.K H a xs) (h' : SqL X.K H a ys) : xs = ys := by
  obtain ⟨its, r, ⟨o, n, e, _, _, d⟩, _⟩ := I.list h
  obtain ⟨its', r', ⟨o', n', e', _, _, d'⟩, _⟩ := I.list h'
  rw [e] at e'; cases e'
  rw [d] at d'
  injection d' with d1 _
  have : its = its' := by simpa using congrArg Array.toList d1
  subst this
  exact r.inj r'
theorem Inv.tuple_inj (I : Inv X pins σ H s) (h : SqT X.K H a xs) (h' : SqT X.K H a ys) : xs = ys := by
  obtain ⟨its, r, ⟨o, e, _, n, d⟩, _⟩ := I.tuple h
  obtain ⟨its', r', ⟨o', e', _, n', d'⟩, _⟩ := I.tuple h'
  rw [e] at e'; cases e'
  rw [d] at d'
  injection d' with d1 _
  have : its = its' := by simpa using congrArg Array.toList d1
  subst this
  exact r.inj r'
end

/-! ### another wish about exceptions -/
abbrev Cx.wish (X : Cx) (E : Value → Shared → Prop) : Cx := { X with xe := E }
/-- no exception leaves -/
abbrev Cx.nox (X : Cx) : Cx := X.wish fun _ _ => False
theorem Cx.Ok.wish {X : Cx} (ok : X.Ok) (E : Value → Shared → Prop) : (X.wish E).Ok :=
  ⟨ok.mod, ok.kind, ok.glob, ok.blt, ok.above, ok.inj, ok.has, ok.cab, ok.hd, ok.frames, ok.stk, ok.exf, ok.bs, ok.bsz, ok.noex, ok.exfs, ok.funs, ok.frf⟩
theorem Cx.Ok.unwish {X : Cx} {E : Value → Shared → Prop} (ok : (X.wish E).Ok) : X.Ok :=
  ⟨ok.mod, ok.kind, ok.glob, ok.blt, ok.above, ok.inj, ok.has, ok.cab, ok.hd, ok.frames, ok.stk, ok.exf, ok.bs, ok.bsz, ok.noex, ok.exfs, ok.funs, ok.frf⟩
section
variable {X : Cx} {pins : List (Addr × Obj)} {σ : St} {H : Hp} {s : Shared} {E : Value → Shared → Prop}
theorem Inv.wish (I : Inv X pins σ H s) (E : Value → Shared → Prop) : Inv (X.wish E) pins σ H s := ⟨I.ok.wish E, I.os, I.bare, I.base, I.loc, I.cell, I.free, I.freeC, I.pin, I.hok, I.len⟩
theorem Inv.unwish (I : Inv (X.wish E) pins σ H s) : Inv X pins σ H s := ⟨I.ok.unwish, I.os, I.bare, I.base, I.loc, I.cell, I.free, I.freeC, I.pin, I.hok, I.len⟩
theorem SP.unwish {D : Ends} {f : Flow} {s' : Shared} (h : SP (X.wish E) pins D f s') : SP X pins D f s' := by
  cases f with
  | next => obtain ⟨σ', H', I, q⟩ := h; exact ⟨σ', H', I.unwish, q⟩
  | brk => obtain ⟨σ', H', I, q⟩ := h; exact ⟨σ', H', I.unwish, q⟩
  | cont => obtain ⟨σ', H', I, q⟩ := h; exact ⟨σ', H', I.unwish, q⟩
  | ret u => obtain ⟨v, σ', H', I, r, q⟩ := h; exact ⟨v, σ', H', I.unwish, r, q⟩
theorem PSs.nox {st : List Stmt} {t : TS} (h : PSs X.nox st t) : PSs X st t := fun pins s σ H D I hw =>
  wpAny_mono (h pins s σ H D (I.wish _) hw) (fun _ _ q => q.unwish) fun _ _ z => False.elim z
end

/-! ### blocks and small statements -/
section
variable {X : Cx} {st : Stmt} {rest : List Stmt} {t u : TS} {e : Expr} {te : TE} {pos : Pos}
def tNext : TS := fun D σ H => D.nx σ H
def tSeq (t u : TS) : TS := fun D σ H => t { D with nx := u D } σ H
theorem pss_nil : PSs X [] tNext := fun _ _ σ H _ I h => wpAny_execs_nil ⟨σ, H, I, h⟩
theorem pss_cons (h1 : PS X st t) (h2 : PSs X rest u) : PSs X (st :: rest) (tSeq t u) := by
  intro pins s σ H D I h
  refine wpAny_execs_cons (thn (h1 pins s σ H { D with nx := u D } I h) fun f s1 q => ?_)
  cases f with
  | next =>
    obtain ⟨σ', H', I', q⟩ := q
    exact h2 pins s1 σ' H' D I' q
  | ret v => exact q
  | brk => exact q
  | cont => exact q
theorem pss_one (h1 : PS X st t) : PSs X [st] t := by
  intro pins s σ H D I h
  refine wpAny_execs_cons (thn (h1 pins s σ H D I h) fun f s1 q => ?_)
  cases f with
  | next => exact wpAny_execs_nil q
  | ret v => exact q
  | brk => exact q
  | cont => exact q
def tBreak : TS := fun D σ H => D.bk σ H
def tCont : TS := fun D σ H => D.ct σ H
/-- in a def's body nothing is shown -/
theorem Inv.quiet {pins : List (Addr × Obj)} {σ : St} {H : Hp} {s : Shared} (I : Inv X pins σ H s) : interactive X.env = false := by simp [interactive, I.ok.kind]
/-- an expression whose value is dropped -/
def tDrop (te : TE) : TS := fun D σ H => te σ H fun _ H1 => D.nx σ H1
theorem ps_expr (he : PE X e te) (hs : swapsWith e none pos.line X.env = pure false := by rfl) : PS X (.Expr e pos) (tDrop te) := by
  intro pins s σ H D I h
  exact wpAny_Expr_any (thn (he pins s σ H _ I h) fun v s1 ⟨x, H1, I1, r1, q1⟩ => ⟨σ, H1, I1, q1⟩) I.quiet hs
def tRet (te : TE) : TS := fun D σ H => te σ H D.rt
theorem ps_ret (he : PE X e te) : PS X (.Return (some e) pos) (tRet te) := by
  intro pins s σ H D I h
  exact wpAny_Return_some (thn (he pins s σ H _ I h) fun v s1 ⟨x, H1, I1, r1, q1⟩ => ⟨x, σ, H1, I1, r1, q1⟩)
def tRetN : TS := fun D _ H => D.rt .non H
def tIfS (c : TT) (t u : TS) : TS := fun D σ H => c σ H fun b H1 => if b = true then t D σ H1 else u D σ H1
theorem ps_if {c : Expr} {a b : List Stmt} {tc : TT} (hc : PT X c tc) (ha : PSs X a t) (hb : PSs X b u) : PS X (.If c a b pos) (tIfS tc t u) := by
  intro pins s σ H D I h
  refine wpAny_If (thn (hc pins s σ H _ I h) fun d s1 ⟨H1, I1, q1⟩ => ?_)
  cases d with
  | true => exact ha pins s1 σ H1 D I1 q1
  | false => exact hb pins s1 σ H1 D I1 q1
/-- code that the proof never comes to -/
def tNever : TS := fun _ _ _ => False
theorem pss_never {sts : List Stmt} : PSs X sts tNever := fun _ _ _ _ _ _ h => h.elim
end

/-! ### targets -/
abbrev TG := V → St → Hp → (St → Hp → Prop) → Prop
abbrev TGs := List V → St → Hp → (St → Hp → Prop) → Prop
def PG (X : Cx) (target : Expr) (t : TG) : Prop :=
  ∀ (pins : List (Addr × Obj)) (s : Shared) (σ : St) (H : Hp) (v : V) (u : Value) (Q : St → Hp → Prop), Inv X pins σ H s → RelV v u → t v σ H Q →
    wpAny (model X.prog X.w) X.A (assign target X.env u) (fun _ s' => ∃ σ' H', Inv X pins σ' H' s' ∧ Q σ' H') X.xe s
/-- several targets, one after another -/
def PGs (X : Cx) (ts : List Expr) (t : TGs) : Prop :=
  ∀ (pins : List (Addr × Obj)) (s : Shared) (σ : St) (H : Hp) (vs : List V) (us : List Value) (Q : St → Hp → Prop), Inv X pins σ H s → Vals vs us → t vs σ H Q →
    wpAny (model X.prog X.w) X.A (assignInOrder ((assignEach ts X.env).map (·.2)) us) (fun _ s' => ∃ σ' H', Inv X pins σ' H' s' ∧ Q σ' H') X.xe s
/-- o[i] = v, by values -/
abbrev TSet := V → V → V → Hp → (Hp → Prop) → Prop
def PSet (X : Cx) (t : TSet) : Prop :=
  ∀ (pins : List (Addr × Obj)) (s : Shared) (σ : St) (H : Hp) (o i v : V) (ov iv u : Value) (Q : Hp → Prop), Inv X pins σ H s → RelV o ov → RelV i iv → RelV v u → t o i v H Q →
    wpAny (model X.prog X.w) X.A (setItem ov iv u) (fun _ s' => ∃ H', Inv X pins σ H' s' ∧ Q H') X.xe s
/-- a op= b, by values -/
abbrev TIp := V → V → Hp → VK → Prop
def PIp (X : Cx) (op : Operator) (t : TIp) : Prop :=
  ∀ (pins : List (Addr × Obj)) (s : Shared) (σ : St) (H : Hp) (x y : V) (v u : Value) (Q : VK), Inv X pins σ H s → RelV x v → RelV y u → t x y H Q →
    wpAny (model X.prog X.w) X.A (inplaceOp op v u) (EP X pins σ Q) X.xe s
section
variable {X : Cx} {pos : Pos}
def gName (i : Nat) : TG := fun v σ H Q => Q (σ.set i (some v)) H
theorem pg_name {i : Nat} {x : Str} (hN : X.N.Nodup) (hi : X.N[i]? = some x) (hx : Loc X.env.scope x) (hf : X.fn x = true ∨ X.env.scope.names.lookup x = some .local := by first | exact .inl rfl | exact .inr rfl | assumption) : PG X (.Name x pos) (gName i) := by
  intro pins s σ H v u Q I r h
  exact wpAny_assign_Name (store_ok I hN hi hx r (fun s' I' => ⟨_, H, I', h⟩) hf)
def gNil : TGs := fun vs σ H Q => vs = [] ∧ Q σ H
def gCons (t : TG) (u : TGs) : TGs := fun vs σ H Q => ∃ v r, vs = v :: r ∧ t v σ H fun σ' H' => u r σ' H' Q
theorem pgs_nil : PGs X [] gNil := by
  intro pins s σ H vs us Q I r h
  obtain ⟨e, h⟩ := h
  subst e
  cases r
  exact assignInOrder_nil ⟨σ, H, I, h⟩
theorem pgs_cons {e : Expr} {es : List Expr} {t : TG} {u : TGs} (h1 : PG X e t) (h2 : PGs X es u)
    (hs : (assignEach (e :: es) X.env).map (·.2) = assign e X.env :: (assignEach es X.env).map (·.2) := by rfl) : PGs X (e :: es) (gCons t u) := by
  intro pins s σ H vs us Q I r h
  obtain ⟨v, vr, e1, h⟩ := h
  subst e1
  cases r with
  | cons r rr =>
    rw [hs]
    refine assignInOrder_cons (thn (h1 pins s σ H _ _ _ I r h) fun _ s1 ⟨σ1, H1, I1, q1⟩ => ?_)
    exact h2 pins s1 σ1 H1 _ _ Q I1 rr q1
/-- (a, b, ..) = a tuple of that length -/
def gTup (K : PySem.W.Frag) (n : Nat) (t : TGs) : TG := fun v σ H Q => ∃ a xs, v = .ref a ∧ SqT K H a xs ∧ xs.length = n ∧ t xs σ H Q
theorem pg_tup {es : List Expr} {k : Nat} {t : TGs} {n : Nat} (hc : X.calm = true) (h : PGs X es t)
    (hn : (assignEach es X.env).length = n := by rfl) (hst : (assignEach es X.env).findIdx? (·.1) = none := by rfl) : PG X (.Tuple es k pos) (gTup X.K n t) := by
  intro pins s σ H v u Q I r hw
  obtain ⟨a, xs, e1, hq, hl, hw⟩ := hw
  subst e1
  cases r
  obtain ⟨its, rv, ht, hz⟩ := I.tuple hq
  refine assign_Tuple_tuple (I.ok.hd hc) ht (by simp [hn, ← hl, rv.length]) hst fun h' hx => ?_
  have I1 : Inv X pins σ H { s with heap := h' } := I.kept (t' := s.toks) fun b o e => hx b o (Nat.ne_of_lt (Heap.lt_size e)) e
  exact h pins _ σ H xs _ Q I1 (by simpa using rv) hw
/-- o[i] = .. -/
def gSub (to ti : TE) (t : TSet) : TG := fun v σ H Q => to σ H fun o H1 => ti σ H1 fun i H2 => t o i v H2 fun H3 => Q σ H3
theorem pg_sub {o i : Expr} {to ti : TE} {t : TSet} (ho : PE X o to) (hi : PE X i ti) (hs : PSet X t)
    (ha : ∀ v, assign (.Subscript o i pos) X.env v = (do
      let ov ← holding [v] (eval o X.env)
      let iv ← holding [v, ov] (eval i X.env)
      standAt pos
      holding [v, ov, iv] (setItem ov iv v)
      release [v, ov, iv] []) := by intro _; rfl) : PG X (.Subscript o i pos) (gSub to ti t) := by
  intro pins s σ H v u Q I r h
  rw [ha]
  refine wpAny_bind (wpAny_holding (thn (ho pins s σ H _ I h) fun ov s1 ⟨x, H1, I1, r1, q1⟩ => ?_))
  refine wpAny_bind (wpAny_holding (thn (hi pins s1 σ H1 _ I1 q1) fun iv s2 ⟨y, H2, I2, r2, q2⟩ => ?_))
  refine wpAny_bind (wpAny_standAt (wpAny_bind (wpAny_holding (thn (hs pins s2 σ H2 x y v ov iv u _ I2 r1 r2 r q2) fun _ s3 ⟨H3, I3, q3⟩ => ?_))))
  exact wpAny_release ⟨σ, H3, I3, q3⟩
/-- target = value -/
def tAsg (te : TE) (g : TG) : TS := fun D σ H => te σ H fun x H1 => g x σ H1 D.nx
theorem ps_asg {tg e : Expr} {te : TE} {g : TG} (he : PE X e te) (hg : PG X tg g) (hs : swapsWithSole [tg] e pos.line X.env = pure false := by rfl) (hw : swappedStores [tg] e X.env = pure none := by rfl)
    (h1 : (assignEach [tg] X.env).map (·.2) = [assign tg X.env] := by rfl) : PS X (.Assign [tg] e pos) (tAsg te g) := by
  intro pins s σ H D I h
  refine wpAny_Assign_stores (thn (he pins s σ H _ I h) fun v s1 ⟨x, H1, I1, r1, q1⟩ => ?_) hs hw
  rw [h1]
  exact thn (hg pins s1 σ H1 x v _ I1 r1 q1) fun _ s2 q => q
/-- name = value -/
theorem ps_set {i : Nat} {x : Str} {e : Expr} {te : TE} {pos' : Pos} (hN : X.N.Nodup) (hi : X.N[i]? = some x) (hx : Loc X.env.scope x) (he : PE X e te) (hs : swapsWith e (some (.Name x pos')) pos.line X.env = pure false := by rfl) (hf : X.fn x = true ∨ X.env.scope.names.lookup x = some .local := by first | exact .inl rfl | exact .inr rfl | assumption) :
    PS X (.Assign [.Name x pos'] e pos) (tAsg te (gName i)) := by
  intro pins s σ H D I h
  refine wpAny_Assign_Name (thn (he pins s σ H _ I h) fun v s1 ⟨y, H1, I1, r1, q1⟩ => ?_) hs
  exact store_ok I1 hN hi hx r1 (fun s2 I2 => ⟨_, H1, I2, q1⟩) hf
/-- a, b = x, y with plain local names: stored from the right; the pair itself is not tracked (the opening rows as in PyProof/Rows/TupAssign.lean:23) -/
def tPar (i j : Nat) (ta : TA) : TS := fun D σ H => ta σ H fun vs H1 => ∃ v w, vs = [v, w] ∧ D.nx ((σ.set i (some v)).set j (some w)) H1
/-- name op= e -/
def tAug (i : Nat) (te : TE) (ti : TIp) : TS := fun D σ H => ∃ x, σ[i]? = some (some x) ∧ te σ H fun y H1 => ti x y H1 fun z H2 => D.nx (σ.set i (some z)) H2
/-- o[i] op= e -/
def tAugS (to ti te : TE) (tget : V → V → Hp → VK → Prop) (tip : TIp) (tset : TSet) : TS := fun D σ H => to σ H fun o H1 => ti σ H1 fun i H2 => tget o i H2 fun x H3 => te σ H3 fun y H4 => tip x y H4 fun z H5 => tset o i z H5 fun H6 => D.nx σ H6
/-- o[i], by values -/
def PGet (X : Cx) (t : V → V → Hp → VK → Prop) : Prop :=
  ∀ (pins : List (Addr × Obj)) (s : Shared) (σ : St) (H : Hp) (o i : V) (ov iv : Value) (Q : VK), Inv X pins σ H s → RelV o ov → RelV i iv → t o i H Q →
    wpAny (model X.prog X.w) X.A (getItem ov iv) (EP X pins σ Q) X.xe s
/-- ints -/
def ipI (f : Int → Int → Int) : TIp := fun x y H Q => ∃ i j, x = .int i ∧ y = .int j ∧ Q (.int (f i j)) H
end

/-! ### while -/
section
variable {X : Cx} {pos : Pos}
/-- the invariant W with its measure -/
def tWhile (c : TT) (tb : TS) : TS := fun D σ H => ∃ W : Nat → St → Hp → Prop, (∃ m, W m σ H) ∧ ∀ m σ H, W m σ H →
  c σ H fun b H1 => if b = true then ∃ N : St → Hp → Prop, (∀ σ' H', N σ' H' → ∃ m', m' < m ∧ W m' σ' H') ∧ tb { D with nx := N, ct := N, bk := D.nx } σ H1 else D.nx σ H1
theorem ps_while {c : Expr} {body : List Stmt} {tc : TT} {tb : TS} (hp : PassesOwn (model X.prog X.w) X.A X.env X.xe) (hc : PT X c tc) (hb : PSs X body tb) : PS X (.While c body [] pos) (tWhile tc tb) := by
  intro pins s σ H D I h
  obtain ⟨W, ⟨m0, w0⟩, turn⟩ := h
  refine wpAny_While (codeAny_whileLoop (fun n s' => ∃ σ' H', Inv X pins σ' H' s' ∧ W n σ' H') ?_ m0 ⟨σ, H, I, w0⟩)
  rintro n s1 ⟨σ1, H1, I1, w1⟩
  refine wpAny_passesOwn hp (thn (hc pins s1 σ1 H1 _ I1 (turn n σ1 H1 w1)) fun b s2 ⟨H2, I2, q2⟩ => ?_)
  cases b with
  | true =>
    obtain ⟨N, hN, q2⟩ := q2
    rw [if_pos rfl]
    refine wpAny_passesOwn hp (thn (hb pins s2 σ1 H2 _ I2 q2) fun f s3 q3 => ?_)
    cases f with
    | next =>
      obtain ⟨σ3, H3, I3, n3⟩ := q3
      obtain ⟨m', hm, w3⟩ := hN σ3 H3 n3
      exact ⟨m', hm, σ3, H3, I3, w3⟩
    | cont =>
      obtain ⟨σ3, H3, I3, n3⟩ := q3
      obtain ⟨m', hm, w3⟩ := hN σ3 H3 n3
      exact ⟨m', hm, σ3, H3, I3, w3⟩
    | brk => exact q3
    | ret v => exact q3
  | false =>
    rw [if_neg Bool.false_ne_true]
    exact wpAny_execs_nil ⟨σ1, H2, I2, q2⟩
end

/-! ### what a loop or a comprehension walks -/
/-- at turn i: it yields x (the heap may grow), or it stops -/
structure It where
  go : Nat → Hp → Prop
  yld : Nat → Hp → V → Hp → Prop
  stop : Nat → Hp → Prop
/-- the iterator's own objects may turn: they are not the frame's, not pinned, younger than the entry (or a comprehension's own) -/
def FpOk (X : Cx) (pins : List (Addr × Obj)) (H : Hp) (b : Addr) : Prop :=
  H b = none ∧ b ≠ X.env.locals ∧ b ∉ X.fs ∧ (b ∈ X.ex ∨ X.s₀.heap.objs.size ≤ b) ∧ (∀ x c, X.env.cells.lookup x = some c → c ≠ b) ∧ ∀ p ∈ X.pn ++ pins, p.1 ≠ b
theorem Inv.fpOk {X : Cx} {pins : List (Addr × Obj)} {σ : St} {H H' : Hp} {s : Shared} {b : Addr} (I : Inv X pins σ H s) (hb : s.heap.objs.size ≤ b) (hn : H' b = none) : FpOk X pins H' b := by
  refine ⟨hn, Nat.ne_of_gt (Nat.lt_of_lt_of_le I.lt hb), I.nofs hb, .inr (Nat.le_trans I.sz hb), fun x c e z => ?_, fun p hp z => ?_⟩
  · obtain ⟨v, q⟩ := I.cell x c e
    exact absurd (Nat.lt_of_lt_of_le q.lt (by rw [z]; exact hb)) (Nat.lt_irrefl _)
  · exact absurd (Nat.lt_of_lt_of_le (Heap.lt_size (I.pin p hp).1) (by rw [z]; exact hb)) (Nat.lt_irrefl _)
structure Turn (P : Program) (w : World) (K : PySem.W.Frag) (tg : Expr) (J : It) (fp : List Addr) (it : Addr) (tn : Nat → Heap → Prop) : Prop where
  mem : it ∈ fp
  obj : ∀ i h, tn i h → ∀ b ∈ fp, ∃ o, h.get? b = some o ∧ ∀ v, o.data ≠ .cell v
  keep : ∀ i h h', tn i h → (∀ b ∈ fp, ∀ o, h.get? b = some o → h'.get? b = some o) → tn i h'
  item : ∀ (X : Cx), X.prog = P → X.w = w → X.K = K → X.calm = true → ∀ (i : Nat) (pins : List (Addr × Obj)) (s : Shared) (σ : St) (H : Hp) (E : Value → Shared → Prop), Inv X pins σ H s → (∀ b ∈ fp, FpOk X pins H b) → tn i s.heap → J.go i H →
    wpAny (model P w) X.A (pyNext (.ref it)) (fun r s1 => ∃ u, r = some u ∧
      wpAny (model P w) X.A (letOwnedTupleGo tg (.ref it) u) (fun _ s2 => ∃ x H', Inv X pins σ H' s2 ∧ RelV x u ∧ J.yld i H x H' ∧ tn (i + 1) s2.heap ∧ ∀ b ∈ fp, H' b = none) E s1) E s
  done : ∀ (X : Cx), X.prog = P → X.w = w → X.K = K → X.calm = true → ∀ (i : Nat) (pins : List (Addr × Obj)) (s : Shared) (σ : St) (H : Hp) (E : Value → Shared → Prop), Inv X pins σ H s → (∀ b ∈ fp, FpOk X pins H b) → tn i s.heap → J.stop i H →
    wpAny (model P w) X.A (pyNext (.ref it)) (fun r s1 => r = none ∧ Inv X pins σ H s1) E s
  self : ∀ (A : Around) (i : Nat) (s : Shared) (Q : Value → Shared → Prop) (E : Value → Shared → Prop), tn i s.heap → Q (.ref it) s → wpAny (model P w) A (pyIter (.ref it)) Q E s
abbrev TI := St → Hp → (It → Hp → Prop) → Prop
/-- an iterator has come -/
def PIE (X : Cx) (pins : List (Addr × Obj)) (σ : St) (tg : Expr) (R : It → Hp → Prop) (itv : Value) (s2 : Shared) : Prop :=
  ∃ (it : Addr) (fp : List Addr) (tn : Nat → Heap → Prop) (J : It) (H' : Hp), itv = .ref it ∧ Inv X pins σ H' s2 ∧ Turn X.prog X.w X.K tg J fp it tn ∧ tn 0 s2.heap ∧ (∀ b ∈ fp, FpOk X pins H' b) ∧ R J H'
def PI (X : Cx) (tg iter : Expr) (wi : TI) : Prop :=
  ∀ (pins : List (Addr × Obj)) (s : Shared) (σ : St) (H : Hp) (R : It → Hp → Prop), Inv X pins σ H s → wi σ H R →
    wpAny (model X.prog X.w) X.A (eval iter X.env) (fun v s1 => wpAny (model X.prog X.w) X.A (pyIter v) (PIE X pins σ tg R) X.xe s1) X.xe s

/-- the step ahead of the store is nothing for an iterator that keeps no tuple -/
theorem go_of {M : Model} {A : Around} {E : Value → Shared → Prop} {s : Shared} {tg : Expr} {it : Addr} {u : Value} {o : Obj} {n : String} {vs : Array Value} {Q : Unit → Shared → Prop} (ho : s.heap.get? it = some o) (hc : o.cls = .type n) (hd : o.data = .fields vs)
    (hn : ["enumerate", "zip", "dict_itemiterator", "dict_reverseitemiterator", "odict_iterator", "itertools.zip_longest", "itertools.pairwise"].contains n = false) (hQ : Q () s) : wpAny M A (letOwnedTupleGo tg (.ref it) u) Q E s := by
  unfold letOwnedTupleGo
  cases tg <;> first
    | exact wpAny_pure hQ
    | (cases u <;> first
        | exact wpAny_pure hQ
        | (refine wpAny_bind (wpAny_load ho ?_)
           rw [hc, hd]
           show wpAny M A (if (["enumerate", "zip", "dict_itemiterator", "dict_reverseitemiterator", "odict_iterator", "itertools.zip_longest", "itertools.pairwise"].contains n && vs[0]? == some (rawInt _)) = true then _ else _) Q E s
           rw [if_neg (by intro h; rw [hn, Bool.false_and] at h; cases h)]
           exact wpAny_pure hQ))

/-- the list at a, as it stands at each turn (a loop may append to it) -/
def Itl (K : PySem.W.Frag) (a : Addr) : It :=
  ⟨fun i H => ∃ xs x, SqL K H a xs ∧ xs[i]? = some x, fun i H x H' => H' = H ∧ ∀ xs, SqL K H a xs → xs[i]? = some x, fun i H => ∃ xs, SqL K H a xs ∧ xs.length ≤ i⟩
def Itt (K : PySem.W.Frag) (a : Addr) : It :=
  ⟨fun i H => ∃ xs x, SqT K H a xs ∧ xs[i]? = some x, fun i H x H' => H' = H ∧ ∀ xs, SqT K H a xs → xs[i]? = some x, fun i H => ∃ xs, SqT K H a xs ∧ xs.length ≤ i⟩
/-- lo, lo + 1, .. (n of them) -/
def Itr (lo : Int) (n : Nat) : It := ⟨fun i _ => i < n, fun i H x H' => H' = H ∧ x = .int (lo + i), fun i _ => n ≤ i⟩
theorem turn_list {P : Program} {w : World} {K : PySem.W.Frag} {tg : Expr} (a it : Addr) : Turn P w K tg (Itl K a) [it] it (fun i h => h.IsListIter it a i) where
  mem := by simp
  obj := fun i h st b hb => by
    have e : b = it := by simpa using hb
    subst e
    obtain ⟨o, e, c, d⟩ := st
    exact ⟨o, e, fun v z => by rw [d] at z; cases z⟩
  keep := fun i h h' st k => st.at fun o e => k it (by simp) o e
  item := by
    intro X hP hw hK hc i pins s σ H E I hf st hg
    subst hP hw hK
    obtain ⟨xs, x, hq, hx⟩ := hg
    obtain ⟨its, rv, p, hz⟩ := I.list hq
    obtain ⟨u, hu, ru⟩ := rv.get hx
    obtain ⟨f0, f1, f2, f3, f4, f5⟩ := hf it (by simp)
    refine wpAny_pyNext_list_item st p.isList (x := u) (by simpa using hu) fun h' st' sb => ?_
    have I1 : Inv X pins σ H { s with heap := h' } := I.turned (t' := s.toks) (fun b o hb e => (sb.2 b hb).trans e) f0 f1 f3 f4 f5
    obtain ⟨o, e, c, d⟩ := id st'
    exact ⟨u, rfl, go_of (s := { s with heap := h' }) e c d (by decide) ⟨x, H, I1, ru, ⟨rfl, fun ys hy => by rw [I.list_inj hy hq]; exact hx⟩, st', fun b hb => (hf b hb).1⟩⟩
  done := by
    intro X hP hw hK hc i pins s σ H E I hf st hg
    subst hP hw hK
    obtain ⟨xs, hq, hx⟩ := hg
    obtain ⟨its, rv, p, hz⟩ := I.list hq
    obtain ⟨f0, f1, f2, f3, f4, f5⟩ := hf it (by simp)
    have hl := rv.length
    exact wpAny_pyNext_list_end (I.ok.hd hc) st p.isList (by simp; omega) fun h' eb => ⟨rfl, I.turned (t' := s.toks) (fun b o hb e => eb b o hb e) f0 f1 f3 f4 f5⟩
  self := fun _ _ _ _ _ st h => wpAny_pyIter_listiter st h
theorem turn_tuple {P : Program} {w : World} {K : PySem.W.Frag} {tg : Expr} (a it : Addr) : Turn P w K tg (Itt K a) [it] it (fun i h => h.IsTupleIter it a i) where
  mem := by simp
  obj := fun i h st b hb => by
    have e : b = it := by simpa using hb
    subst e
    obtain ⟨o, e, c, d⟩ := st
    exact ⟨o, e, fun v z => by rw [d] at z; cases z⟩
  keep := fun i h h' st k => st.at fun o e => k it (by simp) o e
  item := by
    intro X hP hw hK hc i pins s σ H E I hf st hg
    subst hP hw hK
    obtain ⟨xs, x, hq, hx⟩ := hg
    obtain ⟨its, rv, p, hz⟩ := I.tuple hq
    obtain ⟨u, hu, ru⟩ := rv.get hx
    obtain ⟨f0, f1, f2, f3, f4, f5⟩ := hf it (by simp)
    refine wpAny_pyNext_tuple_item st (show s.heap.IsTuple a its.toArray from p) (x := u) (by simpa using hu) fun h' st' sb => ?_
    have I1 : Inv X pins σ H { s with heap := h' } := I.turned (t' := s.toks) (fun b o hb e => (sb.2 b hb).trans e) f0 f1 f3 f4 f5
    obtain ⟨o, e, c, d⟩ := id st'
    exact ⟨u, rfl, go_of (s := { s with heap := h' }) e c d (by decide) ⟨x, H, I1, ru, ⟨rfl, fun ys hy => by rw [I.tuple_inj hy hq]; exact hx⟩, st', fun b hb => (hf b hb).1⟩⟩
  done := by
    intro X hP hw hK hc i pins s σ H E I hf st hg
    subst hP hw hK
    obtain ⟨xs, hq, hx⟩ := hg
    obtain ⟨its, rv, p, hz⟩ := I.tuple hq
    obtain ⟨f0, f1, f2, f3, f4, f5⟩ := hf it (by simp)
    have hl := rv.length
    exact wpAny_pyNext_tuple_end (I.ok.hd hc) st (show s.heap.IsTuple a its.toArray from p) (by simp; omega) fun h' eb => ⟨rfl, I.turned (t' := s.toks) (fun b o hb e => eb b o hb e) f0 f1 f3 f4 f5⟩
  self := fun _ _ _ _ _ st h => wpAny_pyIter_tupleiter st h
theorem turn_range {P : Program} {w : World} {K : PySem.W.Frag} {tg : Expr} (it : Addr) (lo : Int) (n : Nat) : Turn P w K tg (Itr lo n) [it] it (fun i h => IsRangeIter h it (lo + (i : Nat) * 1) ((n : Int) - (i : Nat)) 1) where
  mem := by simp
  obj := fun i h st b hb => by
    have e : b = it := by simpa using hb
    subst e
    exact ⟨_, st, fun v z => by
      have z' : Data.fields _ = Data.cell v := z
      cases z'⟩
  keep := fun i h h' st k => k it (by simp) _ st
  item := by
    intro X hP hw hK hc i pins s σ H E I hf st hg
    subst hP hw hK
    obtain ⟨f0, f1, f2, f3, f4, f5⟩ := hf it (by simp)
    have W := Walks.range (prog := X.prog) (w := X.w) (I.ok.hd hc) it lo 1 n
    refine W.item i s _ _ hg st fun v h' tk hv st' kk => ?_
    obtain ⟨t, rfl⟩ := hv
    have I1 : Inv X pins σ H { s with heap := h', toks := tk } := I.turned (fun b o hb e => kk b o (by simpa using hb) e) f0 f1 f3 f4 f5
    refine ⟨_, rfl, go_of (s := { s with heap := h', toks := tk }) (n := "range_iterator") st' rfl rfl (by decide) ⟨.int (lo + i), H, I1, ⟨t, ?_⟩, ⟨rfl, rfl⟩, st', fun b hb => (hf b hb).1⟩⟩
    rw [Int.mul_one]
  done := by
    intro X hP hw hK hc i pins s σ H E I hf st hg
    subst hP hw hK
    obtain ⟨f0, f1, f2, f3, f4, f5⟩ := hf it (by simp)
    exact wpAny_pyNext_range_end (I.ok.hd hc) st (by have : n ≤ i := hg; omega) fun h' eb => ⟨rfl, I.turned (t' := s.toks) (fun b o hb e => eb b o hb e) f0 f1 f3 f4 f5⟩
  self := fun _ _ _ _ _ st h => wpAny_pyIter_rangeiter st h
end L2

namespace L2
open PySem PySem.Spec PyProof.Rows
section
variable {X : Cx} {tg : Expr}
def iList (K : PySem.W.Frag) (tl : TE) : TI := fun σ H R => tl σ H fun x H1 => ∃ a, x = .ref a ∧ (∃ xs, SqL K H1 a xs) ∧ R (Itl K a) H1
def iTup (K : PySem.W.Frag) (tl : TE) : TI := fun σ H R => tl σ H fun x H1 => ∃ a, x = .ref a ∧ (∃ xs, SqT K H1 a xs) ∧ R (Itt K a) H1
theorem pi_list {l : Expr} {tl : TE} (hl : PE X l tl) : PI X tg l (iList X.K tl) := by
  intro pins s σ H R I h
  refine thn (hl pins s σ H _ I h) fun v s1 ⟨x, H1, I1, r1, q1⟩ => ?_
  obtain ⟨a, e, ⟨xs, hq⟩, q⟩ := q1
  subst e
  cases r1
  obtain ⟨its, rv, p, hz⟩ := I1.list hq
  refine wpAny_pyIter_list p.isList ?_
  refine ⟨s1.heap.objs.size, [s1.heap.objs.size], _, _, H1, rfl, I1.kept (t' := s1.toks) fun b o e => Heap.get?_push_of_some _ e, turn_list a _, ⟨_, Heap.get?_push_size _ rfl, rfl, rfl⟩, fun b hb => ?_, q⟩
  have e : b = s1.heap.objs.size := by simpa using hb
  subst e
  exact I1.fpOk (Nat.le_refl _) (I1.hok.fresh (Nat.le_refl _))
theorem pi_tup {l : Expr} {tl : TE} (hl : PE X l tl) : PI X tg l (iTup X.K tl) := by
  intro pins s σ H R I h
  refine thn (hl pins s σ H _ I h) fun v s1 ⟨x, H1, I1, r1, q1⟩ => ?_
  obtain ⟨a, e, ⟨xs, hq⟩, q⟩ := q1
  subst e
  cases r1
  obtain ⟨its, rv, p, hz⟩ := I1.tuple hq
  refine wpAny_pyIter_tuple (show s1.heap.IsTuple a its.toArray from p) ?_
  refine ⟨s1.heap.objs.size, [s1.heap.objs.size], _, _, H1, rfl, I1.kept (t' := s1.toks) fun b o e => Heap.get?_push_of_some _ e, turn_tuple a _, ⟨_, Heap.get?_push_size _ rfl, rfl, rfl⟩, fun b hb => ?_, q⟩
  have e : b = s1.heap.objs.size := by simpa using hb
  subst e
  exact I1.fpOk (Nat.le_refl _) (I1.hok.fresh (Nat.le_refl _))
/-- a range object just made, walked -/
theorem range_it {pins : List (Addr × Obj)} {σ : St} {H : Hp} {s : Shared} {R : It → Hp → Prop} {E : Value → Shared → Prop} {lo hi : Int} {t u v : Tok} {tk : Nat} (I : Inv X pins σ H s) (h1 : -(2 ^ 62) ≤ lo) (h2 : lo < 2 ^ 62) (h3 : -(2 ^ 62) ≤ hi) (h4 : hi < 2 ^ 62)
    (q : R (Itr lo (hi - lo).toNat) H) : wpAny (model X.prog X.w) X.A (pyIter (.ref s.heap.objs.size)) (PIE X pins σ tg R) E { s with heap := s.heap.push { cls := .type "range", data := .fields #[.int lo t, .int hi u, .int 1 v] }, toks := tk } := by
  refine wpAny_pyIter_range (IsRange.new ..) (small_one h1 h2 h3 h4) ?_
  have I1 : Inv X pins σ H { s with heap := s.heap.push { cls := .type "range", data := .fields #[.int lo t, .int hi u, .int 1 v] }, toks := tk } := I.kept fun b o e => Heap.get?_push_of_some _ e
  refine ⟨(s.heap.push { cls := .type "range", data := .fields #[.int lo t, .int hi u, .int 1 v] }).objs.size, [(s.heap.push { cls := .type "range", data := .fields #[.int lo t, .int hi u, .int 1 v] }).objs.size], _, _, H, rfl,
    I1.kept (t' := tk) fun b o e => Heap.get?_push_of_some _ e, turn_range _ lo (hi - lo).toNat, ?_, fun b hb => ?_, q⟩
  · have e1 : lo + ((0 : Nat) : Int) * 1 = lo := by simp
    have e2 : (((hi - lo).toNat : Nat) : Int) - ((0 : Nat) : Int) = Builtin.Range.rangeSize lo hi 1 := by rw [rangeSize_one]; split <;> omega
    show IsRangeIter _ _ (lo + ((0 : Nat) : Int) * 1) ((((hi - lo).toNat : Nat) : Int) - ((0 : Nat) : Int)) 1
    rw [e1, e2]
    exact Heap.get?_push_size _ rfl
  · have e : b = (s.heap.push { cls := .type "range", data := .fields #[.int lo t, .int hi u, .int 1 v] }).objs.size := by simpa using hb
    subst e
    exact I1.fpOk (Nat.le_refl _) (I1.hok.fresh (Nat.le_refl _))
def iRng1 (ta : TA) : TI := fun σ H R => ta σ H fun vs H1 => ∃ j : Int, vs = [.int j] ∧ -(2 ^ 62) ≤ j ∧ j < 2 ^ 62 ∧ R (Itr 0 j.toNat) H1
def iRng2 (ta : TA) : TI := fun σ H R => ta σ H fun vs H1 => ∃ i j : Int, vs = [.int i, .int j] ∧ (-(2 ^ 62) ≤ i ∧ i < 2 ^ 62 ∧ -(2 ^ 62) ≤ j ∧ j < 2 ^ 62) ∧ R (Itr i (j - i).toNat) H1
theorem pi_range1 {a : Expr} {ta : TA} {p pos : Pos} (hg : Gl X "range") (hm : X.mg "range" = none) (ha : PA X [a] ta) (hs : starEach [a] X.env = [(false, eval a X.env)] := by rfl) : PI X tg (.Call (.Name "range" p) [a] [] pos) (iRng1 ta) := by
  intro pins s σ H R I h
  refine Call_ (ld_blt I hg hm boot_range (PyProof.Rows.callWith_type1 (thn (ha pos pins s σ H _ I h) fun us s1 ⟨vs, H1, I1, r1, q1⟩ => ?_) hs rfl))
  obtain ⟨j, e, q1, q2, q⟩ := q1
  subst e
  cases r1 with
  | cons r rr =>
    cases rr
    obtain ⟨t, rfl⟩ := r
    exact call_range_1 (range_it I1 (by omega) (by omega) q1 q2 (by simpa using q))
theorem pi_range2 {a b : Expr} {ta : TA} {p pos : Pos} (hg : Gl X "range") (hm : X.mg "range" = none) (ha : PA X [a, b] ta) (hs : starEach [a, b] X.env = [(false, eval a X.env), (false, eval b X.env)] := by rfl) (hs2 : starEach [b] X.env = [(false, eval b X.env)] := by rfl) :
    PI X tg (.Call (.Name "range" p) [a, b] [] pos) (iRng2 ta) := by
  intro pins s σ H R I h
  refine Call_ (ld_blt I hg hm boot_range (PyProof.Rows.callWith_type1 (thn (ha pos pins s σ H _ I h) fun us s1 ⟨vs, H1, I1, r1, q1⟩ => ?_) (by rw [hs, hs2]) (by rw [hs2]; rfl)))
  obtain ⟨i, j, e, ⟨q1, q2, q3, q4⟩, q⟩ := q1
  subst e
  cases r1 with
  | cons r rr =>
    cases rr with
    | cons r' rr =>
      cases rr
      obtain ⟨t, rfl⟩ := r
      obtain ⟨t', rfl⟩ := r'
      exact call_range_2 (range_it I1 q1 q2 q3 q4 q)

/-! ### for -/
/-- W: the invariant by the turn and a measure; N: what the body is to reach -/
def tFor (wi : TI) (g : TG) (tb : TS) : TS := fun D σ H => wi σ H fun J H1 => ∃ W : Nat → Nat → St → Hp → Prop, (∃ m, W 0 m σ H1) ∧ ∀ i m σ H, W i m σ H →
  (J.stop i H ∧ D.nx σ H) ∨ (J.go i H ∧ ∃ N : St → Hp → Prop, (∀ σ' H', N σ' H' → ∃ m', m' < m ∧ W (i + 1) m' σ' H') ∧ ∀ x H', J.yld i H x H' → g x σ H' fun σ2 H2 => tb { D with nx := N, ct := N, bk := D.nx } σ2 H2)
/-- the records at fp as they stand -/
def pinsAt (fp : List Addr) (h : Heap) : List (Addr × Obj) := fp.filterMap fun b => (h.get? b).map fun o => (b, o)
theorem mem_pinsAt {fp : List Addr} {h : Heap} {b : Addr} {o : Obj} (hb : b ∈ fp) (e : h.get? b = some o) : (b, o) ∈ pinsAt fp h := List.mem_filterMap.mpr ⟨b, hb, by rw [e]; rfl⟩
theorem of_pinsAt {fp : List Addr} {h : Heap} {p : Addr × Obj} (hp : p ∈ pinsAt fp h) : p.1 ∈ fp ∧ h.get? p.1 = some p.2 := by
  obtain ⟨b, hb, e⟩ := List.mem_filterMap.mp hp
  cases q : h.get? b with
  | none => rw [q] at e; cases e
  | some o =>
    rw [q] at e
    have e' : (b, o) = p := Option.some.inj e
    subst e'
    exact ⟨hb, q⟩
theorem Inv.pinned {pins : List (Addr × Obj)} {σ : St} {H : Hp} {s : Shared} {fp : List Addr} (I : Inv X pins σ H s) (hf : ∀ b ∈ fp, FpOk X pins H b) (ho : ∀ b ∈ fp, ∃ o, s.heap.get? b = some o ∧ ∀ v, o.data ≠ .cell v) : Inv X (pins ++ pinsAt fp s.heap) σ H s :=
  I.pins_of fun p hp => (List.mem_append.mp hp).elim (fun z => I.pin p (List.mem_append_right _ z)) fun z => by
    obtain ⟨hb, e⟩ := of_pinsAt z
    obtain ⟨f0, f1, f2, _⟩ := hf p.1 hb
    obtain ⟨o, e', d⟩ := ho p.1 hb
    rw [e] at e'; cases e'
    exact ⟨e, f0, f1, f2, d⟩
theorem Inv.unpinned {pins pl : List (Addr × Obj)} {σ : St} {H : Hp} {s : Shared} (I : Inv X (pins ++ pl) σ H s) : Inv X pins σ H s := I.pins_of fun p hp => I.pin p (List.mem_append_right _ (List.mem_append_left _ hp))
theorem ps_for {iter : Expr} {body : List Stmt} {wi : TI} {g : TG} {tb : TS} {pos : Pos} (hp : PassesOwn (model X.prog X.w) X.A X.env X.xe) (hc : X.calm = true) (hi : PI X tg iter wi) (hg : PG X tg g) (hb : PSs X body tb)
    (hs : ∀ x, foldedSetIterable iter X.env x = pure x := by intro _; rfl) : PS X (.For tg iter body [] pos) (tFor wi g tb) := by
  intro pins s σ H D I h
  refine wpAny_For (thn (hi pins s σ H _ I h) fun v s1 h1 => thn h1 fun itv s2 h2 => ?_) hs
  obtain ⟨it, fp, tn, J, H2, e, I2, T, st2, f2, W, ⟨m0, w0⟩, turn⟩ := h2
  subst e
  -- what stays true of the iterator's objects through the loop
  have stat : ∀ {H' : Hp}, (∀ b ∈ fp, H' b = none) → ∀ b ∈ fp, FpOk X pins H' b := fun hn b hb => ⟨hn b hb, (f2 b hb).2⟩
  refine codeAny_forLoop_any (fun n s' => ∃ i σ' H', Inv X pins σ' H' s' ∧ tn i s'.heap ∧ (∀ b ∈ fp, H' b = none) ∧ W i n σ' H') ?_ m0 ⟨0, σ, H2, I2, st2, fun b hb => (f2 b hb).1, w0⟩
  rintro n s3 ⟨i, σ3, H3, I3, st3, fr3, w3⟩
  rcases turn i n σ3 H3 w3 with ⟨stop, qn⟩ | ⟨go, N, hN, step⟩
  · refine wpAny_passesOwn hp (thn (T.done X rfl rfl rfl hc i pins s3 σ3 H3 X.xe I3 (stat fr3) st3 stop) fun r s4 ⟨hr, I4⟩ => ?_)
    subst hr
    exact wpAny_execs_nil ⟨σ3, H3, I4, qn⟩
  · refine wpAny_passesOwn hp (thn (T.item X rfl rfl rfl hc i pins s3 σ3 H3 X.xe I3 (stat fr3) st3 go) fun r s4 ⟨u, hr, h4⟩ => ?_)
    subst hr
    refine wpAny_passesOwn hp (thn h4 fun _ s5 ⟨x, H5, I5, r5, y5, st5, fr5⟩ => ?_)
    have I5' := I5.pinned (stat fr5) (T.obj _ _ st5)
    refine wpAny_passesOwn hp (thn (hg _ s5 σ3 H5 x u _ I5' r5 (step x H5 y5)) fun _ s6 ⟨σ6, H6, I6, q6⟩ => ?_)
    refine wpAny_passesOwn hp (thn (hb _ s6 σ6 H6 _ I6 q6) fun f s7 q7 => ?_)
    have again : ∀ {σ7 : St} {H7 : Hp}, Inv X (pins ++ pinsAt fp s5.heap) σ7 H7 s7 → N σ7 H7 → ∃ m, m < n ∧ ∃ i σ' H', Inv X pins σ' H' s7 ∧ tn i s7.heap ∧ (∀ b ∈ fp, H' b = none) ∧ W i m σ' H' := fun {σ7 H7} I7 n7 => by
      obtain ⟨m', hm, w7⟩ := hN σ7 H7 n7
      refine ⟨m', hm, i + 1, σ7, H7, I7.unpinned, T.keep _ _ _ st5 fun b hb o e => (I7.pin (b, o) (List.mem_append_right _ (List.mem_append_right _ (mem_pinsAt hb e)))).1, fun b hb => ?_, w7⟩
      obtain ⟨o, e, d⟩ := T.obj _ _ st5 b hb
      exact (I7.pin (b, o) (List.mem_append_right _ (List.mem_append_right _ (mem_pinsAt hb e)))).2.1
    cases f with
    | next => obtain ⟨σ7, H7, I7, n7⟩ := q7; exact again I7 n7
    | cont => obtain ⟨σ7, H7, I7, n7⟩ := q7; exact again I7 n7
    | brk => obtain ⟨σ7, H7, I7, q7⟩ := q7; exact ⟨σ7, H7, I7.unpinned, q7⟩
    | ret v => obtain ⟨x7, σ7, H7, I7, r7, q7⟩ := q7; exact ⟨x7, σ7, H7, I7.unpinned, r7, q7⟩
end

/-! ### the forms one uses -/
end L2

namespace L2
open PySem PySem.Spec PyProof.Rows

abbrev R2 := V → V → Hp → VK → Prop
/-- a two-place operation on values: f is binaryOp op, inplaceOp op or compareOp op -/
def OpR (X : Cx) (f : Value → Value → Sem Value) (r : R2) : Prop :=
  ∀ (pins : List (Addr × Obj)) (s : Shared) (σ : St) (H : Hp) (x y : V) (v u : Value) (Q : VK), Inv X pins σ H s → RelV x v → RelV y u → r x y H Q →
    wpAny (model X.prog X.w) X.A (f v u) (EP X pins σ Q) X.xe s
/-- a one-place operation -/
def UnR (X : Cx) (f : Value → Sem Value) (r : V → Hp → VK → Prop) : Prop :=
  ∀ (pins : List (Addr × Obj)) (s : Shared) (σ : St) (H : Hp) (x : V) (v : Value) (Q : VK), Inv X pins σ H s → RelV x v → r x H Q →
    wpAny (model X.prog X.w) X.A (f v) (EP X pins σ Q) X.xe s
/-- a call of a value that is known (a builtin, a type) with values -/
def CallR (X : Cx) (f : Value) (r : List V → Hp → VK → Prop) : Prop :=
  ∀ (pins : List (Addr × Obj)) (s : Shared) (σ : St) (H : Hp) (xs : List V) (us : List Value) (Q : VK), Inv X pins σ H s → Vals xs us → r xs H Q →
    wpAny (model X.prog X.w) X.A (call f us) (EP X pins σ Q) X.xe s
/-- a value's truth -/
def TruR (X : Cx) (r : V → Hp → (Bool → Hp → Prop) → Prop) : Prop :=
  ∀ (pins : List (Addr × Obj)) (s : Shared) (σ : St) (H : Hp) (x : V) (v : Value) (Q : Bool → Hp → Prop), Inv X pins σ H s → RelV x v → r x H Q →
    wpAny (model X.prog X.w) X.A (truthy v) (TP X pins σ Q) X.xe s

def tOp (r : R2) (ta tb : TE) : TE := fun σ H Q => ta σ H fun x H1 => tb σ H1 fun y H2 => r x y H2 Q
def tUn (r : V → Hp → VK → Prop) (ta : TE) : TE := fun σ H Q => ta σ H fun x H1 => r x H1 Q
/-- ints in, under C, and a value out -/
def rI (C : Int → Int → Prop) (g : Int → Int → V) : R2 := fun x y H Q => ∃ i j, x = .int i ∧ y = .int j ∧ C i j ∧ Q (g i j) H
def rI0 (g : Int → Int → V) : R2 := fun x y H Q => ∃ i j, x = .int i ∧ y = .int j ∧ Q (g i j) H
def rU (g : Int → V) : V → Hp → VK → Prop := fun x H Q => ∃ i, x = .int i ∧ Q (g i) H

section
variable {X : Cx} {a b c : Expr} {ta tb tc : TE} {pos : Pos}

theorem binT (ha : PE X a ta) (hb : PE X b tb) {pins : List (Addr × Obj)} {s : Shared} {σ : St} {H : Hp} {R : V → V → Hp → Prop} (I : Inv X pins σ H s)
    (h : ta σ H fun x H1 => tb σ H1 fun y H2 => R x y H2) {Q : Value → Shared → Prop} {f : Value → Value → Sem Value}
    (hf : ∀ v u s2 x y H2, Inv X pins σ H2 s2 → RelV x v → RelV y u → R x y H2 → wpAny (model X.prog X.w) X.A (f v u) Q X.xe s2) :
    wpAny (model X.prog X.w) X.A (eval a X.env) (fun v s₁ => wpAny (model X.prog X.w) X.A (eval b X.env) (fun u s₂ => wpAny (model X.prog X.w) X.A (f v u) Q X.xe s₂) X.xe s₁) X.xe s := by
  refine thn (ha pins s σ H _ I h) fun v s1 ⟨x, H1, I1, r1, q1⟩ => ?_
  refine thn (hb pins s1 σ H1 _ I1 q1) fun u s2 ⟨y, H2, I2, r2, q2⟩ => ?_
  exact hf v u s2 x y H2 I2 r1 r2 q2

theorem pe_op {op : Operator} {r : R2} (ho : OpR X (binaryOp op) r) (ha : PE X a ta) (hb : PE X b tb) : PE X (.BinOp a op b pos) (tOp r ta tb) := by
  intro pins s σ H Q I h
  exact wpAny_BinOp (binT ha hb I h fun v u s2 x y H2 I2 rx ry q => ho pins s2 σ H2 x y v u Q I2 rx ry q)
/-! ### ints -/
theorem opI {f : Value → Value → Sem Value} {C : Int → Int → Prop} {g : Int → Int → Int}
    (rule : ∀ (i j : Int) (t u : Tok) (s : Shared) (Q : Value → Shared → Prop) (E : Value → Shared → Prop), C i j → Q (.int (g i j) s.toks) { s with toks := s.toks + 1 } → wpAny (model X.prog X.w) X.A (f (.int i t) (.int j u)) Q E s) :
    OpR X f (rI C fun i j => .int (g i j)) := by
  intro pins s σ H x y v u Q I rx ry h
  obtain ⟨i, j, rfl, rfl, hc, q⟩ := h
  obtain ⟨t, rfl⟩ := rx
  obtain ⟨t', rfl⟩ := ry
  exact rule i j t t' s _ _ hc ⟨.int (g i j), H, I.tok _, ⟨_, rfl⟩, q⟩
theorem opI0 {f : Value → Value → Sem Value} {g : Int → Int → Int}
    (rule : ∀ (i j : Int) (t u : Tok) (s : Shared) (Q : Value → Shared → Prop) (E : Value → Shared → Prop), Q (.int (g i j) s.toks) { s with toks := s.toks + 1 } → wpAny (model X.prog X.w) X.A (f (.int i t) (.int j u)) Q E s) :
    OpR X f (rI0 fun i j => .int (g i j)) := by
  intro pins s σ H x y v u Q I rx ry h
  obtain ⟨i, j, rfl, rfl, q⟩ := h
  obtain ⟨t, rfl⟩ := rx
  obtain ⟨t', rfl⟩ := ry
  exact rule i j t t' s _ _ ⟨.int (g i j), H, I.tok _, ⟨_, rfl⟩, q⟩
theorem opB0 {f : Value → Value → Sem Value} {g : Int → Int → Bool}
    (rule : ∀ (i j : Int) (t u : Tok) (s : Shared) (Q : Value → Shared → Prop) (E : Value → Shared → Prop), Q (.bool (g i j)) s → wpAny (model X.prog X.w) X.A (f (.int i t) (.int j u)) Q E s) :
    OpR X f (rI0 fun i j => .bl (g i j)) := by
  intro pins s σ H x y v u Q I rx ry h
  obtain ⟨i, j, rfl, rfl, q⟩ := h
  obtain ⟨t, rfl⟩ := rx
  obtain ⟨t', rfl⟩ := ry
  exact rule i j t t' s _ _ ⟨.bl (g i j), H, I, rfl, q⟩

def CDiv (i j : Int) : Prop := 0 < j ∧ j < 1073741824
def CDivN (i j : Int) : Prop := j ≠ 0 ∧ j.natAbs < 1073741824
def CPow (i j : Int) : Prop := 0 ≤ j ∧ j ≤ 1000000 ∧ i.natAbs < 2 ^ 64
def CMul (i j : Int) : Prop := (-(2 ^ 64) < i ∧ i < 2 ^ 64) ∨ (-(2 ^ 64) < j ∧ j < 2 ^ 64)
theorem CMul.ok {i j : Int} (h : CMul i j) : IntMulOk i j := by
  rcases h with ⟨h1, h2⟩ | ⟨h1, h2⟩
  · exact .of_left (intBits_le_64 h1 h2)
  · exact .of_right (intBits_le_64 h1 h2)
theorem op_add : OpR X (binaryOp .Add) (rI0 fun i j => .int (i + j)) := opI0 fun _ _ _ _ _ _ _ q => add_int q
theorem op_sub : OpR X (binaryOp .Sub) (rI0 fun i j => .int (i - j)) := opI0 fun _ _ _ _ _ _ _ q => sub_int q
theorem op_mul : OpR X (binaryOp .Mult) (rI CMul fun i j => .int (i * j)) := opI fun _ _ _ _ _ _ _ hc q => mul_int q hc.ok
/-- // by a positive divisor -/
theorem op_fdiv : OpR X (binaryOp .FloorDiv) (rI CDiv fun i j => .int (i / j)) := opI fun i j _ _ _ _ _ hc q => by
  have h1 : (0 : Int) < j := hc.1
  have h2 : j < 1073741824 := hc.2
  exact floordiv_int (by omega) (by rw [Int.fdiv_eq_ediv_of_nonneg i (by omega)]; exact q) (.inl (PyProof.noPylong_small (by omega)))
/-- % by a positive divisor of any size -/
theorem op_mod : OpR X (binaryOp .Mod) (rI (fun _ j => 0 < j) fun i j => .int (i % j)) := opI fun i j _ _ _ _ _ hc q => by
  have h1 : (0 : Int) < j := hc
  exact mod_int' (by omega) (by rw [Int.fmod_eq_emod_of_nonneg i (by omega)]; exact q)
theorem op_pow : OpR X (binaryOp .Pow) (rI CPow fun i j => .int (i ^ j.toNat)) := opI fun _ _ _ _ _ _ _ hc q => pow_int_small hc.1 hc.2.1 hc.2.2 q
/-! ### bools among ints: n += (a < b) -/
end

/-! ### comparisons -/
/-- the scalars that == tells apart as data does -/
def scal : V → V → Bool
  | .non, .non => true | .non, .int _ => true | .int _, .non => true | .non, .bl _ => true | .bl _, .non => true | .non, .str _ => true | .str _, .non => true
  | .int _, .int _ => true | .bl _, .bl _ => true | .str _, .str _ => true | .byt _, .byt _ => true
  | .int _, .str _ => true | .str _, .int _ => true | .bl _, .str _ => true | .str _, .bl _ => true
  | _, _ => false
def rEq : R2 := fun x y H Q => scal x y = true ∧ Q (.bl (decide (x = y))) H
def rNe : R2 := fun x y H Q => scal x y = true ∧ Q (.bl (!decide (x = y))) H

theorem dec_int {i j : Int} : decide (V.int i = V.int j) = (i == j) := by
  rw [Bool.eq_iff_iff]
  simp
theorem dec_bl {i j : Bool} : decide (V.bl i = V.bl j) = (i == j) := by
  rw [Bool.eq_iff_iff]
  simp
theorem dec_str {i j : Str} : decide (V.str i = V.str j) = (i == j) := by
  rw [Bool.eq_iff_iff]
  simp
theorem dec_byt {i j : Array UInt8} : decide (V.byt i = V.byt j) = (i.toList == j.toList) := by
  rw [Bool.eq_iff_iff]
  cases i
  cases j
  simp

section
variable {X : Cx} {a b c : Expr} {ta tb tc : TE} {pos : Pos}
theorem fin_bl {pins : List (Addr × Obj)} {σ : St} {H : Hp} {s : Shared} {Q : VK} {k k' : Bool} (I : Inv X pins σ H s) (q : Q (.bl k) H) (e : k = k') : EP X pins σ Q (.bool k') s := by
  subst e
  exact ⟨.bl k, H, I, rfl, q⟩
theorem op_eq : OpR X (compareOp .Eq) rEq := by
  intro pins s σ H x y v u Q I rx ry h
  obtain ⟨hs, q⟩ := h
  cases x with
  | non =>
    cases rx
    cases y with
    | non => cases ry; exact PySem.EqNone.eq_none_none (fin_bl I q (by simp))
    | bl j => cases ry; exact PySem.EqNone.eq_none_bool (fin_bl I q (by simp))
    | int j => obtain ⟨t', rfl⟩ := ry; exact PySem.EqNone.eq_none_int (fin_bl I q (by simp))
    | str j => obtain ⟨t', rfl⟩ := ry; exact PySem.EqNone.eq_none_str (fin_bl I q (by simp))
    | _ => exact absurd (show false = true from hs) Bool.false_ne_true
  | bl i =>
    cases rx
    cases y with
    | non => cases ry; exact PySem.EqNone.eq_bool_none (fin_bl I q (by simp))
    | bl j => cases ry; exact eq_bool (fin_bl I q dec_bl)
    | str j => obtain ⟨t', rfl⟩ := ry; exact PySem.EqMixed.eq_bool_str (fin_bl I q (by simp))
    | _ => exact absurd (show false = true from hs) Bool.false_ne_true
  | int i =>
    obtain ⟨t, rfl⟩ := rx
    cases y with
    | non => cases ry; exact PySem.EqNone.eq_int_none (fin_bl I q (by simp))
    | int j => obtain ⟨t', rfl⟩ := ry; exact eq_int (fin_bl I q dec_int)
    | str j => obtain ⟨t', rfl⟩ := ry; exact PySem.EqMixed.eq_int_str (fin_bl I q (by simp))
    | _ => exact absurd (show false = true from hs) Bool.false_ne_true
  | str i =>
    obtain ⟨t, rfl⟩ := rx
    cases y with
    | non => cases ry; exact PySem.EqNone.eq_str_none (fin_bl I q (by simp))
    | bl j => cases ry; exact PySem.EqMixed.eq_str_bool (fin_bl I q (by simp))
    | int j => obtain ⟨t', rfl⟩ := ry; exact PySem.EqMixed.eq_str_int (fin_bl I q (by simp))
    | str j => obtain ⟨t', rfl⟩ := ry; exact eq_str (fin_bl I q dec_str)
    | _ => exact absurd (show false = true from hs) Bool.false_ne_true
  | byt i =>
    obtain ⟨t, rfl⟩ := rx
    cases y with
    | byt j => obtain ⟨t', rfl⟩ := ry; exact PySem.W.eq_bytes (fin_bl I q dec_byt)
    | _ => exact absurd (show false = true from hs) Bool.false_ne_true
  | _ => cases y <;> exact absurd (show false = true from hs) Bool.false_ne_true
theorem op_ne : OpR X (compareOp .NotEq) rNe := by
  intro pins s σ H x y v u Q I rx ry h
  obtain ⟨hs, q⟩ := h
  cases x with
  | non =>
    cases rx
    cases y with
    | non => cases ry; exact PySem.EqNone.ne_none_none (fin_bl I q (by simp))
    | bl j => cases ry; exact PySem.EqNone.ne_none_bool (fin_bl I q (by simp))
    | int j => obtain ⟨t', rfl⟩ := ry; exact PySem.EqNone.ne_none_int (fin_bl I q (by simp))
    | str j => obtain ⟨t', rfl⟩ := ry; exact PySem.EqNone.ne_none_str (fin_bl I q (by simp))
    | _ => exact absurd (show false = true from hs) Bool.false_ne_true
  | bl i =>
    cases rx
    cases y with
    | non => cases ry; exact PySem.EqNone.ne_bool_none (fin_bl I q (by simp))
    | bl j => cases ry; exact ne_bool (fin_bl I q (congrArg not dec_bl))
    | str j => obtain ⟨t', rfl⟩ := ry; exact PySem.EqMixed.ne_bool_str (fin_bl I q (by simp))
    | _ => exact absurd (show false = true from hs) Bool.false_ne_true
  | int i =>
    obtain ⟨t, rfl⟩ := rx
    cases y with
    | non => cases ry; exact PySem.EqNone.ne_int_none (fin_bl I q (by simp))
    | int j => obtain ⟨t', rfl⟩ := ry; exact ne_int (fin_bl I q (congrArg not dec_int))
    | str j => obtain ⟨t', rfl⟩ := ry; exact PySem.EqMixed.ne_int_str (fin_bl I q (by simp))
    | _ => exact absurd (show false = true from hs) Bool.false_ne_true
  | str i =>
    obtain ⟨t, rfl⟩ := rx
    cases y with
    | non => cases ry; exact PySem.EqNone.ne_str_none (fin_bl I q (by simp))
    | bl j => cases ry; exact PySem.EqMixed.ne_str_bool (fin_bl I q (by simp))
    | int j => obtain ⟨t', rfl⟩ := ry; exact PySem.EqMixed.ne_str_int (fin_bl I q (by simp))
    | str j => obtain ⟨t', rfl⟩ := ry; exact ne_str (fin_bl I q (congrArg not dec_str))
    | _ => exact absurd (show false = true from hs) Bool.false_ne_true
  | byt i =>
    obtain ⟨t, rfl⟩ := rx
    cases y with
    | byt j => obtain ⟨t', rfl⟩ := ry; exact PySem.W.ne_bytes (fin_bl I q (congrArg not dec_byt))
    | _ => exact absurd (show false = true from hs) Bool.false_ne_true
  | _ => cases y <;> exact absurd (show false = true from hs) Bool.false_ne_true

theorem op_lt : OpR X (compareOp .Lt) (rI0 fun i j => .bl (decide (i < j))) := opB0 fun _ _ _ _ _ _ _ q => lt_int q
theorem op_le : OpR X (compareOp .LtE) (rI0 fun i j => .bl (decide (i ≤ j))) := opB0 fun _ _ _ _ _ _ _ q => le_int q
theorem op_gt : OpR X (compareOp .Gt) (rI0 fun i j => .bl (decide (j < i))) := opB0 fun _ _ _ _ _ _ _ q => gt_int q
theorem op_ge : OpR X (compareOp .GtE) (rI0 fun i j => .bl (decide (j ≤ i))) := opB0 fun _ _ _ _ _ _ _ q => ge_int q
/-- the one string within the other -/
theorem op_in_str : OpR X (compareOp .In) (fun x y H Q => ∃ i j, x = .str i ∧ y = .str j ∧ Q (.bl (!(Builtin.Str.occurrences j i 0 j.length 1).isEmpty)) H) := by
  intro pins s σ H x y v u Q I rx ry h
  obtain ⟨i, j, rfl, rfl, q⟩ := h
  obtain ⟨t, rfl⟩ := rx
  obtain ⟨t', rfl⟩ := ry
  exact in_str (fin_bl I q rfl)

/-- is None, is not None: the right side a value none -/
theorem op_isN : OpR X (compareOp .Is) (fun x y H Q => y = .non ∧ Q (.bl (decide (x = .non))) H) := by
  intro pins s σ H x y v u Q I rx ry h
  obtain ⟨rfl, q⟩ := h
  cases ry
  refine is_none_gen (fin_bl I q ?_)
  cases x <;> first
    | (cases rx; rfl)
    | (obtain ⟨t, rfl⟩ := rx; rfl)
theorem op_notN : OpR X (compareOp .IsNot) (fun x y H Q => y = .non ∧ Q (.bl (!decide (x = .non))) H) := by
  intro pins s σ H x y v u Q I rx ry h
  obtain ⟨rfl, q⟩ := h
  cases ry
  refine isnot_none_gen (fin_bl I q ?_)
  cases x <;> first
    | (cases rx; rfl)
    | (obtain ⟨t, rfl⟩ := rx; rfl)

/-- is, is not of two objects that are tracked lists or instances -/
def isObj : HO → Bool
  | .lst _ => true
  | .ins _ _ _ => true
  | _ => false
theorem nomark (b : Expr) {op : CmpOp} (h : op ≠ .In := by decide) (h2 : op ≠ .NotIn := by decide) : behindInMarks op b = false := by
  have e1 : (op == CmpOp.In) = false := by cases op <;> first | rfl | exact absurd rfl h
  have e2 : (op == CmpOp.NotIn) = false := by cases op <;> first | rfl | exact absurd rfl h2
  cases b <;> simp [behindInMarks, e1, e2]
/-- a comparison as a value; hm: nomark b, or (for in, not in) by with_unfolding_all rfl -/
theorem pe_cmpR {op : CmpOp} {r : R2} (ho : OpR X (compareOp op) r) (ha : PE X a ta) (hb : PE X b tb) (hm : behindInMarks op b = false) : PE X (.Compare a [op] [b] pos) (tOp r ta tb) := by
  intro pins s σ H Q I h
  exact wpAny_Compare1 (binT ha hb I h fun v u s2 x y H2 I2 rx ry q => ho pins s2 σ H2 x y v u Q I2 rx ry q) hm
/-- a reading of a value as a test -/
def tTest (t : TE) : TT := fun σ H Q => t σ H fun x H' => ∃ k, x = .bl k ∧ Q k H'
theorem pt_cmpR {op : CmpOp} {r : R2} (ho : OpR X (compareOp op) r) (ha : PE X a ta) (hb : PE X b tb) (hm : behindInMarks op b = false) : PT X (.Compare a [op] [b] pos) (tTest (tOp r ta tb)) := by
  intro pins s σ H Q I h
  refine wpAny_isTrue_Compare1 (thn (ha pins s σ H _ I h) fun v s1 ⟨x, H1, I1, r1, q1⟩ => thn (hb pins s1 σ H1 _ I1 q1) fun u s2 ⟨y, H2, I2, r2, q2⟩ =>
    thn (ho pins s2 σ H2 x y v u _ I2 r1 r2 q2) fun c s3 ⟨z, H3, I3, r3, k, e, q3⟩ => ?_) hm
  subst e
  cases r3
  exact wpAny_truthy_bool ⟨H3, I3, q3⟩
/-- a op1 b op2 c -/
def tChain (r r' : R2) (ta tb tc : TE) : TE := fun σ H Q => ta σ H fun x H1 => tb σ H1 fun y H2 => r x y H2 fun z H3 => ∃ k, z = .bl k ∧
  (if k = true then tc σ H3 fun w' H4 => r' y w' H4 Q else Q (.bl false) H3)
theorem pt_chain {op op' : CmpOp} {r r' : R2} (ho : OpR X (compareOp op) r) (ho' : OpR X (compareOp op') r') (ha : PE X a ta) (hb : PE X b tb) (hc : PE X c tc)
    (hm : lastMarks [op, op'] [b, c] = false := by with_unfolding_all rfl) : PT X (.Compare a [op, op'] [b, c] pos) (tTest (tChain r r' ta tb tc)) := by
  intro pins s σ H Q I h
  refine isTrue_chain (thn (ha pins s σ H _ I h) fun v s1 ⟨x, H1, I1, r1, q1⟩ => test_link (thn (hb pins s1 σ H1 _ I1 q1) fun u s2 ⟨y, H2, I2, r2, q2⟩ =>
    thn (ho pins s2 σ H2 x y v u _ I2 r1 r2 q2) fun d s3 ⟨z, H3, I3, r3, k, e, q3⟩ => ?_)) hm
  subst e
  cases r3
  refine wpAny_truthy_bool ?_
  cases k with
  | false =>
    obtain ⟨k', e', q'⟩ := q3
    cases e'
    exact ite_ff ⟨H3, I3, q'⟩
  | true =>
    refine ite_tt (test_last (thn (hc pins s3 σ H3 _ I3 q3) fun w' s4 ⟨z', H4, I4, r4, q4⟩ => thn (ho' pins s4 σ H4 y z' u w' _ I4 r2 r4 q4) fun d' s5 ⟨z2, H5, I5, r5, k2, e2, q5⟩ => ?_))
    subst e2
    cases r5
    exact wpAny_truthy_bool ⟨H5, I5, q5⟩

/-! ### truth -/
/-- a value's truth by the abstract heap -/
def TruV (K : PySem.W.Frag) (x : V) (H : Hp) (k : Bool) : Prop :=
  match x with
  | .non => k = false
  | .bl b => k = b
  | .int i => k = (i != 0)
  | .str y => y.length ≤ sizeLine ∧ k = ((y.length : Int) != 0)
  | .byt y => y.size ≤ sizeLine ∧ k = ((y.size : Int) != 0)
  | .ref p => (∃ xs, SqL K H p xs ∧ k = !xs.isEmpty) ∨ (∃ xs, SqT K H p xs ∧ k = !xs.isEmpty) ∨ ∃ kvs, H p = some (.dK kvs) ∧ k = !kvs.isEmpty
  | _ => False
theorem isEmpty_kv {κ : Type} {kvs : List (κ × V)} {vs : List (κ × Value)} (r : KV kvs vs) : (!vs.isEmpty) = !kvs.isEmpty := by
  cases r <;> rfl
theorem isEmpty_of {xs : List V} {its : List Value} (r : Vals xs its) : (!its.toArray.isEmpty) = !xs.isEmpty := by
  cases r <;> simp
theorem line63 : (sizeLine : Nat) < 2 ^ 63 := by rw [sizeLine_eq]; decide
theorem tru_ok : TruR X (fun x H Q => ∃ k, TruV X.K x H k ∧ Q k H) := by
  intro pins s σ H x v Q I rx h
  obtain ⟨k, e, q⟩ := h
  have hl := line63
  have hs : sizeLine = 16777216 := sizeLine_eq
  cases x with
  | non =>
    cases rx
    have e' : k = false := e
    subst e'
    exact truthy_none ⟨H, I, q⟩
  | bl b =>
    cases rx
    have e' : k = b := e
    subst e'
    exact wpAny_truthy_bool ⟨H, I, q⟩
  | int i =>
    obtain ⟨t, rfl⟩ := rx
    have e' : k = (i != 0) := e
    subst e'
    exact PySem.P.truthy_int ⟨H, I, q⟩
  | str y =>
    obtain ⟨t, rfl⟩ := rx
    obtain ⟨hy, e'⟩ : y.length ≤ sizeLine ∧ k = ((y.length : Int) != 0) := e
    subst e'
    exact PySem.P.truthy_str (by omega) ⟨H, I.tok _, q⟩
  | byt y =>
    obtain ⟨t, rfl⟩ := rx
    obtain ⟨hy, e'⟩ : y.size ≤ sizeLine ∧ k = ((y.size : Int) != 0) := e
    subst e'
    exact PySem.W.truthy_bytes (by omega) ⟨H, I.tok _, q⟩
  | ref p =>
    cases rx
    have e' : (∃ xs, SqL X.K H p xs ∧ k = !xs.isEmpty) ∨ (∃ xs, SqT X.K H p xs ∧ k = !xs.isEmpty) ∨ ∃ kvs, H p = some (.dK kvs) ∧ k = !kvs.isEmpty := e
    rcases e' with ⟨xs, hx, e'⟩ | ⟨xs, hx, e'⟩ | ⟨kvs, hx, e'⟩
    · subst e'
      obtain ⟨its, r, pl, hz⟩ := I.list hx
      have hlen := r.length
      exact wpAny_truthy_list pl.isList (by simp only [List.size_toArray]; omega) ⟨H, I.tok _, by rw [isEmpty_of r]; exact q⟩
    · subst e'
      obtain ⟨its, r, pl, hz⟩ := I.tuple hx
      have hlen := r.length
      exact truthy_tuple pl (by simp only [List.size_toArray]; omega) ⟨H, I.tok _, by rw [isEmpty_of r]; exact q⟩
    · subst e'
      obtain ⟨hz, hS, vs, r, m⟩ : kvs.length ≤ sizeLine ∧ (p == sysModules) = false ∧ ∃ vs, KV kvs vs ∧ s.heap.DictOf (mixKind X.prog X.w) p vs := I.hok p _ hx
      have hlen : kvs.length = vs.length := Paired.length r
      exact wpAny_truthy_dict hS m (by omega) ⟨H, I.tok _, by rw [isEmpty_kv r]; exact q⟩
  | _ => exact (show False from e).elim
/-- any expression whose test is its value's truth (a name, a call, a subscript, a field ..: he by fun _ => rfl) -/
theorem pt_truth (ha : PE X a ta) (he : ∀ whole, isTrue a X.env whole = (do let v ← whole; standAt a.pos; holding [v] (truthy v))) :
    PT X a (fun σ H Q => ta σ H fun x H' => ∃ k, TruV X.K x H' k ∧ Q k H') := by
  intro pins s σ H Q I h
  exact isTrue_plain (thn (ha pins s σ H _ I h) fun v s1 ⟨x, H1, I1, r1, q1⟩ => tru_ok pins s1 σ H1 x v Q I1 r1 q1) (he _)

/-! ### strs and bytes -/
theorem op_add_str : OpR X (binaryOp .Add) (fun x y H Q => ∃ i j, x = .str i ∧ y = .str j ∧ i.length + j.length ≤ sizeLine ∧ Q (.str (i ++ j)) H) := by
  intro pins s σ H x y v u Q I rx ry h
  obtain ⟨i, j, rfl, rfl, hz, q⟩ := h
  obtain ⟨t, rfl⟩ := rx
  obtain ⟨t', rfl⟩ := ry
  exact add_str (fun t' tk => ⟨.str (i ++ j), H, I.tok _, ⟨_, rfl⟩, q⟩) hz
def PlainIxT (b : Expr) : Prop := ∀ o i, subscripted b false o i = operate [o, i] (getItem o i)
/-! ### scalar builtins, by CallR -/
theorem vals1 {x : V} {us : List Value} (r : Vals [x] us) : ∃ u, us = [u] ∧ RelV x u := by
  cases r with
  | cons r1 r2 => cases r2; exact ⟨_, rfl, r1⟩
theorem vals2 {x y : V} {us : List Value} (r : Vals [x, y] us) : ∃ u w', us = [u, w'] ∧ RelV x u ∧ RelV y w' := by
  cases r with
  | cons r1 r2 =>
    cases r2 with
    | cons r3 r4 => cases r4; exact ⟨_, _, rfl, r1, r3⟩
theorem call_max2 (hc : X.calm = true) : CallR X (.builtin "max") (fun xs H Q => ∃ i j, xs = [.int i, .int j] ∧ Q (.int (if j > i then j else i)) H) := by
  intro pins s σ H xs us Q I r h
  obtain ⟨i, j, rfl, q⟩ := h
  obtain ⟨u, w', rfl, ⟨t, rfl⟩, ⟨t', rfl⟩⟩ := vals2 r
  refine max_two_ints (I.ok.hd hc) fun h' tk k => ⟨_, H, I.kept k, ?_, q⟩
  by_cases hj : j > i
  · rw [if_pos hj, if_pos hj]; exact ⟨_, rfl⟩
  · rw [if_neg hj, if_neg hj]; exact ⟨_, rfl⟩
theorem call_min2 (hc : X.calm = true) : CallR X (.builtin "min") (fun xs H Q => ∃ i j, xs = [.int i, .int j] ∧ Q (.int (if j < i then j else i)) H) := by
  intro pins s σ H xs us Q I r h
  obtain ⟨i, j, rfl, q⟩ := h
  obtain ⟨u, w', rfl, ⟨t, rfl⟩, ⟨t', rfl⟩⟩ := vals2 r
  refine min_two_ints (I.ok.hd hc) fun h' tk k => ⟨_, H, I.kept k, ?_, q⟩
  by_cases hj : j < i
  · rw [if_pos hj, if_pos hj]; exact ⟨_, rfl⟩
  · rw [if_neg hj, if_neg hj]; exact ⟨_, rfl⟩
theorem call_int1 : CallR X (.type "int") (fun xs H Q => (∃ i, xs = [.int i] ∧ Q (.int i) H) ∨ ∃ k, xs = [.bl k] ∧ Q (.int (if k then 1 else 0)) H) := by
  intro pins s σ H xs us Q I r h
  rcases h with ⟨i, rfl, q⟩ | ⟨k, rfl, q⟩
  · obtain ⟨u, rfl, t, rfl⟩ := vals1 r
    exact call_int_int ⟨.int i, H, I, ⟨_, rfl⟩, q⟩
  · obtain ⟨u, rfl, r1⟩ := vals1 r
    cases r1
    exact call_int_bool ⟨.int (if k then 1 else 0), H, I.tok _, ⟨_, rfl⟩, q⟩
/-- len of a str, a bytes, a list, a tuple -/
def LenV (K : PySem.W.Frag) (x : V) (H : Hp) (n : Nat) : Prop :=
  match x with
  | .str y => y.length ≤ sizeLine ∧ n = y.length
  | .byt y => y.size ≤ sizeLine ∧ n = y.size
  | .ref p => (∃ xs, SqL K H p xs ∧ n = xs.length) ∨ ∃ xs, SqT K H p xs ∧ n = xs.length
  | _ => False
theorem call_len : CallR X (.builtin "len") (fun xs H Q => ∃ x n, xs = [x] ∧ LenV X.K x H n ∧ Q (.int n) H) := by
  intro pins s σ H xs us Q I r h
  obtain ⟨x, n, rfl, e, q⟩ := h
  obtain ⟨u, rfl, rx⟩ := vals1 r
  have hl := line63
  have hs : sizeLine = 16777216 := sizeLine_eq
  cases x with
  | str y =>
    obtain ⟨t, rfl⟩ := rx
    obtain ⟨hy, e'⟩ : y.length ≤ sizeLine ∧ n = y.length := e
    subst e'
    exact len_str (by omega) ⟨.int _, H, I.tok _, ⟨_, rfl⟩, q⟩
  | byt y =>
    obtain ⟨t, rfl⟩ := rx
    obtain ⟨hy, e'⟩ : y.size ≤ sizeLine ∧ n = y.size := e
    subst e'
    exact PySem.W.len_bytes (by omega) ⟨.int _, H, I.tok _, ⟨_, rfl⟩, q⟩
  | ref p =>
    cases rx
    have e' : (∃ xs, SqL X.K H p xs ∧ n = xs.length) ∨ ∃ xs, SqT X.K H p xs ∧ n = xs.length := e
    rcases e' with ⟨xs, hx, e'⟩ | ⟨xs, hx, e'⟩
    · subst e'
      obtain ⟨its, r', pl, hz⟩ := I.list hx
      have hlen := r'.length
      exact Calls.call_len_list pl.isList (by simp only [List.size_toArray]; omega) ⟨.int xs.length, H, I.tok _, ⟨_, by simp only [List.size_toArray]; rw [hlen]⟩, q⟩
    · subst e'
      obtain ⟨its, r', pl, hz⟩ := I.tuple hx
      have hlen := r'.length
      exact len_tuple pl (by simp only [List.size_toArray]; omega) ⟨.int xs.length, H, I.tok _, ⟨_, by simp only [List.size_toArray]; rw [hlen]⟩, q⟩
  | _ => exact (show False from e).elim
end
end L2

namespace L2
open PySem PySem.Spec PyProof.Rows

/-! ### an instance, its attributes a map -/
structure ObjM (h : Heap) (x dx C : Addr) (mA : Str → Option Value) : Prop where
  obj : h.get? x = some (PySem.W.instObj C dx)
  ns : h.Ns1 dx mA
  ne : dx ≠ x

theorem lookIn_ns {h : Heap} {dx : Addr} {mA : Str → Option Value} (n : h.Ns1 dx mA) : ∃ od, h.get? dx = some od ∧ ∀ name, PySem.W.lookIn name od = some (mA name) := by
  obtain ⟨o, es, ep, ho, hd, hk, _, hm⟩ := n
  refine ⟨o, ho, fun name => ?_⟩
  have e := hm name
  unfold nsFind findBy at e
  rw [← Array.find?_toList] at e
  unfold PySem.W.lookIn
  rw [hd]
  dsimp only
  split
  · rename_i y q
    rw [q] at e
    exact congrArg some e
  · rename_i q
    rw [q] at e
    have a : es.toList.any (·.refKey) = false := by
      rw [List.any_eq_false]
      intro y hy
      obtain ⟨z, t, hkey⟩ := hk y (Array.mem_toList_iff.mp hy)
      simp [DictEntry.refKey, hkey]
    have a' : ¬ es.toList.any (·.refKey) = true := by rw [a]; exact Bool.false_ne_true
    rw [if_neg a']
    exact congrArg some e

theorem ObjM.look {h : Heap} {x dx C : Addr} {mA : Str → Option Value} (I : ObjM h x dx C mA) : ∃ od, PySem.W.InstAt h x (PySem.W.instObj C dx) C (some od) ∧ ∀ name, PySem.W.lookIn name od = some (mA name) :=
  let ⟨od, ho, hl⟩ := lookIn_ns I.ns
  ⟨od, ⟨I.obj, rfl, rfl, ho⟩, hl⟩

section
variable {prog : Program} {w : World} {A : Around} {E : Value → Shared → Prop} {s : Shared} {K : PySem.W.Frag} {x dx C f : Addr} {mA : Str → Option Value} {name : Str} {v : Value}

theorem set_map {ns : List Str} {Q : Unit → Shared → Prop} (X : K.In s.heap) (I : ObjM s.heap x dx C mA)
    (hs : PySem.W.findIn K (.ref C) "__setattr__" = some (some (.builtin "object.__setattr__"))) (hp : PySem.W.plainOver K C = true) (ht : PySem.W.takerIn K C name = some none) (hh : PySem.W.hasDictIn K C = true)
    (hw : PySem.Within mA ns) (hsz : ns.length ≤ sizeLine)
    (h : ∀ h', ObjM h' x dx C (fun y => if y = name then some v else mA y) → Heap.SameBut dx s.heap h' → Q () { s with heap := h', toks := s.toks + 2 }) :
    wpAny (model prog w) A (setAttr (.ref x) name v) Q E s := by
  obtain ⟨od, J, hl⟩ := I.look
  refine PySem.W.set_plain X J hs (PySem.W.osa_open (s := { s with toks := s.toks + 1 }) (r := none) X J hp ht fun b => ?_)
  obtain ⟨cd, hc, hd'⟩ := PySem.W.any_some hh
  have hx : s.heap.get? x = some ⟨.ref C, some dx, .plain, #[]⟩ := I.obj
  refine wpAny_bind (wpAny_pure (wpAny_bind (wpAny_bind (wpAny_loadPart hx (wpAny_bind (PySem.W.Looks.here (s := { s with toks := s.toks + 1 }) (PySem.W.looks_clsIn X hc) ?_))))))
  rw [hd']
  refine wpAny_pure (a := some dx) (wpAny_bind (wpAny_pure (wpAny_bind ?_)))
  refine wpAny_nsSet1 (s := { s with toks := s.toks + 1 }) I.ns fun h' hn2 hs2 => ?_
  obtain ⟨oD, esD, epD, hoD, hdD, hcD⟩ := hn2.count (PySem.Within.cons name v hw)
  refine wpAny_bind (wpAny_lookBehind hoD (by rw [hdD]; exact pastItsLine_dict (Nat.le_trans hcD (by rw [List.length_cons]; omega))) ?_)
  exact wpAny_pure (h _ ⟨(hs2.2 _ (Ne.symm I.ne)).trans I.obj, hn2, I.ne⟩ hs2)

/-- C(..): the dict at the heap's end, the instance behind it; then its __init__ -/
theorem make_map {R : Result → Shared → Prop} {vs : List Value} {kw : List (Str × Value)} (X : K.In s.heap) (hm : PySem.W.makesIn K C = true)
    (hi : PySem.W.findIn K (.ref C) "__init__" = some (some (.ref f))) (hf : PySem.W.typeIn K (.ref f) = some (.type "function"))
    (h : codeAny (model prog w) (A.under (.builtin "type.__call__" ⟨.ref C :: vs, kw⟩)) (.call (.ref f) ⟨.ref (s.heap.objs.size + 1) :: vs, kw⟩) (PySem.W.InitBack (s.heap.objs.size + 1) R)
      { s with heap := (s.heap.push PySem.W.emptyDict).push (PySem.W.instObj C s.heap.objs.size) }) :
    codeAny (model prog w) A (.call (.ref C) ⟨vs, kw⟩) R s := by
  obtain ⟨hh, g, d, t, os⟩ := s
  exact PySem.W.make_core (PySem.W.makes_of X hm) (PySem.W.looks_findIn X hi) (fun self => PySem.W.bind_fn X self hf) (.inl rfl) h
end

/-! ### the attributes as a list of pairs -/
def putF (f : Str) (v : V) : List (Str × V) → List (Str × V)
  | [] => [(f, v)]
  | (g, x) :: r => if g = f then (g, v) :: r else (g, x) :: putF f v r
theorem lookup_putF (f g : Str) (v : V) : ∀ fs : List (Str × V), (putF f v fs).lookup g = if g = f then some v else fs.lookup g
  | [] => by
    show List.lookup g [(f, v)] = _
    by_cases h : g = f
    · have hb : (g == f) = true := beq_iff_eq.mpr h
      simp only [List.lookup, hb, if_pos h]
    · have hb : (g == f) = false := beq_eq_false_iff_ne.mpr h
      simp only [List.lookup, hb, if_neg h]
  | (k, x) :: r => by
    have ih := lookup_putF f g v r
    rw [show putF f v ((k, x) :: r) = (if k = f then (k, v) :: r else (k, x) :: putF f v r) from rfl]
    by_cases hk : k = f
    · rw [if_pos hk]
      by_cases h : g = k
      · have hb : (g == k) = true := beq_iff_eq.mpr h
        simp only [List.lookup, hb, if_pos (h.trans hk)]
      · have hb : (g == k) = false := beq_eq_false_iff_ne.mpr h
        simp only [List.lookup, hb, if_neg (fun e : g = f => h (e.trans hk.symm))]
    · rw [if_neg hk]
      by_cases h : g = k
      · have hb : (g == k) = true := beq_iff_eq.mpr h
        simp only [List.lookup, hb, if_neg (fun e : g = f => hk (h.symm.trans e))]
      · have hb : (g == k) = false := beq_eq_false_iff_ne.mpr h
        simp only [List.lookup, hb]
        exact ih
theorem keys_putF (f : Str) (v : V) : ∀ fs : List (Str × V), f ∈ (putF f v fs).map (·.1) ∧ ∀ g, g ∈ fs.map (·.1) → g ∈ (putF f v fs).map (·.1)
  | [] => ⟨by simp [putF], fun g h => by simp at h⟩
  | (k, x) :: r => by
    obtain ⟨i1, i2⟩ := keys_putF f v r
    rw [show putF f v ((k, x) :: r) = (if k = f then (k, v) :: r else (k, x) :: putF f v r) from rfl]
    by_cases hk : k = f
    · rw [if_pos hk]
      subst hk
      exact ⟨by simp, fun g h => by simpa using h⟩
    · rw [if_neg hk]
      refine ⟨?_, fun g h => ?_⟩
      · rw [List.map_cons]
        exact List.mem_cons_of_mem _ i1
      · rw [List.map_cons] at h ⊢
        rcases List.mem_cons.mp h with e | e
        · exact List.mem_cons.mpr (.inl e)
        · exact List.mem_cons_of_mem _ (i2 g e)
theorem length_putF (f : Str) (v : V) : ∀ fs : List (Str × V), (putF f v fs).length ≤ fs.length + 1
  | [] => by simp [putF]
  | (k, x) :: r => by
    have ih := length_putF f v r
    rw [show putF f v ((k, x) :: r) = (if k = f then (k, v) :: r else (k, x) :: putF f v r) from rfl]
    by_cases hk : k = f
    · rw [if_pos hk, List.length_cons, List.length_cons]; omega
    · rw [if_neg hk, List.length_cons, List.length_cons]; omega

theorem RelO.some_of {v : V} {o : Option Value} (r : RelO (some v) o) : ∃ u, o = some u ∧ RelV v u := by
  cases o with
  | none => exact (show False from r).elim
  | some u => exact ⟨u, rfl, r⟩
theorem handed_of {v : V} {u : Value} (r : RelV v u) : PySem.W.handedIn u = true := by
  cases v with
  | non => cases (show u = Value.none from r); rfl
  | bl b => cases (show u = Value.bool b from r); rfl
  | int i => obtain ⟨t, e⟩ := (show ∃ t, u = Value.int i t from r); cases e; rfl
  | str x => obtain ⟨t, e⟩ := (show ∃ t, u = Value.str x t from r); cases e; rfl
  | byt b => obtain ⟨t, e⟩ := (show ∃ t, u = Value.bytes b t from r); cases e; rfl
  | flt b => obtain ⟨t, e⟩ := (show ∃ t, u = Value.float b t from r); cases e; rfl
  | ref a => cases (show u = Value.ref a from r); rfl
  | ty n => cases (show u = Value.type n from r); rfl

section
variable {P : Program} {w : World} {H H' : Hp} {h h' : Heap} {a C dx : Addr} {fs fs' : List (Str × V)}
theorem ins_get (hok : HOk P w H h) (e : H a = some (.ins C dx fs)) : ∃ mA, ObjM h a dx C mA ∧ (∀ f, RelO (fs.lookup f) (mA f)) ∧ PySem.Within mA (fs.map (·.1)) ∧ fs.length ≤ 1000 ∧ H dx = some (.own a) := by
  obtain ⟨d, z, ne, ob, mA, n, r, q⟩ := (show ObjOk P w H h a (.ins C dx fs) from hok a _ e)
  exact ⟨mA, ⟨ob, n, ne⟩, r, q, z, d⟩
end

/-! ### what of the text a class must have -/
structure Cls (K : PySem.W.Frag) (C : Addr) : Prop where
  pg : PySem.W.plainGet K C Str.empty = true
  hd : PySem.W.hasDictIn K C = true
  po : PySem.W.plainOver K C = true
  sa : PySem.W.findIn K (.ref C) "__setattr__" = some (some (.builtin "object.__setattr__"))
/-- no class of it has the name -/
def NoAttr (K : PySem.W.Frag) (C : Addr) (f : Str) : Prop := PySem.W.findIn K (.ref C) f = some none
theorem NoAttr.taker {K : PySem.W.Frag} {C : Addr} {f : Str} (n : NoAttr K C f) : PySem.W.takerIn K C f = some none := by
  unfold PySem.W.takerIn
  rw [show PySem.W.findIn K (.ref C) f = some none from n]
  rfl
/-- a constant of the class -/
structure Con (K : PySem.W.Frag) (C : Addr) (f : Str) (v : V) (u : Value) : Prop where
  at_ : PySem.W.findIn K (.ref C) f = some (some u)
  rel : RelV v u
  get : PySem.W.specialIn K u "__get__" = some none
  cp : PySem.W.copiedNames.contains f = false
/-- a method: a plain def of the class or of one above it -/
structure Meth (K : PySem.W.Frag) (C : Addr) (m : Str) (f : Addr) : Prop where
  at_ : PySem.W.findIn K (.ref C) m = some (some (.ref f))
  fn : PySem.W.isFn K (.ref f) = true
  kp : PySem.W.keepIn K (.ref f) = true

section
variable {X : Cx} {pins : List (Addr × Obj)} {σ : St} {H : Hp} {s : Shared} {a C dx : Addr} {fs : List (Str × V)} {f : Str} {v : V} {A : Around} {E : Value → Shared → Prop}

theorem setattr_ok {y : V} {u : Value} {Q : Unit → Shared → Prop} (I : Inv X pins σ H s) (e : H a = some (.ins C dx fs)) (c : Cls X.K C) (n : NoAttr X.K C f) (hl : fs.length < 1000) (ry : RelV y u)
    (h : ∀ s', Inv X pins σ (upd H a (.ins C dx (putF f y fs))) s' → Q () s') : wpAny (model X.prog X.w) A (setAttr (.ref a) f u) Q E s := by
  obtain ⟨mA, O, r, wi, _, ho⟩ := ins_get I.hok e
  have hz : (fs.map (·.1)).length ≤ sizeLine := by rw [List.length_map, sizeLine_eq]; omega
  refine set_map I.kIn O c.sa c.po n.taker c.hd wi hz fun h' O' sb => h _ ?_
  have hd : ∃ o, h'.get? dx = some o := let ⟨o, _, _, e', _⟩ := O'.ns; ⟨o, e'⟩
  refine I.write (x := a) (e := dx) (by rw [e]; exact True.intro) (.inr ho) (fun b q hb z => (sb.2 b hb).trans z) hd ?_
  refine ⟨by rw [upd_ne O.ne]; exact ho, ?_, O.ne, O'.obj, _, O'.ns, fun g => ?_, fun g hg => ?_⟩
  · have := length_putF f y fs; omega
  · show RelO ((putF f y fs).lookup g) (if g = f then some u else mA g)
    rw [lookup_putF]
    by_cases q : g = f
    · rw [if_pos q, if_pos q]; exact ry
    · rw [if_neg q, if_neg q]; exact r g
  · by_cases q : g = f
    · rw [q]; exact (keys_putF f y fs).1
    · refine (keys_putF f y fs).2 g (wi g fun z => hg ?_)
      show (if g = f then some u else mA g) = none
      rw [if_neg q]; exact z

/-- a new instance, tracked, without attributes -/
theorem Inv.made (I : Inv X pins σ H s) : Inv X pins σ (upd (upd H s.heap.objs.size (.own (s.heap.objs.size + 1))) (s.heap.objs.size + 1) (.ins C s.heap.objs.size []))
    { s with heap := (s.heap.push PySem.W.emptyDict).push (PySem.W.instObj C s.heap.objs.size) } := by
  have e1 : (s.heap.push PySem.W.emptyDict).get? s.heap.objs.size = some PySem.W.emptyDict := Heap.get?_push_size s.heap rfl
  have e2 : ((s.heap.push PySem.W.emptyDict).push (PySem.W.instObj C s.heap.objs.size)).get? (s.heap.objs.size + 1) = some (PySem.W.instObj C s.heap.objs.size) := by
    have := Heap.get?_push_size (s.heap.push PySem.W.emptyDict) (o := PySem.W.instObj C s.heap.objs.size) rfl
    rwa [Heap.size_push] at this
  have e3 : (s.heap.push PySem.W.emptyDict).Ns s.heap.objs.size (fun _ => none) := ⟨PySem.W.emptyDict, #[], _, e1, rfl, (fun e he => absurd he (by simp)), fun _ => rfl⟩
  have I1 := I.laid (a := s.heap.objs.size) (o := .own (s.heap.objs.size + 1)) (h' := s.heap.push PySem.W.emptyDict) (t' := s.toks) (fun b u q => Heap.get?_push_of_some _ q) (Nat.le_refl _) ⟨_, e1⟩
  refine I1.laid (a := s.heap.objs.size + 1) (o := .ins C s.heap.objs.size []) (t' := s.toks) (fun b u q => Heap.get?_push_of_some _ q) (Nat.le_of_eq (Heap.size_push _ _)) ?_
  have ne : s.heap.objs.size ≠ s.heap.objs.size + 1 := Nat.ne_of_lt (Nat.lt_succ_self _)
  refine ⟨by rw [upd_ne ne, upd_same], Nat.zero_le _, ne, e2, fun _ => none, (Heap.Ns1.of_empty e3).at fun o q => Heap.get?_push_of_some _ q, fun _ => True.intro, fun y hy => absurd rfl hy⟩

/-- e.f where nothing but the object is asked: through attributeBase (super) and the last hold -/
theorem attr_of {prog : Program} {w : World} {env : Env} {e : Expr} {f : Str} {pos : Pos} {s : Shared} {Q : Value → Shared → Prop} (hb : attributeBase e f env (eval e env) = eval e env)
    (h : wpAny (model prog w) A (eval e env) (fun o s₁ => wpAny (model prog w) A (getAttr o f true) Q E s₁) E s) : wpAny (model prog w) A (eval (.Attribute e f pos) env) Q E s :=
  Attribute_any_ h (by rw [arm_eval_Attribute, hb])
end

/-! ### readings and rules -/
/-- e.f, an attribute of the instance -/
def tFld (K : PySem.W.Frag) (ta : TE) (f : Str) : TE := fun σ H Q => ta σ H fun x H1 => ∃ a C dx fs v, x = .ref a ∧ H1 a = some (.ins C dx fs) ∧ Cls K C ∧ NoAttr K C f ∧ fs.lookup f = some v ∧ Q v H1
/-- e.f, a constant of the class -/
def tCon (K : PySem.W.Frag) (ta : TE) (f : Str) : TE := fun σ H Q => ta σ H fun x H1 => ∃ a C dx fs v u, x = .ref a ∧ H1 a = some (.ins C dx fs) ∧ Cls K C ∧ Con K C f v u ∧ fs.lookup f = none ∧ Q v H1
/-- e.f = value -/
def sFld (K : PySem.W.Frag) (ta tv : TE) (f : Str) : TS := fun D σ H => tv σ H fun y H1 => ta σ H1 fun x H2 => ∃ a C dx fs, x = .ref a ∧ H2 a = some (.ins C dx fs) ∧ Cls K C ∧ NoAttr K C f ∧ fs.length < 1000 ∧
  D.nx σ (upd H2 a (.ins C dx (putF f y fs)))
/-- an augmented operator on two values -/
def InOp (X : Cx) (op : Operator) (rd : V → V → Hp → VK → Prop) : Prop :=
  ∀ (pins : List (Addr × Obj)) (s : Shared) (σ : St) (H : Hp) (x y : V) (u v : Value) (Q : VK), Inv X pins σ H s → RelV x u → RelV y v → rd x y H Q → wpAny (model X.prog X.w) X.A (inplaceOp op u v) (EP X pins σ Q) X.xe s
/-- e.f op= value -/
def sFldAug (K : PySem.W.Frag) (ta tv : TE) (rd : V → V → Hp → VK → Prop) (f : Str) : TS := fun D σ H => ta σ H fun x H1 => ∃ a C dx fs v, x = .ref a ∧ H1 a = some (.ins C dx fs) ∧ Cls K C ∧ NoAttr K C f ∧ fs.lookup f = some v ∧
  tv σ H1 fun y H2 => rd v y H2 fun z H3 => ∃ dx' fs', H3 a = some (.ins C dx' fs') ∧ fs'.length < 1000 ∧ D.nx σ (upd H3 a (.ins C dx' (putF f z fs')))

section
variable {X : Cx} {o e value : Expr} {f : Str} {pos pos' tpos : Pos} {ta tv : TE}
theorem ps_fld (ha : PE X o ta) (hv : PE X value tv) (hs : swapsWith value (some (.Attribute o f pos')) pos.line X.env = pure false) : PS X (.Assign [.Attribute o f pos'] value pos) (sFld X.K ta tv f) := by
  intro pins s σ H D I h
  refine plainObj_wpAny_Assign_Attribute (thn (hv pins s σ H _ I h) fun u s1 ⟨y, H1, I1, ry, q⟩ => thn (ha pins s1 σ H1 _ I1 q) fun ov s2 ⟨x, H2, I2, rx, a, C, dx, fs, ex, ea, c, n, l, q2⟩ => ?_) hs
  subst ex
  obtain rfl : ov = Value.ref a := rx
  exact setattr_ok I2 ea c n l ry fun s3 I3 => ⟨σ, _, I3, q2⟩
def rAdd : V → V → Hp → VK → Prop := fun x y H Q => ∃ i j, x = .int i ∧ y = .int j ∧ Q (.int (i + j)) H
def rSub : V → V → Hp → VK → Prop := fun x y H Q => ∃ i j, x = .int i ∧ y = .int j ∧ Q (.int (i - j)) H
end

/-! ### isinstance -/
section
variable {X : Cx} {pins : List (Addr × Obj)} {σ : St} {H : Hp} {s : Shared} {A : Around} {E : Value → Shared → Prop} {Q : Value → Shared → Prop} {c : Value} {b : Bool}
/-- the type of a value, as the fragment's deciders take it; for an instance its class -/
inductive TyOf (K : PySem.W.Frag) (H : Hp) : V → Value → Prop where
  | non : TyOf K H .non (.type "NoneType")
  | bl (x : Bool) : TyOf K H (.bl x) (.type "bool")
  | int (i : Int) : TyOf K H (.int i) (.type "int")
  | str (x : Str) : TyOf K H (.str x) (.type "str")
  | flt (x : UInt64) : TyOf K H (.flt x) (.type "float")
  | lst {a : Addr} {xs : List V} (e : H a = some (.lst xs)) : TyOf K H (.ref a) (.type "list")
  | frz {a : Addr} {o : Obj} {xs : List V} (e : H a = some (.frz o (.lst xs))) : TyOf K H (.ref a) (.type "list")
  | tup {a : Addr} {xs : List V} (e : H a = some (.tup xs)) : TyOf K H (.ref a) (.type "tuple")
  | dK {a : Addr} {kvs : List (Key × V)} (e : H a = some (.dK kvs)) : TyOf K H (.ref a) (.type "dict")
  | dT {a : Addr} {kvs : List (List Key × V)} (e : H a = some (.dT kvs)) : TyOf K H (.ref a) (.type "dict")
  | ins {a C dx : Addr} {fs : List (Str × V)} (e : H a = some (.ins C dx fs)) (cl : Cls K C) (ha : PySem.W.findIn K (.ref C) "__class__" = some (some (.builtin "object.__class__")))
      (hn : PySem.W.specialIn K (.builtin "object.__class__") "__get__" = some (some (.builtin "getset_descriptor.__get__"))) (htk : PySem.W.takesIn K (.builtin "object.__class__") = some true)
      (hm : PySem.W.mroIn K C (.type "object") = some true) : TyOf K H (.ref a) (.ref C)
end
end L2

namespace L2
open PySem PySem.Spec PyProof.Rows

/-! ### room -/
structure Room (k : Nat) (A : Around) : Prop where
  hd : A.handled = none
  dp : A.depth + 3 * k + 5 < recursionLimit
  un : A.units + 16 * k + 200 < cLine
  gd : A.guards = some []
theorem Room.mono {j k : Nat} {A : Around} (r : Room k A) (h : j ≤ k) : Room j A := ⟨r.hd, by have := r.dp; omega, by have := r.un; omega, r.gd⟩
theorem Room.deeper {k : Nat} {A : Around} (r : Room (k + 1) A) (env : Env) : Room k (A.deeper env) :=
  ⟨r.hd, by have := r.dp; show A.depth + 1 + 3 * k + 5 < _; omega, by have := r.un; show A.units + 3 + 16 * k + 200 < _; omega, r.gd⟩
theorem make_depth {A : Around} {C : Addr} {us : List Value} {kw : List (Str × Value)} : (A.under (.builtin "type.__call__" ⟨.ref C :: us, kw⟩)).depth = A.depth + 1 := by
  first | rfl | simp [Around.under, Code.weight, Code.isCreation, Code.isGuard, Code.isCaller, Code.frames, Code.isFrame, guardIds]
theorem make_units {A : Around} {C : Addr} {us : List Value} {kw : List (Str × Value)} : (A.under (.builtin "type.__call__" ⟨.ref C :: us, kw⟩)).units = A.units + 1 := by
  first | rfl | simp [Around.under, Code.cUnits, Code.frames, Code.isFrame]
theorem Room.make {k : Nat} {A : Around} (r : Room (k + 1) A) (C : Addr) (us : List Value) (kw : List (Str × Value)) : Room k (A.under (.builtin "type.__call__" ⟨.ref C :: us, kw⟩)) :=
  ⟨r.hd, by have := r.dp; rw [make_depth]; omega, by have := r.un; rw [make_units]; omega, by first | exact r.gd | simpa [Around.under, Code.guards, Code.isGuard, guardIds, pushGuards] using r.gd⟩
theorem Room.depth {k : Nat} {A : Around} (r : Room k A) : A.depth < recursionLimit := by have := r.dp; omega
theorem Room.units {k : Nat} {A : Around} (r : Room k A) : A.units + 64 < cLine := by have := r.un; omega
/-! ### argument lists and displays -/
def tNil : TA := fun _ H Q => Q [] H
def tCons (ta : TE) (tr : TA) : TA := fun σ H Q => ta σ H fun x H1 => tr σ H1 fun xs H2 => Q (x :: xs) H2
section
variable {X : Cx} {e : Expr} {es : List Expr} {te : TE} {t : TA} {pos : Pos}
theorem pa_nil : PA X [] tNil := fun _ _ _ _ H Q I h => Calls.spliced_nil ⟨[], H, I, .nil, h⟩
theorem pa_cons (ha : PE X e te) (hr : PA X es t) (hs : starEach (e :: es) X.env = (false, eval e X.env) :: starEach es X.env := by rfl) : PA X (e :: es) (tCons te t) := by
  intro pos pins s σ H Q I h
  rw [hs]
  show wpAny _ _ (spliced ((false, eval e X.env) :: backTo pos (starEach es X.env))) _ _ s
  refine Calls.spliced_cons (thn (ha pins s σ H _ I h) fun u s1 ⟨x, H1, I1, r1, q1⟩ => ?_)
  exact thn (hr pos pins s1 σ H1 _ I1 q1) fun us s2 ⟨xs, H2, I2, r2, q2⟩ => ⟨x :: xs, H2, I2, .cons r1 r2, q2⟩

/-- a tuple, a list of written items -/
def tTup (t : TA) : TE := fun σ H Q => t σ H fun xs H1 => xs.length ≤ sizeLine ∧ ∀ p, H1 p = none → Q (.ref p) (upd H1 p (.tup xs))
def tLst (t : TA) : TE := fun σ H Q => t σ H fun xs H1 => xs.length ≤ sizeLine ∧ ∀ p, H1 p = none → Q (.ref p) (upd H1 p (.lst xs))
theorem pe_tup {x1} (h : PA X es t) : PE X (.Tuple es x1 pos) (tTup t) := by
  intro pins s σ H Q I hq
  refine wpAny_Tuple_spliced (thn (h pos pins s σ H _ I hq) fun us s1 ⟨xs, H1, I1, r, z, q⟩ => ⟨by rw [← r.length]; exact z, ?_⟩)
  have hf : H1 s1.heap.objs.size = none := I1.hok.fresh (Nat.le_refl _)
  refine ⟨.ref s1.heap.objs.size, upd H1 s1.heap.objs.size (.tup xs), I1.laid (t' := s1.toks) (fun b u e => Heap.get?_push_of_some _ e) (Nat.le_refl _) ?_, rfl, q _ hf⟩
  exact ⟨z, us, r, ⟨_, Heap.get?_push_size _ rfl, rfl, _, rfl⟩⟩
theorem pe_lst (h : PA X es t) : PE X (.List es pos) (tLst t) := by
  intro pins s σ H Q I hq
  refine wpAny_List_spliced (thn (h pos pins s σ H _ I hq) fun us s1 ⟨xs, H1, I1, r, z, q⟩ => ⟨by rw [← r.length]; exact z, ?_⟩)
  have hf : H1 s1.heap.objs.size = none := I1.hok.fresh (Nat.le_refl _)
  refine ⟨.ref s1.heap.objs.size, upd H1 s1.heap.objs.size (.lst xs), I1.laid (t' := s1.toks) (fun b u e => Heap.get?_push_of_some _ e) (Nat.le_refl _) ?_, rfl, q _ hf⟩
  exact ⟨z, us, 0, r, Heap.get?_push_size _ rfl⟩
end

/-! ### what a def promises -/
/-- a def's promise: the bound arguments in the parameters' order, the heap, the wanted end, the wanted exception -/
abbrev Sp := List V → Hp → VK → XK → Prop
/-- how an exception lies behind a call (file 08 gives it): the callers' frames, abstract heap and state ahead of the call, the wish, the exception, the state -/
abbrev CXT := List Env → Hp → Shared → XK → Value → Shared → Prop

/-- the state at a call -/
structure Env0 (P : Program) (w : World) (K : PySem.W.Frag) (mg : Str → Option Value) (base : Heap) (A : Around) (outer : List Env) (s : Shared) (H : Hp) : Prop where
  frames : A.frames = some outer
  mod : Mod K mg base
  bs : ∀ b o, base.get? b = some o → s.heap.get? b = some o ∧ H b = none
  bsz : base.objs.size ≤ s.heap.objs.size
  funs : s.heap.FunFrames base outer
  frf : ∀ b ∈ frs outer, H b = none
  hok : HOk P w H s.heap
  bare : AllBare s.gens
/-- a call's end -/
def CE (outer : List Env) (P : Program) (w : World) (H : Hp) (s : Shared) (Q : VK) (u : Value) (s' : Shared) : Prop :=
  ∃ v H', s'.os = s.os ∧ AllBare s'.gens ∧ Un (frs outer) [] H H' s.heap s'.heap ∧ HOk P w H' s'.heap ∧ RelV v u ∧ Q v H'
def CR (CX : CXT) (outer : List Env) (P : Program) (w : World) (H : Hp) (s : Shared) (Q : VK) (E : XK) (r : Result) (s' : Shared) : Prop :=
  match r with
  | .ok (.ret u) => CE outer P w H s Q u s'
  | .ok _ => False
  | .error e => CX outer H s E e s'
structure FnOk (P : Program) (w : World) (K : PySem.W.Frag) (mg : Str → Option Value) (base : Heap) (CX : CXT) (k : Nat) (f : Addr) (fd : FuncData) (ps : List Str) (sp : Sp) : Prop where
  len : ∀ vs H Q E, sp vs H Q E → vs.length = ps.length
  run : ∀ (A : Around) (outer : List Env) (s : Shared) (H : Hp) (args : Args) (us : List Value) (vs : List V) (Q : VK) (E : XK), Room k A → Env0 P w K mg base A outer s H → BindsTo s fd args (ps.zip us) → Vals vs us → sp vs H Q E →
    codeAny (model P w) A (.call (.ref f) args) (CR CX outer P w H s Q E) s
theorem Env0.make {P : Program} {w : World} {K : PySem.W.Frag} {mg : Str → Option Value} {base : Heap} {A : Around} {outer : List Env} {s : Shared} {H : Hp} (e : Env0 P w K mg base A outer s H) (C : Addr) (us : List Value) (kw : List (Str × Value)) :
    Env0 P w K mg base (A.under (.builtin "type.__call__" ⟨.ref C :: us, kw⟩)) outer s H := ⟨by first | exact e.frames | (simpa [Around.under, Code.envs, Code.isFrame, pushEnvs] using e.frames), e.mod, e.bs, e.bsz, e.funs, e.frf, e.hok, e.bare⟩
section
variable {X : Cx} {pins : List (Addr × Obj)} {σ : St} {H : Hp} {s s' : Shared}
/-- from a body: what a callee wants -/
theorem Inv.env0 (I : Inv X pins σ H s) : Env0 X.prog X.w X.K X.mg X.base X.A X.stack s H :=
  ⟨I.ok.frames, I.ok.mod, I.bs, Nat.le_trans I.ok.bsz I.sz, I.stack, I.stkFree, I.hok, I.bare⟩
/-- behind a call -/
theorem Inv.after {Q : VK} {u : Value} (I : Inv X pins σ H s) (h : CE X.stack X.prog X.w H s Q u s') : EP X pins σ Q u s' := by
  obtain ⟨v, H', os, bare, un, hok, r, q⟩ := h
  obtain ⟨hh, g, d, t, os'⟩ := s'
  obtain rfl : os' = s.os := os
  exact ⟨v, H', I.call (h' := hh) (g' := g) (d' := d) (t' := t) (ch := []) un hok bare (fun b z => absurd z (by simp)), r, q⟩
end

/-! ### calls -/
/-- f(..): the written arguments, then the defaults dvs; E: what is wanted of an exception -/
def tCall (sp : Sp) (dvs : List V) (E : XK) (t : TA) : TE := fun σ H Q => t σ H fun vs H1 => sp (vs ++ dvs) H1 Q E
/-- o.m(..) of an instance of the class at C -/
def tMeth (C : Addr) (m : Str) (sp : Sp) (dvs : List V) (E : XK) (ta : TE) (t : TA) : TE := fun σ H Q => ta σ H fun x H1 => ∃ a dx fs, x = .ref a ∧ H1 a = some (.ins C dx fs) ∧ fs.lookup m = none ∧
  t σ H1 fun vs H2 => sp (x :: (vs ++ dvs)) H2 Q E
/-- C(..): a new instance and its dict, then __init__ -/
def tMake (C : Addr) (sp : Sp) (dvs : List V) (E : XK) (t : TA) : TE := fun σ H Q => t σ H fun vs H1 => ∀ x dx, H1 x = none → H1 dx = none → dx ≠ x →
  sp (.ref x :: (vs ++ dvs)) (upd (upd H1 dx (.own x)) x (.ins C dx [])) (fun v H2 => v = .non ∧ Q (.ref x) H2) E

/-- how the parameters are bound: us the positional arguments, kw the keywords' values by name, ds the defaults that fill up -/
def Binds (K : PySem.W.Frag) (fd : FuncData) (ps : List Str) (ds : List Value) : Prop :=
  ∀ (s : Shared) (us : List Value), K.In s.heap → (us ++ ds).length = ps.length → BindsTo s fd ⟨us, []⟩ (ps.zip (us ++ ds))
/-- every parameter is given -/
theorem Binds.all {K : PySem.W.Frag} {fd : FuncData} {ps : List Str} (h : ∀ us : List Value, us.length = ps.length → bindArgs fd ⟨us, []⟩ = pure (ps.zip us)) : Binds K fd ps [] := fun s us _ hl => by
  rw [List.append_nil] at hl ⊢
  exact .of_eq (h us hl)

/-- an exception of a callee reaches what this body wants of exceptions -/
def Passes (CX : CXT) (X : Cx) (E : XK) : Prop := ∀ (pins : List (Addr × Obj)) (σ : St) (H : Hp) (s : Shared) (e : Value) (s' : Shared), Inv X pins σ H s → CX X.stack H s E e s' → X.xe e s'

section
variable {X : Cx} {CX : CXT} {k : Nat} {f C : Addr} {fd : FuncData} {ps : List Str} {sp : Sp} {dvs : List V} {ds : List Value} {E : XK} {x m : Str} {p pos apos : Pos} {e o : Expr} {es : List Expr} {ta : TE} {t : TA}

/-- the callee runs -/
theorem run_fn {pins : List (Addr × Obj)} {σ : St} {H : Hp} {s : Shared} {Q : VK} {us : List Value} {vs : List V} (F : FnOk X.prog X.w X.K X.mg X.base CX k f fd ps sp) (hr : Room k X.A) (hb : Binds X.K fd ps ds) (hd : Vals dvs ds) (hx : Passes CX X E)
    (I : Inv X pins σ H s) (r : Vals vs us) (h : sp (vs ++ dvs) H Q E) : wpAny (model X.prog X.w) X.A (call (.ref f) us) (EP X pins σ Q) X.xe s := by
  have r2 : Vals (vs ++ dvs) (us ++ ds) := r.append hd
  have hl : (us ++ ds).length = ps.length := by rw [← r2.length]; exact F.len _ _ _ _ h
  refine wpAny_call (codeAny_mono (F.run X.A X.stack s H ⟨us, []⟩ (us ++ ds) (vs ++ dvs) Q E hr I.env0 (hb s us I.kIn hl) r2 h) fun r s' hq => ?_)
  cases r with
  | error e => exact hx pins σ H s e s' I hq
  | ok fl =>
    cases fl with
    | ret u => exact I.after hq
    | next => exact False.elim hq
    | brk => exact False.elim hq
    | cont => exact False.elim hq

theorem pe_call (F : FnOk X.prog X.w X.K X.mg X.base CX k f fd ps sp) (hr : Room k X.A) (hg : Gl X x) (hm : X.mg x = some (.ref f)) (hk : PySem.W.keepIn X.K (.ref f) = true) (hb : Binds X.K fd ps ds) (hd : Vals dvs ds) (hx : Passes CX X E)
    (ha : PA X (e :: es) t) (hdb : (x == ("__debug__" : Str)) = false := by decide) (he : starEach (e :: es) X.env = (false, eval e X.env) :: starEach es X.env := by rfl) (hpl : (backTo pos (starEach es X.env)).any (·.1) = false := by rfl) :
    PE X (.Call (.Name x p) (e :: es) [] pos) (tCall sp dvs E t) := by
  intro pins s σ H Q I h
  refine wpAny_Call_Name_kw (ld_glob I hg hm ?_ hdb)
  refine PySem.W.callWith_K (h₀ := X.base) I.ok.mod.kin hk (thn (ha pos pins s σ H _ I h) fun us s1 ⟨vs, H1, I1, r, q⟩ => ⟨I1.kIn, ?_⟩) he hpl
  exact run_fn F hr hb hd hx I1 r q
/-- what a class must have to be made -/
structure Mk (K : PySem.W.Frag) (C f : Addr) : Prop where
  makes : PySem.W.makesIn K C = true
  init : PySem.W.findIn K (.ref C) "__init__" = some (some (.ref f))
  fn : PySem.W.isFn K (.ref f) = true
  kp : PySem.W.keepIn K (.ref C) = true

end

/-! ### keywords -/
/-- the values of the keywords, from the left -/
def PK (X : Cx) (kws : List Keyword) (t : TA) : Prop :=
  ∀ (pos : Pos) (pins : List (Addr × Obj)) (s : Shared) (σ : St) (H : Hp) (Q : List V → Hp → Prop), Inv X pins σ H s → t σ H Q → wpAny (model X.prog X.w) X.A (evalAll ((backToKw pos (keywordEach kws X.env)).map (·.2))) (AP X pins σ Q) X.xe s
section
variable {X : Cx} {CX : CXT} {k : Nat} {f C : Addr} {fd : FuncData} {ps ks : List Str} {sp : Sp} {E : XK} {x m : Str} {p pos apos kpos : Pos} {e o : Expr} {es : List Expr} {kws : List Keyword} {te ta : TE} {t tk : TA} {nm : Option Str}
/-- how a call with keywords binds: g puts the positional values us and the keywords' values ws (names ks) in the parameters' order, defaults among them -/
structure KBinds (K : PySem.W.Frag) (fd : FuncData) (ps ks : List Str) (g : List Value → List Value → List Value) (gV : List V → List V → List V) : Prop where
  to : ∀ (s : Shared) (us ws : List Value), K.In s.heap → (g us ws).length = ps.length → BindsTo s fd ⟨us, ks.zip ws⟩ (ps.zip (g us ws))
  rel : ∀ {vs : List V} {us : List Value} {zs : List V} {ws : List Value}, Vals vs us → Vals zs ws → Vals (gV vs zs) (g us ws)
def tCallK (sp : Sp) (gV : List V → List V → List V) (E : XK) (t tk : TA) : TE := fun σ H Q => t σ H fun vs H1 => tk σ H1 fun zs H2 => sp (gV vs zs) H2 Q E
variable {g : List Value → List Value → List Value} {gV : List V → List V → List V}
end

/-! ### a def's body keeps its promise -/
/-- names: the parameters first -/
structure FnScope (N P : List Str) (sc : Scope) : Prop where
  kind : sc.kind = .function
  co : sc.isCoroutine = false
  gen : sc.isGenerator = false
  nd : N.Nodup
  pre : N.take P.length = P
  par : ∀ x ∈ P, sc.names.lookup x = some .local ∨ sc.names.lookup x = some .cell
  nofree : ∀ y ∈ sc.names, y.2 ≠ .free

theorem bindL_out {kindOf : Str → Option NameKind} {x : Str} : ∀ {binds : List (Str × Value)} {m : Str → Option Value}, (∀ v, (x, v) ∉ binds) → bindL kindOf binds m x = m x
  | [], _, _ => rfl
  | (n, v) :: r, m, h => by
    unfold bindL
    rw [bindL_out fun w hw => h w (List.mem_cons_of_mem _ hw)]
    split
    · have : x ≠ n := by rintro rfl; exact h v List.mem_cons_self
      simp [this]
    · rfl
theorem bindC_out {kindOf : Str → Option NameKind} {x : Str} : ∀ {binds : List (Str × Value)} {m : Str → Option Value}, (∀ v, (x, v) ∉ binds) → bindC kindOf binds m x = m x
  | [], _, _ => rfl
  | (n, v) :: r, m, h => by
    unfold bindC
    rw [bindC_out fun w hw => h w (List.mem_cons_of_mem _ hw)]
    split
    · rfl
    · have : x ≠ n := by rintro rfl; exact h v List.mem_cons_self
      simp [this]
theorem bindL_get {kindOf : Str → Option NameKind} {x : Str} {v : Value} : ∀ {P : List Str} {vs : List Value} {i : Nat} {m : Str → Option Value}, P.Nodup → P[i]? = some x → vs[i]? = some v → kindOf x = some .local →
    bindL kindOf (P.zip vs) m x = some v
  | [], _, _, _, _, h, _, _ => by simp at h
  | _ :: _, [], _, _, _, _, h, _ => by simp at h
  | p :: P, w :: vs, 0, m, nd, h1, h2, hk => by
    simp at h1 h2; subst h1; subst h2
    show bindL kindOf ((p, w) :: P.zip vs) m p = _
    unfold bindL
    rw [bindL_out fun v hv => (List.nodup_cons.mp nd).1 (List.of_mem_zip hv).1, if_pos hk]
    simp
  | p :: P, w :: vs, i + 1, m, nd, h1, h2, hk => by
    show bindL kindOf ((p, w) :: P.zip vs) m x = _
    unfold bindL
    exact bindL_get (i := i) (List.nodup_cons.mp nd).2 (by simpa using h1) (by simpa using h2) hk
theorem bindC_get {kindOf : Str → Option NameKind} {x : Str} {v : Value} : ∀ {P : List Str} {vs : List Value} {i : Nat} {m : Str → Option Value}, P.Nodup → P[i]? = some x → vs[i]? = some v → kindOf x ≠ some .local →
    bindC kindOf (P.zip vs) m x = some v
  | [], _, _, _, _, h, _, _ => by simp at h
  | _ :: _, [], _, _, _, _, h, _ => by simp at h
  | p :: P, w :: vs, 0, m, nd, h1, h2, hk => by
    simp at h1 h2; subst h1; subst h2
    show bindC kindOf ((p, w) :: P.zip vs) m p = _
    unfold bindC
    rw [bindC_out fun v hv => (List.nodup_cons.mp nd).1 (List.of_mem_zip hv).1, if_neg hk]
    simp
  | p :: P, w :: vs, i + 1, m, nd, h1, h2, hk => by
    show bindC kindOf ((p, w) :: P.zip vs) m x = _
    unfold bindC
    exact bindC_get (i := i) (List.nodup_cons.mp nd).2 (by simpa using h1) (by simpa using h2) hk

/-- the names' values at the entry -/
def start (N : List Str) (vs : List V) : St := vs.map some ++ List.replicate (N.length - vs.length) none

/-- the context of a def's body, at its entry; an exception leaves the frame, then lies as CX says -/
def cxOf (CX : CXT) (P : Program) (w : World) (K : PySem.W.Frag) (mg : Str → Option Value) (base : Heap) (N : List Str) (qual : Str) (scope : Scope) (f : Addr) (cd : Value) (A : Around) (outer : List Env) (s : Shared) (H : Hp) (E : XK) : Cx where
  prog := P
  w := w
  K := K
  mg := mg
  base := base
  A := A.deeper (envOfC qual scope s.heap.objs.size f cd)
  N := N
  s₀ := s
  H₀ := H
  env := envOfC qual scope s.heap.objs.size f cd
  outer := outer
  stack := envOfC qual scope s.heap.objs.size f cd :: outer
  ex := []
  calm := true
  fn := fun _ => true
  pn := []
  xe := fun e s' => wpAny (model P w) (A.deeper (envOfC qual scope s.heap.objs.size f cd)) (leaving (envOfC qual scope s.heap.objs.size f cd) e) (fun _ s'' => CX outer H s E e s'') (fun e' s'' => CX outer H s E e' s'') s'

theorem cell_has {sc : Scope} {n : Nat} {x : Str} (h : sc.names.lookup x = some .cell) : ∃ c, (cellsFrom n sc.names []).lookup x = some c := by
  have q := PySem.W.cellsFrom_some sc.names n [] (.inl h)
  exact Option.isSome_iff_exists.mp q

theorem inv_start {CX : CXT} {P : Program} {w : World} {K : PySem.W.Frag} {mg : Str → Option Value} {base : Heap} {N ps : List Str} {qual : Str} {scope : Scope} {f : Addr} {cd : Value} {A : Around} {outer : List Env} {s s1 : Shared} {H : Hp} {E : XK} {us : List Value} {vs : List V}
    (S : FnScope N ps scope) (hd : A.handled = none) (e0 : Env0 P w K mg base A outer s H) (hl : vs.length = ps.length) (r : Vals vs us)
    (x : InCallC s s.heap.objs.size (bindL (envOfC qual scope s.heap.objs.size f cd).kindOf (ps.zip us) fun _ => none) (cellsFrom (s.heap.objs.size + 1) scope.names []) (bindC (envOfC qual scope s.heap.objs.size f cd).kindOf (ps.zip us) fun _ => none) s1) :
    Inv (cxOf CX P w K mg base N qual scope f cd A outer s H E) [] (start N vs) H s1 := by
  have hpl : ps.length ≤ N.length := by have := congrArg List.length S.pre; rw [List.length_take] at this; omega
  obtain ⟨h1, tk, rfl, hk⟩ := x.done
  have noA : ∀ b : Addr, b ∉ (cxOf CX P w K mg base N qual scope f cd A outer s H E).ex := fun b z => absurd (show b ∈ ([] : List Addr) from z) (by simp)
  refine ⟨⟨e0.mod, S.kind, rfl, rfl, Nat.le_refl _, fun y z c h1 h2 => ?_, fun y hy => ?_, fun y c _ h => ?_, fun _ => hd, Around.frames_deeper e0.frames, .inr ⟨rfl, rfl⟩, fun b z => absurd z (noA b), e0.bs, e0.bsz, fun b _ _ => noA b, fun b z => absurd z (noA b), e0.funs, e0.frf⟩,
    rfl, e0.bare, Un.kept hk, ⟨_, x.toInCall.ns, fun i y v h1 h2 h3 => ?_⟩, fun y c h => ⟨_, x.cell y c h⟩, e0.hok.fresh (Nat.le_refl _), fun y c h => ?_, fun p hp => absurd (show p ∈ ([] : List (Addr × Obj)) from hp) (by simp), e0.hok.kept hk, ?_⟩
  · exact name_of_addr x.apart (PySem.mem_of_lookup h1) (PySem.mem_of_lookup h2)
  · have hy : scope.names.lookup y = some .cell ∨ scope.names.lookup y = some .free := hy
    rcases hy with hy | hy
    · exact cell_has hy
    · exact absurd rfl (S.nofree _ (PySem.mem_of_lookup hy))
  · exact Nat.le_of_lt (x.above y c (PySem.mem_of_lookup h))
  · have hi : i < vs.length := by
      unfold start at h2
      by_cases hi : i < vs.length
      · exact hi
      · rw [List.getElem?_append_right (by simpa using hi)] at h2
        rw [List.getElem?_replicate] at h2
        split at h2 <;> cases h2
    have ha : vs[i]? = some v := by
      unfold start at h2
      rw [List.getElem?_append_left (by simpa using hi), List.getElem?_map] at h2
      cases e : vs[i]? with
      | none => rw [e] at h2; cases h2
      | some a => rw [e] at h2; cases h2; rfl
    obtain ⟨u, hu, rv⟩ := r.get ha
    have hp : ps[i]? = some y := by
      rw [← S.pre, List.getElem?_take_of_lt (by omega)]; exact h1
    have ndP : ps.Nodup := by rw [← S.pre]; exact S.nd.sublist (List.take_sublist _ _)
    refine ⟨u, rv, ?_⟩
    rcases S.par y (List.mem_of_getElem? hp) with k | k
    · exact .inl ⟨k, bindL_get ndP hp hu k⟩
    · obtain ⟨c, e⟩ := cell_has (n := s.heap.objs.size + 1) k
      refine .inr ⟨.inl k, c, e, ?_⟩
      have q := x.cell y c e
      rw [bindC_get ndP hp hu (by show scope.names.lookup y ≠ _; rw [k]; decide)] at q
      exact q
  · exact e0.hok.fresh (Nat.le_of_lt (x.above y c (PySem.mem_of_lookup h)))
  · unfold start
    show _ = N.length
    rw [List.length_append, List.length_map, List.length_replicate]
    omega

/-- THE RULE: a def (or a method) of the text, by its body. The body's reading t is chosen for each entry; it is run at the parameters' values -/
theorem fn_of {CX : CXT} {P : Program} {w : World} {K : PySem.W.Frag} {mg : Str → Option Value} {base : Heap} {k : Nat} {f : Addr} {name qual : Str} {params : Arguments} {body : List Stmt} {scope : Scope} {dV kV doc pm cdv ct oc : Value} {an od : Option Addr}
    {osl : Array (Option Value)} {N ps : List Str} {sp : Sp} (lk : K.lookup f = some ⟨oc, od, .func (PySem.W.fnOf name qual params body scope dV kV doc pm an cdv ct), osl⟩) (hcd : PySem.W.codeIn K cdv qual = true) (S : FnScope N ps scope)
    (len : ∀ vs H Q E, sp vs H Q E → vs.length = ps.length)
    (hbody : ∀ (A : Around) (outer : List Env) (s : Shared) (H : Hp) (vs : List V) (Q : VK) (E : XK), Room k (A.deeper (envOfC qual scope s.heap.objs.size f cdv)) → sp vs H Q E →
      ∃ t, PSs (cxOf CX P w K mg base N qual scope f cdv A outer s H E) body t ∧ t { nx := fun _ H' => Q .non H', rt := Q } (start N vs) H) :
    FnOk P w K mg base CX (k + 1) f (PySem.W.fnOf name qual params body scope dV kV doc pm an cdv ct) ps sp := by
  refine ⟨len, fun A outer s H args us vs Q E hr e0 hb r hsp => ?_⟩
  have hl := len _ _ _ _ hsp
  have KX : K.In s.heap := e0.mod.kin.keeps fun b o e => (e0.bs b o e).1
  have lim : s.heap.NoLimit := e0.mod.nolimit.keeps fun b o e => (e0.bs b o e).1
  have hkind : ∀ y ∈ ps.zip us, scope.names.lookup y.1 = some .local ∨ (scope.names.lookup y.1 = some .cell ∧ ((cellsFrom (s.heap.objs.size + 1) scope.names []).lookup y.1).isSome = true) := fun ⟨n, v⟩ hy => by
    rcases S.par n (List.of_mem_zip hy).1 with q | q
    · exact .inl q
    · exact .inr ⟨q, PySem.W.cellsFrom_some _ _ _ (.inl q)⟩
  refine codeAny_call_function hr.depth (KX _ _ lk) rfl S.co S.gen rfl (PySem.W.codeRec_of KX hcd) (hb _ _ _ _ ?_)
  refine wpAny_newFunctionEnv_cells S.kind hkind fun env he s1 x => ?_
  subst he
  refine ⟨lim.keeps x.toInCall.keep, codeAny_func ?_⟩
  obtain ⟨t, ht, hq⟩ := hbody A outer s H vs Q E (hr.deeper _) hsp
  have I : Inv (cxOf CX P w K mg base N qual scope f cdv A outer s H E) [] (start N vs) H s1 := inv_start S hr.hd e0 hl r x
  refine wpAny_mono (ht [] s1 (start N vs) H _ I hq) (fun fl s' hs => ?_) fun e s' hs => hs
  have fin : ∀ {σ' : St} {H' : Hp} {v : V} {u : Value}, Inv (cxOf CX P w K mg base N qual scope f cdv A outer s H E) [] σ' H' s' → RelV v u → Q v H' → CE outer P w H s Q u s' :=
    fun {σ' H' v u} J rv q => ⟨v, H', J.os, J.bare, J.base, J.hok, rv, q⟩
  cases fl with
  | ret u =>
    obtain ⟨v, σ', H', J, rv, q⟩ := hs
    exact fin J rv q
  | next =>
    obtain ⟨σ', H', J, q⟩ := hs
    exact fin (v := V.non) (u := Value.none) J rfl q
  | brk =>
    obtain ⟨_, _, _, q⟩ := hs
    exact False.elim q
  | cont =>
    obtain ⟨_, _, _, q⟩ := hs
    exact False.elim q
end L2

namespace L2
open PySem PySem.Spec PyProof.Rows
section
variable {X : Cx} {x : Str} {p pos : Pos} {e : Expr} {es : List Expr} {t : TA} {id T : String} {r : List V → Hp → VK → Prop}

def tCB (r : List V → Hp → VK → Prop) (t : TA) : TE := fun σ H Q => t σ H fun vs H1 => r vs H1 Q
/-- f(e, ..), f a built-in function -/
theorem pe_callB (hc : CallR X (.builtin id) r) (hg : Gl X x) (hm : X.mg x = none) (hv : bootBuiltins x = some (.builtin id)) (ha : PA X (e :: es) t) (hn : x ≠ "__name__" := by decide) (hdb : (x == ("__debug__" : Str)) = false := by decide)
    (he : starEach (e :: es) X.env = (false, eval e X.env) :: starEach es X.env := by rfl) (hpl : (backTo pos (starEach es X.env)).any (·.1) = false := by rfl) : PE X (.Call (.Name x p) (e :: es) [] pos) (tCB r t) := by
  intro pins s σ H Q I h
  refine wpAny_Call_Name_kw (ld_blt I hg hm hv ?_ hn hdb)
  exact PyProof.Rows.callWith_builtin1 (thn (ha pos pins s σ H _ I h) fun us s1 ⟨vs, H1, I1, r1, q1⟩ => hc pins s1 σ H1 vs us Q I1 r1 q1) he hpl
/-- T(e, ..), T a built-in type -/
theorem pe_callTy (hc : CallR X (.type T) r) (hg : Gl X x) (hm : X.mg x = none) (hv : bootBuiltins x = some (.type T)) (ha : PA X (e :: es) t) (hn : x ≠ "__name__" := by decide) (hdb : (x == ("__debug__" : Str)) = false := by decide)
    (he : starEach (e :: es) X.env = (false, eval e X.env) :: starEach es X.env := by rfl) (hpl : (backTo pos (starEach es X.env)).any (·.1) = false := by rfl) : PE X (.Call (.Name x p) (e :: es) [] pos) (tCB r t) := by
  intro pins s σ H Q I h
  refine wpAny_Call_Name_kw (ld_blt I hg hm hv ?_ hn hdb)
  exact PyProof.Rows.callWith_type1 (thn (ha pos pins s σ H _ I h) fun us s1 ⟨vs, H1, I1, r1, q1⟩ => hc pins s1 σ H1 vs us Q I1 r1 q1) he hpl
end
end L2

namespace HT
open PySem PyProof.Rows

/-- t < u of tuples of ints -/
def lexLt : List Int → List Int → Bool
  | [], [] => false
  | [], _ :: _ => true
  | _ :: _, [] => false
  | x :: xs, y :: ys => if x = y then lexLt xs ys else decide (x < y)
section
open PySem.SeqAt
open PySem.AutoSeq1 (wpAny_loadPart')
open PySem.MeetsSeq PySem.MeetsSeq2 PySem.MeetsSeq3

end

section
variable {prog : Program} {w : World} {A : Around} {E : Value → Shared → Prop} {s : Shared}

/-- t + u, t not empty -/
theorem cat_tup {t b : Addr} {vs ws : List Value} {Q : Value → Shared → Prop} (ht : IsTup s.heap t vs.toArray) (hb : IsTup s.heap b ws.toArray) (hv : vs ≠ [])
    (h1 : ws = [] → Q (.ref t) s) (h2 : ws ≠ [] → Q (.ref s.heap.objs.size) { s with heap := s.heap.push { cls := .type "tuple", data := .seq (vs ++ ws).toArray } })
    (hsz : vs.length + ws.length ≤ sizeLine) : wpAny (model prog w) A (binaryOp .Add (.ref t) (.ref b)) Q E s := by
  obtain ⟨⟨cls, dd, data, sl⟩, ho, hc, n, hd⟩ := id ht
  obtain ⟨⟨cls2, dd2, data2, sl2⟩, ho2, hc2, n2, hd2⟩ := id hb
  simp only at hc hd hc2 hd2
  subst hc hd hc2 hd2
  have e : vs.toArray ++ ws.toArray = (vs ++ ws).toArray := by simp
  by_cases hw : ws = []
  · exact concat_meets ⟨_, ho, rfl⟩ ⟨_, ho2, rfl⟩ noFill_tuple_add seq_tuple_add PySem.F.slot_tuple_add PySem.F.entry_tuple_add (PySem.F.args_tuple_add_2 _ _)
      (tuple_addW1 t b vs.toArray ws.toArray n n2 dd dd2 sl sl2 (by simpa using hv) (by simp [hw])) ⟨ho, ho2, h1 hw⟩
  · refine concat_meets ⟨_, ho, rfl⟩ ⟨_, ho2, rfl⟩ noFill_tuple_add seq_tuple_add PySem.F.slot_tuple_add PySem.F.entry_tuple_add (PySem.F.args_tuple_add_2 _ _)
      (tuple_addW2 t b vs.toArray ws.toArray n n2 dd dd2 sl sl2 (by simpa using hv) (by simpa using hw) (by rw [List.size_toArray, List.size_toArray]; exact hsz)) ⟨ho, ho2, ?_⟩
    rw [e]
    exact h2 hw

/-! ### t[a:b], not the whole -/
/-- a slice's bound as a place among n (d where it is left out) -/
def sIx (n d : Nat) : Option Int → Nat
  | none => d
  | some v => if v < 0 then (v + (n : Int)).toNat else min v.toNat n
theorem sIx_none (n d : Nat) : sIx n d none = d := rfl
theorem sIx_nat (n d k : Nat) : sIx n d (some (k : Int)) = min k n := by
  show (if (k : Int) < 0 then ((k : Int) + (n : Int)).toNat else min (k : Int).toNat n) = min k n
  rw [if_neg (by omega), Int.toNat_natCast]
theorem sIx_le (n d : Nat) (hd : d ≤ n) (o : Option Int) : sIx n d o ≤ n := by
  cases o with
  | none => exact hd
  | some v =>
    show (if v < 0 then (v + (n : Int)).toNat else min v.toNat n) ≤ n
    by_cases hv : v < 0
    · rw [if_pos hv]; omega
    · rw [if_neg hv]; exact Nat.min_le_right _ _
theorem clip_eq (v : Int) (n d : Nat) : (if v < 0 then max (v + (n : Int)) 0 else min v (n : Int)) = ((sIx n d (some v) : Nat) : Int) := by
  show (if v < 0 then max (v + (n : Int)) 0 else min v (n : Int)) = (((if v < 0 then (v + (n : Int)).toNat else min v.toNat n) : Nat) : Int)
  by_cases hv : v < 0
  · simp only [if_pos hv]; omega
  · simp only [if_neg hv]; omega
theorem adjust_gen (lo hi : Option Int) (n : Nat) : Builtin.Slice.sliceAdjust lo hi 1 (n : Int) = (((sIx n 0 lo : Nat) : Int), ((sIx n n hi : Nat) : Int)) := by
  have h1 : ¬ ((1 : Int) < 0) := by omega
  unfold Builtin.Slice.sliceAdjust
  simp only [h1, if_false]
  refine Prod.ext ?_ ?_
  · cases lo with
    | none => rfl
    | some v => exact clip_eq v n 0
  · cases hi with
    | none => rfl
    | some v => exact clip_eq v n n
theorem places_gen (i j : Nat) : Builtin.Slice.slicePlaces (i : Int) (j : Int) 1 = j - i := by
  unfold Builtin.Slice.slicePlaces
  have h1 : (1 : Int) > 0 := by omega
  simp only [h1, if_true, Int.ediv_one]
  split <;> omega
theorem slicePart_ {v : Value} {o : Option Int} {Q : Option Int → Shared → Prop} (p : IsPart v o) (h : Q o s) : wpAny (model prog w) A (Builtin.Slice.slicePartIndex v) Q E s := by
  cases p with
  | none => exact slicePart_none h
  | int i t => exact slicePart_int h
theorem sliceApplied_gen {sl : Addr} {vl vu : Value} {lo hi : Option Int} {n : Nat} {Q : Int × Int × Nat → Shared → Prop} (hs : s.heap.IsSliceOf sl vl vu .none) (pl : IsPart vl lo) (pu : IsPart vu hi)
    (h : Q (((sIx n 0 lo : Nat) : Int), 1, sIx n n hi - sIx n 0 lo) s) : wpAny (model prog w) A (Builtin.Slice.sliceApplied (.ref sl) (pure (n : Int))) Q E s := by
  obtain ⟨os, hos, hcs, hds⟩ := id hs
  unfold Builtin.Slice.sliceApplied Builtin.Slice.sliceFields
  refine wpAny_bind (wpAny_bind (wpAny_field hos hds (x := vl) rfl (wpAny_bind (wpAny_field hos hds (x := vu) rfl (wpAny_bind (wpAny_field hos hds (x := .none) rfl (wpAny_pure ?_)))))))
  refine wpAny_bind (slicePart_none ?_)
  show wpAny _ _ (if ((1 : Int) == 0) = true then _ else _) _ _ s
  rw [if_neg (by decide)]
  refine wpAny_bind (slicePart_ pl (wpAny_bind (slicePart_ pu (wpAny_bind (wpAny_pure ?_)))))
  show wpAny _ _ (match Builtin.Slice.sliceAdjust lo hi 1 (n : Int) with | (lo, hi) => pure (lo, (1 : Int), Builtin.Slice.slicePlaces lo hi 1)) _ _ s
  rw [adjust_gen lo hi n]
  show wpAny _ _ (pure (((sIx n 0 lo : Nat) : Int), (1 : Int), Builtin.Slice.slicePlaces ((sIx n 0 lo : Nat) : Int) ((sIx n n hi : Nat) : Int) 1)) _ _ s
  rw [places_gen]
  exact wpAny_pure h
theorem pick_gen (xs : Array Value) (i k : Nat) : ((List.range k).filterMap fun (m : Nat) => xs[((i : Int) + (m : Int) * 1).toNat]?).toArray = ((xs.toList.drop i).take k).toArray := by
  have e : (fun (m : Nat) => xs[((i : Int) + (m : Int) * 1).toNat]?) = fun m => xs[i + m]? := by
    funext m
    have : ((i : Int) + (m : Int) * 1).toNat = i + m := by omega
    rw [this]
  rw [e]
  have := pick_run xs i k
  rw [List.filterMap_map] at this
  have e2 : ((fun x => xs[x]?) ∘ fun x => i + x) = fun m => xs[i + m]? := rfl
  rw [e2] at this
  rw [this]

theorem getItem_tuple_cut {t sl : Addr} {items : Array Value} {vl vu : Value} {lo hi : Option Int} {Q : Value → Shared → Prop} (ht : IsTup s.heap t items) (hs : s.heap.IsSliceOf sl vl vu .none) (pl : IsPart vl lo) (pu : IsPart vu hi)
    (hw : ¬ (sIx items.size 0 lo = 0 ∧ sIx items.size items.size hi = items.size))
    (h : Q (.ref s.heap.objs.size) { s with heap := s.heap.push { cls := .type "tuple", data := .seq ((items.toList.drop (sIx items.size 0 lo)).take (sIx items.size items.size hi - sIx items.size 0 lo)).toArray } })
    (hsz : items.size ≤ sizeLine) : wpAny (model prog w) A (getItem (.ref t) (.ref sl)) Q E s := by
  have htake : sizeOk (.seq ((items.toList.drop (sIx items.size 0 lo)).take (sIx items.size items.size hi - sIx items.size 0 lo)).toArray) := by
    show ((items.toList.drop (sIx items.size 0 lo)).take (sIx items.size items.size hi - sIx items.size 0 lo)).toArray.size ≤ sizeLine
    rw [List.size_toArray, List.length_take, List.length_drop, Array.length_toList]
    omega
  have hj : sIx items.size items.size hi ≤ items.size := sIx_le _ _ (Nat.le_refl _) hi
  obtain ⟨os, hos, hcs, hds⟩ := id hs
  have hTs : s.TypeIs (.ref sl) "slice" := ⟨os, hos, hcs⟩
  unfold getItem
  try with_reducible refine wpAny_holding ?_
  first | refine wpAny_bind (wpAny_pure ?_) | skip
  refine wpAny_bind (wpAny_sequenceKey ht.typeIs (by decide) ?_)
  refine wpAny_bind (wpAny_callSpecial?_slot (name := Str.ofString "__getitem__") ht.typeIs PyProof.Rows.slot_tuple_getitem
    (wpAny_call_entry PyProof.Rows.slot_tuple_getitem ht.typeIs entry_tuple_getitem ?_ (args_tuple_getitem _ _)))
  show wpAny _ _ (Builtin.Tuple.tupleItemsOf (.ref t) >>= _) _ _ s
  refine wpAny_bind (tupleItemsOf_ ht ?_)
  refine wpAny_bind (wpAny_typeOf hTs ?_)
  rw [if_pos (by decide)]
  refine wpAny_bind (sliceApplied_gen hs pl pu ?_)
  have hno : ¬ ((((sIx items.size 0 lo : Nat) : Int) == 0 && (1 : Int) == 1 && (sIx items.size items.size hi - sIx items.size 0 lo) == items.size) = true) := by
    intro q
    rw [Bool.and_eq_true, Bool.and_eq_true] at q
    have q1 : ((sIx items.size 0 lo : Nat) : Int) = 0 := eq_of_beq q.1.1
    have q2 : sIx items.size items.size hi - sIx items.size 0 lo = items.size := eq_of_beq q.2
    exact hw ⟨by omega, by omega⟩
  show wpAny _ _ (if (((sIx items.size 0 lo : Nat) : Int) == 0 && (1 : Int) == 1 && (sIx items.size items.size hi - sIx items.size 0 lo) == items.size) = true then _ else _) _ _ s
  rw [if_neg hno, pick_gen]
  first
    | exact wpAny_bind (m := Builtin.Tuple.tupleExact _) (wpAny_newObj_type (wpAny_pure ⟨_, rfl, wpAny_pure h⟩) htake)
    | exact wpAny_bind (m := Builtin.Tuple.tupleExact _) (wpAny_newObj_type (wpAny_bind (wpAny_pure (wpAny_pure ⟨_, rfl, wpAny_pure h⟩))) htake)
    | exact wpAny_bind (wpAny_bind (m := Builtin.Tuple.tupleExact _) (wpAny_newObj_type (wpAny_pure (wpAny_pure ⟨_, rfl, wpAny_pure h⟩)) htake))
    | exact wpAny_bind (wpAny_bind (m := Builtin.Tuple.tupleExact _) (wpAny_newObj_type (wpAny_pure ⟨_, rfl, wpAny_pure h⟩) htake))
end
end HT

namespace L2
open PySem PySem.Spec PyProof.Rows

/-! ### the parts of a slice -/
abbrev TO := St → Hp → (Option Int → Hp → Prop) → Prop
/-- a slice's part (left out, or an int) -/
def PO (X : Cx) (e : Option Expr) (t : TO) : Prop :=
  ∀ (pins : List (Addr × Obj)) (s : Shared) (σ : St) (H : Hp) (Q : Option Int → Hp → Prop), Inv X pins σ H s → t σ H Q →
    wpAny (model X.prog X.w) X.A (evalPart e X.env) (fun u s' => ∃ o H', Inv X pins σ H' s' ∧ IsPart u o ∧ Q o H') X.xe s
def tNoPart : TO := fun _ H Q => Q none H
def tPart (t : TE) : TO := fun σ H Q => t σ H fun x H1 => ∃ i, x = .int i ∧ Q (some i) H1

section
variable {X : Cx} {e : Expr} {te : TE} {lo hi : Option Expr} {tl th : TO} {pos p2 : Pos}

theorem po_none : PO X none tNoPart := by
  intro pins s σ H Q I h
  rw [evalPart_none]
  exact wpAny_pure ⟨none, H, I, .none, h⟩
theorem po_some (h : PE X e te) : PO X (some e) (tPart te) := by
  intro pins s σ H Q I hw
  rw [evalPart_some]
  refine thn (h pins s σ H _ I hw) fun u s1 ⟨x, H1, I1, r1, q1⟩ => ?_
  obtain ⟨i, rfl, q⟩ := q1
  obtain ⟨t, rfl⟩ := r1
  exact ⟨some i, H1, I1, .int i t, q⟩

/-- what a slice of a value is, by values: the slice object stands at sl -/
def SlR (X : Cx) (r : V → Option Int → Option Int → Hp → VK → Prop) : Prop :=
  ∀ (pins : List (Addr × Obj)) (s : Shared) (σ : St) (H : Hp) (x : V) (v vl vu : Value) (lo hi : Option Int) (sl : Addr) (Q : VK), Inv X pins σ H s → RelV x v → s.heap.IsSliceOf sl vl vu .none → IsPart vl lo → IsPart vu hi → r x lo hi H Q →
    ∃ T id, typeLookup (.type T) "__getitem__" = pure (some (.builtin id)) ∧ s.TypeIs v T ∧ wpAny (model X.prog X.w) X.A (getItem v (.ref sl)) (EP X pins σ Q) X.xe s
def tSl (r : V → Option Int → Option Int → Hp → VK → Prop) (te : TE) (tl th : TO) : TE := fun σ H Q => te σ H fun x H1 => tl σ H1 fun l H2 => th σ H2 fun u H3 => r x l u H3 Q
/-- a[lo:hi], any a -/
theorem pe_slice {r : V → Option Int → Option Int → Hp → VK → Prop} (hr : SlR X r) (he : PE X e te) (hl : PO X lo tl) (hu : PO X hi th) : PE X (.Subscript e (.Slice lo hi none p2) pos) (tSl r te tl th) := by
  intro pins s σ H Q I h
  refine Subscript_ (thn (he pins s σ H _ I h) fun v s1 ⟨x, H1, I1, r1, q1⟩ => ?_)
  refine wpAny_Slice (thn (hl pins s1 σ H1 _ I1 q1) fun vl s2 ⟨l, H2, I2, pl, q2⟩ => thn (hu pins s2 σ H2 _ I2 q2) fun vu s3 ⟨u, H3, I3, pu, q3⟩ => ?_)
  rw [evalPart_none]
  refine wpAny_pure ?_
  have I4 : Inv X pins σ H3 { s3 with heap := s3.heap.push { cls := .type "slice", data := .fields #[vl, vu, .none] } } := I3.kept (t' := s3.toks) fun b ob q => Heap.get?_push_of_some _ q
  obtain ⟨T, id, hT, ht, hg⟩ := hr pins { s3 with heap := s3.heap.push { cls := .type "slice", data := .fields #[vl, vu, .none] } } σ H3 x v vl vu l u s3.heap.objs.size Q I4 r1 (Heap.IsSliceOf.new ..) pl pu q3
  show wpAny (model X.prog X.w) X.A (subscriptTail e (.Slice lo hi none p2) v (.ref s3.heap.objs.size)) (EP X pins σ Q) X.xe { s3 with heap := s3.heap.push { cls := .type "slice", data := .fields #[vl, vu, .none] } }
  exact tail_any (ops := [.ref s3.heap.objs.size, v]) ht hT hg (by with_unfolding_all rfl)

/-- the items of xs[lo:hi] -/
def cutV (xs : List V) (lo hi : Option Int) : List V := (xs.drop (HT.sIx xs.length 0 lo)).take (HT.sIx xs.length xs.length hi - HT.sIx xs.length 0 lo)
theorem cutV_length (xs : List V) (lo hi : Option Int) : (cutV xs lo hi).length ≤ xs.length := by
  unfold cutV
  rw [List.length_take, List.length_drop]
  omega
/-- t[lo:hi], not the whole of it (the whole would be t itself) -/
def rSlT (K : PySem.W.Frag) : V → Option Int → Option Int → Hp → VK → Prop := fun x lo hi H Q => ∃ a xs, x = .ref a ∧ SqT K H a xs ∧
  ¬ (HT.sIx xs.length 0 lo = 0 ∧ HT.sIx xs.length xs.length hi = xs.length) ∧ ∀ p, H p = none → Q (.ref p) (upd H p (.tup (cutV xs lo hi)))
theorem sl_tup : SlR X (rSlT X.K) := by
  intro pins s σ H x v vl vu lo hi sl Q I rx hs pl pu h
  obtain ⟨a, xs, rfl, hx, hw, q⟩ := h
  cases rx
  obtain ⟨its, r, ht, hz⟩ := I.tuple hx
  have hlen : its.toArray.size = xs.length := by rw [List.size_toArray]; exact r.length.symm
  refine ⟨"tuple", _, PyProof.Rows.slot_tuple_getitem.lookup, ht.typeIs, ?_⟩
  refine HT.getItem_tuple_cut ht hs pl pu (by rw [hlen]; exact hw) ?_ (by rw [hlen]; exact hz)
  rw [hlen]
  refine ⟨.ref s.heap.objs.size, _, I.laid (t' := s.toks) (o := .tup (cutV xs lo hi)) (fun b ob q => Heap.get?_push_of_some _ q) (Nat.le_refl _) ?_, rfl, q _ (I.hok.fresh (Nat.le_refl _))⟩
  exact ⟨Nat.le_trans (cutV_length xs lo hi) hz, _, (r.drop (HT.sIx xs.length 0 lo)).take (HT.sIx xs.length xs.length hi - HT.sIx xs.length 0 lo), IsTup.new _ _⟩

/-! ### t < u, t + u -/
def rLtT (K : PySem.W.Frag) : R2 := fun x y H Q => ∃ a b ns ms, x = .ref a ∧ y = .ref b ∧ SqT K H a (ns.map V.int) ∧ SqT K H b (ms.map V.int) ∧ Q (.bl (HT.lexLt ns ms)) H
/-- t + u, t not empty: u empty gives t itself -/
def rCatT (K : PySem.W.Frag) : R2 := fun x y H Q => ∃ a b xs ys, x = .ref a ∧ y = .ref b ∧ SqT K H a xs ∧ SqT K H b ys ∧ xs ≠ [] ∧ xs.length + ys.length ≤ sizeLine ∧
  (ys = [] → Q (.ref a) H) ∧ (ys ≠ [] → ∀ p, H p = none → Q (.ref p) (upd H p (.tup (xs ++ ys))))
theorem Vals.nil_iff {xs : List V} {us : List Value} (r : Vals xs us) : us = [] ↔ xs = [] := by
  cases r with
  | nil => simp
  | cons _ _ => simp
theorem op_catT : OpR X (binaryOp .Add) (rCatT X.K) := by
  intro pins s σ H x y v u Q I rx ry h
  obtain ⟨a, b, xs, ys, rfl, rfl, ha, hb, hx, hz, q1, q2⟩ := h
  cases rx
  cases ry
  obtain ⟨its, r1, p1, _⟩ := I.tuple ha
  obtain ⟨its2, r2, p2, _⟩ := I.tuple hb
  refine HT.cat_tup p1 p2 (fun z => hx (r1.nil_iff.mp z)) (fun z => ⟨.ref a, H, I, rfl, q1 (r2.nil_iff.mp z)⟩) (fun z => ?_) (by rw [← r1.length, ← r2.length]; exact hz)
  refine ⟨.ref s.heap.objs.size, _, I.laid (t' := s.toks) (o := .tup (xs ++ ys)) (fun b ob q => Heap.get?_push_of_some _ q) (Nat.le_refl _) ?_, rfl, q2 (fun w => z (r2.nil_iff.mpr w)) _ (I.hok.fresh (Nat.le_refl _))⟩
  exact ⟨by rw [List.length_append]; exact hz, _, r1.append r2, IsTup.new _ _⟩
end
end L2

namespace L2
open PySem PySem.Spec PyProof.Rows

/-! ### places -/
/-- the place that an index of any sign means -/
def ixN (n : Nat) (i : Int) : Option Nat := if 0 ≤ i then (if i < n then some i.toNat else none) else if -(n : Int) ≤ i then some (i + n).toNat else none
def atI {α : Type} (xs : List α) (i : Int) : Option α := (ixN xs.length i).bind fun j => xs[j]?
theorem ixN_seq {n : Nat} {i : Int} {j : Nat} (h : ixN n i = some j) : seqIndex? i n = some j ∧ j < n ∧ -(n : Int) ≤ i ∧ i < n := by
  unfold ixN at h
  by_cases h0 : 0 ≤ i
  · rw [if_pos h0] at h
    by_cases h1 : i < n
    · rw [if_pos h1] at h
      have e : i.toNat = j := Option.some.inj h
      exact ⟨by rw [seqIndex_of h0 h1, e], by omega, by omega, h1⟩
    · rw [if_neg h1] at h; cases h
  · rw [if_neg h0] at h
    by_cases h1 : -(n : Int) ≤ i
    · rw [if_pos h1] at h
      have e : (i + n).toNat = j := Option.some.inj h
      exact ⟨by rw [seqIndex_neg (by omega) h1, e], by omega, h1, by omega⟩
    · rw [if_neg h1] at h; cases h
theorem atI_get {α : Type} {xs : List α} {i : Int} {v : α} (h : atI xs i = some v) : ∃ j, seqIndex? i xs.length = some j ∧ xs[j]? = some v ∧ j < xs.length ∧ -(xs.length : Int) ≤ i ∧ i < xs.length := by
  unfold atI at h
  cases e : ixN xs.length i with
  | none => rw [e] at h; cases h
  | some j =>
    rw [e] at h
    obtain ⟨h1, h2, h3, h4⟩ := ixN_seq e
    exact ⟨j, h1, h, h2, h3, h4⟩
theorem atI_nat {α : Type} {xs : List α} {j : Nat} {v : α} (h : xs[j]? = some v) : atI xs (j : Int) = some v := by
  have hj : j < xs.length := (List.getElem?_eq_some_iff.mp h).1
  have e : ixN xs.length (j : Int) = some j := by
    unfold ixN
    rw [if_pos (by omega), if_pos (by omega)]; simp
  unfold atI; rw [e]; exact h
/-! ### what may be subscripted -/
/-- what stands as an index of a plain subscript -/
def PlainIx (b : Expr) : Prop := ∀ o i, subscripted b false o i = operate [o, i] (getItem o i)
/-- a subscript by values -/
def IxR (X : Cx) (r : R2) : Prop :=
  ∀ (value slice : Expr) (pins : List (Addr × Obj)) (s : Shared) (σ : St) (H : Hp) (x y : V) (v u : Value) (Q : VK), Inv X pins σ H s → RelV x v → RelV y u → r x y H Q →
    subscripted slice false v u = operate [v, u] (getItem v u) → wpAny (model X.prog X.w) X.A (subscriptTail value slice v u) (EP X pins σ Q) X.xe s
/-- a call of a builtin's method by values: the receiver, the arguments -/
def MtR (X : Cx) (id : String) (r : V → List V → Hp → VK → Prop) : Prop :=
  ∀ (pins : List (Addr × Obj)) (s : Shared) (σ : St) (H : Hp) (x : V) (xs : List V) (v : Value) (us : List Value) (Q : VK), Inv X pins σ H s → RelV x v → Vals xs us → r x xs H Q →
    wpAny (model X.prog X.w) X.A (call (.builtin id) (v :: us)) (EP X pins σ Q) X.xe s
section
variable {X : Cx} {a b : Expr} {ta tb : TE} {pos : Pos}
/-- a[b] -/
theorem pe_ix {r : R2} (hr : IxR X r) (ha : PE X a ta) (hb : PE X b tb) (hs : PlainIx b) : PE X (.Subscript a b pos) (tOp r ta tb) := by
  intro pins s σ H Q I h
  exact Subscript_ (binT ha hb I h fun v u s2 x y H2 I2 rx ry q => hr a b pins s2 σ H2 x y v u Q I2 rx ry q (hs _ _))

def rIxL (K : PySem.W.Frag) : R2 := fun x y H Q => ∃ p xs i v, x = .ref p ∧ y = .int i ∧ SqL K H p xs ∧ atI xs i = some v ∧ Q v H
def rIxT (K : PySem.W.Frag) : R2 := fun x y H Q => ∃ p xs i v, x = .ref p ∧ y = .int i ∧ SqT K H p xs ∧ atI xs i = some v ∧ Q v H
def rIxS : R2 := fun x y H Q => ∃ z i c, x = .str z ∧ y = .int i ∧ z.length ≤ sizeLine ∧ atI z.cps.toList i = some c ∧ Q (.str ⟨#[c]⟩) H
theorem ix_list : IxR X (rIxL X.K) := by
  intro value slice pins s σ H x y v u Q I rx ry h hs
  obtain ⟨p, xs, i, z, rfl, rfl, hq, he, q⟩ := h
  cases rx
  obtain ⟨t, rfl⟩ := ry
  obtain ⟨its, r, pl, hz⟩ := I.list hq
  obtain ⟨j, h1, h2, h3, h4, h5⟩ := atI_get he
  obtain ⟨w, ew, rw'⟩ := r.get h2
  have hl := r.length
  have hn := line63
  have fin : EP X pins σ Q w s := ⟨z, H, I, rw', q⟩
  by_cases h0 : 0 ≤ i
  · have hj : i.toNat = j := by
      rw [seqIndex_of h0 h5] at h1
      exact Option.some.inj h1
    exact item_listR pl.isList h0 (by omega) (by rw [hj]; simpa using ew) fin hs
  · have hj : (i + (its.toArray.size : Int)).toNat = j := by
      rw [seqIndex_neg (by omega) h4] at h1
      rw [List.size_toArray, ← hl]
      exact Option.some.inj h1
    exact subscriptTail_builtinR (x := w) pl.isList.typeIs slot_list_getitem.lookup
      (wpAny_getItem_list_neg (Q := fun r s' => r = w ∧ EP X pins σ Q r s') pl.isList (by omega) (by rw [List.size_toArray] <;> omega) (by omega) (by rw [hj]; simpa using ew) ⟨rfl, fin⟩) hs
theorem ix_tup : IxR X (rIxT X.K) := by
  intro value slice pins s σ H x y v u Q I rx ry h hs
  obtain ⟨p, xs, i, z, rfl, rfl, hq, he, q⟩ := h
  cases rx
  obtain ⟨t, rfl⟩ := ry
  obtain ⟨its, r, pl, hz⟩ := I.tuple hq
  obtain ⟨j, h1, h2, h3, h4, h5⟩ := atI_get he
  obtain ⟨w, ew, rw'⟩ := r.get h2
  have hl := r.length
  have hn := line63
  have fin : EP X pins σ Q w s := ⟨z, H, I, rw', q⟩
  exact subscriptTail_builtinR (x := w) pl.typeIs slot_tuple_getitem.lookup
    (getItem_tuple (j := j) (Q := fun r s' => r = w ∧ EP X pins σ Q r s') pl (by omega) (by omega) (by rw [List.size_toArray, ← hl]; exact h1) (by simpa using ew) ⟨rfl, fin⟩) hs
theorem ix_str : IxR X rIxS := by
  intro value slice pins s σ H x y v u Q I rx ry h hs
  obtain ⟨z, i, c, rfl, rfl, hz, he, q⟩ := h
  obtain ⟨t, rfl⟩ := rx
  obtain ⟨t', rfl⟩ := ry
  obtain ⟨j, h1, h2, h3, h4, h5⟩ := atI_get he
  have hl : z.cps.toList.length = z.length := by simp [Str.length]
  rw [hl] at h1 h4 h5
  have hn := line63
  exact tail_any (typeIs_str s z t) slot_str_getitem.lookup (getItem_str (c := c) (by
    have e1 : decide (i < -(2 ^ 63 : Int)) = false := decide_eq_false (by omega)
    have e2 : decide (i ≥ 2 ^ 63) = false := decide_eq_false (by omega)
    rw [e1, e2, Bool.or_false]) (by rw [h1]; simpa using h2) ⟨.str ⟨#[c]⟩, H, I.tok _, ⟨_, rfl⟩, q⟩) hs
/-- list, tuple or str -/
def rIx (K : PySem.W.Frag) : R2 := fun x y H Q => rIxL K x y H Q ∨ rIxT K x y H Q ∨ rIxS x y H Q
/-! ### xs[i] = v, any sign -/
/-- the list's object behind a store -/
theorem mapSeq_set (its : List Value) (n j : Nat) (u : Value) : Obj.mapSeq (·.setIfInBounds j u) { cls := .type "list", data := .seq its.toArray n } = { cls := .type "list", data := .seq (its.set j u).toArray n } := by
  simp [Obj.mapSeq]
theorem Inv.lst {pins : List (Addr × Obj)} {σ : St} {H : Hp} {s : Shared} {p : Addr} {xs : List V} (I : Inv X pins σ H s) (h : H p = some (.lst xs)) :
    ∃ (its : List Value) (n : Nat), Vals xs its ∧ s.heap.get? p = some { cls := .type "list", data := .seq its.toArray n } ∧ xs.length ≤ sizeLine := by
  obtain ⟨z, its, n, r, e⟩ := I.hok p _ h
  exact ⟨its, n, r, e, z⟩
/-- the list at p is written by an update of its object -/
theorem Inv.lstUpd {pins : List (Addr × Obj)} {σ : St} {H : Hp} {s : Shared} {p : Addr} {xs ys : List V} {its its' : List Value} {n n' : Nat} {f : Obj → Obj} (I : Inv X pins σ H s) (h : H p = some (.lst xs))
    (ho : s.heap.get? p = some { cls := .type "list", data := .seq its.toArray n }) (hf : f { cls := .type "list", data := .seq its.toArray n } = { cls := .type "list", data := .seq its'.toArray n' }) (r : Vals ys its') (hz : ys.length ≤ sizeLine) (t : Nat) :
    Inv X pins σ (upd H p (.lst ys)) { s with heap := s.heap.update p f, toks := t } := by
  have e : (s.heap.update p f).get? p = some { cls := .type "list", data := .seq its'.toArray n' } := by
    rw [Heap.get?_update_self f ho (by rw [hf] <;> rfl), hf]
  refine I.write (x := p) (e := p) (by rw [h]; trivial) (.inl rfl) (fun b u hb q => (Heap.get?_update_other _ _ (Ne.symm hb)).trans q) ⟨_, e⟩ ?_
  exact ⟨hz, its', n', r, e⟩
def rSetL : V → V → V → Hp → (Hp → Prop) → Prop := fun o i v H Q => ∃ p xs k j, o = .ref p ∧ i = .int k ∧ H p = some (.lst xs) ∧ ixN xs.length k = some j ∧ Q (upd H p (.lst (xs.set j v)))
theorem set_list : PSet X rSetL := by
  intro pins s σ H o i v ov iv u Q I ro ri rv h
  obtain ⟨p, xs, k, j, rfl, rfl, hp, hj, q⟩ := h
  cases ro
  obtain ⟨t, rfl⟩ := ri
  obtain ⟨its, n, r, ho, hz⟩ := I.lst hp
  obtain ⟨h1, h2, h3, h4⟩ := ixN_seq hj
  have hl := r.length
  have hn := line63
  have I' : Inv X pins σ (upd H p (.lst (xs.set j v))) { s with heap := s.heap.update p (Obj.mapSeq (·.setIfInBounds j u)) } :=
    I.lstUpd hp ho (mapSeq_set its n j u) (r.set rv j) (by rw [List.length_set]; exact hz) s.toks
  by_cases h0 : 0 ≤ k
  · have hk : k.toNat = j := by
      rw [seqIndex_of h0 h4] at h1
      exact Option.some.inj h1
    exact PySem.W.ki_setAt ho h0 (by omega) (by rw [List.size_toArray, ← hl]; exact h4) (by rw [hk]; exact ⟨_, I', q⟩)
  · have hk : (k + (its.toArray.size : Int)).toNat = j := by
      rw [seqIndex_neg (by omega) h3] at h1
      rw [List.size_toArray, ← hl]
      exact Option.some.inj h1
    exact PySem.W.ki_setBack ho (by omega) (by rw [List.size_toArray, ← hl]; exact h3) (by omega) (by rw [hk]; exact ⟨_, I', q⟩)

/-! ### slices -/
theorem slice_bounds (lo hi : Option Int) (n : Nat) : (sliceBounds lo hi none n).1 = ((HT.sIx n 0 lo : Nat) : Int) ∧ (sliceBounds lo hi none n).2.1 = ((HT.sIx n n hi : Nat) : Int) ∧ (sliceBounds lo hi none n).2.2 = 1 := by
  refine ⟨?_, ?_, rfl⟩
  · cases lo with
    | none => simp [sliceBounds, HT.sIx]
    | some i =>
      simp only [sliceBounds, HT.sIx, Option.getD_none, show (1 : Int) > 0 by decide, if_true]
      by_cases h : i < 0
      · simp only [h, if_true] <;> omega
      · simp only [h, if_false] <;> omega
  · cases hi with
    | none => simp [sliceBounds, HT.sIx]
    | some i =>
      simp only [sliceBounds, HT.sIx, Option.getD_none, show (1 : Int) > 0 by decide, if_true]
      by_cases h : i < 0
      · simp only [h, if_true] <;> omega
      · simp only [h, if_false] <;> omega
theorem slicePick_cut (its : List Value) (lo hi : Option Int) : slicePick its.toArray lo hi none = ((its.drop (HT.sIx its.length 0 lo)).take (HT.sIx its.length its.length hi - HT.sIx its.length 0 lo)).toArray := by
  obtain ⟨h1, h2, h3⟩ := slice_bounds lo hi its.toArray.size
  unfold slicePick
  rw [h1, h2, h3]
  simp only [sliceRange_one, pick_run, List.size_toArray] <;> rfl
/-- xs[lo:hi] of a list: a new list -/
def rSlL (K : PySem.W.Frag) : V → Option Int → Option Int → Hp → VK → Prop := fun x lo hi H Q => ∃ a xs, x = .ref a ∧ SqL K H a xs ∧ ∀ p, H p = none → Q (.ref p) (upd H p (.lst (cutV xs lo hi)))
theorem sl_list : SlR X (rSlL X.K) := by
  intro pins s σ H x v vl vu lo hi sl Q I rx hs pl pu h
  obtain ⟨a, xs, rfl, hx, q⟩ := h
  cases rx
  obtain ⟨its, r, ht, hz⟩ := I.list hx
  have hlen := r.length
  refine ⟨"list", _, slot_list_getitem.lookup, ht.isList.typeIs, ?_⟩
  refine wpAny_getItem_list_slice ht.isList hs pl pu .none (by simp) ?_ (by rw [List.size_toArray] <;> omega)
  rw [slicePick_cut, ← hlen]
  refine ⟨.ref s.heap.objs.size, _, I.laid (t' := s.toks) (o := .lst (cutV xs lo hi)) (fun b ob q => Heap.get?_push_of_some _ q) (Nat.le_refl _) ?_, rfl, q _ (I.hok.fresh (Nat.le_refl _))⟩
  exact ⟨Nat.le_trans (cutV_length xs lo hi) hz, _, 0, (r.drop (HT.sIx xs.length 0 lo)).take (HT.sIx xs.length xs.length hi - HT.sIx xs.length 0 lo), Heap.get?_push_size _ rfl⟩

/-! ### in, not in: flat items -/
def flatV : V → Bool
  | .non => true
  | .bl _ => true
  | .int _ => true
  | .str _ => true
  | _ => false
/-- == of flat values -/
def eqV : V → V → Bool
  | .non, .non => true
  | .bl a, .bl b => a == b
  | .bl a, .int b => (if a then 1 else 0) == b
  | .int a, .bl b => a == (if b then 1 else 0)
  | .int a, .int b => a == b
  | .str a, .str b => a == b
  | _, _ => false
theorem eqAt_V {A : Around} {s : Shared} {y x : V} {u v : Value} (ry : RelV y u) (rx : RelV x v) (fy : flatV y = true) (fx : flatV x = true) : SeqAt.EqAt A s u v (eqV y x) := by
  cases y with
  | non =>
    cases ry
    cases x with
    | non => cases rx; exact SeqAt.EqAt.same _
    | bl b => cases rx; exact SeqAt.EqAt.none_bool b
    | int b => obtain ⟨t, rfl⟩ := rx; exact SeqAt.EqAt.none_int b t
    | str b => obtain ⟨t, rfl⟩ := rx; exact SeqAt.EqAt.none_str b t
    | _ => exact absurd (show false = true from fx) Bool.false_ne_true
  | bl a =>
    cases ry
    cases x with
    | non => cases rx; exact SeqAt.EqAt.bool_none a
    | bl b => cases rx; exact SeqAt.EqAt.bool_bool a b
    | int b => obtain ⟨t, rfl⟩ := rx; exact SeqAt.EqAt.bool_int a b t
    | str b => obtain ⟨t, rfl⟩ := rx; exact SeqAt.EqAt.bool_str a b t
    | _ => exact absurd (show false = true from fx) Bool.false_ne_true
  | int a =>
    obtain ⟨t', rfl⟩ := ry
    cases x with
    | non => cases rx; exact SeqAt.EqAt.int_none a t'
    | bl b => cases rx; exact SeqAt.EqAt.int_bool a t' b
    | int b => obtain ⟨t, rfl⟩ := rx; exact SeqAt.EqAt.int_int a t' b t
    | str b => obtain ⟨t, rfl⟩ := rx; exact SeqAt.EqAt.int_str a t' b t
    | _ => exact absurd (show false = true from fx) Bool.false_ne_true
  | str a =>
    obtain ⟨t', rfl⟩ := ry
    cases x with
    | non => cases rx; exact SeqAt.EqAt.str_none a t'
    | bl b => cases rx; exact SeqAt.EqAt.str_bool a t' b
    | int b => obtain ⟨t, rfl⟩ := rx; exact SeqAt.EqAt.str_int a t' b t
    | str b => obtain ⟨t, rfl⟩ := rx; exact SeqAt.EqAt.str_str a t' b t
    | _ => exact absurd (show false = true from fx) Bool.false_ne_true
  | _ => exact absurd (show false = true from fy) Bool.false_ne_true
/-- the items' answers, read off the values (a value's own answer does not lean on its token) -/
def eqU (x : V) (u : Value) : Bool := match u with
  | .none => eqV .non x
  | .bool b => eqV (.bl b) x
  | .int i _ => eqV (.int i) x
  | .str z _ => eqV (.str z) x
  | _ => false
theorem eqU_of {x y : V} {u : Value} (r : RelV y u) (f : flatV y = true) : eqU x u = eqV y x := by
  cases y with
  | non => cases r; rfl
  | bl b => cases r; rfl
  | int i => obtain ⟨t, rfl⟩ := r; rfl
  | str z => obtain ⟨t, rfl⟩ := r; rfl
  | _ => exact absurd (show false = true from f) Bool.false_ne_true
theorem any_eqU {x : V} : ∀ {xs : List V} {us : List Value}, Vals xs us → xs.all flatV = true → us.any (eqU x) = xs.any fun y => eqV y x
  | _, _, .nil, _ => rfl
  | y :: xs, u :: us, .cons r t, f => by
    rw [List.all_cons, Bool.and_eq_true] at f
    rw [List.any_cons, List.any_cons, eqU_of r f.1, any_eqU t f.2]
theorem mem_eqAt {A : Around} {s : Shared} {x : V} {v : Value} (rx : RelV x v) (fx : flatV x = true) : ∀ {xs : List V} {us : List Value}, Vals xs us → xs.all flatV = true → ∀ u ∈ us, SeqAt.EqAt A s u v (eqU x u)
  | _, _, .nil, _ => fun u hu => by cases hu
  | y :: xs, u :: us, .cons r t, f => fun u' hu => by
    rw [List.all_cons, Bool.and_eq_true] at f
    rcases List.mem_cons.mp hu with rfl | hu
    · rw [eqU_of r f.1]; exact eqAt_V r rx f.1 fx
    · exact mem_eqAt rx fx t f.2 u' hu
def inV (x : V) (xs : List V) : Bool := xs.any fun y => eqV y x
/-- x in a list or tuple of flat items -/
def rIn (K : PySem.W.Frag) (neg : Bool) : R2 := fun x y H Q => ∃ p xs, y = .ref p ∧ (SqL K H p xs ∨ SqT K H p xs) ∧ flatV x = true ∧ xs.all flatV = true ∧ Q (.bl (if neg then !inV x xs else inV x xs)) H
theorem op_in_seq : OpR X (compareOp .In) (rIn X.K false) := by
  intro pins s σ H x y v u Q I rx ry h
  obtain ⟨p, xs, rfl, hq, fx, fs, q⟩ := h
  cases ry
  rcases hq with hq | hq
  · obtain ⟨its, r, pl, hz⟩ := I.list hq
    refine SeqAt.in_listAt (eqU x) pl.isList (fun w hw => mem_eqAt rx fx r fs w (by simpa using hw)) ⟨.bl _, H, I, rfl, ?_⟩
    rw [show its.toArray.any (eqU x) = its.any (eqU x) by simp, any_eqU r fs]
    exact q
  · obtain ⟨its, r, pl, hz⟩ := I.tuple hq
    refine SeqAt.in_tupleAt (eqU x) pl (fun w hw => mem_eqAt rx fx r fs w (by simpa using hw)) ⟨.bl _, H, I, rfl, ?_⟩
    rw [show its.toArray.any (eqU x) = its.any (eqU x) by simp, any_eqU r fs]
    exact q
theorem op_notIn_seq : OpR X (compareOp .NotIn) (rIn X.K true) := by
  intro pins s σ H x y v u Q I rx ry h
  obtain ⟨p, xs, rfl, hq, fx, fs, q⟩ := h
  cases ry
  rcases hq with hq | hq
  · obtain ⟨its, r, pl, hz⟩ := I.list hq
    refine SeqAt.notIn_listAt (eqU x) pl.isList (fun w hw => mem_eqAt rx fx r fs w (by simpa using hw)) ⟨.bl _, H, I, rfl, ?_⟩
    rw [show its.toArray.any (eqU x) = its.any (eqU x) by simp, any_eqU r fs]
    exact q
  · obtain ⟨its, r, pl, hz⟩ := I.tuple hq
    refine SeqAt.notIn_tupleAt (eqU x) pl (fun w hw => mem_eqAt rx fx r fs w (by simpa using hw)) ⟨.bl _, H, I, rfl, ?_⟩
    rw [show its.toArray.any (eqU x) = its.any (eqU x) by simp, any_eqU r fs]
    exact q
/-! ### len, list(x), tuple(x) of any list or tuple that is read -/
theorem call_len_seq : CallR X (.builtin "len") (fun xs H Q => ∃ p ys, xs = [.ref p] ∧ (SqL X.K H p ys ∨ SqT X.K H p ys) ∧ Q (.int ys.length) H) := by
  intro pins s σ H xs us Q I r h
  obtain ⟨p, ys, rfl, hq, q⟩ := h
  obtain ⟨u, rfl, rx⟩ := vals1 r
  cases rx
  have hn := line63
  rcases hq with hq | hq
  · obtain ⟨its, r', pl, hz⟩ := I.list hq
    have hlen := r'.length
    exact Calls.call_len_list pl.isList (by simp only [List.size_toArray] <;> omega) ⟨.int ys.length, H, I.tok _, ⟨s.toks + 1, by rw [List.size_toArray, hlen]⟩, q⟩
  · obtain ⟨its, r', pl, hz⟩ := I.tuple hq
    have hlen := r'.length
    exact len_tuple pl (by simp only [List.size_toArray] <;> omega) ⟨.int ys.length, H, I.tok _, ⟨s.toks + 1, by rw [List.size_toArray, hlen]⟩, q⟩
theorem call_list_of : CallR X (.type "list") (fun xs H Q => ∃ p ys, xs = [.ref p] ∧ (SqL X.K H p ys ∨ SqT X.K H p ys) ∧ ∀ l, H l = none → Q (.ref l) (upd H l (.lst ys))) := by
  intro pins s σ H xs us Q I r h
  obtain ⟨p, ys, rfl, hq, q⟩ := h
  obtain ⟨u, rfl, rx⟩ := vals1 r
  cases rx
  have fin : ∀ (its : List Value), Vals ys its → ys.length ≤ sizeLine → ∀ (h' : Heap) (c' : Nat), (∀ b o', s.heap.get? b = some o' → h'.get? b = some o') →
      h'.get? s.heap.objs.size = some { cls := .type "list", dict := none, data := .seq its.toArray c', slots := #[] } → EP X pins σ Q (.ref s.heap.objs.size) { s with heap := h' } := fun its r' hz h' c' kp e =>
    ⟨.ref s.heap.objs.size, _, I.laid (t' := s.toks) kp (Nat.le_refl _) (show ObjOk X.prog X.w _ h' _ (.lst ys) from ⟨hz, its, c', r', e⟩), rfl, q _ (I.hok.fresh (Nat.le_refl _))⟩
  rcases hq with hq | hq
  · obtain ⟨its, r', pl, hz⟩ := I.list hq
    have hlen := r'.length
    obtain ⟨o, ho, hc, n, hd⟩ := pl.isList
    exact call_list_seq p (.inl rfl) ho hc hd (fun h' c' kp e => fin its r' hz h' c' kp e) (by simp only [List.size_toArray] <;> omega)
  · obtain ⟨its, r', pl, hz⟩ := I.tuple hq
    have hlen := r'.length
    obtain ⟨o, ho, hc, n, hd⟩ := pl
    exact call_list_seq p (.inr rfl) ho hc hd (fun h' c' kp e => fin its r' hz h' c' kp e) (by simp only [List.size_toArray] <;> omega)
theorem call_tuple_of : CallR X (.type "tuple") (fun xs H Q => ∃ p ys, xs = [.ref p] ∧ ((SqL X.K H p ys ∧ ∀ l, H l = none → Q (.ref l) (upd H l (.tup ys))) ∨ (SqT X.K H p ys ∧ Q (.ref p) H))) := by
  intro pins s σ H xs us Q I r h
  obtain ⟨p, ys, rfl, h⟩ := h
  obtain ⟨u, rfl, rx⟩ := vals1 r
  cases rx
  rcases h with ⟨hq, q⟩ | ⟨hq, q⟩
  · obtain ⟨its, r', pl, hz⟩ := I.list hq
    have hlen := r'.length
    refine call_tuple_list pl.isList (fun h' kp => ?_) (by simp only [List.size_toArray] <;> omega)
    have I1 : Inv X pins σ H { s with heap := h' } := I.kept (t' := s.toks) kp
    have I2 : Inv X pins σ (upd H h'.objs.size (.tup ys)) { s with heap := h'.push { cls := .type "tuple", data := .seq its.toArray } } :=
      I1.laid (t' := s.toks) (fun b o e => Heap.get?_push_of_some _ e) (Nat.le_refl _) (show ObjOk X.prog X.w _ _ _ (.tup ys) from ⟨hz, its, r', IsTup.new _ _⟩)
    exact ⟨.ref h'.objs.size, _, I2, rfl, q _ (I1.hok.fresh (Nat.le_refl _))⟩
  · obtain ⟨its, r', pl, hz⟩ := I.tuple hq
    exact call_tuple_same pl ⟨.ref p, H, I, rfl, q⟩

/-! ### the call of a builtin's method: o.m(..) -/
/-- the value is of that builtin type -/
def tyV (K : PySem.W.Frag) (T : String) (x : V) (H : Hp) : Prop := match x with
  | .str _ => T = "str"
  | .int _ => T = "int"
  | .ref p => (T = "list" ∧ ∃ xs, SqL K H p xs) ∨ (T = "tuple" ∧ ∃ o, K.lookup p = some o ∧ o.cls = .type "tuple" ∧ o.dict = none) ∨
      (T = "dict" ∧ ((∃ kvs, H p = some (.dK kvs)) ∨ ∃ kvs, H p = some (.dT kvs))) ∨ (T = "set" ∧ ∃ S n, H p = some (.set S n))
  | _ => False
theorem tyV_is {pins : List (Addr × Obj)} {σ : St} {H : Hp} {s : Shared} {T : String} {x : V} {v : Value} (I : Inv X pins σ H s) (r : RelV x v) (ty : tyV X.K T x H) :
    s.TypeIs v T ∧ ∀ a, v = .ref a → ∃ ob, s.heap.get? a = some ob ∧ ob.dict = none := by
  cases x with
  | str z =>
    obtain ⟨t, rfl⟩ := r
    cases (show T = "str" from ty)
    exact ⟨typeIs_str s z t, fun _ e => nomatch e⟩
  | int i =>
    obtain ⟨t, rfl⟩ := r
    cases (show T = "int" from ty)
    exact ⟨typeIs_int s i t, fun _ e => nomatch e⟩
  | ref p =>
    cases r
    rcases ty with ⟨rfl, xs, hq⟩ | ⟨rfl, o, hk, hc, hd⟩ | ⟨rfl, hk⟩ | ⟨rfl, S, n, hk⟩
    · obtain ⟨its, _, pl, _⟩ := I.list hq
      refine ⟨pl.isList.typeIs, fun a e => ?_⟩
      cases e
      obtain ⟨o, n, e, c, hd, _⟩ := pl
      exact ⟨o, e, hd⟩
    · refine ⟨⟨o, I.kIn p o hk, hc⟩, fun a e => ?_⟩
      cases e
      exact ⟨o, I.kIn _ o hk, hd⟩
    · have z : ∃ o, s.heap.get? p = some o ∧ o.ExactDict := by
        rcases hk with ⟨kvs, hk⟩ | ⟨kvs, hk⟩
        · obtain ⟨_, _, _, _, o, _, _, e, ex, _⟩ := I.hok p _ hk
          exact ⟨o, e, ex⟩
        · obtain ⟨_, _, _, _, o, _, _, e, ex, _⟩ := I.hok p _ hk
          exact ⟨o, e, ex⟩
      obtain ⟨o, e, ex⟩ := z
      refine ⟨⟨o, e, ex.1⟩, fun a e2 => ?_⟩
      cases e2
      exact ⟨o, e, ex.2.1⟩
    · obtain ⟨o, _, _, _, e, ex, _⟩ := I.hok p _ hk
      refine ⟨⟨o, e, ex.1⟩, fun a e2 => ?_⟩
      cases e2
      exact ⟨o, e, ex.2.1⟩
  | _ => exact False.elim ty
def tBM0 (K : PySem.W.Frag) (T : String) (r : V → List V → Hp → VK → Prop) (to : TE) : TE := fun σ H Q => to σ H fun x H1 => tyV K T x H1 ∧ r x [] H1 Q
def tBM (K : PySem.W.Frag) (T : String) (r : V → List V → Hp → VK → Prop) (to : TE) (t : TA) : TE := fun σ H Q => to σ H fun x H1 => tyV K T x H1 ∧ t σ H1 fun xs H2 => r x xs H2 Q
variable {o e : Expr} {es : List Expr} {to : TE} {t : TA} {name : Str} {apos cpos : Pos} {T id : String} {r : V → List V → Hp → VK → Prop}
theorem pe_bm0 (pa : PlainAttrs T) (slot : Slot T name id) (hty : typeOf (.builtin id) = pure (.type "method_descriptor")) (hm : MtR X id r) (ho : PE X o to)
    (hbase : attributeBase o name X.env (eval o X.env) = eval o X.env := by rfl) (hline : (apos.endLine == cpos.line) = true := by rfl) : PE X (.Call (.Attribute o name apos) [] [] cpos) (tBM0 X.K T r to) := by
  intro pins s σ H Q I h
  refine wpAny_Call_method0_late hbase hline (thn (ho pins s σ H _ I h) fun v s1 ⟨x, H1, I1, r1, ty, q1⟩ => ?_)
  obtain ⟨h1, h2⟩ := tyV_is I1 r1 ty
  exact ⟨T, id, pa, slot, hty, h1, h2, Calls.callWith_builtin rfl (PySem.evalArgs_none (hm pins s1 σ H1 x [] v [] Q I1 r1 .nil q1))⟩
theorem pe_bm (pa : PlainAttrs T) (slot : Slot T name id) (hty : typeOf (.builtin id) = pure (.type "method_descriptor")) (hm : MtR X id r) (ho : PE X o to) (ha : PA X (e :: es) t)
    (hbase : attributeBase o name X.env (eval o X.env) = eval o X.env := by rfl)
    (hfew : ((backTo cpos (starEach (e :: es) X.env)).all (fun x => !x.1) && (backToKw cpos (keywordEach [] X.env)).all (fun x => x.1.isSome)
      && decide ((e :: es).length + ([] : List Keyword).length + (if ([] : List Keyword).isEmpty then 0 else 1) < 30)) = true := by rfl)
    (hline : (apos.endLine == cpos.line) = true := by rfl) (hs : starEach (e :: es) X.env = (false, eval e X.env) :: starEach es X.env := by rfl) (hplain : (backTo cpos (starEach es X.env)).any (·.1) = false := by rfl) :
    PE X (.Call (.Attribute o name apos) (e :: es) [] cpos) (tBM X.K T r to t) := by
  intro pins s σ H Q I h
  refine wpAny_Call_method_late hbase hfew hline rfl (thn (ho pins s σ H _ I h) fun v s1 ⟨x, H1, I1, r1, ty, q1⟩ => ?_)
  obtain ⟨h1, h2⟩ := tyV_is I1 r1 ty
  refine ⟨T, id, pa, slot, hty, h1, h2, ?_⟩
  have hA := ha cpos pins s1 σ H1 _ I1 q1
  rw [hs] at hA ⊢
  refine Calls.callWith_builtin (by show (false || (backTo cpos (starEach es X.env)).any (·.1)) = false; rw [hplain] <;> rfl) (Calls.evalArgs_plain ?_)
  exact thn hA fun us s2 ⟨vs, H2, I2, r2, q2⟩ => hm pins s2 σ H2 x vs v us Q I2 r1 r2 q2
/- xs.append(e), list.index on a module's tuple .. are MtR facts of 06m -/
end
end L2

namespace L2
open PySem PySem.Spec PyProof.Rows

def MtM (X : Cx) (id : String) (r : V → List V → Hp → VK → Prop) : Prop :=
  ∀ (pins : List (Addr × Obj)) (s : Shared) (σ : St) (H : Hp) (x : V) (xs : List V) (v : Value) (us : List Value) (Q : VK), Inv X pins σ H s → RelV x v → Vals xs us → r x xs H Q →
    wpAny (model X.prog X.w) X.A (call (.builtin id) (v :: us)) (EP X pins σ Q) X.xe s

/-! ### lists of values -/
theorem Vals.one : ∀ {x : V} {us : List Value}, Vals [x] us → ∃ u, us = [u] ∧ RelV x u
  | _, _, .cons r .nil => ⟨_, rfl, r⟩
theorem Vals.zero : ∀ {us : List Value}, Vals [] us → us = []
  | _, .nil => rfl
theorem Vals.dropLast {xs : List V} {us : List Value} (h : Vals xs us) : Vals xs.dropLast us.dropLast := by
  induction h with
  | nil => exact .nil
  | cons r t ih =>
    cases t with
    | nil => exact .nil
    | cons q t' => exact .cons r ih
theorem erase_last {α : Type} (l : List α) : l.eraseIdx (l.length - 1) = l.dropLast := by
  induction l with
  | nil => rfl
  | cons a r ih =>
    cases r with
    | nil => rfl
    | cons b r =>
      have e : (a :: b :: r).length - 1 = ((b :: r).length - 1) + 1 := by
        have h1 : (a :: b :: r).length = r.length + 2 := rfl
        have h2 : (b :: r).length = r.length + 1 := rfl
        omega
      rw [e, List.eraseIdx_cons_succ, ih]
      all_goals rfl
section
variable {X : Cx} {pins : List (Addr × Obj)} {σ : St} {H : Hp} {s : Shared} {l b : Addr} {xs ys zs : List V}

/-! ### the two steps: a tracked list is rewritten, a new list is laid -/
theorem Inv.lset {its its' : List Value} {n : Nat} {f : Array Value → Array Value} {t' : Nat} (I : Inv X pins σ H s) (hH : H l = some (.lst xs))
    (e : s.heap.get? l = some { cls := .type "list", data := .seq its.toArray n }) (hf : f its.toArray = its'.toArray) (hv : Vals ys its') (hz : ys.length ≤ sizeLine) :
    Inv X pins σ (upd H l (.lst ys)) { s with heap := s.heap.update l (Obj.mapSeq f), toks := t' } := by
  have q := PySem.IsL.update e f
  rw [hf] at q
  refine I.write (x := l) (e := l) (by rw [hH]; exact trivial) (.inl rfl) (fun b' u hb hu => (Heap.get?_update_other s.heap (Obj.mapSeq f) (Ne.symm hb)).trans hu) ⟨_, q⟩ ?_
  exact ⟨hz, its', _, hv, q⟩
theorem Inv.lnew {its : List Value} {t' : Nat} (I : Inv X pins σ H s) (hv : Vals ys its) (hz : ys.length ≤ sizeLine) :
    Inv X pins σ (upd H s.heap.objs.size (.lst ys)) { s with heap := s.heap.push { cls := .type "list", data := .seq its.toArray }, toks := t' } :=
  I.laid (fun _ _ q => Heap.get?_push_of_some _ q) (Nat.le_refl _) ⟨hz, its, 0, hv, Heap.get?_push_size _ rfl⟩
theorem Inv.fresh (I : Inv X pins σ H s) : H s.heap.objs.size = none := I.hok.fresh (Nat.le_refl _)
theorem Inv.lstM (I : Inv X pins σ H s) (hH : H l = some (.lst xs)) : xs.length ≤ sizeLine ∧ ∃ (its : List Value) (n : Nat), Vals xs its ∧ xs.length = its.length ∧ s.heap.get? l = some { cls := .type "list", data := .seq its.toArray n } := by
  obtain ⟨z, its, n, r, e⟩ := I.hok l _ hH
  exact ⟨z, its, n, r, r.length, e⟩

theorem notLongL {n : Nat} (h : n ≤ sizeLine) : Builtin.List.listTooLong n = false := by
  unfold Builtin.List.listTooLong
  exact decide_eq_false (by omega)
end

section
variable {X : Cx}

/-! ### methods -/
def rAppend : V → List V → Hp → VK → Prop := fun x vs H Q => ∃ l xs y, x = .ref l ∧ vs = [y] ∧ H l = some (.lst xs) ∧ xs.length < sizeLine ∧ Q .non (upd H l (.lst (xs ++ [y])))
theorem mt_append : MtM X "list.append" rAppend := by
  intro pins s σ H x vs v us Q I rx rv h
  obtain ⟨l, xs, y, rfl, rfl, hH, hz, q⟩ := h
  cases rx
  obtain ⟨u, rfl, ru⟩ := rv.one
  obtain ⟨z, its, n, r, hl, e⟩ := I.lstM hH
  refine call_meets F.slot_list_append ⟨_, e, rfl⟩ F.entry_list_append (F.args_list_append_2 _ _) (PySem.list_append l its.toArray n u (by rw [List.size_toArray]; omega)) ⟨e, ?_⟩
  refine ⟨.non, _, I.lset (its' := its ++ [u]) hH e (by simp) (r.append (.cons ru .nil)) ?_, rfl, q⟩
  rw [List.length_append, List.length_singleton]
  omega

def rExtend : V → List V → Hp → VK → Prop := fun x vs H Q => ∃ l b xs zs, x = .ref l ∧ vs = [.ref b] ∧ H l = some (.lst xs) ∧ H b = some (.lst zs) ∧ xs.length + zs.length ≤ sizeLine ∧ Q .non (upd H l (.lst (xs ++ zs)))
theorem mt_extend : MtM X "list.extend" rExtend := by
  intro pins s σ H x vs v us Q I rx rv h
  obtain ⟨l, b, xs, zs, rfl, rfl, hH, hB, hz, q⟩ := h
  cases rx
  obtain ⟨u, rfl, ru⟩ := rv.one
  cases ru
  obtain ⟨z, its, n, r, hl, e⟩ := I.lstM hH
  obtain ⟨z2, its2, n2, r2, hl2, e2⟩ := I.lstM hB
  have hsz : its.toArray.size + its2.toArray.size ≤ sizeLine := by rw [List.size_toArray, List.size_toArray]; omega
  have hlong : ¬ (!its.toArray.isEmpty && Builtin.List.listTooLong (its.toArray.size + its2.toArray.size)) = true := by
    rw [notLongL hsz, Bool.and_false]
    exact Bool.false_ne_true
  refine call_meets F.slot_list_extend ⟨_, e, rfl⟩ F.entry_list_extend (F.args_list_extend_2 _ _)
    (AutoSeq1.list_extend_list_list_0 l its.toArray n b its2.toArray n2 hlong (by rw [List.size_toArray]; omega) (by omega)) ⟨e, e2, ?_⟩
  refine ⟨.non, _, I.lset (its' := its ++ its2) hH e (by simp) (r.append r2) ?_, rfl, q⟩
  rw [List.length_append]
  omega

def rPop : V → List V → Hp → VK → Prop := fun x vs H Q => ∃ l xs y, x = .ref l ∧ vs = [] ∧ H l = some (.lst xs) ∧ xs[xs.length - 1]? = some y ∧ Q y (upd H l (.lst xs.dropLast))
theorem mt_pop : MtM X "list.pop" rPop := by
  intro pins s σ H x vs v us Q I rx rv h
  obtain ⟨l, xs, y, rfl, rfl, hH, hy, q⟩ := h
  cases rx
  have hus := rv.zero
  subst hus
  obtain ⟨z, its, n, r, hl, e⟩ := I.lstM hH
  obtain ⟨u, hu, ru⟩ := r.get hy
  have hy' : its.toArray[its.toArray.size - 1]? = some u := by
    show its.toArray[its.length - 1]? = some u
    rw [← Array.getElem?_toList, ← hl]
    exact hu
  refine call_meets F.slot_list_pop ⟨_, e, rfl⟩ F.entry_list_pop (F.args_list_pop_1 _) (MeetsSeq.list_pop_last l its.toArray n u hy' (by rw [List.size_toArray]; omega)) ⟨e, ?_⟩
  refine ⟨y, _, I.lset (its' := its.dropLast) hH e ?_ r.dropLast ?_, ru, q⟩
  · show its.toArray.eraseIdxIfInBounds (its.toArray.size - 1) = its.dropLast.toArray
    rw [List.size_toArray, List.eraseIdxIfInBounds_toArray, erase_last]
  · rw [List.length_dropLast]
    omega

def rPopAt : V → List V → Hp → VK → Prop := fun x vs H Q => ∃ l xs i k y, x = .ref l ∧ vs = [.int i] ∧ H l = some (.lst xs) ∧ -(2 ^ 63) ≤ i ∧ i < 2 ^ 63 ∧ seqIndex? i xs.length = some k ∧ xs[k]? = some y ∧ Q y (upd H l (.lst (xs.eraseIdx k)))
def rReverse : V → List V → Hp → VK → Prop := fun x vs H Q => ∃ l xs, x = .ref l ∧ vs = [] ∧ H l = some (.lst xs) ∧ Q .non (upd H l (.lst xs.reverse))
def rClear : V → List V → Hp → VK → Prop := fun x vs H Q => ∃ l xs, x = .ref l ∧ vs = [] ∧ H l = some (.lst xs) ∧ Q .non (upd H l (.lst []))
/-! ### list + list, list += list, list * int -/
def rCat : R2 := fun x y H Q => ∃ l b xs zs, x = .ref l ∧ y = .ref b ∧ H l = some (.lst xs) ∧ H b = some (.lst zs) ∧ xs.length + zs.length ≤ sizeLine ∧ ∀ p, H p = none → Q (.ref p) (upd H p (.lst (xs ++ zs)))
theorem op_cat : OpR X (binaryOp .Add) rCat := by
  intro pins s σ H x y v u Q I rx ry h
  obtain ⟨l, b, xs, zs, rfl, rfl, hH, hB, hz, q⟩ := h
  cases rx
  cases ry
  obtain ⟨z, its, n, r, hl, e⟩ := I.lstM hH
  obtain ⟨z2, its2, n2, r2, hl2, e2⟩ := I.lstM hB
  refine PySem.P.add_list e e2 ?_ (by rw [List.size_toArray, List.size_toArray]; omega)
  have ea : its.toArray ++ its2.toArray = (its ++ its2).toArray := by simp
  rw [ea]
  exact ⟨.ref _, _, I.lnew (t' := s.toks) (r.append r2) (by rw [List.length_append]; omega), rfl, q _ I.fresh⟩
/-- a list times an int (a negative one is nothing) -/
def rRep : R2 := fun x y H Q => ∃ l k xs, x = .ref l ∧ y = .int k ∧ H l = some (.lst xs) ∧ -(2 ^ 63) ≤ k ∧ k < 2 ^ 63 ∧ xs.length * k.toNat ≤ sizeLine ∧
  ∀ p, H p = none → Q (.ref p) (upd H p (.lst (List.replicate k.toNat xs).flatten))
/-! ### del xs[i] -/
end

/-! ### xs[a:b] = ys -/
section
variable {prog : Program} {w : World} {A : Around} {E : Value → Shared → Prop} {s : Shared}
end

section
variable {X : Cx}
end
end L2

namespace L2
open PySem PySem.Spec PyProof.Rows

/-! ### lists of pairs as tables -/
section
variable {κ : Type} [DecidableEq κ]
def valV (kvs : List (κ × V)) (k : κ) : Option V := (kvs.find? fun kv => decide (kv.1 = k)).map (·.2)
/-- in its place, or at the end -/
def putK (kvs : List (κ × V)) (k : κ) (v : V) : List (κ × V) :=
  if (kvs.any fun kv => decide (kv.1 = k)) = true then kvs.map (fun kv => if kv.1 = k then (kv.1, v) else kv) else kvs ++ [(k, v)]
def dropK (kvs : List (κ × V)) (k : κ) : List (κ × V) := kvs.filter fun kv => decide (kv.1 ≠ k)

theorem valV_pos {p : κ × V} {r : List (κ × V)} {k : κ} (e : p.1 = k) : valV (p :: r) k = some p.2 := by simp [valV, List.find?_cons, e]
theorem valV_neg {p : κ × V} {r : List (κ × V)} {k : κ} (e : ¬ p.1 = k) : valV (p :: r) k = valV r k := by simp [valV, List.find?_cons, e]
theorem valV_any (k : κ) : ∀ kvs : List (κ × V), (kvs.any fun kv => decide (kv.1 = k)) = (valV kvs k).isSome
  | [] => rfl
  | p :: r => by
    rw [List.any_cons]
    by_cases e : p.1 = k
    · simp only [valV_pos e, decide_eq_true e, Bool.true_or, Option.isSome_some]
    · rw [valV_neg e, decide_eq_false e, Bool.false_or]; exact valV_any k r
theorem length_putK (kvs : List (κ × V)) (k : κ) (v : V) : (putK kvs k v).length ≤ kvs.length + 1 := by
  unfold putK
  split
  · rw [List.length_map]; omega
  · rw [List.length_append, List.length_cons, List.length_nil]; omega
theorem putK_new {kvs : List (κ × V)} {k : κ} (v : V) (h : valV kvs k = none) : putK kvs k v = kvs ++ [(k, v)] := by
  unfold putK
  rw [valV_any, h]
  exact if_neg (by decide)

theorem RelO.isSome_eq {o : Option V} {u : Option Value} (r : RelO o u) : o.isSome = u.isSome := by
  cases o with
  | none => cases u with
    | none => rfl
    | some _ => exact (show False from r).elim
  | some _ => cases u with
    | none => exact (show False from r).elim
    | some _ => rfl
/-- raw tables of the same keys -/
theorem KV.val {kvs : List (κ × V)} {vs : List (κ × Value)} (r : KV kvs vs) (k : κ) : RelO (valV kvs k) (valueAt vs k) := by
  unfold KV at r
  induction r with
  | nil => exact True.intro
  | @cons p q ps qs h t ih =>
    obtain ⟨h1, h2⟩ := h
    by_cases e : p.1 = k
    · have e' : q.1 = k := h1.symm.trans e
      have b : valueAt (q :: qs) k = some q.2 := by simp [valueAt, List.find?_cons, e']
      rw [valV_pos e, b]; exact h2
    · have e' : ¬ q.1 = k := fun z => e (h1.trans z)
      have b : valueAt (q :: qs) k = valueAt qs k := by simp [valueAt, List.find?_cons, e']
      rw [valV_neg e, b]; exact ih
theorem KV.any {kvs : List (κ × V)} {vs : List (κ × Value)} (r : KV kvs vs) (k : κ) : (kvs.any fun kv => decide (kv.1 = k)) = vs.any fun kv => decide (kv.1 = k) := by
  unfold KV at r
  induction r with
  | nil => rfl
  | cons h t ih => rw [List.any_cons, List.any_cons, ih, h.1]
theorem KV.repl {kvs : List (κ × V)} {vs : List (κ × Value)} (r : KV kvs vs) (k : κ) {y : V} {u : Value} (ry : RelV y u) :
    KV (kvs.map fun kv => if kv.1 = k then (kv.1, y) else kv) (vs.map fun kv => if kv.1 = k then (kv.1, u) else kv) := by
  unfold KV at r ⊢
  induction r with
  | nil => exact .nil
  | @cons p q ps qs h t ih =>
    rw [List.map_cons, List.map_cons]
    refine .cons ?_ ih
    obtain ⟨h1, h2⟩ := h
    by_cases e : p.1 = k
    · rw [if_pos e, if_pos (h1.symm.trans e)]; exact ⟨h1, ry⟩
    · rw [if_neg e, if_neg (fun z => e (h1.trans z))]; exact ⟨h1, h2⟩
theorem KV.put {kvs : List (κ × V)} {vs : List (κ × Value)} (r : KV kvs vs) (k : κ) {y : V} {u : Value} (ry : RelV y u) : KV (putK kvs k y) (stored vs k u) := by
  unfold putK stored
  rw [r.any k]
  by_cases e : (vs.any fun kv => decide (kv.1 = k)) = true
  · rw [if_pos e, if_pos e]; exact r.repl k ry
  · rw [if_neg e, if_neg e]; exact Paired.snoc r ⟨rfl, ry⟩
theorem KV.length {kvs : List (κ × V)} {vs : List (κ × Value)} (r : KV kvs vs) : kvs.length = vs.length := Paired.length r
end


/-! ### a tracked dict, its keys ints and texts or tuples of these -/
theorem kV_is {P : Program} {w : World} {k : Key} {u : Value} (r : RelV (kV k) u) : (mixKind P w).is k u = true := by
  cases k with
  | inl i => obtain ⟨t, e⟩ := (show ∃ t, u = Value.int i t from r); subst e; exact mixKind_int P w i t
  | inr x => obtain ⟨t, e⟩ := (show ∃ t, u = Value.str x t from r); subst e; exact mixKind_str P w x t
theorem items_are {P : Program} {w : World} : ∀ {ks : List Key} {us : List Value}, Vals (ks.map kV) us → ItemsAre (mixKind P w) ks us
  | [], _, r => by rw [List.map_nil] at r; cases r; exact .nil
  | k :: ks, _, r => by
    rw [List.map_cons] at r
    cases r with
    | cons h t => exact .cons (kV_is h) (items_are t)

/-- raw entries of a dict with tuple keys -/
abbrev KT (H : Hp) : List (List Key × V) → List (List Key × Addr × Value) → Prop := Paired fun p q => p.1 = q.1 ∧ H q.2.1 = some (.tup (p.1.map kV)) ∧ RelV p.2 q.2.2
theorem KT.val {H : Hp} {kvs : List (List Key × V)} {xs : List (List Key × Addr × Value)} (r : KT H kvs xs) (k : List Key) : RelO (valV kvs k) ((atKey xs k).map (·.2)) := by
  induction r with
  | nil => exact True.intro
  | @cons p q ps qs h t ih =>
    obtain ⟨h1, _, h2⟩ := h
    by_cases e : p.1 = k
    · have e' : q.1 = k := h1.symm.trans e
      have b : atKey (q :: qs) k = some q.2 := by simp [atKey, List.find?_cons, e']
      rw [valV_pos e, b]; exact h2
    · have e' : ¬ q.1 = k := fun z => e (h1.trans z)
      have b : atKey (q :: qs) k = atKey qs k := by simp [atKey, List.find?_cons, e']
      rw [valV_neg e, b]; exact ih
theorem KT.repl {H : Hp} {kvs : List (List Key × V)} {xs : List (List Key × Addr × Value)} (r : KT H kvs xs) (k : List Key) {y : V} {u : Value} (ry : RelV y u) :
    KT H (kvs.map fun kv => if kv.1 = k then (kv.1, y) else kv) (xs.map (putAt k u)) := by
  induction r with
  | nil => exact .nil
  | @cons p q ps qs h t ih =>
    rw [List.map_cons, List.map_cons]
    refine .cons ?_ ih
    obtain ⟨h1, h2, h3⟩ := h
    unfold putAt
    by_cases e : p.1 = k
    · rw [if_pos e, if_pos (h1.symm.trans e)]; exact ⟨h1, h2, ry⟩
    · rw [if_neg e, if_neg (fun z => e (h1.trans z))]; exact ⟨h1, h2, h3⟩
theorem KT.put {H : Hp} {kvs : List (List Key × V)} {xs : List (List Key × Addr × Value)} (r : KT H kvs xs) (k : List Key) {b : Addr} {y : V} {u : Value} (hb : H b = some (.tup (k.map kV))) (ry : RelV y u) :
    KT H (putK kvs k y) (storedH xs k b u) := by
  have e : (kvs.any fun kv => decide (kv.1 = k)) = (atKey xs k).isSome := by
    rw [valV_any, (r.val k).isSome_eq, Option.isSome_map]
  unfold putK storedH
  rw [e]
  by_cases q : (atKey xs k).isSome = true
  · rw [if_pos q, if_pos q]; exact r.repl k ry
  · rw [if_neg q, if_neg q]; exact Paired.snoc r ⟨rfl, hb, ry⟩
theorem KT.keeps {H H' : Hp} {kvs : List (List Key × V)} {xs : List (List Key × Addr × Value)} (r : KT H kvs xs) (ht : ∀ b ys, H b = some (.tup ys) → H' b = some (.tup ys)) : KT H' kvs xs :=
  Paired.mapP r fun _ _ z => ⟨z.1, ht _ _ z.2.1, z.2.2⟩

section
variable {P : Program} {w : World} {H : Hp} {h : Heap} {a : Addr}
theorem rd_of {u : HO} (ok : HOk P w H h) (e : Rd H a u) : ObjOk P w H h a u := e.ok ok
theorem dk_rd {kvs : List (Key × V)} (ok : HOk P w H h) (e : Rd H a (.dK kvs)) : kvs.length ≤ sizeLine ∧ (a == sysModules) = false ∧ ∃ vs, KV kvs vs ∧ h.DictOf (mixKind P w) a vs :=
  show ObjOk P w H h a (.dK kvs) from rd_of ok e
theorem dk_of {kvs : List (Key × V)} (ok : HOk P w H h) (e : H a = some (.dK kvs)) : kvs.length ≤ sizeLine ∧ (a == sysModules) = false ∧ ∃ vs, KV kvs vs ∧ h.DictOf (mixKind P w) a vs := dk_rd ok (.inl e)
/-- a tracked tuple of ints and texts is a key -/
theorem key_of {ks : List Key} (ok : HOk P w H h) (e : H a = some (.tup (ks.map kV))) : (tupleKind (mixKind P w)).is h ks a := by
  obtain ⟨_, its, r, o, h1, h2, n, h3⟩ := (show ObjOk P w H h a (.tup (ks.map kV)) from ok a _ e)
  exact ⟨o, its.toArray, n, h1, h2, h3, by simpa using items_are r⟩
theorem dt_rd {kvs : List (List Key × V)} (ok : HOk P w H h) (e : Rd H a (.dT kvs)) : kvs.length ≤ sizeLine ∧ (a == sysModules) = false ∧
    ∃ xs, KT H kvs xs ∧ h.DictOfH (tupleKind (mixKind P w)) a xs := by
  obtain ⟨z, y, xs, r, o, es, ep, h1, h2, h3, h4, h5⟩ := (show ObjOk P w H h a (.dT kvs) from rd_of ok e)
  refine ⟨z, y, xs, r, o, es, ep, h1, h2, h3, h4, fun x hx => ?_, h5⟩
  have all : ∀ {l : List (List Key × V)} {m : List (List Key × Addr × Value)}, KT H l m → ∀ x ∈ m, (tupleKind (mixKind P w)).is h x.1 x.2.1 := by
    intro l m q
    induction q with
    | nil => intro x hx; exact nomatch hx
    | @cons p q ps qs hq t ih =>
      intro x hx
      rcases List.mem_cons.mp hx with e | hx
      · subst e
        exact key_of ok (by rw [← hq.1]; exact hq.2.1)
      · exact ih x hx
  exact all r x hx
theorem dt_of {kvs : List (List Key × V)} (ok : HOk P w H h) (e : H a = some (.dT kvs)) : kvs.length ≤ sizeLine ∧ (a == sysModules) = false ∧
    ∃ xs, KT H kvs xs ∧ h.DictOfH (tupleKind (mixKind P w)) a xs := dt_rd ok (.inl e)
end

/-- what the dict at a holds at the key y -/
def DGet (H : Hp) (a : Addr) (y : V) (r : Option V) : Prop :=
  (∃ kvs k, Rd H a (.dK kvs) ∧ y = kV k ∧ r = valV kvs k) ∨ ∃ kvs k b, Rd H a (.dT kvs) ∧ y = .ref b ∧ H b = some (.tup (k.map kV)) ∧ r = valV kvs k
/-- the heap behind a[y] = v -/
def DPut (H : Hp) (a : Addr) (y v : V) (H' : Hp) : Prop :=
  (∃ kvs k, H a = some (.dK kvs) ∧ y = kV k ∧ kvs.length < sizeLine ∧ H' = upd H a (.dK (putK kvs k v))) ∨
  ∃ kvs k b, H a = some (.dT kvs) ∧ y = .ref b ∧ H b = some (.tup (k.map kV)) ∧ kvs.length < sizeLine ∧ H' = upd H a (.dT (putK kvs k v))
theorem DGet.k {H : Hp} {a : Addr} {kvs : List (Key × V)} {k : Key} (e : H a = some (.dK kvs)) : DGet H a (kV k) (valV kvs k) := .inl ⟨kvs, k, .inl e, rfl, rfl⟩
theorem DPut.k {H : Hp} {a : Addr} {kvs : List (Key × V)} {k : Key} {v : V} (e : H a = some (.dK kvs)) (hl : kvs.length < sizeLine) : DPut H a (kV k) v (upd H a (.dK (putK kvs k v))) := .inl ⟨kvs, k, e, rfl, hl, rfl⟩
section
variable {X : Cx} {pins : List (Addr × Obj)} {σ : St} {H : Hp} {s : Shared} {a : Addr} {y v : V} {u r : Value} {o : Option V} {A : Around} {E : Value → Shared → Prop}

theorem Inv.big (I : Inv X pins σ H s) : sysModules < s.heap.objs.size := by
  have h : mainGlobals < s.heap.objs.size := (I.mod.glob.keeps I.bk).lt
  exact Nat.lt_trans (by decide) h

/-- d[y], there -/
theorem d_getItem {Q : Value → Shared → Prop} (hu : A.units + 1 < cLine) (I : Inv X pins σ H s) (g : DGet H a y (some v)) (ry : RelV y u) (h : ∀ w' s', Inv X pins σ H s' → RelV v w' → Q w' s') :
    wpAny (model X.prog X.w) A (getItem (.ref a) u) Q E s := by
  rcases g with ⟨kvs, k, e, ey, l⟩ | ⟨kvs, k, b, e, ey, eb, l⟩
  · subst ey
    obtain ⟨z, hd, vs, rel, dd⟩ := dk_rd I.hok e
    obtain ⟨w', hw, rw'⟩ := RelO.some_of (v := v) (o := valueAt vs k) (by rw [l]; exact rel.val k)
    exact wpAny_getItem_of (kV_is ry) dd.mapOf hw (h w' _ (I.tok _) rw')
  · subst ey
    cases (show u = Value.ref b from ry)
    obtain ⟨z, hd, xs, rel, dd⟩ := dt_rd I.hok e
    obtain ⟨w', hw, rw'⟩ := RelO.some_of (v := v) (o := (atKey xs k).map (·.2)) (by rw [l]; exact rel.val k)
    obtain ⟨p, hp, hp2⟩ := Option.map_eq_some_iff.mp hw
    refine wpAny_getItem_heap (tupleKind_room_in1 hu) (key_of I.hok eb) dd hp ?_
    rw [hp2]
    exact h w' _ (I.tok _) rw'
/-- y in d -/
theorem d_in {Q : Value → Shared → Prop} (hu : A.units + 1 < cLine) (I : Inv X pins σ H s) (g : DGet H a y o) (ry : RelV y u) (h : ∀ s', Inv X pins σ H s' → Q (.bool o.isSome) s') :
    wpAny (model X.prog X.w) A (compareOp .In u (.ref a)) Q E s := by
  rcases g with ⟨kvs, k, e, ey, l⟩ | ⟨kvs, k, b, e, ey, eb, l⟩
  · subst ey
    obtain ⟨z, hd, vs, rel, dd⟩ := dk_rd I.hok e
    refine wpAny_in_of (kV_is ry) hd dd.mapOf ?_
    rw [← (rel.val k).isSome_eq, ← l]
    exact h _ (I.tok _)
  · subst ey
    cases (show u = Value.ref b from ry)
    obtain ⟨z, hd, xs, rel, dd⟩ := dt_rd I.hok e
    refine wpAny_in_heap (tupleKind_room_in1 hu) (key_of I.hok eb) hd dd ?_
    have q := (rel.val k).isSome_eq
    rw [Option.isSome_map] at q
    rw [← q, ← l]
    exact h _ (I.tok _)
theorem d_notIn {Q : Value → Shared → Prop} (hu : A.units + 1 < cLine) (I : Inv X pins σ H s) (g : DGet H a y o) (ry : RelV y u) (h : ∀ s', Inv X pins σ H s' → Q (.bool (!o.isSome)) s') :
    wpAny (model X.prog X.w) A (compareOp .NotIn u (.ref a)) Q E s := by
  rcases g with ⟨kvs, k, e, ey, l⟩ | ⟨kvs, k, b, e, ey, eb, l⟩
  · subst ey
    obtain ⟨z, hd, vs, rel, dd⟩ := dk_rd I.hok e
    refine wpAny_notIn_of (kV_is ry) hd dd.mapOf ?_
    rw [← (rel.val k).isSome_eq, ← l]
    exact h _ (I.tok _)
  · subst ey
    cases (show u = Value.ref b from ry)
    obtain ⟨z, hd, xs, rel, dd⟩ := dt_rd I.hok e
    refine wpAny_notIn_heap (tupleKind_room_in1 hu) (key_of I.hok eb) hd dd ?_
    have q := (rel.val k).isSome_eq
    rw [Option.isSome_map] at q
    rw [← q, ← l]
    exact h _ (I.tok _)
/-- a dict's object is replaced -/
theorem d_write {h' : Heap} {t' : Nat} {ob : HO} (I : Inv X pins σ H s) (mu : Mut (H a)) (hs : Heap.SameBut a s.heap h') (he : ∃ q, h'.get? a = some q) (new : ObjOk X.prog X.w (upd H a ob) h' a ob) :
    Inv X pins σ (upd H a ob) { s with heap := h', toks := t' } :=
  I.write (x := a) (e := a) mu (.inl rfl) (fun b q hb z => (hs.2 b hb).trans z) he new
theorem dk_new {P : Program} {w : World} {H' : Hp} {h' : Heap} {kvs : List (Key × V)} {vs : List (Key × Value)} (z : kvs.length ≤ sizeLine) (hd : (a == sysModules) = false) (rel : KV kvs vs) (dd : h'.DictOf (mixKind P w) a vs) :
    ObjOk P w H' h' a (.dK kvs) := ⟨z, hd, vs, rel, dd⟩
/-- d[y] = v -/
theorem d_setItem {H' : Hp} {Q : Unit → Shared → Prop} (hu : A.units + 1 < cLine) (I : Inv X pins σ H s) (g : DPut H a y v H') (ry : RelV y u) (rv : RelV v r) (h : ∀ s', Inv X pins σ H' s' → Q () s') :
    wpAny (model X.prog X.w) A (setItem (.ref a) u r) Q E s := by
  rcases g with ⟨kvs, k, e, ey, l, eH⟩ | ⟨kvs, k, b, e, ey, eb, l, eH⟩
  · subst ey eH
    obtain ⟨z, hd, vs, rel, dd⟩ := dk_of I.hok e
    have hz : vs.length ≤ sizeLine := by rw [← rel.length]; exact z
    have hl : (putK kvs k v).length ≤ sizeLine := by have := length_putK kvs k v; omega
    refine wpAny_setItem_pairs (hsz := hz) (kV_is ry) dd fun h' dd' hs => h _ ?_
    have he : ∃ q, h'.get? a = some q := let ⟨q, _, _, hq, _⟩ := dd'; ⟨q, hq⟩
    exact d_write I (by rw [e]; exact True.intro) hs he (dk_new hl hd (rel.put k rv) dd')
  · subst ey eH
    cases (show u = Value.ref b from ry)
    obtain ⟨z, hd, xs, rel, dd⟩ := dt_of I.hok e
    have hz : xs.length ≤ sizeLine := by rw [← Paired.length rel]; exact z
    have hl : (putK kvs k v).length ≤ sizeLine := by have := length_putK kvs k v; omega
    refine wpAny_setItem_heap (hsz := hz) (tupleKind_room_in1 hu) (key_of I.hok eb) dd fun h' dd' hs => h _ ?_
    obtain ⟨q, es, ep, hq, h2, h3, h4, _, h5⟩ := dd'
    refine d_write I (by rw [e]; exact True.intro) hs ⟨q, hq⟩ ⟨hl, hd, _, (rel.put k eb rv).keeps fun c ys ec => ?_, q, es, ep, hq, h2, h3, h4, h5⟩
    rw [upd_ne (ne_of ec e (fun z => nomatch z))]
    exact ec
end

section
variable {X : Cx} {pins : List (Addr × Obj)} {σ : St} {H : Hp} {s : Shared} {a : Addr} {kvs : List (Key × V)} {k : Key} {u : Value} {A : Around} {E : Value → Shared → Prop}
end


/-! ### readings and rules -/
/-- the element of a subscription, not a slice -/
def NoSl (i : Expr) : Prop := ∀ ov iv, subscripted i false ov iv = operate [ov, iv] (getItem ov iv)
theorem subD_of {prog : Program} {w : World} {A : Around} {E : Value → Shared → Prop} {s : Shared} {env : Env} {value slice : Expr} {pos : Pos} {T id : String} {Q : Value → Shared → Prop}
    (hl : typeLookup (.type T) "__getitem__" = pure (some (.builtin id))) (hs : NoSl slice)
    (h : wpAny (model prog w) A (eval value env) (fun o s₁ => wpAny (model prog w) A (eval slice env) (fun i s₂ => s₂.TypeIs o T ∧ wpAny (model prog w) A (getItem o i) Q E s₂) E s₁) E s) :
    wpAny (model prog w) A (eval (.Subscript value slice pos) env) Q E s := by
  refine Subscript_ (wpAny_mono h (fun o s₁ h₁ => wpAny_mono h₁ (fun i s₂ h₂ => ?_) fun _ _ x => x) fun _ _ x => x)
  obtain ⟨hT, h₂⟩ := h₂
  unfold subscriptTail
  refine wpAny_bind ?_
  rw [getitemInPython_of_ne hT.not_modules]
  refine wpAny_bind (wpAny_specialOf hT hl ?_)
  have fin : wpAny (model prog w) A (subscripted slice false o i) (fun r s₃ => wpAny (model prog w) A (letTemporaryGo value o r >>= fun _ => pure r) Q E s₃) E s₂ := by
    rw [hs o i]
    exact wpAny_operating (wpAny_mono h₂ (fun r s₃ h₃ => wpAny_bind (wpAny_letTemporaryGo (wpAny_pure h₃))) fun _ _ x => x)
  first
    | exact wpAny_pure (wpAny_bind fin)
    | exact wpAny_bind (wpAny_pure (wpAny_bind fin))
    | exact wpAny_bind fin

theorem dict_typeIs {X : Cx} {pins : List (Addr × Obj)} {σ : St} {H : Hp} {s : Shared} {a : Addr} {y : V} {o : Option V} (I : Inv X pins σ H s) (g : DGet H a y o) : s.TypeIs (.ref a) "dict" := by
  rcases g with ⟨kvs, k, e, _, _⟩ | ⟨kvs, k, b, e, _, _, _⟩
  · obtain ⟨_, _, vs, _, dd⟩ := dk_rd I.hok e
    exact dd.typeIs
  · obtain ⟨_, _, xs, _, dd⟩ := dt_rd I.hok e
    exact dd.typeIs
/-- d[y] -/
def tDGet (td ty : TE) : TE := fun σ H Q => td σ H fun x H1 => ty σ H1 fun y H2 => ∃ a v, x = .ref a ∧ DGet H2 a y (some v) ∧ Q v H2
/-- y in d, y not in d -/
def tDIn (ty td : TE) : TE := fun σ H Q => ty σ H fun y H1 => td σ H1 fun x H2 => ∃ a o, x = .ref a ∧ DGet H2 a y o ∧ Q (.bl o.isSome) H2
def tDNotIn (ty td : TE) : TE := fun σ H Q => ty σ H fun y H1 => td σ H1 fun x H2 => ∃ a o, x = .ref a ∧ DGet H2 a y o ∧ Q (.bl (!o.isSome)) H2
/-- d[y] = v -/
def sDPut (td ty tv : TE) : TS := fun D σ H => tv σ H fun v H1 => td σ H1 fun x H2 => ty σ H2 fun y H3 => ∃ a H4, x = .ref a ∧ DPut H3 a y v H4 ∧ D.nx σ H4
/-- d[y] op= v -/
def sDAug (td ty tv : TE) (rd : V → V → Hp → VK → Prop) : TS := fun D σ H => td σ H fun x H1 => ty σ H1 fun y H2 => ∃ a v, x = .ref a ∧ DGet H2 a y (some v) ∧
  tv σ H2 fun y2 H3 => rd v y2 H3 fun z H4 => ∃ H5, DPut H4 a y z H5 ∧ D.nx σ H5
/-- del d[y] -/
def sDDel (td ty : TE) : TS := fun D σ H => td σ H fun x H1 => ty σ H1 fun y H2 => ∃ a kvs k, x = .ref a ∧ H2 a = some (.dK kvs) ∧ y = kV k ∧ (valV kvs k).isSome = true ∧ D.nx σ (upd H2 a (.dK (dropK kvs k)))

section
variable {X : Cx} {o i e value : Expr} {pos pos' tpos : Pos} {td ty tv : TE}
theorem pe_dget (hu : X.A.units + 1 < cLine) (ho : PE X o td) (hi : PE X i ty) (hs : NoSl i) : PE X (.Subscript o i pos) (tDGet td ty) := by
  intro pins s σ H Q I h
  refine subD_of PySem.F.slot_dict_getitem.lookup hs (thn (ho pins s σ H _ I h) fun u s1 ⟨x, H1, I1, rx, q1⟩ => thn (hi pins s1 σ H1 _ I1 q1) fun iv s2 ⟨y, H2, I2, ry, a, v, ex, g, q2⟩ => ?_)
  subst ex
  obtain rfl : u = Value.ref a := rx
  exact ⟨dict_typeIs I2 g, d_getItem hu I2 g ry fun w' s3 I3 rw' => ⟨v, H2, I3, rw', q2⟩⟩
theorem pc_din (hu : X.A.units + 1 < cLine) (hi : PE X i ty) (ho : PE X o td) : PC X .In i o (tDIn ty td) := by
  intro pins s σ H Q I h
  refine thn (hi pins s σ H _ I h) fun iv s1 ⟨y, H1, I1, ry, q1⟩ => thn (ho pins s1 σ H1 _ I1 q1) fun u s2 ⟨x, H2, I2, rx, a, ov, ex, g, q2⟩ => ?_
  subst ex
  obtain rfl : u = Value.ref a := rx
  exact d_in hu I2 g ry fun s3 I3 => ⟨.bl ov.isSome, H2, I3, rfl, q2⟩
theorem pc_dnotin (hu : X.A.units + 1 < cLine) (hi : PE X i ty) (ho : PE X o td) : PC X .NotIn i o (tDNotIn ty td) := by
  intro pins s σ H Q I h
  refine thn (hi pins s σ H _ I h) fun iv s1 ⟨y, H1, I1, ry, q1⟩ => thn (ho pins s1 σ H1 _ I1 q1) fun u s2 ⟨x, H2, I2, rx, a, ov, ex, g, q2⟩ => ?_
  subst ex
  obtain rfl : u = Value.ref a := rx
  exact d_notIn hu I2 g ry fun s3 I3 => ⟨.bl (!ov.isSome), H2, I3, rfl, q2⟩
theorem ps_dput (hu : X.A.units + 1 < cLine) (ho : PE X o td) (hi : PE X i ty) (hv : PE X value tv) (hs : swapsWith value (some (.Subscript o i pos')) pos.line X.env = pure false) :
    PS X (.Assign [.Subscript o i pos'] value pos) (sDPut td ty tv) := by
  intro pins s σ H D I h
  refine wpAny_Assign_Subscript (thn (hv pins s σ H _ I h) fun r s1 ⟨v, H1, I1, rv, q1⟩ => thn (ho pins s1 σ H1 _ I1 q1) fun u s2 ⟨x, H2, I2, rx, q2⟩ => thn (hi pins s2 σ H2 _ I2 q2) fun iv s3 ⟨y, H3, I3, ry, a, H4, ex, g, q3⟩ => ?_) hs
  subst ex
  obtain rfl : u = Value.ref a := rx
  exact d_setItem hu I3 g ry rv fun s4 I4 => ⟨σ, H4, I4, q3⟩
end


/-! ### displays -/
theorem dk_empty {P : Program} {w : World} {H : Hp} (h : Heap) (hb : sysModules < h.objs.size) : ObjOk P w H (h.push { cls := .type "dict", data := .dict #[] }) h.objs.size (.dK []) :=
  ⟨Nat.zero_le _, beq_eq_false_iff_ne.mpr (Ne.symm (Nat.ne_of_lt hb)), [], .nil, Heap.DictOf.new h⟩
/-- {}, to be a dict of the kind that is wanted -/
def tDNewK : TE := fun _ H Q => ∀ p, H p = none → Q (.ref p) (upd H p (.dK []))
def tDNewT : TE := fun _ H Q => ∀ p, H p = none → Q (.ref p) (upd H p (.dT []))
section
variable {X : Cx} {pos : Pos}
theorem pe_dnewK : PE X (.Dict [] [] pos) tDNewK := fun pins s σ H Q I h =>
  wpAny_Dict_empty ⟨.ref s.heap.objs.size, _, I.laid (a := s.heap.objs.size) (o := .dK []) (t' := s.toks) (fun _ _ q => Heap.get?_push_of_some _ q) (Nat.le_refl _) (dk_empty s.heap I.big), rfl, h _ (I.hok.fresh (Nat.le_refl _))⟩
end

/-- the pairs of a display, from the left -/
def tPairs : List (TE × TE) → St → Hp → (List (V × V) → Hp → Prop) → Prop
  | [], _, H, Q => Q [] H
  | (tk, tv) :: r, σ, H, Q => tk σ H fun x H1 => tv σ H1 fun y H2 => tPairs r σ H2 fun ps H3 => Q ((x, y) :: ps) H3
abbrev VV : List (V × V) → List (Value × Value) → Prop := Paired fun p q => RelV p.1 q.1 ∧ RelV p.2 q.2
def PPs (X : Cx) (pos : Pos) (keys : List (Option Expr)) (values : List Expr) (trs : List (TE × TE)) : Prop :=
  ∀ (pins : List (Addr × Obj)) (s : Shared) (σ : St) (H : Hp) (Q : List (V × V) → Hp → Prop), Inv X pins σ H s → tPairs trs σ H Q →
    wpAny (model X.prog X.w) X.A (evalPairs (pairTrees keys values X.env pos)) (fun vs s' => ∃ ps H', Inv X pins σ H' s' ∧ VV ps vs ∧ Q ps H') X.xe s
theorem pps_nil {X : Cx} {pos : Pos} : PPs X pos [] [] [] := fun pins s σ H Q I h => pairTrees_nil_walk ⟨[], H, I, .nil, h⟩
theorem pps_cons {X : Cx} {pos : Pos} {k v : Expr} {ks : List (Option Expr)} {vs : List Expr} {tk tv : TE} {trs : List (TE × TE)} (hk : PE X k tk) (hv : PE X v tv) (hr : PPs X pos ks vs trs) :
    PPs X pos (some k :: ks) (v :: vs) ((tk, tv) :: trs) := fun pins s σ H Q I h =>
  pairTrees_cons_walk (thn (hk pins s σ H _ I h) fun u s1 ⟨x, H1, I1, rx, q1⟩ => thn (hv pins s1 σ H1 _ I1 q1) fun w2 s2 ⟨y, H2, I2, ry, q2⟩ =>
    thn (hr pins s2 σ H2 _ I2 q2) fun ws s3 ⟨ps, H3, I3, rel, q3⟩ => ⟨(x, y) :: ps, H3, I3, .cons ⟨rx, ry⟩ rel, q3⟩)

def mergeK (kvs more : List (Key × V)) : List (Key × V) := more.foldl (fun acc kv => putK acc kv.1 kv.2) kvs
theorem KV.merge : ∀ {more : List (Key × V)} {rs : List (Key × Value)} {kvs : List (Key × V)} {vs : List (Key × Value)}, KV more rs → KV kvs vs → KV (mergeK kvs more) (merged vs rs) := by
  intro more rs kvs vs r
  unfold KV at r
  induction r generalizing kvs vs with
  | nil => intro q; exact q
  | @cons p q ps qs h t ih =>
    intro r0
    have e : KV (putK kvs p.1 p.2) (stored vs q.1 q.2) := by
      have := r0.put p.1 h.2
      rw [← h.1]; exact this
    exact ih e
theorem length_mergeK : ∀ (more kvs : List (Key × V)), (mergeK kvs more).length ≤ kvs.length + more.length
  | [], kvs => by show kvs.length ≤ kvs.length + 0; omega
  | p :: r, kvs => by
    have h1 := length_mergeK r (putK kvs p.1 p.2)
    have h2 := length_putK kvs p.1 p.2
    show (mergeK (putK kvs p.1 p.2) r).length ≤ _
    rw [List.length_cons]; omega
theorem carries_of {P : Program} {w : World} : ∀ {kvs : List (Key × V)} {ws : List (Value × Value)}, VV (kvs.map fun kv => (kV kv.1, kv.2)) ws → ∃ rs, Carries (mixKind P w) ws rs ∧ KV kvs rs
  | [], _, r => by rw [List.map_nil] at r; cases r; exact ⟨[], True.intro, .nil⟩
  | p :: kvs, _, r => by
    rw [List.map_cons] at r
    cases r with
    | @cons a b as bs h t =>
      obtain ⟨rs, c, q⟩ := carries_of (P := P) (w := w) t
      obtain ⟨b1, b2⟩ := b
      exact ⟨(p.1, b2) :: rs, ⟨kV_is h.1, rfl, c⟩, .cons ⟨rfl, h.2⟩ q⟩
/-- {k: v, ..} with keys ints and texts; the new dict stands empty while the pairs are made -/
def tDisp (trs : List (TE × TE)) : TE := fun σ H Q => ∀ p, H p = none → tPairs trs σ (upd H p (.dK [])) fun ps H2 => H2 p = some (.dK []) ∧ ∃ kvs : List (Key × V), ps = kvs.map (fun kv => (kV kv.1, kv.2)) ∧ kvs.length ≤ 15 ∧ Q (.ref p) (upd H2 p (.dK (mergeK [] kvs)))
theorem pe_disp {X : Cx} {pos : Pos} {keys : List (Option Expr)} {values : List Expr} {trs : List (TE × TE)} (h : PPs X pos keys values trs) (hall : keys.all (·.isSome) = true) (hl : keys.length = values.length) (h0 : keys ≠ [])
    (h15 : keys.length ≤ 15) : PE X (.Dict keys values pos) (tDisp trs) := by
  intro pins s σ H Q I q
  have hn := I.hok.fresh (Nat.le_refl s.heap.objs.size)
  have I1 := I.laid (a := s.heap.objs.size) (o := .dK []) (h' := s.heap.push { cls := .type "dict", data := .dict #[] }) (t' := s.toks) (fun _ _ q => Heap.get?_push_of_some _ q) (Nat.le_refl _) (dk_empty s.heap I.big)
  refine wpAny_Dict_walk (knd := mixKind X.prog X.w) hall hl h0 h15 (thn (h pins _ σ _ _ I1 (q _ hn)) fun ws s2 ⟨ps, H2, I2, rel, e, kvs, ep, lk, q2⟩ => ?_)
  subst ep
  obtain ⟨rs, c, rk⟩ := carries_of (P := X.prog) (w := X.w) rel
  obtain ⟨z, hd, vs0, r0, dd⟩ := dk_of I2.hok e
  cases r0
  refine ⟨rs, c, dd, fun h' dd' hs => ⟨.ref s.heap.objs.size, _, ?_, rfl, q2⟩⟩
  have hz : (mergeK [] kvs).length ≤ sizeLine := by
    have h1 := length_mergeK kvs []
    rw [List.length_nil] at h1
    rw [sizeLine_eq]; omega
  have he : ∃ q, h'.get? s.heap.objs.size = some q := let ⟨q, _, _, hq, _⟩ := dd'; ⟨q, hq⟩
  exact d_write I2 (by rw [e]; exact True.intro) hs he (dk_new hz hd (rk.merge .nil) dd')


/-! ### methods -/
/-- a method call o.m(e) of a built-in, with one argument: what must be seen of the text -/
structure M1 (X : Cx) (o : Expr) (m : Str) (apos : Pos) (e : Expr) (cpos : Pos) : Prop where
  base : attributeBase o m X.env (eval o X.env) = eval o X.env
  few : ((backTo cpos (starEach [e] X.env)).all (fun x => !x.1) && (backToKw cpos (keywordEach [] X.env)).all (fun x => x.1.isSome)
    && decide (([e] : List Expr).length + ([] : List Keyword).length + (if ([] : List Keyword).isEmpty then 0 else 1) < 30)) = true
  line : (apos.endLine == cpos.line) = true
  trees : backTo cpos (starEach [e] X.env) = [(false, eval e X.env)]
structure M2 (X : Cx) (o : Expr) (m : Str) (apos : Pos) (e f : Expr) (cpos : Pos) : Prop where
  base : attributeBase o m X.env (eval o X.env) = eval o X.env
  few : ((backTo cpos (starEach [e, f] X.env)).all (fun x => !x.1) && (backToKw cpos (keywordEach [] X.env)).all (fun x => x.1.isSome)
    && decide (([e, f] : List Expr).length + ([] : List Keyword).length + (if ([] : List Keyword).isEmpty then 0 else 1) < 30)) = true
  line : (apos.endLine == cpos.line) = true
  trees : backTo cpos (starEach [e, f] X.env) = [(false, eval e X.env), (false, eval f X.env)]

/-- a is a dict, whatever its keys -/
def IsD (H : Hp) (a : Addr) : Prop := (∃ kvs, Rd H a (.dK kvs)) ∨ ∃ kvs, Rd H a (.dT kvs)
theorem isD_at {X : Cx} {pins : List (Addr × Obj)} {σ : St} {H : Hp} {s : Shared} {a : Addr} (I : Inv X pins σ H s) (d : IsD H a) :
    s.TypeIs (.ref a) "dict" ∧ (∀ b, Value.ref a = .ref b → ∃ ob, s.heap.get? b = some ob ∧ ob.dict = none) ∧ (a == sysModules) = false := by
  rcases d with ⟨kvs, e⟩ | ⟨kvs, e⟩
  · obtain ⟨_, hd, vs, _, dd⟩ := dk_rd I.hok e
    refine ⟨dd.typeIs, fun b q => ?_, hd⟩
    cases q
    obtain ⟨ob, _, _, h1, h2, _⟩ := dd
    exact ⟨ob, h1, h2.2.1⟩
  · obtain ⟨_, hd, xs, _, dd⟩ := dt_rd I.hok e
    refine ⟨dd.typeIs, fun b q => ?_, hd⟩
    cases q
    obtain ⟨ob, _, _, h1, h2, _⟩ := dd
    exact ⟨ob, h1, h2.2.1⟩

section
variable {X : Cx} {pins : List (Addr × Obj)} {σ : St} {H : Hp} {s : Shared} {a : Addr} {y d : V} {u r : Value} {o : Option V} {A : Around} {E : Value → Shared → Prop}
end

def tDGet1 (td ty : TE) : TE := fun σ H Q => td σ H fun x H1 => ∃ a, x = .ref a ∧ IsD H1 a ∧ ty σ H1 fun y H2 => ∃ o, DGet H2 a y o ∧ Q (o.getD .non) H2
def tDGet2 (td ty tx : TE) : TE := fun σ H Q => td σ H fun x H1 => ∃ a, x = .ref a ∧ IsD H1 a ∧ ty σ H1 fun y H2 => tx σ H2 fun z H3 => ∃ o, DGet H3 a y o ∧ Q (o.getD z) H3
/-- d.pop(k): there; d.pop(k, x): there or not -/
def tDPop1 (td ty : TE) : TE := fun σ H Q => td σ H fun x H1 => ∃ a, x = .ref a ∧ IsD H1 a ∧ ty σ H1 fun y H2 => ∃ kvs k v, H2 a = some (.dK kvs) ∧ y = kV k ∧ valV kvs k = some v ∧ Q v (upd H2 a (.dK (dropK kvs k)))
def tDPop2 (td ty tx : TE) : TE := fun σ H Q => td σ H fun x H1 => ∃ a, x = .ref a ∧ IsD H1 a ∧ ty σ H1 fun y H2 => tx σ H2 fun z H3 => ∃ kvs k, H3 a = some (.dK kvs) ∧ y = kV k ∧
  (∀ v, valV kvs k = some v → Q v (upd H3 a (.dK (dropK kvs k)))) ∧ (valV kvs k = none → Q z H3)
section
variable {X : Cx} {o e f : Expr} {apos cpos : Pos} {td ty tx : TE}
end

/-! ### dict(d): a copy -/
section
variable {X : Cx} {pins : List (Addr × Obj)} {σ : St} {H : Hp} {s : Shared} {a : Addr} {kvs : List (Key × V)} {A : Around} {E : Value → Shared → Prop}
end


section
variable {X : Cx} {pins : List (Addr × Obj)} {σ : St} {H : Hp} {s : Shared} {a : Addr} {y : V} {u : Value} {A : Around} {E : Value → Shared → Prop}
end
end L2

namespace Att
open PySem PySem.W PySem.Calls PyProof.Rows

/-! ### the script -/
theorem ints_of_wellAll {P : Params} {h : Heap} : ∀ (ns : List Int) (vs : List Value), WellAll P h vs (ns.map WData.int) → IntsAre vs ns := by
  intro ns
  induction ns with
  | nil =>
    intro vs w
    rw [List.map_nil] at w
    cases w
    exact .nil
  | cons n ns ih =>
    intro vs w
    rw [List.map_cons] at w
    cases w with
    | cons a b =>
      cases a
      exact .cons _ _ (ih _ b)

theorem script_of {l : OpenLaw} {n : Nat} (hn : l.most = some n) {P : Params} {h : Heap} {args : List WData} {vals : List Value}
    (hpre : l.row.toRowW.claim.pre args = true) (hwl : WellAll P h vals args) :
    ∃ a vs ns, vals = [Value.ref a] ∧ args = [WData.list (ns.map WData.int)] ∧ h.get? a = some { cls := .type "list", data := .seq vs.toArray } ∧ IntsAre vs ns ∧ ns.length ≤ n := by
  have hsh : WShape.hasAll [] args [.list .int] = true := (pre_splitW hpre).1
  have hc : l.pre.holds [] { args := args } = true := (pre_splitW hpre).2
  obtain ⟨d, r, rfl, h1, h2⟩ := hasAllW_cons hsh
  obtain rfl := hasAllW_nil h2
  obtain ⟨xs, rfl, h3⟩ := hasW_list h1
  obtain ⟨ns, rfl⟩ := items_int h3
  have hlen : ns.length ≤ n := by
    unfold OpenLaw.pre at hc
    have h4 : (WTm.not (.lt (.lit (.int (n : Int))) (.len (.arg 0)))).holds [] { args := [.list (ns.map .int)] } = true := by
      have h4 := (holds_andW hc).1
      rw [hn] at h4
      exact h4
    have h5 := condW_of h4 (w_not (w_lt w_lit (w_len_list (w_arg rfl))))
    rw [List.length_map] at h5
    refine Nat.le_of_not_lt fun q => ?_
    have q' : (n : Int) < ((ns.length : Nat) : Int) := by omega
    first
      | (rw [decide_eq_true q'] at h5; exact absurd h5 (by decide))
      | (simp at h5; omega)
  cases hwl with
  | cons w1 w2 =>
    cases w2
    cases w1 with
    | list ho hall => exact ⟨_, _, ns, rfl, rfl, ho, ints_of_wellAll ns _ hall, hlen⟩

theorem post_true (l : OpenLaw) (args : List WData) : l.row.toRowW.claim.post args (.bool true) args = true :=
  postW_of (r := l.row.toRowW) (X := (true == true))
    (show WShape.has [] (.bool true) .bool = true by first | rfl | decide | simp [WShape.has, WShape.arms, WShape.armsAll])
    (show (WTm.eq .res (.lit (.bool true))).value [] { args := args, res := some (.bool true), after := args } = some (.bool (true == true)) from w_eq_bool (w_res rfl) w_lit) rfl

/-! ### the attachment: holds_open's last premise (the goal 'hc' behind k_head) from a wpAny of the law's body -/
/-- the same from a codeAny of the CALL (for a layer whose function contracts speak of calls) -/
theorem attach_call {l : OpenLaw} {n : Nat} {q : Program} {loose : List Str} {XP : (Str → Option Value) → Heap → Prop} {YP : World → Heap → Prop} {d : DefRec}
    (hn : l.most = some n) (hdf : d.params.defaults = [])
    (call : ∀ (w : World) (s₀ s₁ : Shared) (mg mb : Str → Option Value) (fa : Addr) (o : Obj) (pm cd doc : Value) (a : Addr) (vs : List Value) (ns : List Int),
      Ground q loose [] XP w s₀ mg mb s₁.heap → YP w s₁.heap →
      s₁.heap.get? fa = some o → o.data = .func (docDef d.name d.params d.body d.scope pm cd doc) → s₁.heap.CodeRec cd d.name → mg d.name = some (.ref fa) →
      s₁.heap.get? a = some { cls := .type "list", data := .seq vs.toArray } → IntsAre vs ns → ns.length ≤ n → s₁.gens = #[] →
      codeAny (model l.prog w) callerA (.call (.ref fa) ⟨[.ref a], []⟩) (fun r s' => r = .ok (.ret (.bool true)) ∧ OldK s₁.heap s'.heap ∧ s'.os = s₁.os ∧ AllBare s'.gens) s₁) :
    WalkO q loose XP YP l.row.toRowW d [] (fun f vs => PySem.call f vs) := by
  intro w s₀ s₁ mg mb G Y fa o pm cd doc dV kV ho hd hcd hD hmg hg args vals as hpre hlay hrd hwl hlo
  obtain rfl : dV = .none := Dflts.none hD hdf
  obtain rfl : kV = .none := Dflts.noKw hD
  obtain ⟨a, vs, ns, rfl, rfl, hobj, hints, hlen⟩ := script_of hn hpre hwl
  refine enter_call (codeAny_mono (call w s₀ s₁ mg mb fa o pm cd doc a vs ns G Y ho (fd_plain hd) hcd hmg hobj hints hlen hg) fun r s' hq => ?_)
  obtain ⟨rfl, h2, h3, h4⟩ := hq
  exact ⟨.inl ⟨.bool true, .bool true, [], rfl, fun _ => rfl, .bool true, post_true l _, fun _ => ⟨List.Pairwise.nil, fun _ hm => (nomatch hm)⟩⟩, h2, h3, h4⟩

/-! ### rules over ANY heap (no ledger) from facts about the written part K: the library's own take a ledger (News) for what they write -/
section
variable {prog : Program} {w : World} {A : Around} {E : Value → Shared → Prop} {s : Shared} {K : Frag}

/-! the whole heap as the ledger: makes every rule that writes through a ledger a rule over any heap -/
def noObjs (h : Heap) : Heap := { h with objs := #[] }
def ledger (h : Heap) (L d : Addr) : List (Addr × Obj) := (List.range h.objs.size).filterMap fun a => if a = L ∨ a = d then none else (h.get? a).map fun o => (a, o)
end
end Att

namespace L2
open PySem PySem.Spec PyProof.Rows

theorem vals_ints : ∀ {vs : List Value} {ns : List Int}, IntsAre vs ns → Vals (ns.map V.int) vs
  | _, _, .nil => .nil
  | _, _, .cons n t h => .cons ⟨t, rfl⟩ (vals_ints h)

/-- nothing is tracked but the script, known to the object (or it is an object of the module) -/
def Only (H : Hp) : Prop := ∀ b, H b = none ∨ ∃ o xs, H b = some (.frz o (.lst xs))

/-- THE HEAD: the law's promise, at the heap behind the top. F, the promise of the law's def, may use that base is part of the heap (so K.In base, base.Ns mainGlobals mg stand in Mod) -/
theorem law_call {P : Program} {w : World} {K : PySem.W.Frag} {mg mb : Str → Option Value} {CX : CXT} {k : Nat} {fa a : Addr} {fd : FuncData} {x : Str} {sp : Sp} {s₁ : Shared} {vs : List Value} {ns : List Int}
    (KX : K.In s₁.heap) (hns : s₁.heap.Ns mainGlobals mg) (hb : s₁.heap.Ns builtinsNs mb) (hbb : ∀ x : Str, x ≠ "__name__" → mb x = bootBuiltins x) (hlim : s₁.heap.NoLimit) (hg : s₁.gens = #[])
    (ha : s₁.heap.get? a = some { cls := .type "list", data := .seq vs.toArray }) (hi : IntsAre vs ns) (hl : ns.length ≤ sizeLine) (hr : Room k callerA)
    (F : ∀ base : Heap, K.In base → base.Ns mainGlobals mg → FnOk P w K mg base CX k fa fd [x] sp) (hbind : ∀ (s : Shared) (u : Value), BindsTo s fd ⟨[u], []⟩ [(x, u)])
    (hsp : ∀ H : Hp, Only H → SqL K H a (ns.map V.int) → sp [.ref a] H (fun v _ => v = .bl true) fun _ _ _ => False)
    (hCX : ∀ H e s', CX [] H s₁ (fun _ _ _ => False) e s' → False) :
    codeAny (model P w) callerA (.call (.ref fa) ⟨[.ref a], []⟩) (fun r s' => r = .ok (.ret (.bool true)) ∧ OldK s₁.heap s'.heap ∧ s'.os = s₁.os ∧ AllBare s'.gens) s₁ := by
  have rv := vals_ints hi
  have lenV := hi.length
  -- from an abstract heap in which nothing but the script may be tracked
  have core : ∀ H : Hp, Only H → SqL K H a (ns.map V.int) → HOk P w H s₁.heap → (∀ b, H b ≠ none → b = a) → (H a ≠ none → K.lookup a = none) →
      codeAny (model P w) callerA (.call (.ref fa) ⟨[.ref a], []⟩) (fun r s' => r = .ok (.ret (.bool true)) ∧ OldK s₁.heap s'.heap ∧ s'.os = s₁.os ∧ AllBare s'.gens) s₁ := by
    intro H hO hS hok hA hK
    have base_of : ∀ {b : Addr} {o : Obj}, s₁.heap.get? b = some o → H b = none → (hidT s₁.heap H).get? b = some o := fun e n => hidT_get e n
    have noA : ∀ {b : Addr} {o : Obj} {es : Array DictEntry} {ep : Nat}, s₁.heap.get? b = some o → o.data = .dict es ep → H b = none := fun {b o es ep} e d => by
      cases q : H b with
      | none => rfl
      | some u =>
        have e' : b = a := hA b (by rw [q]; simp)
        subst e'
        rw [ha] at e; cases e
        have d' : Data.seq vs.toArray _ = Data.dict es ep := d
        cases d'
    have nsK : ∀ {b : Addr} {m : Str → Option Value}, s₁.heap.Ns b m → (hidT s₁.heap H).Ns b m := fun {b m} ⟨o, es, ep, e, d, r⟩ => ⟨o, es, ep, base_of e (noA e d), d, r⟩
    have hKb : K.In (hidT s₁.heap H) := fun b o e => base_of (KX b o e) (by
      cases q : H b with
      | none => rfl
      | some u =>
        have e' : b = a := hA b (by rw [q]; simp)
        subst e'
        rw [hK (by rw [q]; simp)] at e; cases e)
    have hM : Mod K mg (hidT s₁.heap H) := ⟨hKb, nsK hns, ⟨mb, nsK hb, hbb⟩, let ⟨mc, h1, h2⟩ := hlim; ⟨mc, nsK h1, h2⟩⟩
    have e0 : Env0 P w K mg (hidT s₁.heap H) callerA [] s₁ H := ⟨rfl, hM, fun b o e => of_hidT e, Nat.le_of_eq (hidT_size _ _), trivial, fun b hb => absurd (show b ∈ ([] : List Addr) from hb) (by simp), hok, .of_eq hg⟩
    refine codeAny_mono ((F _ hKb (nsK hns)).run callerA [] s₁ H ⟨[.ref a], []⟩ [.ref a] [.ref a] _ _ hr e0 (hbind s₁ (.ref a)) (.cons rfl .nil) (hsp H hO hS)) fun r s' h => ?_
    cases r with
    | error e => exact (hCX H e s' h).elim
    | ok fl =>
      cases fl with
      | next => exact False.elim h
      | brk => exact False.elim h
      | cont => exact False.elim h
      | ret u =>
        obtain ⟨v, H', os, bare, un, hok', r', q⟩ := h
        have q' : v = .bl true := q
        subst q'
        obtain rfl : u = Value.bool true := r'
        refine ⟨rfl, OldK.of_keep fun b o e => ?_, os, bare⟩
        cases q : H b with
        | none => exact un.keep b o e q (by intro z; exact absurd (show b ∈ ([] : List Addr) from z) (by simp)) (by simp)
        | some u =>
          rcases hO b with z | ⟨ob, xs, z⟩
          · rw [q] at z; cases z
          · have z2 := un.frzs b ob _ z
            obtain ⟨e1, _⟩ := hok b _ z
            obtain ⟨e2, _⟩ := hok' b _ z2
            rw [e] at e1; cases e1
            exact e2
  cases hk : K.lookup a with
  | some o =>
    -- the script is one of the module's own objects
    have e := KX a o hk
    rw [ha] at e
    cases e
    refine core (fun _ => none) (fun _ => .inl rfl) (.inr ⟨_, vs.toArray, _, hk, rfl, rfl, rfl, by rw [List.size_toArray, lenV]; exact hl, by simpa using rv⟩) (fun b u z => by have z' : (none : Option HO) = some u := z; cases z') (fun b z => absurd rfl z) fun z => absurd rfl z
  | none =>
    refine core (fun b => if b = a then some (.frz { cls := .type "list", data := .seq vs.toArray } (.lst (ns.map V.int))) else none) (fun b => ?_) (.inl (.inr ⟨{ cls := .type "list", data := .seq vs.toArray }, if_pos rfl⟩)) (fun b u z => ?_) (fun b z => ?_) fun _ => hk
    · by_cases hb : b = a
      · exact .inr ⟨_, _, if_pos hb⟩
      · exact .inl (if_neg hb)
    · by_cases hb : b = a
      · have z' := (if_pos hb).symm.trans z
        cases z'
        subst hb
        exact ⟨ha, by rw [List.length_map]; exact hl, vs, _, rv, ha⟩
      · have z' := (if_neg hb).symm.trans z
        cases z'
    · by_cases hb : b = a
      · exact hb
      · exact absurd (if_neg hb) z
end L2

namespace L2
open PySem PySem.Spec PyProof.Rows

abbrev KOf {K : PySem.W.Frag} {h : Heap} (_ : K.In h) : PySem.W.Frag := K

/-- the goal that k_head leaves (case hc), from the law's promise. F gives the function object fd (K's own) once, then the promise over every base -/
theorem walk_of {l : PySem.W.OpenLaw} {n k : Nat} {q : Program} {loose : List Str} {XP : (Str → Option Value) → Heap → Prop} {YP : World → Heap → Prop} {d : DefRec} {K : Params → PySem.W.Frag} {CX : World → CXT} {sp : World → Sp} {x : Str}
    (hn : l.most = some n) (hn2 : n ≤ sizeLine) (hdf : d.params.defaults = []) (hr : Room k callerA)
    (hY : ∀ (w : World) (h : Heap), YP w h → (K w.params).In h)
    (F : ∀ (w : World) (mg : Str → Option Value) (fa : Addr) (h : Heap), (K w.params).In h → h.Ns mainGlobals mg → mg d.name = some (.ref fa) →
      ∃ fd : FuncData, (∀ (s : Shared) (u : Value), BindsTo s fd ⟨[u], []⟩ [(x, u)]) ∧
        ∀ base : Heap, (K w.params).In base → base.Ns mainGlobals mg → FnOk l.prog w (K w.params) mg base (CX w) k fa fd [x] (sp w))
    (hsp : ∀ (w : World) (H : Hp) (a : Addr) (ns : List Int), ns.length ≤ n → Only H → SqL (K w.params) H a (ns.map V.int) → sp w [.ref a] H (fun v _ => v = .bl true) fun _ _ _ => False)
    (hCX : ∀ (w : World) (H : Hp) (s : Shared) (e : Value) (s' : Shared), CX w [] H s (fun _ _ _ => False) e s' → False) :
    PySem.W.WalkO q loose XP YP l.row.toRowW d [] (fun f vs => PySem.call f vs) := by
  refine Att.attach_call hn hdf fun w s₀ s₁ mg mb fa o pm cd doc a vs ns G Y ho hd hcd hmg hobj hints hlen hg => ?_
  have KX := hY w _ Y
  obtain ⟨fd, hb, hF⟩ := F w mg fa _ KX G.T.g hmg
  exact law_call KX G.T.g G.T.b G.T.builtins G.T.nolimit hg hobj hints (Nat.le_trans hlen hn2) hr hF hb (fun H hO hS => hsp w H a ns hlen hO hS) fun H e s' => hCX w H s₁ e s'
end L2

/- THE LAST THEOREM (shape; LID, My.* are yours):
   My.Adr: a structure of the addresses that your layer names (classes, functions); My.Txt K t: a structure (Prop) of the equations over K;
   My.txt_mk : {K} {implicit addresses ..} (e1 : nsIn K mainGlobals "law" = some (some (.ref f))) (e2 : K.lookup f = some ⟨oc, od, .func (fnOf "law" "law" params body scope dV kV doc pm an cdv ct), sl⟩) (e3 : codeIn K cdv "law" = true) .. : ∃ t, My.Txt K t

set_option maxRecDepth 100000 in
(the tactic k_is has no namespace: write k_is) -/

/-! SHORT WORDS over the layer: a def of the text, its body, what a loop and a test want. -/
namespace L2
open PySem PySem.Spec PyProof.Rows

/-! ### the text by places -/
/-- the j-th statement of a class's body -/
def inClass (s : Stmt) (j : Nat) : Stmt := match s with
  | .ClassDef _ _ _ body _ _ _ _ _ _ _ => body.getD j (.Pass ⟨0, 0, 0, 0⟩)
  | _ => .Pass ⟨0, 0, 0, 0⟩
def defArgs (s : Stmt) : Arguments := match s with
  | .FunctionDef _ a _ _ _ _ _ _ _ _ => a
  | _ => { posonlyargs := [], args := [], vararg := none, kwonlyargs := [], kw_defaults := [], kwarg := none, defaults := [] }
def defBody (s : Stmt) : List Stmt := match s with
  | .FunctionDef _ _ b _ _ _ _ _ _ _ => b
  | _ => []
def defScope (s : Stmt) : Scope := match s with
  | .FunctionDef _ _ _ _ _ _ sc _ _ _ => sc
  | _ => { kind := .function, names := [], isGenerator := false, isCoroutine := false }

/-! ### no exception leaves a def -/
abbrev CX0 : CXT := fun _ _ _ _ _ _ => False
abbrev E0 : XK := fun _ _ _ => False
theorem pass0 {X : Cx} : Passes CX0 X E0 := fun _ _ _ _ _ _ _ h => h.elim

/-! ### a def (or method) of the text as it stands behind the top -/
structure Fun (K : PySem.W.Frag) (x qual : Str) (st : Stmt) (f : Addr) (fd : FuncData) : Prop where
  ex : ∃ (oc : Value) (od : Option Addr) (kV doc pm : Value) (an : Option Addr) (cdv ct : Value) (osl : Array (Option Value)),
    fd = PySem.W.fnOf x qual (defArgs st) (defBody st) (defScope st) .none kV doc pm an cdv ct ∧ K.lookup f = some ⟨oc, od, .func fd, osl⟩ ∧ PySem.W.codeIn K cdv qual = true
  kp : PySem.W.keepIn K (.ref f) = true
section
variable {P : Program} {w : World} {K : PySem.W.Frag} {mg : Str → Option Value} {base : Heap}
/-- THE RULE for a def: its body as a term of rules, and the reading of that term -/
theorem Fun.ok {x qual : Str} {st : Stmt} {f : Addr} {fd : FuncData} {N ps : List Str} {k : Nat} {sp : Sp} (F : Fun K x qual st f fd) (S : FnScope N ps (defScope st)) (len : ∀ vs H Q E, sp vs H Q E → vs.length = ps.length)
    (hbody : ∀ (cdv : Value) (A : Around) (outer : List Env) (s : Shared) (H : Hp) (vs : List V) (Q : VK) (E : XK), Room k (A.deeper (envOfC qual (defScope st) s.heap.objs.size f cdv)) → sp vs H Q E →
      ∃ t, PSs (cxOf CX0 P w K mg base N qual (defScope st) f cdv A outer s H E).nox (defBody st) t ∧ t { nx := fun _ H' => Q .non H', rt := Q } (start N vs) H) : FnOk P w K mg base CX0 (k + 1) f fd ps sp := by
  obtain ⟨oc, od, kV, doc, pm, an, cdv, ct, osl, rfl, lk, hcd⟩ := F.ex
  refine fn_of lk hcd S len fun A outer s H vs Q E hr hsp => ?_
  obtain ⟨t, h, q⟩ := hbody cdv A outer s H vs Q E hr hsp
  exact ⟨t, h.nox, q⟩
/-- how its arguments bind (no defaults): h is «fun _ _ _ _ _ _ us hl => match us, hl with | [_, _], _ => rfl», one _ a parameter -/
theorem Fun.binds {x qual : Str} {st : Stmt} {f : Addr} {fd : FuncData} {ps : List Str} (F : Fun K x qual st f fd)
    (h : ∀ (kV doc pm : Value) (an : Option Addr) (cdv ct : Value) (us : List Value), us.length = ps.length → bindArgs (PySem.W.fnOf x qual (defArgs st) (defBody st) (defScope st) .none kV doc pm an cdv ct) ⟨us, []⟩ = pure (ps.zip us)) : Binds K fd ps [] := by
  obtain ⟨oc, od, kV, doc, pm, an, cdv, ct, osl, rfl, lk, hcd⟩ := F.ex
  exact .all (h kV doc pm an cdv ct)
theorem fun_mk {x qual : Str} {st : Stmt} {f : Addr} {oc : Value} {od an : Option Addr} {osl : Array (Option Value)} {kV doc pm cdv ct : Value} (l : K.lookup f = some ⟨oc, od, .func (PySem.W.fnOf x qual (defArgs st) (defBody st) (defScope st) .none kV doc pm an cdv ct), osl⟩)
    (c : PySem.W.codeIn K cdv qual = true) (k : PySem.W.keepIn K (.ref f) = true) : Fun K x qual st f (PySem.W.fnOf x qual (defArgs st) (defBody st) (defScope st) .none kV doc pm an cdv ct) := ⟨⟨oc, od, kV, doc, pm, an, cdv, ct, osl, rfl, l, c⟩, k⟩
end
theorem hu_of {A : Around} {k : Nat} (hr : Room k A) : A.units + 1 < cLine := Nat.lt_of_le_of_lt (Nat.add_le_add_left (by decide : 1 ≤ 64) _) hr.units
/-! ### expressions in short: the name that stands in the i-th slot -/
section
variable {X : Cx}
theorem pv (i : Nat) {x : Str} {pos : Pos} (hN : X.N[i]? = some x := by rfl) (hv : Vis X.env.scope x := by first | exact Or.inl rfl | exact Or.inr (Or.inl rfl) | exact Or.inr (Or.inr rfl)) (hd : (x == ("__debug__" : Str)) = false := by decide)
    (hcd : (x == ("__classdict__" : Str)) = false := by decide) : PE X (.Name x pos) (tVar i) := pe_var hN hv hd hcd
end

/-! ### tests -/
theorem iteF {A B : Prop} (h : B) : if false = true then A else B := by
  rw [if_neg Bool.false_ne_true]
  exact h
theorem iteT {A B : Prop} (h : A) : if true = true then A else B := by
  rw [if_pos rfl]
  exact h
theorem ite2 {c A B : Prop} [Decidable c] (h1 : c → A) (h2 : ¬ c → B) : if c then A else B := by
  by_cases h : c
  · rw [if_pos h]
    exact h1 h
  · rw [if_neg h]
    exact h2 h
/-! ### heaps -/
/-- all that was tracked is as it was -/
def Same (H H' : Hp) : Prop := ∀ b o, H b = some o → H' b = some o
theorem Same.refl (H : Hp) : Same H H := fun _ _ h => h
theorem Same.trans {H H1 H2 : Hp} (a : Same H H1) (b : Same H1 H2) : Same H H2 := fun c o h => b c o (a c o h)
theorem Same.free {H H' : Hp} (e : Same H H') {l : Addr} (h : H' l = Option.none) : H l = Option.none := by
  cases q : H l with
  | none => rfl
  | some o =>
    rw [e l o q] at h
    cases h
theorem Same.seq {K : PySem.W.Frag} {H H' : Hp} {a : Addr} {xs : List V} (e : Same H H') (h : SqL K H a xs) : SqL K H' a xs := by
  rcases h with (h | ⟨o, h⟩) | h
  · exact .inl (.inl (e _ _ h))
  · exact .inl (.inr ⟨o, e _ _ h⟩)
  · exact .inr h

end L2

namespace L2
open PySem PySem.Spec PyProof.Rows
section
variable {X : Cx}
end

/-! ### a dict's pairs: keys that differ -/
section
variable {κ : Type} [DecidableEq κ]
theorem valV_not {kvs : List (κ × V)} {k : κ} (h : valV kvs k = none) : ¬ k ∈ kvs.map (·.1) := by
  intro m
  obtain ⟨p, hp, e⟩ := List.mem_map.mp m
  have q : (kvs.any fun kv => decide (kv.1 = k)) = true := List.any_eq_true.mpr ⟨p, hp, decide_eq_true e⟩
  rw [valV_any, h] at q
  exact absurd q (by simp)
theorem valV_in {kvs : List (κ × V)} {k : κ} {v : V} (h : valV kvs k = some v) : k ∈ kvs.map (·.1) := by
  have q : (kvs.any fun kv => decide (kv.1 = k)) = true := by
    rw [valV_any, h]
    all_goals rfl
  obtain ⟨p, hp, e⟩ := List.any_eq_true.mp q
  exact List.mem_map.mpr ⟨p, hp, of_decide_eq_true e⟩
end
end L2


set_option Elab.async false
set_option linter.all false
set_option maxRecDepth 100000
set_option maxHeartbeats 4000000
namespace HT
open PySem PyProof.Rows
open PySem.SeqAt
open PySem.AutoSeq1 (wpAny_loadPart')
open PySem.MeetsSeq PySem.MeetsSeq2 PySem.MeetsSeq3
section
variable {prog : Program} {w : World} {A : Around} {E : Value → Shared → Prop} {s : Shared}
end
end HT

set_option Elab.async false
set_option linter.all false
set_option maxRecDepth 100000
set_option maxHeartbeats 4000000
namespace L2
open PySem PySem.Spec PyProof.Rows

/-! ### sequences that a loop walks -/
structure Runs (J : It) (xs : List V) (Ok : Hp → Prop) : Prop where
  go : ∀ (i : Nat) (x : V) (H : Hp), Ok H → xs[i]? = some x → J.go i H
  yld : ∀ (i : Nat) (x : V) (H : Hp) (y : V) (H' : Hp), Ok H → xs[i]? = some x → J.yld i H y H' → y = x ∧ H' = H
  stop : ∀ (H : Hp), Ok H → J.stop xs.length H
theorem runs_list {K : PySem.W.Frag} {a : Addr} {xs : List V} : Runs (Itl K a) xs (fun H => SqL K H a xs) where
  go := fun i x H ok hx => ⟨xs, x, ok, hx⟩
  yld := fun i x H y H' ok hx h => by
    obtain ⟨e, h⟩ := h
    have q := h xs ok
    rw [hx] at q
    exact ⟨(Option.some.inj q).symm, e⟩
  stop := fun H ok => ⟨xs, ok, Nat.le_refl _⟩
theorem runs_tup {K : PySem.W.Frag} {a : Addr} {xs : List V} : Runs (Itt K a) xs (fun H => SqT K H a xs) where
  go := fun i x H ok hx => ⟨xs, x, ok, hx⟩
  yld := fun i x H y H' ok hx h => by
    obtain ⟨e, h⟩ := h
    have q := h xs ok
    rw [hx] at q
    exact ⟨(Option.some.inj q).symm, e⟩
  stop := fun H ok => ⟨xs, ok, Nat.le_refl _⟩
def rangeV (lo : Int) (n : Nat) : List V := (List.range n).map fun (k : Nat) => V.int (lo + (k : Int))
theorem rangeV_len (lo : Int) (n : Nat) : (rangeV lo n).length = n := by unfold rangeV; rw [List.length_map, List.length_range]
theorem rangeV_get {lo : Int} {n i : Nat} {x : V} (h : (rangeV lo n)[i]? = some x) : i < n ∧ x = V.int (lo + (i : Int)) := by
  have hi : i < n := by
    have := (List.getElem?_eq_some_iff.mp h).1
    rwa [rangeV_len] at this
  refine ⟨hi, ?_⟩
  unfold rangeV at h
  rw [List.getElem?_map, List.getElem?_range hi] at h
  exact (Option.some.inj h).symm
theorem runs_range {lo : Int} {n : Nat} : Runs (Itr lo n) (rangeV lo n) (fun _ => True) where
  go := fun i x H _ hx => (rangeV_get hx).1
  yld := fun i x H y H' _ hx h => by
    obtain ⟨e, h⟩ := h
    exact ⟨h.trans (rangeV_get hx).2.symm, e⟩
  stop := fun H _ => by
    show n ≤ (rangeV lo n).length
    rw [rangeV_len]
    exact Nat.le_refl _

theorem for_runs {J : It} {xs : List V} {Ok : Hp → Prop} (R : Runs J xs Ok) {g : TG} {tb : TS} {D : Ends} {σ : St} {H : Hp} (Pv : Nat → St → Hp → Prop) (h0 : Pv 0 σ H) (hl : ∀ i σ H, i ≤ xs.length → Pv i σ H → Ok H)
    (hs : ∀ i x σ H, xs[i]? = some x → Pv i σ H → g x σ H fun σ2 H2 => tb { D with nx := Pv (i + 1), ct := Pv (i + 1), bk := D.nx } σ2 H2) (hd : ∀ σ H, Pv xs.length σ H → D.nx σ H) :
    ∃ W : Nat → Nat → St → Hp → Prop, (∃ m, W 0 m σ H) ∧ ∀ i m σ H, W i m σ H →
      (J.stop i H ∧ D.nx σ H) ∨ (J.go i H ∧ ∃ N : St → Hp → Prop, (∀ σ' H', N σ' H' → ∃ m', m' < m ∧ W (i + 1) m' σ' H') ∧ ∀ x H', J.yld i H x H' → g x σ H' fun σ2 H2 => tb { D with nx := N, ct := N, bk := D.nx } σ2 H2) := by
  refine ⟨fun i m σ H => m = xs.length - i ∧ i ≤ xs.length ∧ Pv i σ H, ⟨xs.length, by simp, Nat.zero_le _, h0⟩, ?_⟩
  rintro i m σ H ⟨rfl, hi, p⟩
  have q := hl i σ H hi p
  by_cases hlt : i < xs.length
  · have hx : xs[i]? = some xs[i] := by simp [hlt]
    refine .inr ⟨R.go i _ H q hx, Pv (i + 1), fun σ' H' p' => ⟨xs.length - (i + 1), by omega, rfl, hlt, p'⟩, fun x H' y => ?_⟩
    obtain ⟨e1, e2⟩ := R.yld i _ H x H' q hx y
    rw [e2]
    exact hs i x σ H (by rw [e1]; exact hx) p
  · have e : i = xs.length := by omega
    subst e
    exact .inl ⟨R.stop H q, hd σ H p⟩

/-! ### the signs of a text -/
def Its (x : Str) : It := ⟨fun i _ => i < x.cps.size, fun i H v H' => H' = H ∧ ∃ c, x.cps[i]? = some c ∧ v = .str ⟨#[c]⟩, fun i _ => x.cps.size ≤ i⟩
def signsV (x : Str) : List V := x.cps.toList.map fun c => V.str ⟨#[c]⟩
theorem runs_str {x : Str} : Runs (Its x) (signsV x) (fun _ => True) where
  go := fun i y H _ hx => by
    have := (List.getElem?_eq_some_iff.mp hx).1
    unfold signsV at this
    rw [List.length_map] at this
    show i < x.cps.size
    simpa using this
  yld := fun i y H z H' _ hx h => by
    obtain ⟨e, c, hc, hz⟩ := h
    refine ⟨?_, e⟩
    unfold signsV at hx
    rw [List.getElem?_map, Array.getElem?_toList, hc] at hx
    rw [hz]
    exact Option.some.inj hx
  stop := fun H _ => by
    show x.cps.size ≤ (signsV x).length
    unfold signsV
    simp
theorem turn_str {P : Program} {w : World} {K : PySem.W.Frag} {tg : Expr} (x : Str) (t : Tok) (it : Addr) (ty : String) (hty : ty = "str_ascii_iterator" ∨ ty = "str_iterator") :
    Turn P w K tg (Its x) [it] it (fun i h => h.IsStrIter it ty x t i) where
  mem := by simp
  obj := fun i h st b hb => by
    have e : b = it := by simpa using hb
    subst e
    obtain ⟨o, e, c, d⟩ := st
    exact ⟨o, e, fun v z => by rw [d] at z; cases z⟩
  keep := fun i h h' st k => by
    obtain ⟨o, ho, r⟩ := st
    exact ⟨o, k it (by simp) o ho, r⟩
  item := by
    intro X hP hw hK hc i pins s σ H E I hf st hg
    subst hP hw hK
    obtain ⟨f0, f1, f2, f3, f4, f5⟩ := hf it (by simp)
    have hi : i < x.cps.size := hg
    have hx : x.cps[i]? = some x.cps[i] := by simp [hi]
    have fin : ∀ h' : Heap, h'.IsStrIter it ty x t (i + 1) → Heap.SameBut it s.heap h' → ∃ u, some (Value.str ⟨#[x.cps[i]]⟩ s.toks) = some u ∧
        wpAny (model X.prog X.w) X.A (letOwnedTupleGo tg (.ref it) u) (fun _ s2 => ∃ y H', Inv X pins σ H' s2 ∧ RelV y u ∧ (Its x).yld i H y H' ∧ s2.heap.IsStrIter it ty x t (i + 1) ∧ ∀ b ∈ [it], H' b = none) E { s with heap := h', toks := s.toks + 1 } := fun h' st' sb => by
      have I1 : Inv X pins σ H { s with heap := h', toks := s.toks + 1 } := I.turned (fun b o hb e => (sb.2 b hb).trans e) f0 f1 f3 f4 f5
      obtain ⟨o, e, c, d⟩ := id st'
      refine ⟨_, rfl, go_of (s := { s with heap := h', toks := s.toks + 1 }) e c d ?_ ⟨.str ⟨#[x.cps[i]]⟩, H, I1, ⟨_, rfl⟩, ⟨rfl, _, hx, rfl⟩, st', fun b hb => (hf b hb).1⟩⟩
      rcases hty with rfl | rfl <;> decide
    rcases hty with rfl | rfl
    · exact wpAny_pyNext_ascii_item st hx fun h' st' sb => fin h' st' sb
    · exact wpAny_pyNext_wide_item st hx fun h' st' sb => fin h' st' sb
  done := by
    intro X hP hw hK hc i pins s σ H E I hf st hg
    subst hP hw hK
    obtain ⟨f0, f1, f2, f3, f4, f5⟩ := hf it (by simp)
    have hi : x.cps.size ≤ i := hg
    have hx : x.cps[i]? = none := by simp [hi]
    rcases hty with rfl | rfl
    · exact wpAny_pyNext_ascii_end (I.ok.hd hc) st hx fun h' eb => ⟨rfl, I.turned (t' := s.toks) (fun b o hb e => eb b o hb e) f0 f1 f3 f4 f5⟩
    · exact wpAny_pyNext_wide_end (I.ok.hd hc) st hx fun h' eb => ⟨rfl, I.turned (t' := s.toks) (fun b o hb e => eb b o hb e) f0 f1 f3 f4 f5⟩
  self := fun _ _ _ _ _ st h => by
    rcases hty with rfl | rfl
    · exact wpAny_pyIter_striter_ascii st h
    · exact wpAny_pyIter_striter_wide st h
section
variable {X : Cx} {tg : Expr}
def iStr (tl : TE) : TI := fun σ H R => tl σ H fun x H1 => ∃ z, x = .str z ∧ R (Its z) H1
theorem pi_str {l : Expr} {tl : TE} (hl : PE X l tl) : PI X tg l (iStr tl) := by
  intro pins s σ H R I h
  refine thn (hl pins s σ H _ I h) fun v s1 ⟨x, H1, I1, r1, q1⟩ => ?_
  obtain ⟨z, e, q⟩ := q1
  subst e
  obtain ⟨t, rfl⟩ := r1
  have fp : ∀ b ∈ [s1.heap.objs.size], FpOk X pins H1 b := fun b hb => by
    have e : b = s1.heap.objs.size := by simpa using hb
    subst e
    exact I1.fpOk (Nat.le_refl _) (I1.hok.fresh (Nat.le_refl _))
  cases ha : z.cps.all (· < 128) with
  | false =>
    refine wpAny_pyIter_wide ha ?_
    exact ⟨s1.heap.objs.size, [s1.heap.objs.size], _, _, H1, rfl, I1.kept (t' := s1.toks) fun b o e => Heap.get?_push_of_some _ e, turn_str z t _ "str_iterator" (.inr rfl), ⟨_, Heap.get?_push_size _ rfl, rfl, rfl⟩, fp, q⟩
  | true =>
    refine wpAny_pyIter_ascii ha ?_
    exact ⟨s1.heap.objs.size, [s1.heap.objs.size], _, _, H1, rfl, I1.kept (t' := s1.toks) fun b o e => Heap.get?_push_of_some _ e, turn_str z t _ "str_ascii_iterator" (.inl rfl), ⟨_, Heap.get?_push_size _ rfl, rfl, rfl⟩, fp, q⟩
end

/-! ### a comprehension -/
def clOf (env : Env) : List (Str × NameKind) → List (Str × Addr) → List (Str × Addr)
  | [], acc => acc
  | (n, k) :: r, acc => if (k == NameKind.free) = true then clOf env r ((n, (env.cells.lookup n).getD 0) :: acc) else clOf env r acc
theorem cellOf_some {env : Env} {n : Str} {c : Addr} (h : env.cells.lookup n = some c) : cellOf env n = pure c := by
  unfold cellOf
  rw [h]
theorem closureFor_of {scope : Scope} {env : Env} (h : ∀ y ∈ scope.names, y.2 = .free → ∃ c, env.cells.lookup y.1 = some c) : closureFor scope env = pure (clOf env scope.names []) := by
  have key : ∀ (l : List (Str × NameKind)) (acc : List (Str × Addr)), (∀ y ∈ l, y.2 = .free → ∃ c, env.cells.lookup y.1 = some c) →
      (forIn l acc fun (x : Str × NameKind) (r : List (Str × Addr)) => (match x with
        | (name, kind) => if (kind == NameKind.free) = true then (do let a ← cellOf env name; pure (ForInStep.yield ((name, a) :: r))) else pure (ForInStep.yield r) : Sem (ForInStep (List (Str × Addr))))) = pure (clOf env l acc) := by
    intro l
    induction l with
    | nil => intro acc _; rfl
    | cons y r ih =>
      intro acc hy
      obtain ⟨n, k⟩ := y
      have ih' := fun acc => ih acc fun z hz => hy z (List.mem_cons_of_mem _ hz)
      rw [List.forIn_cons]
      by_cases hk : (k == NameKind.free) = true
      · obtain ⟨c, hc⟩ := hy (n, k) List.mem_cons_self (by simpa using hk)
        have hc : env.cells.lookup n = some c := hc
        simp only [hk, if_true, cellOf_some hc]
        unfold clOf
        rw [if_pos hk, hc]
        exact ih' _
      · simp only [hk]
        unfold clOf
        rw [if_neg hk]
        exact ih' _
  unfold closureFor
  have q := key scope.names [] h
  show ((forIn scope.names [] _ : Sem (List (Str × Addr))) >>= fun r => pure r) = _
  first
    | (rw [show (forIn scope.names [] _ : Sem (List (Str × Addr))) = _ from q]; rfl)
    | (refine (congrArg (fun m => m >>= fun r => pure r) q).trans ?_; rfl)
theorem clOf_lookup {env : Env} : ∀ (l : List (Str × NameKind)) (acc : List (Str × Addr)) (x : Str) (c : Addr), (∀ y ∈ l, y.2 = .free → ∃ c, env.cells.lookup y.1 = some c) →
    (∀ x c, acc.lookup x = some c → env.cells.lookup x = some c) → (clOf env l acc).lookup x = some c → env.cells.lookup x = some c
  | [], acc, x, c, _, ha, h => ha x c h
  | (n, k) :: r, acc, x, c, hy, ha, h => by
    have hr : ∀ y ∈ r, y.2 = .free → ∃ c, env.cells.lookup y.1 = some c := fun y hy' => hy y (List.mem_cons_of_mem _ hy')
    unfold clOf at h
    by_cases hk : (k == NameKind.free) = true
    · rw [if_pos hk] at h
      refine clOf_lookup r _ x c hr (fun z d hz => ?_) h
      obtain ⟨c', hc'⟩ := hy (n, k) List.mem_cons_self (by simpa using hk)
      have hc' : env.cells.lookup n = some c' := hc'
      rw [List.lookup_cons] at hz
      by_cases e : (z == n) = true
      · simp only [e] at hz
        have e' : z = n := by simpa using e
        rw [e', hc']
        rw [hc'] at hz
        exact hz
      · have e' : (z == n) = false := by simpa using e
        simp only [e'] at hz
        exact ha z d hz
    · rw [if_neg hk] at h
      exact clOf_lookup r acc x c hr ha h
theorem clOf_keeps {env : Env} : ∀ (l : List (Str × NameKind)) (acc : List (Str × Addr)) (x : Str), (acc.lookup x).isSome = true → ((clOf env l acc).lookup x).isSome = true
  | [], acc, x, h => h
  | (n, k) :: r, acc, x, h => by
    unfold clOf
    by_cases hk : (k == NameKind.free) = true
    · rw [if_pos hk]
      refine clOf_keeps r _ x ?_
      rw [List.lookup_cons]
      cases e : (x == n) with
      | true => rfl
      | false => exact h
    · rw [if_neg hk]
      exact clOf_keeps r acc x h
theorem clOf_has {env : Env} : ∀ (l : List (Str × NameKind)) (acc : List (Str × Addr)) (x : Str), (x, NameKind.free) ∈ l → ((clOf env l acc).lookup x).isSome = true
  | [], acc, x, h => nomatch h
  | (n, k) :: r, acc, x, h => by
    unfold clOf
    rcases List.mem_cons.mp h with e | h
    · injection e with e1 e2
      subst e1
      subst e2
      rw [if_pos (by decide)]
      refine clOf_keeps r _ x ?_
      rw [List.lookup_cons]
      simp
    · by_cases hk : (k == NameKind.free) = true
      · rw [if_pos hk]
        exact clOf_has r _ x h
      · rw [if_neg hk]
        exact clOf_has r _ x h
theorem lookup_relabel_free {env : Env} : ∀ {names : List (Str × NameKind)} {x : Str}, names.lookup x = some .free →
    (names.map fun (n, k) => if (k == NameKind.free && env.scope.kind == .function && env.kindOf n == some .cell) then (n, NameKind.cell) else (n, k)).lookup x = some .cell ∨
    (names.map fun (n, k) => if (k == NameKind.free && env.scope.kind == .function && env.kindOf n == some .cell) then (n, NameKind.cell) else (n, k)).lookup x = some .free
  | [], _, h => by simp at h
  | (n, k) :: r, x, h => by
    have ih := @lookup_relabel_free env r x
    rw [List.map_cons]
    show List.lookup x ((if (k == NameKind.free && env.scope.kind == .function && env.kindOf n == some .cell) = true then (n, NameKind.cell) else (n, k)) :: _) = _ ∨ List.lookup x ((if (k == NameKind.free && env.scope.kind == .function && env.kindOf n == some .cell) = true then (n, NameKind.cell) else (n, k)) :: _) = _
    cases hx : x == n with
    | true =>
      simp only [List.lookup_cons, hx] at h
      cases h
      by_cases hc : (NameKind.free == NameKind.free && env.scope.kind == .function && env.kindOf n == some .cell) = true
      · rw [if_pos hc]; simp only [List.lookup_cons, hx]; exact .inl trivial
      · rw [if_neg hc]; simp only [List.lookup_cons, hx]; exact .inr trivial
    | false =>
      simp only [List.lookup_cons, hx] at h
      by_cases hc : (k == NameKind.free && env.scope.kind == .function && env.kindOf n == some .cell) = true
      · rw [if_pos hc]; simp only [List.lookup_cons, hx]; exact ih h
      · rw [if_neg hc]; simp only [List.lookup_cons, hx]; exact ih h
end L2

set_option Elab.async false
set_option linter.all false
set_option maxRecDepth 100000
set_option maxHeartbeats 4000000
namespace L2
open PySem PySem.Spec PyProof.Rows

theorem lookup_relabel_inv {env : Env} : ∀ {names : List (Str × NameKind)} {x : Str},
    ((names.map fun (n, k) => if (k == NameKind.free && env.scope.kind == .function && env.kindOf n == some .cell) then (n, NameKind.cell) else (n, k)).lookup x = some .cell ∨
    (names.map fun (n, k) => if (k == NameKind.free && env.scope.kind == .function && env.kindOf n == some .cell) then (n, NameKind.cell) else (n, k)).lookup x = some .free) →
    names.lookup x = some .free ∨ names.lookup x = some .cell
  | [], _, h => by simp at h
  | (n, k) :: r, x, h => by
    have ih := @lookup_relabel_inv env r x
    rw [List.map_cons] at h
    change List.lookup x ((if (k == NameKind.free && env.scope.kind == .function && env.kindOf n == some .cell) = true then (n, NameKind.cell) else (n, k)) :: _) = _ ∨ List.lookup x ((if (k == NameKind.free && env.scope.kind == .function && env.kindOf n == some .cell) = true then (n, NameKind.cell) else (n, k)) :: _) = _ at h
    cases hx : x == n with
    | true =>
      simp only [List.lookup_cons, hx]
      by_cases hc : (k == NameKind.free && env.scope.kind == .function && env.kindOf n == some .cell) = true
      · left
        have : (k == NameKind.free) = true := by
          cases hk : (k == NameKind.free) with
          | true => rfl
          | false => rw [hk] at hc; simp at hc
        have : k = NameKind.free := by simpa using this
        rw [this]
      · rw [if_neg hc] at h
        simp only [List.lookup_cons, hx] at h
        rcases h with h | h
        · exact .inr h
        · exact .inl h
    | false =>
      simp only [List.lookup_cons, hx]
      apply ih
      by_cases hc : (k == NameKind.free && env.scope.kind == .function && env.kindOf n == some .cell) = true
      · rw [if_pos hc] at h; simp only [List.lookup_cons, hx] at h; exact h
      · rw [if_neg hc] at h; simp only [List.lookup_cons, hx] at h; exact h

/-- the block's context -/
abbrev cxComp (X : Cx) (scope : Scope) (N : List Str) (C : Addr) (s : Shared) (H : Hp) (fp : List Addr) : Cx :=
  { X with N := N, s₀ := s, H₀ := H, env := compEnvC scope (clOf X.env scope.names []) C X.env, outer := X.stack, ex := fp, fn := fun _ => false, pn := [], xe := fun _ _ => False }
/-- the block's names at its entry: its own (nothing), then the free ones as they stand around it -/
def sgC (n : Nat) (js : List Nat) (σ : St) : St := List.replicate n none ++ js.map fun j => (σ[j]?).join
theorem sgC_len (n : Nat) (js : List Nat) (σ : St) : (sgC n js σ).length = n + js.length := by unfold sgC; simp

/-- what the rule asks of the text -/
structure CompOk (X : Cx) (scope : Scope) (own frees : List Str) (js : List Nat) : Prop where
  calm : X.calm = true
  kind : scope.kind = .function
  nocell : ∀ y ∈ scope.names, y.2 ≠ .cell
  locals : ∀ y ∈ scope.names, y.2 = .local → scope.names.lookup y.1 = some .local
  fr : ∀ y ∈ scope.names, y.2 = .free → X.env.scope.names.lookup y.1 = some .cell ∨ X.env.scope.names.lookup y.1 = some .free
  fre : ∀ x ∈ frees, scope.names.lookup x = some .free
  slots : js.map (fun j => X.N[j]?) = frees.map some

/-- the tests of a comprehension -/
def PTs (X : Cx) (ifs : List Expr) (t : TT) : Prop :=
  ∀ (pins : List (Addr × Obj)) (s : Shared) (σ : St) (H : Hp) (Q : Bool → Hp → Prop), Inv X pins σ H s → t σ H Q →
    wpAny (model X.prog X.w) X.A (forIn ifs true fun c r => if r = true then do let ok ← isTrue c X.env (eval c X.env); pure (ForInStep.yield ok) else pure (ForInStep.yield r)) (TP X pins σ Q) X.xe s
def tTrue : TT := fun _ H Q => Q true H
theorem pts_nil {X : Cx} : PTs X [] tTrue := fun _ _ _ H _ I h => wpAny_tests_nil ⟨H, I, h⟩
theorem pts_one {X : Cx} {c : Expr} {t : TT} (h : PT X c t) : PTs X [c] t := fun pins s σ H Q I q => wpAny_tests_one (h pins s σ H Q I q)

/-- the reading of a comprehension, its iterator given -/
def compBody (n : Nat) (js : List Nat) (g : TG) (tt : TT) (te : TE) (σ : St) (Q : VK) (J : It) (H1 : Hp) : Prop := ∀ D, H1 D = none →
  ∃ W : Nat → Nat → List V → St → Hp → Prop, (∃ m, W 0 m [] (sgC n js σ) (upd H1 D (.lst []))) ∧ ∀ i m ys σ' H', W i m ys σ' H' →
    (J.stop i H' ∧ Q (.ref D) H') ∨
    (J.go i H' ∧ ys.length < sizeLine ∧ ∃ N : List V → St → Hp → Prop, (∀ ys3 σ3 H3, N ys3 σ3 H3 → ∃ m', m' < m ∧ W (i + 1) m' ys3 σ3 H3) ∧ ∀ x H2, J.yld i H' x H2 → g x σ' H2 fun σ3 H3 => tt σ3 H3 fun b H4 =>
      if b = true then te σ3 H4 fun v H5 => H5 D = some (.lst ys) ∧ N (ys ++ [v]) σ3 (upd H5 D (.lst (ys ++ [v])))
      else N ys σ3 H4)

section
variable {prog : Program} {w : World} {A : Around} {E : Value → Shared → Prop} {R : Result → Shared → Prop} {s : Shared}
theorem compLoop_any {elt target iter : Expr} {ifs : List Expr} {scope : Scope} {pos : Pos} {it acc : Value} {env : Env} (I : Nat → Shared → Prop)
    (turn : ∀ n s, I n s → ∀ E : Value → Shared → Prop, wpAny (model prog w) A (pyNext it) (fun r s₁ => match r with
      | none => R (.ok .next) s₁
      | some v => wpAny (model prog w) A (letOwnedTupleGo target it v) (fun _ s₁' => wpAny (model prog w) A (assign target env v) (fun _ s₂ =>
          wpAny (model prog w) A (forIn ifs true fun c r => if r = true then do let ok ← isTrue c env (eval c env); pure (ForInStep.yield ok) else pure (ForInStep.yield r)) (fun ok s₃ =>
            if ok = true then wpAny (model prog w) A (eval elt env) (fun x s₄ =>
              wpAny (model prog w) A (call (.builtin "list.append") [acc, x]) (fun _ s₅ => ∃ m, m < n ∧ I m s₅) E s₄) E s₃
            else ∃ m, m < n ∧ I m s₃) E s₂) E s₁') E s₁) E s)
    (n : Nat) (h : I n s) :
    codeAny (model prog w) A (.compLoop (.ListComp elt [⟨target, iter, ifs, 0⟩] scope pos) 0 it acc env) R s := by
  refine codeAny_loop rfl I (fun n s hI => ?_) n h
  show wpAny _ A ((compTurn (.ListComp elt [⟨target, iter, ifs, 0⟩] scope pos) 0 it acc env).onRaise (fun x => do noteFrame x env; theTreesLotGoes x)) _ _ s
  refine wpAny_noted ?_
  rw [compTurn_list]
  refine wpAny_bind (wpAny_standAt (wpAny_bind (wpAny_mono (turn n s hI _) (fun r s₁ h₁ => ?_) fun _ _ h' => h')))
  cases r with
  | none => exact wpAny_pure h₁
  | some v =>
    refine wpAny_bind (wpAny_mono h₁ (fun _ s₁' h₁' => ?_) fun _ _ h' => h')
    refine wpAny_bind (wpAny_mono h₁' (fun _ s₂ h₂ => wpAny_bind (wpAny_mono h₂ (fun ok s₃ h₃ => ?_) fun _ _ h' => h')) fun _ _ h' => h')
    cases ok with
    | false => exact wpAny_pure ⟨rfl, h₃⟩
    | true =>
      exact wpAny_bind (wpAny_bind (wpAny_mono h₃ (fun x s₄ h₄ => wpAny_bind (wpAny_mono h₄ (fun _ s₅ h₅ => wpAny_pure (wpAny_pure ⟨rfl, h₅⟩)) fun _ _ h' => h')) fun _ _ h' => h'))
end

section
variable {X : Cx} {pins : List (Addr × Obj)} {σ : St} {scope : Scope} {own frees : List Str} {js : List Nat}
theorem CompOk.cells (c : CompOk X scope own frees js) (ok : X.Ok) : ∀ y ∈ scope.names, y.2 = .free → ∃ a, X.env.cells.lookup y.1 = some a := fun y hy e => by
  rcases c.fr y hy e with h | h
  · exact ok.has y.1 (.inl h)
  · exact ok.has y.1 (.inr h)
theorem CompOk.cl (c : CompOk X scope own frees js) (ok : X.Ok) {x : Str} {a : Addr} (h : (clOf X.env scope.names []).lookup x = some a) : X.env.cells.lookup x = some a :=
  clOf_lookup scope.names [] x a (c.cells ok) (fun _ _ z => by simp at z) h
theorem CompOk.has (c : CompOk X scope own frees js) {x : Str} (h : scope.names.lookup x = some .free) : ∃ a, (clOf X.env scope.names []).lookup x = some a :=
  Option.isSome_iff_exists.mp (clOf_has scope.names [] x (PySem.mem_of_lookup h))

/-- the block's own context stands -/
theorem CompOk.ok {s2 : Shared} {H2 : Hp} {fp : List Addr} {C : Addr} (c : CompOk X scope own frees js) (I : Inv X pins σ H2 s2) (f2 : ∀ b ∈ fp, FpOk X pins H2 b) (hlt : ∀ b ∈ fp, b < s2.heap.objs.size) (hC : s2.heap.objs.size ≤ C) (N : List Str) :
    (cxComp X scope N C s2 H2 fp).Ok where
  mod := I.ok.mod
  kind := c.kind
  glob := I.ok.glob
  blt := I.ok.blt
  above := hC
  inj := fun x y a h1 h2 => I.ok.inj x y a (c.cl I.ok h1) (c.cl I.ok h2)
  has := fun x h => by
    have h' : scope.names.lookup x = some .free ∨ scope.names.lookup x = some .cell := lookup_relabel_inv (env := X.env) h
    rcases h' with h' | h'
    · exact c.has h'
    · exact absurd rfl (c.nocell _ (PySem.mem_of_lookup h'))
  cab := fun x a h => absurd (show false = true from h) Bool.false_ne_true
  hd := fun h => I.ok.hd h
  frames := I.ok.frames
  stk := .inl rfl
  exf := fun b hb => ⟨Nat.ne_of_lt (Nat.lt_of_lt_of_le (hlt b hb) hC), fun x a h => (f2 b hb).2.2.2.2.1 x a (c.cl I.ok h)⟩
  bs := I.bs
  bsz := Nat.le_trans I.ok.bsz I.sz
  noex := fun b o e hb => by
    rcases (f2 b hb).2.2.2.1 with z | z
    · exact I.ok.noex b o e z
    · exact absurd (Nat.lt_of_lt_of_le (Heap.lt_size e) (Nat.le_trans I.ok.bsz z)) (Nat.lt_irrefl _)
  exfs := fun b hb z => by
    rcases List.mem_cons.mp (I.stkSub b z) with e | e
    · exact (f2 b hb).2.1 e
    · exact (f2 b hb).2.2.1 e
  funs := I.stack
  frf := I.stkFree

theorem comp_block {s2 : Shared} {tg iter elt : Expr} {ifs : List Expr} {pos : Pos} {g : TG} {tt : TT} {te : TE} {Q : VK} {RR : Value → Addr → Result → Shared → Prop} {itv : Value} {E : Value → Shared → Prop}
    (c : CompOk X scope own frees js)
    (hg : ∀ C s H fp, PG (cxComp X scope (own ++ frees) C s H fp) tg g) (ht : ∀ C s H fp, PTs (cxComp X scope (own ++ frees) C s H fp) ifs tt) (he : ∀ C s H fp, PE (cxComp X scope (own ++ frees) C s H fp) elt te)
    (h : PIE X pins σ tg (compBody own.length js g tt te σ Q) itv s2)
    (hR : ∀ D C H' s', Inv X pins σ H' s' → FpOk X pins H' C → (∃ m, s'.heap.Ns C m) → Q (.ref D) H' → RR (.ref D) C (.ok .next) s') :
    wpAny (model X.prog X.w) X.A (newList []) (fun acc s₃ => wpAny (model X.prog X.w) X.A (newFunctionEnv scope X.env.globals (clOf X.env scope.names []) [] X.env.qual none .none (some X.env)) (fun cenv s₄ =>
      codeAny (model X.prog X.w) X.A (.compStart (.ListComp elt [⟨tg, iter, ifs, 0⟩] scope pos) 0 itv acc { cenv with scope := relabel scope X.env }) (RR acc cenv.locals) s₄) E s₃) E s2 := by
  obtain ⟨it, fp, tn, J, H2, e, I2, T, st2, f2, hq⟩ := h
  subst e
  refine wpAny_newObj_type (wpAny_newFunctionEnv c.nocell (by intro y hy; simp at hy) (fun h₁ hns₁ hsb₁ => ?_) c.kind)
  dsimp only at hns₁ hsb₁ ⊢
  generalize hH2 : s2.heap.push { cls := .type "list", dict := none, data := .seq ([] : List Value).toArray } = G2 at hns₁ hsb₁ ⊢
  have hC : G2.objs.size = s2.heap.objs.size + 1 := by rw [← hH2, Heap.size_push]
  have hDC : s2.heap.objs.size ≠ G2.objs.size := by rw [hC]; exact Nat.ne_of_lt (Nat.lt_succ_self _)
  have hCle : s2.heap.objs.size ≤ G2.objs.size := by rw [hC]; exact Nat.le_succ _
  have old : ∀ b o, s2.heap.get? b = some o → h₁.get? b = some o := fun b o e => by
    have hb := Heap.lt_size e
    exact hsb₁.extBut b o (by rw [hC]; exact Nat.ne_of_lt (Nat.lt_succ_of_lt hb)) (Heap.get?_push_of_some _ (hH2 ▸ Heap.get?_push_of_some _ e))
  have hD : H2 s2.heap.objs.size = none := I2.hok.fresh (Nat.le_refl _)
  have hlt : ∀ b ∈ fp, b < s2.heap.objs.size := fun b hb => by
    obtain ⟨o, e, _⟩ := T.obj _ _ st2 b hb
    exact Heap.lt_size e
  have hacc : h₁.get? s2.heap.objs.size = some { cls := .type "list", data := .seq ([] : List Value).toArray } := hsb₁.extBut _ _ hDC (Heap.get?_push_of_some _ (hH2 ▸ Heap.get?_push_size _ rfl))
  obtain ⟨W, ⟨m0, w0⟩, turn⟩ := hq _ hD
  -- the block's entry
  have I0 : ∀ tk, Inv (cxComp X scope (own ++ frees) G2.objs.size s2 H2 fp) [] (sgC own.length js σ) (upd H2 s2.heap.objs.size (.lst [])) { s2 with heap := h₁, toks := tk } := fun tk => by
    refine ⟨c.ok I2 f2 hlt hCle _, rfl, I2.bare, Un.laid old (Nat.le_refl _) hD, ⟨_, hns₁, fun i x v h1 h2 h3 => ?_⟩, fun x a h => ?_, ?_, fun x a h => ?_, fun p hp => absurd (show p ∈ ([] : List (Addr × Obj)) from hp) (by simp), I2.hok.laid old (Nat.le_refl _) ⟨Nat.zero_le _, [], 0, .nil, hacc⟩, ?_⟩
    · have hi : own.length ≤ i := by
        by_cases hi : i < own.length
        · unfold sgC at h2
          rw [List.getElem?_append_left (by simpa using hi), List.getElem?_replicate] at h2
          rw [if_pos hi] at h2
          cases h2
        · omega
      have hx : frees[i - own.length]? = some x := by
        have h1' : (own ++ frees)[i]? = some x := h1
        rwa [List.getElem?_append_right hi] at h1'
      have h2' : (js.map fun j => (σ[j]?).join)[i - own.length]? = some (some v) := by
        unfold sgC at h2
        rw [List.getElem?_append_right (by simpa using hi)] at h2
        simpa using h2
      rw [List.getElem?_map] at h2'
      obtain ⟨j, hj, hjv⟩ := Option.map_eq_some_iff.mp h2'
      have hs := congrArg (fun l => l[i - own.length]?) c.slots
      rw [List.getElem?_map, List.getElem?_map, hj, hx] at hs
      have hNj : X.N[j]? = some x := Option.some.inj hs
      have hσ : σ[j]? = some (some v) := by
        cases q : σ[j]? with
        | none => rw [q] at hjv; cases hjv
        | some o =>
          rw [q] at hjv
          have : o = some v := hjv
          rw [this]
      have hfree := c.fre x (List.mem_of_getElem? hx)
      have hXk := c.fr (x, .free) (PySem.mem_of_lookup hfree) rfl
      obtain ⟨m, hn, hl⟩ := I2.loc
      have vis : Vis X.env.scope x := by rcases hXk with k | k; exact .inr (.inl k); exact .inr (.inr k)
      obtain ⟨u, r, l⟩ := hl j x v hNj hσ vis
      refine ⟨u, r, .inr ⟨lookup_relabel_free (env := X.env) hfree, ?_⟩⟩
      rcases l with ⟨hk, _⟩ | ⟨_, a, ha, hcell⟩
      · rcases hXk with k | k
        · have hk : X.env.scope.names.lookup x = some .local := hk
          rw [show X.env.scope.names.lookup x = some .cell from k] at hk; cases hk
        · have hk : X.env.scope.names.lookup x = some .local := hk
          rw [show X.env.scope.names.lookup x = some .free from k] at hk; cases hk
      · obtain ⟨a', ha'⟩ := c.has hfree
        have e := c.cl I2.ok ha'
        rw [ha] at e
        cases e
        obtain ⟨o, ho, hd⟩ := hcell
        exact ⟨a, ha', o, old a o ho, hd⟩
    · obtain ⟨v, o, ho, hd⟩ := I2.cell x a (c.cl I2.ok h)
      exact ⟨v, o, old a o ho, hd⟩
    · show upd H2 s2.heap.objs.size (.lst []) G2.objs.size = none
      rw [upd_ne (Ne.symm hDC)]
      exact I2.hok.fresh hCle
    · obtain ⟨v, o, ho, hd⟩ := I2.cell x a (c.cl I2.ok h)
      rw [upd_ne (Nat.ne_of_lt (Heap.lt_size ho))]
      exact I2.freeC x a (c.cl I2.ok h)
    · rw [sgC_len, List.length_append]
      have := congrArg List.length c.slots
      rw [List.length_map, List.length_map] at this
      omega
  -- what stays true of the iterator's objects
  have stat : ∀ {H' : Hp}, (∀ b ∈ fp, H' b = none) → ∀ b ∈ fp, FpOk (cxComp X scope (own ++ frees) G2.objs.size s2 H2 fp) [] H' b := fun {H'} hn b hb => by
    obtain ⟨f0, f1, f3, f4, f5, f6⟩ := f2 b hb
    refine ⟨hn b hb, Nat.ne_of_lt (Nat.lt_of_lt_of_le (hlt b hb) hCle), fun z => ?_, .inl hb, fun x a h => f5 x a (c.cl I2.ok h), fun p hp => absurd (show p ∈ ([] : List (Addr × Obj)) from hp) (by simp)⟩
    rcases List.mem_cons.mp (I2.stkSub b z) with e | e
    · exact f1 e
    · exact f3 e
  have loop : ∀ s₃ : Shared, s₃ = { s2 with heap := h₁, toks := s2.toks + ([] : List (Str × Value)).length } →
      codeAny (model X.prog X.w) X.A (.compLoop (.ListComp elt [⟨tg, iter, ifs, 0⟩] scope pos) 0 (.ref it) (.ref s2.heap.objs.size) (compEnvC scope (clOf X.env scope.names []) G2.objs.size X.env))
        (RR (.ref s2.heap.objs.size) G2.objs.size) s₃ := by
    rintro s₃ rfl
    refine compLoop_any (fun n s' => ∃ i ys σ' H', Inv (cxComp X scope (own ++ frees) G2.objs.size s2 H2 fp) [] σ' H' s' ∧ tn i s'.heap ∧ (∀ b ∈ fp, H' b = none) ∧ W i n ys σ' H') ?_ m0
      ⟨0, [], _, _, I0 _, T.keep _ _ _ st2 fun b _ o e => old b o e, fun b hb => by rw [upd_ne (Nat.ne_of_lt (hlt b hb))]; exact (f2 b hb).1, w0⟩
    rintro n s3 ⟨i, ys, σ3, H3, I3, st3, fr3, w3⟩ E'
    rcases turn i n ys σ3 H3 w3 with ⟨stop, qn⟩ | ⟨go, hz, N, hN, step⟩
    · refine thn (T.done (cxComp X scope (own ++ frees) G2.objs.size s2 H2 fp) rfl rfl rfl c.calm i [] s3 σ3 H3 E' I3 (stat fr3) st3 stop) fun r s4 ⟨hr, I4⟩ => ?_
      subst hr
      have back : Inv X pins σ H3 s4 := I2.call' (ch := fp) I4.os I4.base I4.hok I4.bare fun b hb => ⟨(f2 b hb).2.2.2.1, (f2 b hb).2.1, (f2 b hb).2.2.2.2.1, (f2 b hb).2.2.2.2.2⟩
      exact hR _ _ H3 s4 back (I2.fpOk hCle I4.free) ⟨_, I4.loc.choose_spec.1⟩ qn
    · refine thn (T.item (cxComp X scope (own ++ frees) G2.objs.size s2 H2 fp) rfl rfl rfl c.calm i [] s3 σ3 H3 E' I3 (stat fr3) st3 go) fun r s4 ⟨u, hr, h4⟩ => ?_
      subst hr
      refine thn h4 fun _ s5 ⟨x, H5, I5, r5, y5, st5, fr5⟩ => ?_
      have I5' := I5.pinned (stat fr5) (T.obj _ _ st5)
      have nof : ∀ (e : Value) (s' : Shared), (cxComp X scope (own ++ frees) G2.objs.size s2 H2 fp).xe e s' → E' e s' := fun _ _ z => False.elim z
      refine wpAny_mono (hg _ _ _ _ _ s5 σ3 H5 x u _ I5' r5 (step x H5 y5)) (fun _ s6 ⟨σ6, H6, I6, q6⟩ => ?_) nof
      refine wpAny_mono (ht _ _ _ _ _ s6 σ6 H6 _ I6 q6) (fun b s7 ⟨H7, I7, q7⟩ => ?_) nof
      have again : ∀ {σ7 : St} {H7 : Hp} {s7 : Shared} {ys' : List V}, Inv (cxComp X scope (own ++ frees) G2.objs.size s2 H2 fp) ([] ++ pinsAt fp s5.heap) σ7 H7 s7 → N ys' σ7 H7 →
          ∃ m, m < n ∧ ∃ i ys σ' H', Inv (cxComp X scope (own ++ frees) G2.objs.size s2 H2 fp) [] σ' H' s7 ∧ tn i s7.heap ∧ (∀ b ∈ fp, H' b = none) ∧ W i m ys σ' H' := fun {σ7 H7 s7 ys'} I7 n7 => by
        obtain ⟨m', hm, w7⟩ := hN _ _ _ n7
        refine ⟨m', hm, i + 1, ys', σ7, H7, I7.unpinned, T.keep _ _ _ st5 fun b hb o e => (I7.pin (b, o) (List.mem_append_right _ (List.mem_append_right _ (mem_pinsAt hb e)))).1, fun b hb => ?_, w7⟩
        obtain ⟨o, e, d⟩ := T.obj _ _ st5 b hb
        exact (I7.pin (b, o) (List.mem_append_right _ (List.mem_append_right _ (mem_pinsAt hb e)))).2.1
      cases b with
      | false =>
        rw [if_neg Bool.false_ne_true] at q7 ⊢
        exact again I7 q7
      | true =>
        rw [if_pos rfl] at q7 ⊢
        refine wpAny_mono (he _ _ _ _ _ s7 σ6 H7 _ I7 q7) (fun v s8 ⟨y, H8, I8, r8, hD8, w8⟩ => ?_) nof
        refine wpAny_mono (mt_append (X := cxComp X scope (own ++ frees) G2.objs.size s2 H2 fp) _ s8 σ6 H8 (.ref s2.heap.objs.size) [y] (.ref s2.heap.objs.size) [v] (fun _ H9 => H9 = upd H8 s2.heap.objs.size (.lst (ys ++ [y]))) I8 rfl (.cons r8 .nil) ⟨_, ys, y, rfl, rfl, hD8, hz, rfl⟩) (fun z s9 ⟨_, H9, I9, _, e9⟩ => ?_) nof
        subst e9
        exact again I9 w8
  exact codeAny_compStart_list (loop _ rfl) (T.self X.A 0 _ _ _ (T.keep _ _ _ st2 fun b _ o e => old b o e) (loop _ rfl))
end

section
variable {X : Cx} {scope : Scope} {own frees : List Str} {js : List Nat} {tg iter elt : Expr} {ifs : List Expr} {wi : TI} {g : TG} {tt : TT} {te : TE} {pos : Pos}
def tComp (n : Nat) (js : List Nat) (wi : TI) (g : TG) (tt : TT) (te : TE) : TE := fun σ H Q => wi σ H (compBody n js g tt te σ Q)
theorem pe_comp (own frees : List Str) (js : List Nat) (hc : X.Ok → CompOk X scope own frees js) (hi : PI X tg iter wi)
    (hg : ∀ C s H fp, PG (cxComp X scope (own ++ frees) C s H fp) tg g) (ht : ∀ C s H fp, PTs (cxComp X scope (own ++ frees) C s H fp) ifs tt) (he : ∀ C s H fp, PE (cxComp X scope (own ++ frees) C s H fp) elt te)
    (hs : ∀ x, foldedSetIterable iter X.env x = pure x := by intro _; rfl) :
    PE X (.ListComp elt [⟨tg, iter, ifs, 0⟩] scope pos) (tComp own.length js wi g tt te) := by
  intro pins s σ H Q I h
  have c := hc I.ok
  rw [eval_ListComp]
  refine wpAny_comprehension_free (use := none) rfl hs (closureFor_of (c.cells I.ok)) c.kind c.locals (thn (hi pins s σ H _ I h) fun xv s₁ h₁ => thn h₁ fun it s₂ h₂ => ?_)
  refine comp_block (RR := fun acc C => compPost (model X.prog X.w) X.A X.xe none (EP X pins σ Q) acc C) c hg ht he h₂ fun D C H' s' J F n q => ?_
  obtain ⟨m, hn⟩ := n
  obtain ⟨f0, f1, f2, f3, f4, f5⟩ := F
  exact ⟨m, hn, fun h' hs' => ⟨.ref D, H', J.turned (t' := s'.toks) (fun b o hb e => hs'.extBut b o hb e) f0 f1 f3 f4 f5, rfl, q⟩⟩
/-- y = [.. for ..] where the store goes ahead of the variables' letting go -/
def tSetComp (k n : Nat) (js : List Nat) (wi : TI) (g : TG) (tt : TT) (te : TE) : TS := fun D σ H => wi σ H (compBody n js g tt te σ fun v H1 => D.nx (σ.set k (some v)) H1)
theorem ps_setComp {k : Nat} {y : Str} {py spos : Pos} (own frees : List Str) (js : List Nat) (hN : X.N.Nodup) (hk : X.N[k]? = some y) (hy : X.env.scope.names.lookup y = some .local) (hc : X.Ok → CompOk X scope own frees js) (hi : PI X tg iter wi)
    (hg : ∀ C s H fp, PG (cxComp X scope (own ++ frees) C s H fp) tg g) (ht : ∀ C s H fp, PTs (cxComp X scope (own ++ frees) C s H fp) ifs tt) (he : ∀ C s H fp, PE (cxComp X scope (own ++ frees) C s H fp) elt te)
    (hsw : swapsWith (.ListComp elt [⟨tg, iter, ifs, 0⟩] scope pos) (some (.Name y py)) spos.line X.env = pure true := by rfl)
    (hs : ∀ x, foldedSetIterable iter X.env x = pure x := by intro _; rfl) :
    PS X (.Assign [.Name y py] (.ListComp elt [⟨tg, iter, ifs, 0⟩] scope pos) spos) (tSetComp k own.length js wi g tt te) := by
  intro pins s σ H D I h
  have c := hc I.ok
  rw [exec_Assign_Name_used _ _ _ _ hsw]
  refine wpAny_bind (wpAny_standAt (wpAny_bind ?_))
  show wpAny _ X.A (do let _ ← comprehension (.ListComp elt [⟨tg, iter, ifs, 0⟩] scope pos) scope X.env _ (newList []) false (eval iter X.env) (some (assign (.Name y py) X.env))) _ _ s
  refine wpAny_bind (wpAny_mono (wpAny_comprehension_free (use := some (assign (.Name y py) X.env)) (Q := fun _ s' => SP X pins D .next s') rfl hs (closureFor_of (c.cells I.ok)) c.kind c.locals
    (thn (hi pins s σ H _ I h) fun xv s₁ h₁ => thn h₁ fun it s₂ h₂ => ?_)) (fun _ s' hq => wpAny_pure (wpAny_pure hq)) fun _ _ e => e)
  refine comp_block (RR := fun acc C => compPost (model X.prog X.w) X.A X.xe (some (assign (.Name y py) X.env)) (fun _ s' => SP X pins D .next s') acc C) c hg ht he h₂ fun A' C H' s' J F n q => ?_
  obtain ⟨m, hn⟩ := n
  obtain ⟨f0, f1, f2, f3, f4, f5⟩ := F
  show wpAny _ X.A (assign (.Name y py) X.env (.ref A')) _ _ _
  refine wpAny_assign_Name (store_ok2 J hN hk (.inl hy) (v := .ref A') rfl (fun s'' J' ⟨a, sb, ha⟩ => ?_) (.inr hy))
  have hne : a ≠ C := by
    rcases ha with e | e
    · rw [e]; exact Ne.symm f1
    · exact f4 y a e
  refine ⟨m, hn.sameBut sb (Ne.symm hne), fun h' hs' => ⟨_, H', J'.turned (t' := s''.toks) (fun b o hb e => hs'.extBut b o hb e) f0 f1 f3 f4 f5, q⟩⟩
end

/-! ### readings of comprehensions -/
theorem comp_runs {J : It} {xs : List V} {Ok : Hp → Prop} (R : Runs J xs Ok) {n : Nat} {js : List Nat} {g : TG} {tt : TT} {te : TE} {σ : St} {Q : VK} {H1 : Hp} (hz : xs.length ≤ sizeLine)
    (Pv : Addr → Nat → List V → St → Hp → Prop) (h0 : ∀ D, H1 D = none → Pv D 0 [] (sgC n js σ) (upd H1 D (.lst [])))
    (hok : ∀ D i ys σ' H, i ≤ xs.length → Pv D i ys σ' H → Ok H ∧ ys.length ≤ i)
    (hs : ∀ D i x ys σ' H, H1 D = none → xs[i]? = some x → Pv D i ys σ' H → g x σ' H fun σ3 H3 => tt σ3 H3 fun b H4 =>
      if b = true then te σ3 H4 fun v H5 => H5 D = some (.lst ys) ∧ Pv D (i + 1) (ys ++ [v]) σ3 (upd H5 D (.lst (ys ++ [v]))) else Pv D (i + 1) ys σ3 H4)
    (hd : ∀ D ys σ' H, H1 D = none → Pv D xs.length ys σ' H → Q (.ref D) H) :
    compBody n js g tt te σ Q J H1 := by
  intro D hD
  refine ⟨fun i m ys σ' H => m = xs.length - i ∧ i ≤ xs.length ∧ Pv D i ys σ' H, ⟨xs.length, by simp, Nat.zero_le _, h0 D hD⟩, ?_⟩
  rintro i m ys σ' H ⟨rfl, hi, p⟩
  obtain ⟨q, hy⟩ := hok D i ys σ' H hi p
  by_cases hlt : i < xs.length
  · have hx : xs[i]? = some xs[i] := by simp [hlt]
    refine .inr ⟨R.go i _ H q hx, by omega, Pv D (i + 1), fun ys3 σ3 H3 p3 => ⟨xs.length - (i + 1), by omega, rfl, hlt, p3⟩, fun x H' y => ?_⟩
    obtain ⟨e1, e2⟩ := R.yld i _ H x H' q hx y
    rw [e2]
    exact hs D i x ys σ' H hD (by rw [e1]; exact hx) p
  · have e : i = xs.length := by omega
    subst e
    exact .inl ⟨R.stop H q, hd D ys σ' H hD p⟩
/-- elements and tests that leave the heap as it is: p tells which, f what comes of one; the block has one name of its own, fr are the free ones -/
theorem comp_pure {J : It} {xs : List V} {Ok : Hp → Prop} (R : Runs J xs Ok) {js : List Nat} {tt : TT} {te : TE} {σ : St} {Q : VK} {H1 : Hp} (hz : xs.length ≤ sizeLine) (p : V → Bool) (f : V → V)
    (hok : ∀ D ys, H1 D = none → Ok (upd H1 D (.lst ys)))
    (ht : ∀ D ys x (R : Bool → Hp → Prop), H1 D = none → x ∈ xs → R (p x) (upd H1 D (.lst ys)) → tt (some x :: js.map fun j => (σ[j]?).join) (upd H1 D (.lst ys)) R)
    (he : ∀ D ys x (R : V → Hp → Prop), H1 D = none → x ∈ xs → p x = true → R (f x) (upd H1 D (.lst ys)) → te (some x :: js.map fun j => (σ[j]?).join) (upd H1 D (.lst ys)) R)
    (hd : ∀ D, H1 D = none → Q (.ref D) (upd H1 D (.lst ((xs.filter p).map f)))) :
    compBody 1 js (gName 0) tt te σ Q J H1 := by
  refine comp_runs R hz (fun D i ys σ' H => H1 D = none ∧ ys = ((xs.take i).filter p).map f ∧ (∃ o, σ' = o :: js.map fun j => (σ[j]?).join) ∧ H = upd H1 D (.lst ys)) ?_ ?_ ?_ ?_
  · intro D hD
    exact ⟨hD, by simp, ⟨none, rfl⟩, rfl⟩
  · rintro D i ys σ' H hi ⟨hD, e, _, rfl⟩
    refine ⟨hok D ys hD, ?_⟩
    rw [e, List.length_map]
    exact Nat.le_trans (List.length_filter_le _ _) (by rw [List.length_take]; omega)
  · rintro D i x ys σ' H hD hx ⟨_, e, ⟨o, rfl⟩, rfl⟩
    show tt (some x :: js.map fun j => (σ[j]?).join) (upd H1 D (.lst ys)) _
    have hm : x ∈ xs := List.mem_of_getElem? hx
    refine ht D ys x _ hD hm ?_
    cases hp : p x with
    | true =>
      rw [if_pos rfl]
      refine he D ys x _ hD hm hp ⟨upd_same, hD, ?_, ⟨_, rfl⟩, upd_upd⟩
      rw [take_succ_filter p xs i x hx, hp, List.map_append, e]
      rfl
    | false =>
      rw [if_neg Bool.false_ne_true]
      refine ⟨hD, ?_, ⟨_, rfl⟩, rfl⟩
      rw [take_succ_filter p xs i x hx, hp, List.map_append, e]
      simp
  · rintro D ys σ' H hD ⟨_, e, _, rfl⟩
    rw [List.take_length] at e
    rw [e]
    exact hd D hD
end L2

set_option Elab.async false
set_option linter.all false
set_option maxRecDepth 100000
set_option maxHeartbeats 4000000
namespace L2
open PySem PySem.Spec PyProof.Rows
section
variable {X : Cx}

/-! ### all, any of a list of truths -/
theorem bools_get {bs : List Bool} {its : List Value} (r : Vals (bs.map V.bl) its) : ∀ (i : Nat) (v : Value), its[i]? = some v → v = Value.bool (bs.getD i false) := fun i v h => by
  have hl := r.length
  rw [List.length_map] at hl
  have hi : i < its.length := (List.getElem?_eq_some_iff.mp h).1
  have hb : (bs.map V.bl)[i]? = some (V.bl (bs.getD i false)) := by
    rw [List.getElem?_map, List.getD_eq_getElem?_getD]
    have : i < bs.length := by omega
    simp [this]
  obtain ⟨u, hu, ru⟩ := r.get hb
  rw [h] at hu
  cases hu
  exact ru
theorem range_all {bs : List Bool} : (List.range bs.length).all (fun i => bs.getD i false) = bs.all id := by
  rw [Bool.eq_iff_iff]
  simp only [List.all_eq_true, List.mem_range, id]
  constructor
  · intro h b hb
    obtain ⟨i, hi, e⟩ := List.mem_iff_getElem.mp hb
    have := h i hi
    rw [List.getD_eq_getElem?_getD] at this
    simpa [hi, e] using this
  · intro h i hi
    rw [List.getD_eq_getElem?_getD]
    simp only [List.getElem?_eq_getElem hi, Option.getD_some]
    exact h _ (List.getElem_mem hi)
def rAll (K : PySem.W.Frag) (f : List Bool → Bool) : List V → Hp → VK → Prop := fun xs H Q => ∃ a bs, xs = [.ref a] ∧ SqL K H a (bs.map V.bl) ∧ Q (.bl (f bs)) H
theorem call_all (hc : X.calm = true) : CallR X (.builtin "all") (rAll X.K fun bs => bs.all id) := by
  intro pins s σ H xs us Q I r h
  obtain ⟨a, bs, rfl, ha, q⟩ := h
  obtain ⟨u, rfl, ru⟩ := vals1 r
  cases ru
  obtain ⟨its, rv, p, hz⟩ := I.list ha
  have hl := rv.length
  rw [List.length_map] at hl
  refine call_all_walk (wpAny_pyIter_list p.isList ?_)
  have hne : a ≠ s.heap.objs.size := by
    obtain ⟨o, ho, _⟩ := p.isList
    exact Nat.ne_of_lt (Heap.lt_size ho)
  refine ⟨s.heap.objs.size, _, _, _, _, _, fun i => bs.getD i false, rfl, Walks.list (A := X.A.in1) (I.ok.hd hc) s.heap.objs.size a hne its.toArray, ⟨⟨_, Heap.get?_push_size _ rfl, rfl, rfl⟩, ?_⟩, ?_, ?_⟩
  · obtain ⟨o, ho, r'⟩ := p.isList
    exact ⟨o, Heap.get?_push_of_some _ ho, r'⟩
  · intro i v s' Q' E' hv hq
    have e := bools_get rv i v (by simpa using hv)
    subst e
    exact wpAny_truthy_bool hq
  · intro h' tk hk
    refine ⟨.bl (bs.all id), H, I.kept fun b o e => hk b o ?_ (Heap.get?_push_of_some _ e), ?_, q⟩
    · have hb := Heap.lt_size e
      intro z
      have z' : b = s.heap.objs.size := by simpa using z
      exact Nat.ne_of_lt hb z'
    · have : its.toArray.size = bs.length := by simp [hl]
      rw [this, range_all]
      rfl
/-! ### more operations -/
theorem op_le_str : OpR X (compareOp .LtE) (fun x y H Q => ∃ i j, x = .str i ∧ y = .str j ∧ Q (.bl (!(decide (j.cps.toList < i.cps.toList)))) H) := by
  intro pins s σ H x y v u Q I rx ry h
  obtain ⟨i, j, rfl, rfl, q⟩ := h
  obtain ⟨t, rfl⟩ := rx
  obtain ⟨t', rfl⟩ := ry
  exact PySem.P.le_str (fin_bl I q rfl)
def CMulB (i j : Int) : Prop := Builtin.Int.intBits i ≤ 2 ^ 20 ∧ Builtin.Int.intBits j ≤ 2 ^ 20
theorem op_mulB : OpR X (binaryOp .Mult) (rI CMulB fun i j => .int (i * j)) := opI fun _ _ _ _ _ _ _ hc q => mul_int q (IntMulOk.of_bits hc.1 hc.2)
def CDivB (i j : Int) : Prop := 0 < j ∧ j < 4611686018427387904
theorem op_fdivB : OpR X (binaryOp .FloorDiv) (rI CDivB fun i j => .int (i / j)) := opI fun i j _ _ _ _ _ hc q => by
  have h1 : (0 : Int) < j := hc.1
  have h2 : j < 4611686018427387904 := hc.2
  refine floordiv_int (by omega) (by rw [Int.fdiv_eq_ediv_of_nonneg i (by omega)]; exact q) (.inl (PyProof.noPylong_of_log2 ?_))
  have h3 : j.natAbs.log2 < 62 := (Nat.log2_lt (by omega)).mpr (by omega)
  omega
/-- t[lo:hi] of a text -/
def rSlS : V → Option Int → Option Int → Hp → VK → Prop := fun x lo hi H Q => ∃ z, x = .str z ∧ z.length ≤ sizeLine ∧ Q (.str (Txt.slice z lo hi)) H
theorem sl_str : SlR X rSlS := by
  intro pins s σ H x v vl vu lo hi sl Q I rx hs pl pu h
  obtain ⟨z, rfl, hz, q⟩ := h
  obtain ⟨t, rfl⟩ := rx
  refine ⟨"str", _, F.slot_str_getitem.lookup, typeIs_str _ _ _, ?_⟩
  have fin : ∀ t' k, EP X pins σ Q (.str (Txt.slice z lo hi) t') { s with toks := k } := fun t' k => ⟨.str _, H, I.tok _, ⟨_, rfl⟩, q⟩
  have hsz := Nat.le_trans (Txt.slice_le z lo hi) hz
  obtain ⟨o, h1, h2, h3⟩ := hs
  cases pl with
  | none =>
    cases pu with
    | none => exact wpAny_getItem_str_slice (l := none) (u := none) (st := none) ⟨o, h1, h2, h3⟩ rfl (post_val_or_str ⟨hsz, fin⟩)
    | int j uj => exact wpAny_getItem_str_slice (l := none) (u := some (j, uj)) (st := none) ⟨o, h1, h2, h3⟩ rfl (post_val_or_str ⟨hsz, fin⟩)
  | int i ui =>
    cases pu with
    | none => exact wpAny_getItem_str_slice (l := some (i, ui)) (u := none) (st := none) ⟨o, h1, h2, h3⟩ rfl (post_val_or_str ⟨hsz, fin⟩)
    | int j uj => exact wpAny_getItem_str_slice (l := some (i, ui)) (u := some (j, uj)) (st := none) ⟨o, h1, h2, h3⟩ rfl (post_val_or_str ⟨hsz, fin⟩)
def rIsi (K : PySem.W.Frag) : List V → Hp → VK → Prop := fun xs H Q => ∃ x n t b, xs = [x, .ty n] ∧ TyOf K H x t ∧ PySem.W.kitOne K t (.type n) = some b ∧ Q (.bl b) H
end

/-! ### the text's comprehensions, decided -/
def compT (osc : Scope) (on : List Str) (scope : Scope) (frees : List Str) (js : List Nat) : Bool :=
  (scope.kind == .function) && scope.names.all (fun y => y.2 != .cell) && scope.names.all (fun y => y.2 != .local || scope.names.lookup y.1 == some .local) &&
  scope.names.all (fun y => y.2 != .free || (osc.names.lookup y.1 == some .cell || osc.names.lookup y.1 == some .free)) && frees.all (fun x => scope.names.lookup x == some .free) && decide (js.map (fun j => on[j]?) = frees.map some)
theorem compT_ok {X : Cx} {osc scope : Scope} {on own frees : List Str} {js : List Nat} (h : compT osc on scope frees js = true) (h1 : X.env.scope = osc) (h2 : X.N = on) (h3 : X.calm = true) : CompOk X scope own frees js := by
  subst h1
  subst h2
  unfold compT at h
  simp only [Bool.and_eq_true, List.all_eq_true, decide_eq_true_eq, Bool.or_eq_true, bne_iff_ne, beq_iff_eq, ne_eq] at h
  obtain ⟨⟨⟨⟨⟨a, b⟩, c⟩, d⟩, e⟩, f⟩ := h
  exact ⟨h3, a, b, fun y hy z => (c y hy).resolve_left (fun q => q z), fun y hy z => (d y hy).resolve_left (fun q => q z), e, f⟩

/-! ### joins: what holds behind a statement -/
def tCut (t u : TS) : TS := fun D σ H => ∃ M : St → Hp → Prop, t { D with nx := M } σ H ∧ ∀ σ' H', M σ' H' → u D σ' H'
theorem pss_cut {X : Cx} {st : Stmt} {rest : List Stmt} {t u : TS} (h1 : PS X st t) (h2 : PSs X rest u) : PSs X (st :: rest) (tCut t u) := by
  intro pins s σ H D I h
  obtain ⟨M, h, hM⟩ := h
  refine wpAny_execs_cons (thn (h1 pins s σ H { D with nx := M } I h) fun f s1 q => ?_)
  cases f with
  | next =>
    obtain ⟨σ', H', I', q⟩ := q
    exact h2 pins s1 σ' H' D I' (hM _ _ q)
  | ret v => exact q
  | brk => exact q
  | cont => exact q

/-! ### a def of the top level -/
structure Def (K : PySem.W.Frag) (mg : Str → Option Value) (x : Str) (st : Stmt) (ps : List Str) (f : Addr) (fd : FuncData) : Prop where
  fn : Fun K x x st f fd
  b : Binds K fd ps []
  m : mg x = some (.ref f)
theorem pe_callD {X : Cx} {k : Nat} {f : Addr} {fd : FuncData} {ps : List Str} {sp : Sp} {x : Str} {st : Stmt} {p pos : Pos} {e : Expr} {es : List Expr} {t : TA} (d : Def X.K X.mg x st ps f fd) (F : FnOk X.prog X.w X.K X.mg X.base CX0 k f fd ps sp) (hr : Room k X.A)
    (ha : PA X (e :: es) t) (hg : Gl X x := by rfl) (hdb : (x == ("__debug__" : Str)) = false := by decide) (he : starEach (e :: es) X.env = (false, eval e X.env) :: starEach es X.env := by rfl) (hpl : (backTo pos (starEach es X.env)).any (·.1) = false := by rfl) :
    PE X (.Call (.Name x p) (e :: es) [] pos) (tCall sp [] E0 t) := pe_call F hr hg d.m d.fn.kp d.b .nil pass0 ha hdb he hpl
theorem small_line {n : Nat} (h : n ≤ 100000) : n ≤ sizeLine := by rw [sizeLine_eq]; omega
end L2

set_option Elab.async false
set_option linter.all false
set_option maxRecDepth 100000
set_option maxHeartbeats 4000000
namespace L2
open PySem PySem.Spec PyProof.Rows PySem.W

/-! ### data trees in the abstract heap -/
mutual
inductive Rep (K : PySem.W.Frag) (H : Hp) : V → Dat → Prop
  | none : Rep K H .non .none
  | bool (b : Bool) : Rep K H (.bl b) (.bool b)
  | int (i : Int) : Rep K H (.int i) (.int i)
  | str (x : Str) : Rep K H (.str x) (.str x)
  | tuple {a : Addr} {xs : List V} {ds : List Dat} : SqT K H a xs → Reps K H xs ds → Rep K H (.ref a) (.tuple ds)
  | list {a : Addr} {xs : List V} {ds : List Dat} : SqL K H a xs → Reps K H xs ds → Rep K H (.ref a) (.list ds)
inductive Reps (K : PySem.W.Frag) (H : Hp) : List V → List Dat → Prop
  | nil : Reps K H [] []
  | cons {v : V} {vs : List V} {d : Dat} {ds : List Dat} : Rep K H v d → Reps K H vs ds → Reps K H (v :: vs) (d :: ds)
end
theorem Same.tup {K : PySem.W.Frag} {H H' : Hp} {a : Addr} {xs : List V} (e : Same H H') (h : SqT K H a xs) : SqT K H' a xs := by
  rcases h with (h | ⟨o, h⟩) | h
  · exact .inl (.inl (e _ _ h))
  · exact .inl (.inr ⟨o, e _ _ h⟩)
  · exact .inr h
mutual
theorem Rep.mono {K : PySem.W.Frag} {H H' : Hp} (e : Same H H') : ∀ {v : V} {d : Dat}, Rep K H v d → Rep K H' v d
  | _, _, .none => .none
  | _, _, .bool b => .bool b
  | _, _, .int i => .int i
  | _, _, .str x => .str x
  | _, _, .tuple h r => .tuple (e.tup h) (Reps.mono e r)
  | _, _, .list h r => .list (e.seq h) (Reps.mono e r)
theorem Reps.mono {K : PySem.W.Frag} {H H' : Hp} (e : Same H H') : ∀ {vs : List V} {ds : List Dat}, Reps K H vs ds → Reps K H' vs ds
  | _, _, .nil => .nil
  | _, _, .cons h r => .cons (Rep.mono e h) (Reps.mono e r)
end
section
variable {X : Cx} {pins : List (Addr × Obj)} {σ : St} {H : Hp} {s : Shared}
mutual
theorem Rep.reads (I : Inv X pins σ H s) : ∀ {v : V} {d : Dat} {u : Value}, Rep X.K H v d → RelV v u → ∃ as, Reads s.heap u (kqdP d) as
  | _, _, _, .none, r => by cases (show _ = Value.none from r); rw [kqdP]; exact ⟨_, Reads.none⟩
  | _, _, _, .bool b, r => by cases (show _ = Value.bool b from r); rw [kqdP]; exact ⟨_, Reads.bool b⟩
  | _, _, _, .int i, r => by obtain ⟨t, e⟩ := (show ∃ t, _ = Value.int i t from r); cases e; rw [kqdP]; exact ⟨_, Reads.int i t⟩
  | _, _, _, .str x, r => by obtain ⟨t, e⟩ := (show ∃ t, _ = Value.str x t from r); cases e; rw [kqdP]; exact ⟨_, Reads.str x t⟩
  | _, _, _, .tuple (a := a) h q, r => by
    cases (show _ = Value.ref a from r)
    obtain ⟨its, rv, ⟨o, e, c, n, d⟩, _⟩ := I.tuple h
    obtain ⟨as, p⟩ := Reps.reads I q rv
    rw [kqdP]
    exact ⟨as, reads_tuple_at e c d (by simpa using p)⟩
  | _, _, _, .list (a := a) h q, r => by
    cases (show _ = Value.ref a from r)
    obtain ⟨its, rv, ⟨o, n, e, c, _, d⟩, _⟩ := I.list h
    obtain ⟨as, p⟩ := Reps.reads I q rv
    rw [kqdP]
    exact ⟨_, reads_list_at e c d (by simpa using p)⟩
theorem Reps.reads (I : Inv X pins σ H s) : ∀ {vs : List V} {ds : List Dat} {us : List Value}, Reps X.K H vs ds → Vals vs us → ∃ as, ReadsAll s.heap us (kqdPs ds) as
  | _, _, _, .nil, r => by cases r; rw [kqdPs]; exact ⟨_, ReadsAll.nil⟩
  | _, _, _, .cons h q, r => by
    cases r with
    | cons r1 r2 =>
      obtain ⟨as, p⟩ := Rep.reads I h r1
      obtain ⟨bs, t⟩ := Reps.reads I q r2
      rw [kqdPs]
      exact ⟨_, ReadsAll.cons p t⟩
end
end
noncomputable def dEq (d e : Dat) : Bool := @decide (d = e) (Classical.propDecidable _)
theorem dEq_self (d : Dat) : dEq d d = true := by unfold dEq; exact @decide_eq_true _ (Classical.propDecidable _) rfl
theorem dEq_pos {d e : Dat} (h : d = e) : dEq d e = true := by rw [h]; exact dEq_self e
theorem dEq_neg {d e : Dat} (h : d ≠ e) : dEq d e = false := by unfold dEq; exact @decide_eq_false _ (Classical.propDecidable _) h
theorem eqv_dEq {d e : Dat} {n k : Nat} (h1 : kqdOk n d = true) (h2 : kqdOk k e = true) : PyData.eqv (kqdP d) (kqdP e) = dEq d e := by
  have q := kqd_eqv n d e k h1 h2
  by_cases h : d = e
  · rw [dEq_pos h]; exact q.mpr h
  · rw [dEq_neg h]; exact Bool.eq_false_iff.mpr fun x => h (q.mp x)
theorem shaped_of {d : Dat} (h : kqdOk 9 d = true) : SeqAt.shaped (kqdP d) = true := by
  have l := kqd_lay 9 d h
  unfold SeqAt.shaped
  rw [l.1, Bool.true_and]
  exact decide_eq_true (Nat.le_trans l.2 (by decide))
section
variable {X : Cx}
noncomputable def rEqD (K : PySem.W.Frag) (f : Bool → Bool) : R2 := fun x y H Q => ∃ d e, Rep K H x d ∧ Rep K H y e ∧ kqdOk 9 d = true ∧ kqdOk 9 e = true ∧ Q (.bl (f (dEq d e))) H
theorem op_eqD (hu : X.A.units + 64 < cLine) : OpR X (compareOp .Eq) (rEqD X.K id) := by
  intro pins s σ H x y v u Q I rx ry h
  obtain ⟨d, e, h1, h2, k1, k2, q⟩ := h
  obtain ⟨as, ra⟩ := h1.reads I rx
  obtain ⟨bs, rb⟩ := h2.reads I ry
  exact eq_dataH ra rb (shaped_of k1) (shaped_of k2) hu (fin_bl I q (by rw [eqv_dEq k1 k2]; rfl))
theorem op_neD (hu : X.A.units + 64 < cLine) : OpR X (compareOp .NotEq) (rEqD X.K Bool.not) := by
  intro pins s σ H x y v u Q I rx ry h
  obtain ⟨d, e, h1, h2, k1, k2, q⟩ := h
  obtain ⟨as, ra⟩ := h1.reads I rx
  obtain ⟨bs, rb⟩ := h2.reads I ry
  exact ne_dataH ra rb (shaped_of k1) (shaped_of k2) hu (fin_bl I q (by rw [eqv_dEq k1 k2]))
end
end L2

set_option Elab.async false
set_option linter.all false
set_option maxRecDepth 100000
set_option maxHeartbeats 4000000
namespace L2
open PySem PySem.Spec PyProof.Rows
section
variable {X : Cx} {pins : List (Addr × Obj)} {σ : St} {H H' : Hp} {s : Shared} {a : Addr} {kvs : List (Key × V)} {o : Obj}
/-- another abstract heap over the same state -/
theorem Inv.reH (I : Inv X pins σ H s) (base : Un X.fs X.ex X.H₀ H' X.s₀.heap s.heap) (hn : ∀ b, H b = none → H' b = none) (hok : HOk X.prog X.w H' s.heap) : Inv X pins σ H' s :=
  ⟨I.ok, I.os, I.bare, base, I.loc, I.cell, hn _ I.free, fun x c e => hn _ (I.freeC x c e), fun p hp => by
    obtain ⟨e, n, r⟩ := I.pin p hp
    exact ⟨e, hn _ n, r⟩, hok, I.len⟩
theorem Inv.reAt {u u' : HO} (I : Inv X pins σ H s) (h : H a = some u) (nt : ∀ xs, u ≠ .tup xs) (no : ∀ y, u ≠ .own y) (nb : ∀ ps, u ≠ .tbl ps) (nf : ∀ o v, X.H₀ a ≠ some (.frz o v))
    (ok : ObjOk X.prog X.w H s.heap a u → ObjOk X.prog X.w (upd H a u') s.heap a u') : Inv X pins σ (upd H a u') s := by
  have hn : ∀ b, H b = none → upd H a u' b = none := fun b e => by
    rw [upd_ne]
    · exact e
    · rintro rfl; rw [h] at e; cases e
  refine I.reH ⟨I.base.keep, I.base.slot, fun b ob e n hx => hn b (I.base.free b ob e n hx), I.base.there, fun b xs e => ?_, fun b ob v e => ?_, fun b ps e => ?_⟩ hn ?_
  · have q := I.base.tups b xs e
    rw [upd_ne]
    · exact q
    · rintro rfl; rw [h] at q; exact nt xs (Option.some.inj q)
  · have q := I.base.frzs b ob v e
    rw [upd_ne]
    · exact q
    · rintro rfl; exact nf ob v e
  · obtain ⟨m, q⟩ := I.base.tbls b ps e
    refine ⟨m, ?_⟩
    rw [upd_ne]
    · exact q
    · rintro rfl; rw [h] at q; exact nb _ (Option.some.inj q)
  · intro b v e
    by_cases hb : b = a
    · subst hb
      rw [upd_same] at e
      cases e
      exact ok (I.hok b u h)
    · rw [upd_ne hb] at e
      refine (I.hok b v e).stay (fun _ _ _ q => q) (fun c q => ?_) fun c xs q => ?_
      · rw [upd_ne]
        · exact q
        · rintro rfl; rw [h] at q; exact no _ (Option.some.inj q)
      · rw [upd_ne]
        · exact q
        · rintro rfl; rw [h] at q; exact nt _ (Option.some.inj q)
theorem Inv.freeze (I : Inv X pins σ H s) (h : H a = some (.dK kvs)) (ho : s.heap.get? a = some o) : Inv X pins σ (upd H a (.frz o (.dK kvs))) s ∧ ∀ o' v, X.H₀ a ≠ some (.frz o' v) := by
  have nf : ∀ o' v, X.H₀ a ≠ some (.frz o' v) := fun o' v e => by
    have q := I.base.frzs a o' v e
    rw [h] at q
    cases q
  refine ⟨I.reAt h (fun _ z => nomatch z) (fun _ z => nomatch z) (fun _ z => nomatch z) nf fun k => ⟨ho, k.stay (fun _ _ _ q => q) (fun c q => ?_) fun c xs q => ?_⟩, nf⟩
  · rw [upd_ne]
    · exact q
    · rintro rfl; rw [h] at q; cases q
  · rw [upd_ne]
    · exact q
    · rintro rfl; rw [h] at q; cases q
theorem relKey {P : Program} {w : World} {k : Key} {u : Value} (h : (mixKind P w).is k u = true) : RelV (kV k) u := by
  rcases keyIs_shape (show keyIs k u = true from h) with ⟨i, t, rfl, rfl⟩ | ⟨x, t, rfl, rfl⟩
  · exact ⟨t, rfl⟩
  · exact ⟨t, rfl⟩
end

/-! ### the keys of a dict that stays as it is -/
def Itk (a : Addr) (o : Obj) (kvs : List (Key × V)) : It :=
  ⟨fun i H => i < kvs.length ∧ H a = some (.frz o (.dK kvs)), fun i H v H' => H' = H ∧ ∃ p, kvs[i]? = some p ∧ v = kV p.1, fun i H => kvs.length ≤ i ∧ H a = some (.frz o (.dK kvs))⟩
def Itv (a : Addr) (o : Obj) (kvs : List (Key × V)) : It :=
  ⟨fun i H => i < kvs.length ∧ H a = some (.frz o (.dK kvs)), fun i H v H' => H' = H ∧ ∃ p, kvs[i]? = some p ∧ v = p.2, fun i H => kvs.length ≤ i ∧ H a = some (.frz o (.dK kvs))⟩
theorem KV.get {κ : Type} : ∀ {kvs : List (κ × V)} {vs : List (κ × Value)}, KV kvs vs → ∀ {i : Nat} {p : κ × V}, kvs[i]? = some p → ∃ u, vs[i]? = some (p.1, u) ∧ RelV p.2 u
  | _, _, .nil, i, p, h => by simp at h
  | _, _, .cons r t, 0, p, h => by
    simp at h
    subst h
    exact ⟨_, by simp [r.1], r.2⟩
  | _, _, .cons r t, i + 1, p, h => by
    obtain ⟨u, h1, h2⟩ := KV.get t (i := i) (p := p) (by simpa using h)
    exact ⟨u, by simpa using h1, h2⟩
theorem frz_dict {P : Program} {w : World} {H : Hp} {h : Heap} {a : Addr} {o : Obj} {kvs : List (Key × V)} {es : Array DictEntry} {ep : Nat} (ok : ObjOk P w H h a (.frz o (.dK kvs))) (hd : o.data = .dict es ep) :
    (a == sysModules) = false ∧ ∃ vs, KV kvs vs ∧ h.DictAt (mixKind P w) a vs ep := by
  obtain ⟨ho, z, hs, vs, r, o', es', ep', h1, h2, h3, h4, h5, h6⟩ := ok
  rw [ho] at h1
  cases h1
  rw [hd] at h3
  cases h3
  exact ⟨hs, vs, r, o, es, ho, h2, hd, h4, h5, h6⟩
theorem turn_keys {P : Program} {w : World} {K : PySem.W.Frag} {tg : Expr} (a it : Addr) (o : Obj) (kvs : List (Key × V)) (es : Array DictEntry) (ep : Nat) (hd : o.data = .dict es ep) :
    Turn P w K tg (Itk a o kvs) [it] it (fun i h => h.IsKeyIter it a i kvs.length ep) where
  mem := by simp
  obj := fun i h st b hb => by
    have e : b = it := by simpa using hb
    subst e
    obtain ⟨o, e, c, d⟩ := st
    exact ⟨o, e, fun v z => by rw [d] at z; cases z⟩
  keep := fun i h h' st k => by
    obtain ⟨o, ho, r⟩ := st
    exact ⟨o, k it (by simp) o ho, r⟩
  item := by
    intro X hP hw hK hc i pins s σ H E I hf st hg
    subst hP hw hK
    obtain ⟨f0, f1, f2, f3, f4, f5⟩ := hf it (by simp)
    obtain ⟨hi, ha⟩ := hg
    obtain ⟨_, vs, r, dd⟩ := frz_dict (I.hok a _ ha) hd
    obtain ⟨p, hp⟩ : ∃ p, kvs[i]? = some p := ⟨kvs[i], by simp [hi]⟩
    obtain ⟨u, hu, ru⟩ := r.get hp
    have hl : kvs.length = vs.length := Paired.length r
    rw [hl] at st
    refine wpAny_pyNext_dict_item st dd hu fun key h' hk st' sb => ?_
    have I1 : Inv X pins σ H { s with heap := h' } := I.turned (t' := s.toks) (fun b o hb e => (sb.2 b hb).trans e) f0 f1 f3 f4 f5
    obtain ⟨o', e, c, d⟩ := id st'
    rw [← hl] at st'
    exact ⟨key, rfl, go_of (s := { s with heap := h' }) e c d (by decide) ⟨kV p.1, H, I1, relKey hk, ⟨rfl, p, hp, rfl⟩, st', fun b hb => (hf b hb).1⟩⟩
  done := by
    intro X hP hw hK hc i pins s σ H E I hf st hg
    subst hP hw hK
    obtain ⟨f0, f1, f2, f3, f4, f5⟩ := hf it (by simp)
    obtain ⟨hi, ha⟩ := hg
    obtain ⟨_, vs, r, dd⟩ := frz_dict (I.hok a _ ha) hd
    have hl : kvs.length = vs.length := Paired.length r
    rw [hl] at st
    exact wpAny_pyNext_dict_end (I.ok.hd hc) st dd (by simp; omega) fun h' eb => ⟨rfl, I.turned (t' := s.toks) (fun b o hb e => eb b o hb e) f0 f1 f3 f4 f5⟩
  self := fun _ _ _ _ _ st h => wpAny_pyIter_keyiter st h
theorem turn_vals {P : Program} {w : World} {K : PySem.W.Frag} {tg : Expr} (a it : Addr) (o : Obj) (kvs : List (Key × V)) (es : Array DictEntry) (ep : Nat) (hd : o.data = .dict es ep) :
    Turn P w K tg (Itv a o kvs) [it] it (fun i h => h.IsValIter it a i kvs.length ep) where
  mem := by simp
  obj := fun i h st b hb => by
    have e : b = it := by simpa using hb
    subst e
    obtain ⟨o, e, c, d⟩ := st
    exact ⟨o, e, fun v z => by rw [d] at z; cases z⟩
  keep := fun i h h' st k => by
    obtain ⟨o, ho, r⟩ := st
    exact ⟨o, k it (by simp) o ho, r⟩
  item := by
    intro X hP hw hK hc i pins s σ H E I hf st hg
    subst hP hw hK
    obtain ⟨f0, f1, f2, f3, f4, f5⟩ := hf it (by simp)
    obtain ⟨hi, ha⟩ := hg
    obtain ⟨_, vs, r, dd⟩ := frz_dict (I.hok a _ ha) hd
    obtain ⟨p, hp⟩ : ∃ p, kvs[i]? = some p := ⟨kvs[i], by simp [hi]⟩
    obtain ⟨u, hu, ru⟩ := r.get hp
    have hl : kvs.length = vs.length := Paired.length r
    rw [hl] at st
    refine wpAny_pyNext_values_item st dd hu fun h' st' sb => ?_
    have I1 : Inv X pins σ H { s with heap := h' } := I.turned (t' := s.toks) (fun b o hb e => (sb.2 b hb).trans e) f0 f1 f3 f4 f5
    obtain ⟨o', e, c, d⟩ := id st'
    rw [← hl] at st'
    exact ⟨u, rfl, go_of (s := { s with heap := h' }) e c d (by decide) ⟨p.2, H, I1, ru, ⟨rfl, p, hp, rfl⟩, st', fun b hb => (hf b hb).1⟩⟩
  done := by
    intro X hP hw hK hc i pins s σ H E I hf st hg
    subst hP hw hK
    obtain ⟨f0, f1, f2, f3, f4, f5⟩ := hf it (by simp)
    obtain ⟨hi, ha⟩ := hg
    obtain ⟨_, vs, r, dd⟩ := frz_dict (I.hok a _ ha) hd
    have hl : kvs.length = vs.length := Paired.length r
    rw [hl] at st
    exact wpAny_pyNext_values_end (I.ok.hd hc) st dd (by simp; omega) fun h' eb => ⟨rfl, I.turned (t' := s.toks) (fun b o hb e => eb b o hb e) f0 f1 f3 f4 f5⟩
  self := fun _ _ _ _ _ st h => wpAny_pyIter_valiter st h

/-! ### a dict that is written no more -/
def tFrz (t : TS) : TS := fun D σ H => ∃ a kvs, H a = some (.dK kvs) ∧ ∀ o, t D σ (upd H a (.frz o (.dK kvs)))
theorem pss_frz {X : Cx} {sts : List Stmt} {t : TS} (h : PSs X sts t) : PSs X sts (tFrz t) := by
  intro pins s σ H D I q
  obtain ⟨a, kvs, ha, q⟩ := q
  obtain ⟨o, ho⟩ : ∃ o, s.heap.get? a = some o := by
    obtain ⟨_, _, vs, _, o, _, _, e, _⟩ := I.hok a _ ha
    exact ⟨o, e⟩
  exact h pins s σ _ D (I.freeze ha ho).1 (q o)
theorem frz_data {P : Program} {w : World} {H : Hp} {h : Heap} {a : Addr} {o : Obj} {kvs : List (Key × V)} (ok : ObjOk P w H h a (.frz o (.dK kvs))) : ∃ es ep, o.data = .dict es ep := by
  obtain ⟨ho, z, hs, vs, r, o', es', ep', h1, h2, h3, _⟩ := ok
  rw [ho] at h1
  cases h1
  exact ⟨es', ep', h3⟩
theorem runs_keys {a : Addr} {o : Obj} {kvs : List (Key × V)} : Runs (Itk a o kvs) (kvs.map fun p => kV p.1) (fun H => H a = some (.frz o (.dK kvs))) where
  go := fun i x H ok hx => by
    have := (List.getElem?_eq_some_iff.mp hx).1
    rw [List.length_map] at this
    exact ⟨this, ok⟩
  yld := fun i x H y H' ok hx h => by
    obtain ⟨e, p, hp, hy⟩ := h
    rw [List.getElem?_map, hp] at hx
    exact ⟨hy.trans (Option.some.inj hx), e⟩
  stop := fun H ok => ⟨by rw [List.length_map]; exact Nat.le_refl _, ok⟩
theorem runs_vals {a : Addr} {o : Obj} {kvs : List (Key × V)} : Runs (Itv a o kvs) (kvs.map fun p => p.2) (fun H => H a = some (.frz o (.dK kvs))) where
  go := fun i x H ok hx => by
    have := (List.getElem?_eq_some_iff.mp hx).1
    rw [List.length_map] at this
    exact ⟨this, ok⟩
  yld := fun i x H y H' ok hx h => by
    obtain ⟨e, p, hp, hy⟩ := h
    rw [List.getElem?_map, hp] at hx
    exact ⟨hy.trans (Option.some.inj hx), e⟩
  stop := fun H ok => ⟨by rw [List.length_map]; exact Nat.le_refl _, ok⟩
section
variable {X : Cx} {tg : Expr}
def iKeys (tl : TE) : TI := fun σ H R => tl σ H fun x H1 => ∃ a o kvs, x = .ref a ∧ H1 a = some (.frz o (.dK kvs)) ∧ R (Itk a o kvs) H1
theorem pi_keys {l : Expr} {tl : TE} (hl : PE X l tl) : PI X tg l (iKeys tl) := by
  intro pins s σ H R I h
  refine thn (hl pins s σ H _ I h) fun v s1 ⟨x, H1, I1, r1, q1⟩ => ?_
  obtain ⟨a, o, kvs, e, ha, q⟩ := q1
  subst e
  cases r1
  obtain ⟨es, ep, hd⟩ := frz_data (I1.hok a _ ha)
  obtain ⟨hs, vs, r, dd⟩ := frz_dict (I1.hok a _ ha) hd
  have hl : kvs.length = vs.length := Paired.length r
  refine wpAny_pyIter_dict hs dd ?_
  refine ⟨s1.heap.objs.size, [s1.heap.objs.size], _, _, H1, rfl, I1.kept (t' := s1.toks) fun b o e => Heap.get?_push_of_some _ e, turn_keys a _ o kvs es ep hd, ⟨_, Heap.get?_push_size _ rfl, rfl, by rw [hl]; rfl⟩, fun b hb => ?_, q⟩
  have e : b = s1.heap.objs.size := by simpa using hb
  subst e
  exact I1.fpOk (Nat.le_refl _) (I1.hok.fresh (Nat.le_refl _))
end
end L2

set_option Elab.async false
set_option linter.all false
set_option maxRecDepth 100000
set_option maxHeartbeats 4000000
namespace L2
open PySem PySem.Spec PyProof.Rows

theorem small_line' {n : Nat} (h : n ≤ 10000000) : n ≤ sizeLine := by rw [sizeLine_eq]; omega
theorem vals_of : ∀ {xs : List V} {us : List Value}, xs.length = us.length → (∀ (i : Nat) (v : V) (u : Value), xs[i]? = some v → us[i]? = some u → RelV v u) → Vals xs us
  | [], [], _, _ => .nil
  | [], _ :: _, h, _ => by simp at h
  | _ :: _, [], h, _ => by simp at h
  | x :: xs, u :: us, h, k => .cons (k 0 x u rfl rfl) (vals_of (by simpa using h) fun i v w hv hw => k (i + 1) v w (by simpa using hv) (by simpa using hw))
/-! ### comprehensions whose elements make objects: D is the new list -/
theorem comp_rel {J : It} {xs : List V} {Ok : Hp → Prop} (R : Runs J xs Ok) {js : List Nat} {tt : TT} {te : TE} {σ : St} {Q : VK} {H1 : Hp} (hz : xs.length ≤ sizeLine) (p : V → Bool) (F : Addr → V → V → Hp → Prop)
    (hF : ∀ D x v H H', (∀ b o, b ≠ D → H b = some o → H' b = some o) → F D x v H → F D x v H')
    (hok : ∀ H, Same H1 H → Ok H)
    (ht : ∀ x H (R : Bool → Hp → Prop), Same H1 H → x ∈ xs → (∀ H', Same H H' → R (p x) H') → tt (some x :: js.map fun j => (σ[j]?).join) H R)
    (he : ∀ D x H (R : V → Hp → Prop), Same H1 H → (∃ ys, H D = some (.lst ys)) → H1 D = none → x ∈ xs → p x = true → (∀ v H', Same H H' → F D x v H' → R v H') → te (some x :: js.map fun j => (σ[j]?).join) H R)
    (hd : ∀ D H' ys, H1 D = none → Same H1 H' → H' D = some (.lst ys) → Paired (fun x v => F D x v H') (xs.filter p) ys → Q (.ref D) H') :
    compBody 1 js (gName 0) tt te σ Q J H1 := by
  refine comp_runs R hz (fun D i ys σ' H => H1 D = none ∧ Same H1 H ∧ H D = some (.lst ys) ∧ Paired (fun x v => F D x v H) ((xs.take i).filter p) ys ∧ ∃ o, σ' = o :: js.map fun j => (σ[j]?).join) ?_ ?_ ?_ ?_
  · intro D hD
    exact ⟨hD, fun b o e => by rw [upd_ne (ne_of_none e hD)]; exact e, upd_same, by simpa using Paired.nil, none, rfl⟩
  · rintro D i ys σ' H hi ⟨hD, hs, hl, hp, _⟩
    refine ⟨hok H hs, ?_⟩
    rw [← hp.length]
    exact Nat.le_trans (List.length_filter_le _ _) (by rw [List.length_take]; omega)
  · rintro D i x ys σ' H hD hx ⟨_, hs, hl, hp, o, rfl⟩
    show tt (some x :: js.map fun j => (σ[j]?).join) H _
    have hm : x ∈ xs := List.mem_of_getElem? hx
    refine ht x H _ hs hm fun H4 s4 => ?_
    have hs4 : Same H1 H4 := hs.trans s4
    have mono : ∀ {H H' : Hp}, (∀ b o, b ≠ D → H b = some o → H' b = some o) → Paired (fun x v => F D x v H) ((xs.take i).filter p) ys → Paired (fun x v => F D x v H') ((xs.take i).filter p) ys := fun h q => Paired.mapP q fun a b z => hF D a b _ _ h z
    cases hpx : p x with
    | true =>
      rw [if_pos rfl]
      refine he D x H4 _ hs4 ⟨_, s4 _ _ hl⟩ hD hm hpx fun v H5 s5 f5 => ⟨s5 _ _ (s4 _ _ hl), hD, fun b o e => ?_, upd_same, ?_, _, rfl⟩
      · rw [upd_ne (ne_of_none e hD)]
        exact s5 _ _ (hs4 _ _ e)
      · rw [take_succ_filter p xs i x hx, hpx, if_pos rfl]
        refine Paired.snoc (mono (fun b o hb e => by rw [upd_ne hb]; exact s5 _ _ (s4 _ _ e)) hp) (hF D _ _ _ _ (fun b o hb e => by rw [upd_ne hb]; exact e) f5)
    | false =>
      rw [if_neg Bool.false_ne_true]
      refine ⟨hD, hs4, s4 _ _ hl, ?_, _, rfl⟩
      rw [take_succ_filter p xs i x hx, hpx, if_neg Bool.false_ne_true, List.append_nil]
      exact mono (fun b o _ e => s4 _ _ e) hp
  · rintro D ys σ' H hD ⟨_, hs, hl, hp, _⟩
    rw [List.take_length] at hp
    exact hd D H ys hD hs hl hp

section
variable {X : Cx}
/-! ### xs.insert(i, v), 0 ≤ i ≤ len -/
def rInsert : V → List V → Hp → VK → Prop := fun x vs H Q => ∃ l xs i y, x = .ref l ∧ vs = [.int i, y] ∧ H l = some (.lst xs) ∧ 0 ≤ i ∧ i ≤ xs.length ∧ xs.length < sizeLine ∧ Q .non (upd H l (.lst (xs.take i.toNat ++ y :: xs.drop i.toNat)))
theorem mt_insert : MtM X "list.insert" rInsert := by
  intro pins s σ H x vs v us Q I rx rv h
  obtain ⟨l, xs, i, y, rfl, rfl, hH, h0, h1, hz, q⟩ := h
  cases rx
  obtain ⟨u, w', rfl, ⟨t, rfl⟩, ru⟩ := vals2 rv
  obtain ⟨z, its, n, r, hl, e⟩ := I.lstM hH
  have hs : sizeLine = 16777216 := sizeLine_eq
  have hc : ¬ (!Builtin.List.listFitsIndex i) = true := by
    have : Builtin.List.listFitsIndex i = true := by
      unfold Builtin.List.listFitsIndex
      simp
      omega
    rw [this]
    decide
  refine call_meets F.slot_list_insert ⟨_, e, rfl⟩ F.entry_list_insert (F.args_list_insert_3 _ _ _) (PySem.AutoSeq1.list_insert_list_int_val_1 l its.toArray n i t w' hc (by rw [List.size_toArray]; omega)) ⟨e, ?_⟩
  have hk : (if i < 0 then (i + (its.toArray.size : Int)).toNat else min i.toNat its.toArray.size) = i.toNat := by
    rw [if_neg (by omega), List.size_toArray]
    omega
  refine ⟨.non, _, I.lset (its' := its.take i.toNat ++ w' :: its.drop i.toNat) hH e ?_ ?_ ?_, rfl, q⟩
  · show (its.toArray.extract 0 (if i < 0 then (i + (its.toArray.size : Int)).toNat else min i.toNat its.toArray.size)).push w' ++ its.toArray.extract (if i < 0 then (i + (its.toArray.size : Int)).toNat else min i.toNat its.toArray.size) = _
    rw [hk]
    apply Array.ext'
    simp
    exact List.take_of_length_le (by rw [List.length_drop]; exact Nat.le_refl _)
  · exact (r.take _).append (.cons ru (r.drop _))
  · rw [List.length_append, List.length_cons, List.length_take, List.length_drop]
    omega

/-! ### list(range(n)) -/
theorem pe_listRange {a : Expr} {ta : TE} {p1 p2 pos1 pos2 : Pos} (hc : X.calm = true) (ha : PE X a ta) (hg1 : Gl X "list") (hm1 : X.mg "list" = none) (hg2 : Gl X "range") (hm2 : X.mg "range" = none)
    (hs : starEach [a] X.env = [(false, eval a X.env)] := by rfl)
    (hs2 : starEach [.Call (.Name "range" p2) [a] [] pos2] X.env = [(false, eval (.Call (.Name "range" p2) [a] [] pos2) X.env)] := by rfl) :
    PE X (.Call (.Name "list" p1) [.Call (.Name "range" p2) [a] [] pos2] [] pos1) (fun σ H Q => tCons ta tNil σ H fun vs H1 => ∃ j : Int, vs = [.int j] ∧ 0 ≤ j ∧ j ≤ 1000000 ∧ ∀ l, H1 l = none → Q (.ref l) (upd H1 l (.lst (rangeV 0 j.toNat)))) := by
  intro pins s σ H Q I h
  refine wpAny_Call_Name_kw (ld_blt I hg1 hm1 PyProof.Rows.boot_list ?_ (by decide) (by decide))
  refine PyProof.Rows.callWith_type1 ?_ hs2 rfl
  refine Calls.spliced_cons ?_
  refine wpAny_Call_Name_kw (ld_blt I hg2 hm2 boot_range ?_ (by decide) (by decide))
  refine PyProof.Rows.callWith_type1 ?_ hs rfl
  have pa : PA X [a] (tCons ta tNil) := pa_cons ha pa_nil hs
  refine thn (pa pos2 pins s σ H (fun vs H1 => ∃ j : Int, vs = [.int j] ∧ 0 ≤ j ∧ j ≤ 1000000 ∧ ∀ l, H1 l = none → Q (.ref l) (upd H1 l (.lst (rangeV 0 j.toNat)))) I h) fun us s1 ⟨vs, H1, I1, r1, q1⟩ => ?_
  obtain ⟨j, e, h0, h1, q⟩ := q1
  subst e
  obtain ⟨u, rfl, t, rfl⟩ := vals1 r1
  refine call_range_1 (Calls.spliced_nil ?_)
  have I2 : Inv X pins σ H1 { s1 with heap := s1.heap.push { cls := .type "range", data := .fields #[.int 0 s1.toks, .int j t, .int 1 (s1.toks + 1)] }, toks := s1.toks + 1 + 1 } := I1.kept fun b o e => Heap.get?_push_of_some _ e
  refine call_list_range (n := j.toNat) (I1.ok.hd hc) (IsRange.new ..) (small_one (by decide) (by decide) (by omega) (by omega)) (by rw [rangeSize_one]; split <;> omega) (by omega) fun h' tk acc' c' hk hS' hacc => ?_
  obtain ⟨a1, a2⟩ := hacc
  have hnew : H1 (s1.heap.push { cls := .type "range", data := .fields #[.int 0 s1.toks, .int j t, .int 1 (s1.toks + 1)] }).objs.size = none := I2.hok.fresh (Nat.le_refl _)
  refine ⟨.ref _, _, I2.laid (o := .lst (rangeV 0 j.toNat)) hk (Nat.le_refl _) ⟨?_, acc'.toList, c', ?_, by simpa using hS'⟩, rfl, q _ hnew⟩
  · rw [rangeV_len]
    exact small_line' (by omega)
  · have len : (rangeV 0 j.toNat).length = acc'.toList.length := by rw [rangeV_len, Array.length_toList, a1]
    exact vals_of len fun i v u hv hu => by
      obtain ⟨hi, e⟩ := rangeV_get hv
      obtain ⟨t', e'⟩ := a2 i u (by rw [← Array.getElem?_toList]; exact hu)
      rw [e, e']
      exact ⟨t', by rw [Int.mul_one]⟩
end
end L2

set_option linter.all false
namespace Graph
variable {α : Type} [DecidableEq α]
/-- going up, step by step -/
inductive Reach (ups : α → List α) : α → α → Prop
  | refl (a : α) : Reach ups a a
  | step {a b c : α} : b ∈ ups a → Reach ups b c → Reach ups a c
theorem Reach.trans {ups : α → List α} {a b c : α} (h : Reach ups a b) (k : Reach ups b c) : Reach ups a c := by
  induction h with
  | refl => exact k
  | step m _ ih => exact .step m (ih k)
theorem Reach.one {ups : α → List α} {a b : α} (h : b ∈ ups a) : Reach ups a b := .step h (.refl b)
theorem Reach.snoc {ups : α → List α} {a b c : α} (h : Reach ups a b) (k : c ∈ ups b) : Reach ups a c := h.trans (.one k)
/-- one round of dropping -/
def kept (ups : α → List α) (left : List α) : List α := left.filter fun w => (ups w).any fun u => decide (u ∈ left)
theorem kept_sub {ups : α → List α} {left : List α} {w : α} (h : w ∈ kept ups left) : w ∈ left := (List.mem_filter.mp h).1
theorem kept_le (ups : α → List α) (left : List α) : (kept ups left).length ≤ left.length := List.length_filter_le _ _
theorem filter_all {p : α → Bool} : ∀ {l : List α}, (l.filter p).length = l.length → l.filter p = l
  | [], _ => rfl
  | a :: r, h => by
    have hle := List.length_filter_le p r
    rw [List.filter_cons] at h ⊢
    cases hp : p a with
    | true =>
      rw [hp, if_pos rfl, List.length_cons, List.length_cons] at h
      rw [if_pos rfl, filter_all (by omega)]
    | false =>
      rw [hp, if_neg Bool.false_ne_true, List.length_cons] at h
      omega
theorem min_rank (rk : α → Nat) : ∀ (l : List α), l ≠ [] → ∃ m, m ∈ l ∧ ∀ x ∈ l, rk m ≤ rk x
  | [], h => absurd rfl h
  | a :: r, _ => by
    by_cases hr : r = []
    · subst hr
      exact ⟨a, by simp, fun x hx => by simp at hx; subst hx; exact Nat.le_refl _⟩
    · obtain ⟨m, hm, hx⟩ := min_rank rk r hr
      by_cases hc : rk a ≤ rk m
      · refine ⟨a, by simp, fun x hx' => ?_⟩
        rcases List.mem_cons.mp hx' with e | e
        · subst e; exact Nat.le_refl _
        · exact Nat.le_trans hc (hx x e)
      · refine ⟨m, List.mem_cons_of_mem _ hm, fun x hx' => ?_⟩
        rcases List.mem_cons.mp hx' with e | e
        · subst e; omega
        · exact hx x e
/-- where nothing more is dropped and ranks fall upwards, nothing is left -/
theorem kept_nil {ups : α → List α} {left : List α} {rk : α → Nat} (hr : ∀ a ∈ left, ∀ b ∈ ups a, rk b < rk a) (h : (kept ups left).length = left.length) : left = [] := by
  refine Classical.byContradiction fun hne => ?_
  obtain ⟨m, hm, hx⟩ := min_rank rk left hne
  have e : kept ups left = left := filter_all h
  rw [← e] at hm
  obtain ⟨h1, h2⟩ := List.mem_filter.mp hm
  obtain ⟨u, hu, hd⟩ := List.any_eq_true.mp h2
  have hl : u ∈ left := of_decide_eq_true hd
  have a := hr m h1 u hu
  have b := hx u hl
  omega
/-- a sublist without doubles of a list of n is not longer -/
theorem nodup_le : ∀ {l k : List α}, l.Nodup → (∀ x ∈ l, x ∈ k) → l.length ≤ k.length
  | [], k, _, _ => Nat.zero_le _
  | a :: r, k, hn, hs => by
    obtain ⟨h1, h2⟩ := List.nodup_cons.mp hn
    have ha : a ∈ k := hs a (by simp)
    have := nodup_le (k := k.erase a) h2 fun x hx => (List.mem_erase_of_ne (fun (e : x = a) => h1 (by rw [← e]; exact hx))).mpr (hs x (List.mem_cons_of_mem _ hx))
    rw [List.length_erase_of_mem ha] at this
    have hpos : 0 < k.length := List.length_pos_of_mem ha
    rw [List.length_cons]
    omega
/-- a set that has a and is closed upwards has all that is reached -/
theorem closed_reach {ups : α → List α} {S : α → Prop} (hc : ∀ x, S x → ∀ y ∈ ups x, S y) {a b : α} (h : Reach ups a b) (ha : S a) : S b := by
  induction h with
  | refl => exact ha
  | step m _ ih => exact ih (hc _ ha _ m)
end Graph

set_option Elab.async false
set_option linter.all false
set_option maxRecDepth 100000
set_option maxHeartbeats 4000000
namespace Md
open PySem L2

/-! ### what a word is -/
abbrev letters : Str := "abcdefghijklmnopqrstuvwxyz"
def isLow (c : Nat) : Bool := decide (97 ≤ c ∧ c ≤ 122)
def isWord (x : Str) : Bool := decide (1 ≤ x.length ∧ x.length ≤ 8) && x.cps.toList.all isLow
theorem letters_eq : letters.cps.toList = [97, 98, 99, 100, 101, 102, 103, 104, 105, 106, 107, 108, 109, 110, 111, 112, 113, 114, 115, 116, 117, 118, 119, 120, 121, 122] := by decide +kernel
theorem letters_at {i : Nat} (h : i < 26) : letters.cps.toList[i]? = some (97 + i) := by
  rw [letters_eq]
  have : ∀ i : _root_.Fin 26, ([97, 98, 99, 100, 101, 102, 103, 104, 105, 106, 107, 108, 109, 110, 111, 112, 113, 114, 115, 116, 117, 118, 119, 120, 121, 122] : List Nat)[i.1]? = some (97 + i.1) := by decide
  exact this ⟨i, h⟩
theorem letters_rng : letters.cps.toList = (List.range 26).map (97 + ·) := by rw [letters_eq]; rfl
theorem low_in (c : Nat) : (!(Builtin.Str.occurrences letters ⟨#[c]⟩ 0 letters.length 1).isEmpty) = isLow c := by
  rw [StrLaws.found_one, letters_rng]
  unfold isLow
  rw [decide_eq_decide, List.mem_map]
  constructor
  · rintro ⟨a, ha, rfl⟩
    have := List.mem_range.mp ha
    omega
  · intro h
    exact ⟨c - 97, List.mem_range.mpr (by omega), by omega⟩
theorem str_len (x : Str) : x.cps.toList.length = x.length := by simp [Str.length]
theorem len_one (c : Nat) : (⟨#[c]⟩ : Str).length = 1 := rfl
theorem len_app (x y : Str) : (x ++ y).length = x.length + y.length := by
  show (x.cps ++ y.cps).size = _
  rw [Array.size_append]
  rfl
theorem app_list (x y : Str) : (x ++ y).cps.toList = x.cps.toList ++ y.cps.toList := by
  show (x.cps ++ y.cps).toList = _
  rw [Array.toList_append]
theorem str_ext {x y : Str} (h : x.cps.toList = y.cps.toList) : x = y := by
  cases x; cases y
  congr 1
  exact Array.ext' h
def inLet : V → V
  | .str y => .bl (!(Builtin.Str.occurrences letters y 0 letters.length 1).isEmpty)
  | _ => .non
theorem signs_low (x : Str) : ((signsV x).filter fun _ => true).map inLet = (x.cps.toList.map isLow).map V.bl := by
  rw [List.filter_eq_self.mpr fun _ _ => rfl]
  unfold signsV
  rw [List.map_map, List.map_map]
  refine List.map_congr_left fun c _ => ?_
  show V.bl _ = V.bl _
  rw [low_in]
theorem isWord_iff (x : Str) : isWord x = true ↔ (1 ≤ x.cps.toList.length ∧ x.cps.toList.length ≤ 8) ∧ ∀ c ∈ x.cps.toList, isLow c = true := by
  unfold isWord
  rw [Bool.and_eq_true, decide_eq_true_eq, List.all_eq_true, str_len]
theorem word_len {x : Str} (h : isWord x = true) : 1 ≤ x.length ∧ x.length ≤ 8 := by
  have := ((isWord_iff x).mp h).1
  rwa [str_len] at this
theorem word_ok {x : Str} (h : isWord x = true) : PyData.strOk x = true := by
  unfold PyData.strOk
  rw [Array.all_eq_true']
  intro c hc
  have := ((isWord_iff x).mp h).2 c (by simpa using hc)
  have := of_decide_eq_true this
  exact decide_eq_true (by omega)

/-! ### numbers as letters -/
def lettersF (n : Nat) : List Nat := (97 + n % 26) :: (if h : n / 26 = 0 then [] else lettersF (n / 26))
termination_by n
decreasing_by omega
theorem lettersF_eq (n : Nat) : lettersF n = (97 + n % 26) :: (if n / 26 = 0 then [] else lettersF (n / 26)) := by
  rw [lettersF]
  by_cases h : n / 26 = 0
  · rw [dif_pos h, if_pos h]
  · rw [dif_neg h, if_neg h]
theorem lettersF_len : ∀ (k n : Nat), n < 26 ^ (k + 1) → (lettersF n).length ≤ k + 1
  | 0, n, h => by
    rw [lettersF_eq, if_pos (by have : n < 26 := h; omega)]
    exact Nat.le_refl _
  | k + 1, n, h => by
    rw [lettersF_eq]
    by_cases h0 : n / 26 = 0
    · rw [if_pos h0]; simp
    · rw [if_neg h0, List.length_cons]
      have := lettersF_len k (n / 26) (Nat.div_lt_of_lt_mul (by rw [Nat.pow_succ] at h; omega))
      omega
theorem lettersF_low (n : Nat) : ∀ c ∈ lettersF n, isLow c = true := by
  induction n using Nat.strongRecOn with
  | ind n ih =>
    rw [lettersF_eq]
    intro c hc
    rcases List.mem_cons.mp hc with e | hc
    · rw [e]
      exact decide_eq_true (by omega)
    · by_cases h0 : n / 26 = 0
      · rw [if_pos h0] at hc; cases hc
      · rw [if_neg h0] at hc
        exact ih (n / 26) (by omega) c hc
def valF : List Nat → Nat
  | [] => 0
  | c :: r => (c - 97) + 26 * valF r
theorem lettersF_val (n : Nat) : valF (lettersF n) = n := by
  induction n using Nat.strongRecOn with
  | ind n ih =>
    rw [lettersF_eq]
    unfold valF
    by_cases h0 : n / 26 = 0
    · rw [if_pos h0]
      unfold valF
      omega
    · rw [if_neg h0, ih (n / 26) (by omega)]
      omega
def lettersS (n : Nat) : Str := ⟨(lettersF n).toArray⟩
theorem lettersS_list (n : Nat) : (lettersS n).cps.toList = lettersF n := by simp [lettersS]
theorem lettersS_inj {a b : Nat} (h : lettersS a = lettersS b) : a = b := by
  have := congrArg (fun s : Str => valF s.cps.toList) h
  simpa [lettersS_list, lettersF_val] using this
theorem lettersF_pos (n : Nat) : 1 ≤ (lettersF n).length := by rw [lettersF_eq]; simp
theorem lettersS_word {n : Nat} (h : n < 26 ^ 8) : isWord (lettersS n) = true := by
  rw [isWord_iff, lettersS_list]
  exact ⟨⟨lettersF_pos n, lettersF_len 7 n h⟩, lettersF_low n⟩

/-! ### slices of texts -/
theorem idx_take (j : Int) (n : Nat) (h : 0 ≤ j) : Builtin.Str.strSliceIndices none (some j) 1 n = List.range (min j.toNat n) := by
  unfold Builtin.Str.strSliceIndices sliceRange
  have h1 : ¬ j < 0 := by omega
  simp only [show (1 : Int) > 0 by decide, if_true, if_neg h1]
  have e : (max (0 : Int) (min j (n : Int))) = ((min j.toNat n : Nat) : Int) := by omega
  rw [e]
  have e2 : (if (0 : Int) < ((min j.toNat n : Nat) : Int) then (((min j.toNat n : Nat) : Int) - 0 + 1 - 1) / 1 else 0) = ((min j.toNat n : Nat) : Int) := by
    split
    · rw [Int.ediv_one]; omega
    · omega
  rw [e2, Int.toNat_natCast]
  have : ∀ l : List Nat, l.map (fun (k : Nat) => ((0 : Int) + 1 * (k : Int)).toNat) = l := fun l => by
    conv => rhs; rw [← List.map_id l]
    refine List.map_congr_left fun k _ => ?_
    show _ = k
    omega
  exact this _
theorem filter_range (l : List Nat) : ∀ m, m ≤ l.length → (List.range m).filterMap (fun i => l.toArray[i]?) = l.take m
  | 0, _ => by simp
  | m + 1, h => by
    rw [List.range_succ, List.filterMap_append, filter_range l m (by omega), List.take_add_one]
    have : m < l.length := h
    simp [this]
theorem slice_take (x : Str) (j : Int) (h : 0 ≤ j) : (Txt.slice x none (some j)).cps.toList = x.cps.toList.take j.toNat := by
  unfold Txt.slice
  rw [idx_take j x.length h]
  have hl := str_len x
  split
  · rename_i hc
    have : min j.toNat x.length = x.length := by simpa using hc
    rw [List.take_of_length_le (by omega)]
  · have q := filter_range x.cps.toList (min j.toNat x.length) (by omega)
    have e : x.cps.toList.toArray = x.cps := by simp
    rw [e] at q
    show ((List.range (min j.toNat x.length)).filterMap (x.cps[·]?)).toArray.toList = _
    rw [List.toList_toArray, q]
    by_cases hj : j.toNat ≤ x.length
    · rw [Nat.min_eq_left hj]
    · rw [Nat.min_eq_right (by omega), List.take_of_length_le (by omega), List.take_of_length_le (by omega)]

/-! ### the draws -/
def PotO (o : HO) : Prop := ∃ r b : Int, o = .lst [.int r, .int b] ∧ 0 ≤ r ∧ r < 10 ^ 256 ∧ 0 ≤ b ∧ b < 2147483647
/-- behind draws from the pot at p: all else is kept -/
structure Drawn (p : Addr) (H H' : Hp) : Prop where
  keep : ∀ b o, b ≠ p → H b = some o → H' b = some o
  pot : ∃ o, H' p = some o ∧ PotO o
theorem Drawn.refl {p : Addr} {H : Hp} (h : ∃ o, H p = some o ∧ PotO o) : Drawn p H H := ⟨fun _ _ _ e => e, h⟩
theorem Drawn.trans {p : Addr} {H H1 H2 : Hp} (a : Drawn p H H1) (b : Drawn p H1 H2) : Drawn p H H2 := ⟨fun c o hc e => b.keep c o hc (a.keep c o hc e), b.pot⟩
theorem Drawn.upd {p : Addr} {H : Hp} {o : HO} (h : PotO o) : Drawn p H (L2.upd H p o) := ⟨fun b u hb e => by rw [upd_ne hb]; exact e, _, upd_same, h⟩
theorem Drawn.new {p q : Addr} {H H' : Hp} {o : HO} (d : Drawn p H H') (hq : H' q = none) : Drawn p H (L2.upd H' q o) :=
  ⟨fun b u hb e => by rw [upd_ne (ne_of_none (d.keep b u hb e) hq)]; exact d.keep b u hb e, by
    obtain ⟨u, h1, h2⟩ := d.pot
    exact ⟨u, by rw [upd_ne (ne_of_none h1 hq)]; exact h1, h2⟩⟩
theorem Drawn.same {p : Addr} {H H1 H2 : Hp} (d : Drawn p H H1) (s : Same H1 H2) : Drawn p H H2 :=
  ⟨fun b u hb e => s _ _ (d.keep b u hb e), by obtain ⟨u, h1, h2⟩ := d.pot; exact ⟨u, s _ _ h1, h2⟩⟩
theorem Drawn.sub {p q : Addr} {H H1 H2 : Hp} {o' : HO} (d : Drawn p H H1) (k : ∀ b o, b ≠ q → H1 b = some o → H2 b = some o) (hq : H q = none) (hp : p ≠ q) : Drawn p H H2 :=
  ⟨fun b u hb e => k _ _ (ne_of_none e hq) (d.keep b u hb e), by obtain ⟨u, h1, h2⟩ := d.pot; exact ⟨u, k _ _ hp h1, h2⟩⟩

theorem _root_.L2.SqL.mono_new {K : PySem.W.Frag} {H : Hp} {a q : Addr} {xs : List V} {o : HO} (h : SqL K H a xs) (hq : H q = none) : SqL K (L2.upd H q o) a xs :=
  Same.seq (fun b u e => by rw [upd_ne (ne_of_none e hq)]; exact e) h
theorem small_lt {n : Nat} (h : n ≤ 100000) : n < sizeLine := by rw [sizeLine_eq]; omega
/-! ### a row of written texts -/
def strsOf : List Expr → Option (List Str)
  | [] => some []
  | .Constant (.str x) _ _ :: r => (strsOf r).map (x :: ·)
  | _ => none
theorem pa_strsOf {X : Cx} : ∀ {es : List Expr} {ws : List Str}, strsOf es = some ws → PA X es (fun _ H Q => Q (ws.map V.str) H) := by
  intro es
  induction es with
  | nil =>
    intro ws h
    have e : ws = [] := (Option.some.inj h).symm
    subst e
    exact pa_nil
  | cons e r ih =>
    intro ws h
    cases e with
    | Constant c j p =>
      cases c with
      | str x =>
        have h' : (strsOf r).map (x :: ·) = some ws := h
        obtain ⟨vs, h1, h2⟩ := Option.map_eq_some_iff.mp h'
        subst h2
        exact pa_cons pe_str (ih h1) rfl
      | _ => exact nomatch (show (none : Option (List Str)) = some ws from h)
    | _ => exact nomatch (show (none : Option (List Str)) = some ws from h)
/-! ### texts in lists -/
theorem in_strs (x : Str) : ∀ ws : List Str, inV (.str x) (ws.map V.str) = decide (x ∈ ws)
  | [] => rfl
  | w :: r => by
    have ih := in_strs x r
    unfold inV at ih ⊢
    rw [List.map_cons, List.any_cons, ih]
    show ((w == x) || decide (x ∈ r)) = decide (x ∈ w :: r)
    rw [Bool.eq_iff_iff]
    simp only [Bool.or_eq_true, beq_iff_eq, decide_eq_true_eq, List.mem_cons]
    constructor
    · rintro (h | h)
      · exact .inl h.symm
      · exact .inr h
    · rintro (h | h)
      · exact .inl h.symm
      · exact .inr h
theorem flat_strs (ws : List Str) : (ws.map V.str).all flatV = true := by
  rw [List.all_eq_true]
  intro v hv
  obtain ⟨w, _, e⟩ := List.mem_map.mp hv
  rw [← e]
  rfl
theorem reps_strs {K : PySem.W.Frag} {H : Hp} : ∀ ws : List Str, Reps K H (ws.map V.str) (ws.map PySem.W.Dat.str)
  | [] => .nil
  | w :: r => .cons (.str w) (reps_strs r)
end Md

set_option Elab.async false
set_option linter.all false
set_option maxRecDepth 100000
set_option maxHeartbeats 4000000
namespace Md
open PySem L2
/-! ### rows of a book of kinds -/
abbrev Row := Str × List Str
def RowV (H : Hp) (r : Str × List Str) (v : V) : Prop := ∃ t u, v = .ref t ∧ H t = some (.tup [.str r.1, .ref u]) ∧ H u = some (.tup (r.2.map V.str))
def RowsAt (H : Hp) (l : Addr) (rows : List (Str × List Str)) : Prop := ∃ vs, H l = some (.lst vs) ∧ Paired (RowV H) rows vs
structure Good (rows : List (Str × List Str)) : Prop where
  ne : 1 ≤ rows.length
  le : rows.length ≤ 24
  word : ∀ r ∈ rows, isWord r.1 = true
  nd : (rows.map (·.1)).Nodup
  few : ∀ r ∈ rows, r.2.length ≤ 8
  known : ∀ r ∈ rows, ∀ u ∈ r.2, u ∈ rows.map (·.1)
  upnd : ∀ r ∈ rows, r.2.Nodup
  rank : ∃ rk : Str → Nat, ∀ r ∈ rows, ∀ u ∈ r.2, rk u < rk r.1
/-- rows by places: ws the words, uf the places of the ups, os the order -/
def rowsOf (ws : List Str) (uf : List (List Nat)) (os : List Nat) : List (Str × List Str) := os.map fun j => (ws.getD j "", (uf.getD j []).map fun i => ws.getD i "")
theorem good_of {ws : List Str} {uf : List (List Nat)} {os : List Nat} {m : Nat} (hm0 : 1 ≤ m) (hm : m ≤ 24) (hw : ∀ x ∈ ws, isWord x = true) (hn : ws.Nodup) (hl : ws.length = m) (hu : ∀ (k : Nat) (js : List Nat), uf[k]? = some js → (∀ j ∈ js, j < k) ∧ js.Nodup ∧ js.length ≤ 8) (hul : uf.length = m)
    (on : os.Nodup) (om : ∀ j, j ∈ os ↔ j < m) (ol : os.length = m) : Good (rowsOf ws uf os) := by
  have at_ : ∀ {j : Nat}, j < m → ws.getD j "" ∈ ws ∧ ws[j]? = some (ws.getD j "") := fun {j} h => by
    have hj : j < ws.length := by omega
    rw [List.getD_eq_getElem?_getD, List.getElem?_eq_getElem hj]
    exact ⟨List.getElem_mem hj, rfl⟩
  have inj : ∀ {i j : Nat}, i < m → j < m → ws.getD i "" = ws.getD j "" → i = j := fun {i j} hi hj e => by
    have a := (at_ hi).2
    have b := (at_ hj).2
    rw [e] at a
    exact nodup_ix hn a b
  have ups : ∀ {j : Nat}, j < m → ∃ js, uf.getD j [] = js ∧ (∀ i ∈ js, i < j) ∧ js.Nodup ∧ js.length ≤ 8 := fun {j} h => by
    have hj : j < uf.length := by omega
    have e : uf[j]? = some (uf.getD j []) := by rw [List.getD_eq_getElem?_getD, List.getElem?_eq_getElem hj]; rfl
    exact ⟨_, rfl, hu j _ e⟩
  have mem : ∀ {r : Str × List Str}, r ∈ rowsOf ws uf os → ∃ j, j < m ∧ r = (ws.getD j "", (uf.getD j []).map fun i => ws.getD i "") := fun {r} h => by
    obtain ⟨j, hj, e⟩ := List.mem_map.mp h
    exact ⟨j, (om j).mp hj, e.symm⟩
  have words : (rowsOf ws uf os).map (·.1) = os.map fun j => ws.getD j "" := by
    unfold rowsOf
    rw [List.map_map]
    rfl
  refine ⟨by unfold rowsOf; rw [List.length_map]; omega, by unfold rowsOf; rw [List.length_map]; omega, fun r hr => ?_, ?_, fun r hr => ?_, fun r hr u hu' => ?_, fun r hr => ?_, fun x => ws.idxOf x, fun r hr u hu' => ?_⟩
  · obtain ⟨j, hj, rfl⟩ := mem hr
    exact hw _ (at_ hj).1
  · rw [words, List.nodup_iff_pairwise_ne, List.pairwise_map]
    refine (List.nodup_iff_pairwise_ne.mp on).imp_of_mem fun {a b} ha hb h e => h (inj ((om a).mp ha) ((om b).mp hb) e)
  · obtain ⟨j, hj, rfl⟩ := mem hr
    obtain ⟨js, e, _, _, h8⟩ := ups hj
    show ((uf.getD j []).map fun i => ws.getD i "").length ≤ 8
    rw [List.length_map, e]
    exact h8
  · obtain ⟨j, hj, rfl⟩ := mem hr
    obtain ⟨i, hi, e⟩ := List.mem_map.mp hu'
    obtain ⟨js, e', hb, _⟩ := ups hj
    rw [e'] at hi
    have hij := hb i hi
    rw [words]
    exact List.mem_map.mpr ⟨i, (om i).mpr (by omega), e⟩
  · obtain ⟨j, hj, rfl⟩ := mem hr
    obtain ⟨js, e', hb, hnd, _⟩ := ups hj
    show ((uf.getD j []).map fun i => ws.getD i "").Nodup
    rw [e', List.nodup_iff_pairwise_ne, List.pairwise_map]
    refine (List.nodup_iff_pairwise_ne.mp hnd).imp_of_mem fun {a b} ha hb' h e => h (inj (by have := hb a ha; omega) (by have := hb b hb'; omega) e)
  · obtain ⟨j, hj, rfl⟩ := mem hr
    obtain ⟨i, hi, e⟩ := List.mem_map.mp hu'
    obtain ⟨js, e', hb, _⟩ := ups hj
    rw [e'] at hi
    have hij := hb i hi
    have ix : ∀ {j : Nat}, j < m → ws.idxOf (ws.getD j "") = j := fun {j} h => by
      have a := (at_ h).1
      have lt : ws.idxOf (ws.getD j "") < ws.length := List.idxOf_lt_length_iff.mpr a
      have g : ws[ws.idxOf (ws.getD j "")]? = some (ws.getD j "") := by rw [List.getElem?_eq_getElem lt, List.getElem_idxOf lt]
      exact nodup_ix hn g (at_ h).2
    show ws.idxOf u < ws.idxOf (ws.getD j "")
    rw [← e, ix hj, ix (by omega)]
    exact hij
end Md

set_option Elab.async false
set_option linter.all false
set_option maxRecDepth 100000
set_option maxHeartbeats 4000000
namespace L2
open PySem PySem.Spec PyProof.Rows
section
variable {X : Cx} {tg : Expr}
/-- a list (b) or a tuple -/
def SqB (K : PySem.W.Frag) (b : Bool) (H : Hp) (a : Addr) (xs : List V) : Prop := if b = true then SqL K H a xs else SqT K H a xs
theorem SqB.mono {K : PySem.W.Frag} {b : Bool} {H H' : Hp} {a : Addr} {xs : List V} (h : SqB K b H a xs) (s : Same H H') : SqB K b H' a xs := by
  cases b with
  | true => exact s.seq (show SqL K H a xs from h)
  | false => exact s.tup (show SqT K H a xs from h)
def Itq (K : PySem.W.Frag) (b : Bool) (a : Addr) (xs : List V) : It := ⟨fun i H => i < xs.length ∧ SqB K b H a xs, fun i H x H' => H' = H ∧ xs[i]? = some x, fun i H => xs.length ≤ i ∧ SqB K b H a xs⟩
theorem runs_seq {K : PySem.W.Frag} {b : Bool} {a : Addr} {xs : List V} : Runs (Itq K b a xs) xs (fun H => SqB K b H a xs) where
  go := fun i x H ok hx => ⟨(List.getElem?_eq_some_iff.mp hx).1, ok⟩
  yld := fun i x H y H' ok hx h => by
    obtain ⟨e, h⟩ := h
    rw [hx] at h
    exact ⟨(Option.some.inj h).symm, e⟩
  stop := fun H ok => ⟨Nat.le_refl _, ok⟩
theorem Turn.imp {P : Program} {w : World} {K : PySem.W.Frag} {tg : Expr} {J J' : It} {fp : List Addr} {it : Addr} {tn : Nat → Heap → Prop} (T : Turn P w K tg J fp it tn) (hgo : ∀ i H, J'.go i H → J.go i H)
    (hy : ∀ i H x H', J'.go i H → J.yld i H x H' → J'.yld i H x H') (hs : ∀ i H, J'.stop i H → J.stop i H) : Turn P w K tg J' fp it tn where
  mem := T.mem
  obj := T.obj
  keep := T.keep
  item := fun X h1 h2 h3 h4 i pins s σ H E I hf st g => thn (T.item X h1 h2 h3 h4 i pins s σ H E I hf st (hgo i H g)) fun r s1 ⟨u, e, h⟩ => ⟨u, e, thn h fun _ s2 ⟨x, H', I', r', y, t, f⟩ => ⟨x, H', I', r', hy i H x H' g y, t, f⟩⟩
  done := fun X h1 h2 h3 h4 i pins s σ H E I hf st g => T.done X h1 h2 h3 h4 i pins s σ H E I hf st (hs i H g)
  self := T.self
def iSeq (K : PySem.W.Frag) (tl : TE) : TI := fun σ H R => tl σ H fun x H1 => ∃ b a xs, x = .ref a ∧ SqB K b H1 a xs ∧ R (Itq K b a xs) H1
theorem pi_seq {l : Expr} {tl : TE} (hl : PE X l tl) : PI X tg l (iSeq X.K tl) := by
  intro pins s σ H R I h
  refine thn (hl pins s σ H _ I h) fun v s1 ⟨x, H1, I1, r1, q1⟩ => ?_
  obtain ⟨b, a, xs, e, hq, q⟩ := q1
  subst e
  cases r1
  have fp : ∀ b ∈ [s1.heap.objs.size], FpOk X pins H1 b := fun b hb => by
    have e : b = s1.heap.objs.size := by simpa using hb
    subst e
    exact I1.fpOk (Nat.le_refl _) (I1.hok.fresh (Nat.le_refl _))
  have get : ∀ {i : Nat} {ys : List V}, i < ys.length → ∃ y, ys[i]? = some y := fun {i ys} h => ⟨ys[i], by simp [h]⟩
  cases b with
  | true =>
    have hq : SqL X.K H1 a xs := hq
    obtain ⟨its, rv, p, hz⟩ := I1.list hq
    refine wpAny_pyIter_list p.isList ?_
    refine ⟨s1.heap.objs.size, [s1.heap.objs.size], _, Itq X.K true a xs, H1, rfl, I1.kept (t' := s1.toks) fun b o e => Heap.get?_push_of_some _ e, (turn_list a _).imp (fun i H g => ?_) (fun i H x H' g y => ⟨y.1, y.2 xs g.2⟩) (fun i H g => ⟨xs, g.2, g.1⟩), ⟨_, Heap.get?_push_size _ rfl, rfl, rfl⟩, fp, q⟩
    obtain ⟨y, hy⟩ := get g.1
    exact ⟨xs, y, g.2, hy⟩
  | false =>
    have hq : SqT X.K H1 a xs := hq
    obtain ⟨its, rv, p, hz⟩ := I1.tuple hq
    refine wpAny_pyIter_tuple (show s1.heap.IsTuple a its.toArray from p) ?_
    refine ⟨s1.heap.objs.size, [s1.heap.objs.size], _, Itq X.K false a xs, H1, rfl, I1.kept (t' := s1.toks) fun b o e => Heap.get?_push_of_some _ e, (turn_tuple a _).imp (fun i H g => ?_) (fun i H x H' g y => ⟨y.1, y.2 xs g.2⟩) (fun i H g => ⟨xs, g.2, g.1⟩), ⟨_, Heap.get?_push_size _ rfl, rfl, rfl⟩, fp, q⟩
    obtain ⟨y, hy⟩ := get g.1
    exact ⟨xs, y, g.2, hy⟩
/-- d.values() of a dict that is written no more -/
def iVals (to : TE) : TI := fun σ H R => to σ H fun x H1 => ∃ a ob kvs, x = .ref a ∧ H1 a = some (.frz ob (.dK kvs)) ∧ R (Itv a ob kvs) H1
theorem pi_vals {o : Expr} {to : TE} {apos cpos : Pos} (ho : PE X o to) (hbase : attributeBase o "values" X.env (eval o X.env) = eval o X.env := by rfl) (hline : (apos.endLine == cpos.line) = true := by rfl) :
    PI X tg (.Call (.Attribute o "values" apos) [] [] cpos) (iVals to) := by
  intro pins s σ H R I h
  refine wpAny_Call_method0_late hbase hline (thn (ho pins s σ H _ I h) fun v s1 ⟨x, H1, I1, r1, q1⟩ => ?_)
  obtain ⟨a, ob, kvs, e, ha, q⟩ := q1
  subst e
  obtain rfl : v = Value.ref a := r1
  obtain ⟨t1, t2, t3⟩ := isD_at I1 (.inl ⟨kvs, .inr ⟨ob, ha⟩⟩)
  obtain ⟨es, ep, hd⟩ := frz_data (I1.hok a _ ha)
  obtain ⟨hs, vs, r, dd⟩ := frz_dict (I1.hok a _ ha) hd
  have hl : kvs.length = vs.length := Paired.length r
  refine ⟨"dict", "dict.values", PySem.F.plainAttrs_dict, PySem.F.slot_dict_values, PySem.F.type_dict_values, t1, t2, Calls.callWith_builtin rfl (PySem.evalArgs_none ?_)⟩
  refine call_meetsIn PySem.F.slot_dict_values t1 PySem.F.entry_dict_values (PySem.F.args_dict_values_1 _) (meets_dict_values (mixKind X.prog X.w) a t3) ⟨⟨vs, dd.dictOf⟩, ?_⟩
  have I2 : Inv X pins σ H1 { s1 with heap := s1.heap.push { cls := .type "dict_values", data := .fields #[.ref a] } } := I1.kept (t' := s1.toks) fun b o e => Heap.get?_push_of_some _ e
  refine wpAny_pyIter_values (kvs := vs) (ep := ep) (knd := mixKind X.prog X.w) ⟨_, Heap.get?_push_size _ rfl, rfl, rfl⟩ (dd.at' fun o e => Heap.get?_push_of_some _ e) ?_
  refine ⟨_, [_], _, _, H1, rfl, I2.kept (t' := s1.toks) fun b o e => Heap.get?_push_of_some _ e, turn_vals a _ ob kvs es ep hd, ⟨_, Heap.get?_push_size _ rfl, rfl, by rw [hl]; rfl⟩, fun b hb => ?_, q⟩
  have e : b = _ := List.mem_singleton.mp hb
  subst e
  exact I2.fpOk (Nat.le_refl _) (I2.hok.fresh (Nat.le_refl _))
/-- list(d): its keys -/
theorem call_list_keys (hc : X.calm = true) : CallR X (.type "list") (fun xs H Q => ∃ a kvs, xs = [.ref a] ∧ Rd H a (.dK kvs) ∧ ∀ l, H l = none → Q (.ref l) (upd H l (.lst (kvs.map fun p => kV p.1)))) := by
  intro pins s σ H xs us Q I r h
  obtain ⟨a, kvs, rfl, ha, q⟩ := h
  obtain ⟨u, rfl, ru⟩ := vals1 r
  cases ru
  obtain ⟨hz, hs, vs, rv, o, es, ep, h1, h2, h3, h4, h5, h6⟩ := dk_rd I.hok ha
  have hl : kvs.length = vs.length := Paired.length rv
  have dd : s.heap.DictAt (mixKind X.prog X.w) a vs ep := ⟨o, es, h1, h2, h3, h4, h5, h6⟩
  refine PySem.W.kdl_call (PySem.W.kdl_dict (knd := mixKind X.prog X.w) (kvs := vs) (ep := ep) hs) (I.ok.hd hc) dd (by rw [← hl]; exact hz) fun h' tk acc' c' hk hS' hacc => ?_
  obtain ⟨a1, a2⟩ := hacc
  refine ⟨.ref _, _, I.laid (o := .lst (kvs.map fun p => kV p.1)) hk (Nat.le_refl _) ⟨by rw [List.length_map]; exact hz, acc'.toList, c', ?_, by simpa using hS'⟩, rfl, q _ (I.hok.fresh (Nat.le_refl _))⟩
  refine vals_of (by have z : acc'.toList.length = acc'.size := Array.length_toList; rw [List.length_map]; omega) fun i v u hv hu => ?_
  rw [List.getElem?_map] at hv
  obtain ⟨p, hp, e⟩ := Option.map_eq_some_iff.mp hv
  obtain ⟨w', hw, _⟩ := rv.get hp
  obtain ⟨k, x, hk1, hk2⟩ := a2 i u (by rw [← Array.getElem?_toList]; exact hu)
  rw [hw] at hk1
  injection hk1 with hk1
  injection hk1 with hk1 _
  rw [← e, hk1]
  exact relKey hk2
theorem DGet.f {H : Hp} {a : Addr} {o : Obj} {kvs : List (Key × V)} {k : Key} (e : H a = some (.frz o (.dK kvs))) : DGet H a (kV k) (valV kvs k) := .inl ⟨kvs, k, .inr ⟨o, e⟩, rfl, rfl⟩
end
end L2

set_option Elab.async false
set_option linter.all false
set_option maxRecDepth 100000
set_option maxHeartbeats 4000000
namespace Md
open PySem L2
/-! ### rows as they are handed in: lists or tuples -/
def UpsG (K : PySem.W.Frag) (H : Hp) (u : Addr) (us : List Str) : Prop := H u = some (.tup (us.map V.str)) ∨ SqL K H u (us.map V.str)
theorem UpsG.sq {K : PySem.W.Frag} {H : Hp} {u : Addr} {us : List Str} (h : UpsG K H u us) : ∃ b, SqB K b H u (us.map V.str) := by
  rcases h with h | h
  · exact ⟨false, SqT.of h⟩
  · exact ⟨true, h⟩
def RowG (K : PySem.W.Frag) (H : Hp) (r : Str × List Str) (v : V) : Prop := ∃ t u, v = .ref t ∧ SqT K H t [.str r.1, .ref u] ∧ UpsG K H u r.2
def RowsG (K : PySem.W.Frag) (H : Hp) (l : Addr) (rows : List (Str × List Str)) : Prop := ∃ b vs, SqB K b H l vs ∧ Paired (RowG K H) rows vs
theorem RowsAt.g {K : PySem.W.Frag} {H : Hp} {l : Addr} {rows : List (Str × List Str)} (h : RowsAt H l rows) : RowsG K H l rows := by
  obtain ⟨vs, a, p⟩ := h
  refine ⟨true, vs, SqL.of a, Paired.mapP p fun r v z => ?_⟩
  obtain ⟨t, u, e, h1, h2⟩ := z
  exact ⟨t, u, e, SqT.of h1, .inl h2⟩
theorem paired_at {α β : Type} {F : α → β → Prop} : ∀ {l : List α} {k : List β}, Paired F l k → ∀ {i : Nat} {b : β}, k[i]? = some b → ∃ a, l[i]? = some a ∧ F a b
  | _, _, .nil, i, b, h => by simp at h
  | _, _, .cons r t, 0, b, h => by simp at h; subst h; exact ⟨_, rfl, r⟩
  | _, _, .cons r t, i + 1, b, h => by
    obtain ⟨a, h1, h2⟩ := paired_at t (i := i) (b := b) (by simpa using h)
    exact ⟨a, by simpa using h1, h2⟩
/-! ### dicts keyed by words -/
theorem valV_none {kvs : List (Key × V)} {k : Key} (h : k ∉ kvs.map (·.1)) : valV kvs k = none := by
  cases e : valV kvs k with
  | none => rfl
  | some v => exact absurd (valV_in e) h
theorem putK_keys {kvs : List (Key × V)} {k : Key} {v : V} (h : k ∉ kvs.map (·.1)) : (putK kvs k v).map (·.1) = kvs.map (·.1) ++ [k] := by
  rw [putK_new v (valV_none h), List.map_append]
  rfl
theorem taken_not {rows : List (Str × List Str)} {i : Nat} {r : Str × List Str} (nd : (rows.map (·.1)).Nodup) (h : rows[i]? = some r) : (Sum.inr r.1 : Key) ∉ (rows.take i).map fun r => (Sum.inr r.1 : Key) := by
  intro m
  obtain ⟨q, hq, e⟩ := List.mem_map.mp m
  have e : q.1 = r.1 := by injection e
  obtain ⟨j, hj, ej⟩ := List.mem_iff_getElem.mp hq
  rw [List.length_take] at hj
  have hj2 : rows[j]? = some q := by
    rw [List.getElem_take] at ej
    rw [List.getElem?_eq_getElem (by omega), ej]
  have a : (rows.map (·.1))[j]? = some r.1 := by rw [List.getElem?_map, hj2, ← e]; rfl
  have b : (rows.map (·.1))[i]? = some r.1 := by rw [List.getElem?_map, h]; rfl
  have := nodup_ix nd a b
  omega
/-- the dict of the ups -/
def UpsD (H : Hp) (rows : List (Str × List Str)) (kvs : List (Key × V)) : Prop := Paired (fun r (p : Key × V) => p.1 = Sum.inr r.1 ∧ ∃ t, p.2 = .ref t ∧ H t = some (.tup (r.2.map V.str))) rows kvs
theorem UpsD.mono {H H' : Hp} {rows : List (Str × List Str)} {kvs : List (Key × V)} (h : UpsD H rows kvs) (s : ∀ b xs, H b = some (.tup xs) → H' b = some (.tup xs)) : UpsD H' rows kvs :=
  Paired.mapP h fun _ _ z => ⟨z.1, let ⟨t, e, x⟩ := z.2; ⟨t, e, s _ _ x⟩⟩
theorem UpsD.keys : ∀ {H : Hp} {rows : List (Str × List Str)} {kvs : List (Key × V)}, UpsD H rows kvs → kvs.map (·.1) = rows.map fun r => (Sum.inr r.1 : Key)
  | _, _, _, .nil => rfl
  | _, _, _, .cons r t => by rw [List.map_cons, List.map_cons, r.1, UpsD.keys t]
def upsOf (rows : List (Str × List Str)) (x : Str) : List Str := (rows.lookup x).getD []
theorem upsOf_at {rows : List (Str × List Str)} (nd : (rows.map (·.1)).Nodup) {r : Str × List Str} (h : r ∈ rows) : upsOf rows r.1 = r.2 := by
  unfold upsOf
  induction rows with
  | nil => cases h
  | cons q rs ih =>
    have nd' : (q.1 :: rs.map (·.1)).Nodup := nd
    obtain ⟨n1, n2⟩ := List.nodup_cons.mp nd'
    obtain ⟨a, b⟩ := q
    rw [List.lookup_cons]
    rcases List.mem_cons.mp h with e | h
    · subst e
      simp
    · have ne : (r.1 == a) = false := by
        rw [beq_eq_false_iff_ne]
        intro e
        exact n1 (List.mem_map.mpr ⟨r, h, e⟩)
      rw [ne]
      exact ih n2 h
theorem UpsD.val : ∀ {H : Hp} {rows : List (Str × List Str)} {kvs : List (Key × V)}, UpsD H rows kvs → (rows.map (·.1)).Nodup → ∀ {r : Str × List Str}, r ∈ rows → ∃ t, valV kvs (Sum.inr r.1) = some (.ref t) ∧ H t = some (.tup (r.2.map V.str))
  | _, _, _, .nil, _, r, h => nomatch h
  | _, q :: rs, p :: ps, .cons z t, nd, r, h => by
    have nd' : (q.1 :: rs.map (·.1)).Nodup := nd
    obtain ⟨n1, n2⟩ := List.nodup_cons.mp nd'
    obtain ⟨z1, u, z2, z3⟩ := z
    rcases List.mem_cons.mp h with e | h
    · subst e
      exact ⟨u, by rw [valV_pos z1, z2], z3⟩
    · have ne : ¬ p.1 = (Sum.inr r.1 : Key) := fun e => n1 (by
        rw [z1] at e
        have e' : q.1 = r.1 := by injection e
        rw [e']
        exact List.mem_map.mpr ⟨r, h, rfl⟩)
      obtain ⟨u', h1, h2⟩ := UpsD.val t n2 h
      exact ⟨u', by rw [valV_neg ne]; exact h1, h2⟩
theorem keysV {H : Hp} {rows : List (Str × List Str)} {kvs : List (Key × V)} (h : UpsD H rows kvs) : (kvs.map fun p => kV p.1) = (rows.map (·.1)).map V.str := by
  have e : (kvs.map fun p => kV p.1) = (kvs.map (·.1)).map kV := by rw [List.map_map]; rfl
  rw [e, h.keys, List.map_map, List.map_map]
  rfl
end Md

set_option Elab.async false
set_option linter.all false
set_option maxRecDepth 100000
set_option maxHeartbeats 4000000
namespace L2
open PySem PySem.Spec PyProof.Rows
section
variable {X : Cx} {pins : List (Addr × Obj)} {σ : St} {H H' : Hp} {s : Shared} {h' : Heap}
end
end L2

set_option Elab.async false
set_option linter.all false
set_option maxRecDepth 100000
set_option maxHeartbeats 4000000
namespace L2
open PySem PySem.Spec PyProof.Rows
section
variable {X : Cx}
/-- t[lo:hi] where that is the whole: t itself -/
def rSlW (K : PySem.W.Frag) : V → Option Int → Option Int → Hp → VK → Prop := fun x lo hi H Q => ∃ a xs, x = .ref a ∧ SqT K H a xs ∧
  ((¬ (HT.sIx xs.length 0 lo = 0 ∧ HT.sIx xs.length xs.length hi = xs.length) ∧ ∀ p, H p = none → Q (.ref p) (upd H p (.tup (cutV xs lo hi)))) ∨
   ((HT.sIx xs.length 0 lo = 0 ∧ HT.sIx xs.length xs.length hi = xs.length) ∧ Q (.ref a) H))
/-- t + u, whatever is empty -/
def rCatA (K : PySem.W.Frag) : R2 := fun x y H Q => ∃ a b xs ys, x = .ref a ∧ y = .ref b ∧ SqT K H a xs ∧ SqT K H b ys ∧ xs.length + ys.length ≤ sizeLine ∧
  (xs = [] → Q (.ref b) H) ∧ (xs ≠ [] → ys = [] → Q (.ref a) H) ∧ (xs ≠ [] → ys ≠ [] → ∀ p, H p = none → Q (.ref p) (upd H p (.tup (xs ++ ys))))
theorem op_catA : OpR X (binaryOp .Add) (rCatA X.K) := by
  intro pins s σ H x y v u Q I rx ry h
  obtain ⟨a, b, xs, ys, rfl, rfl, ha, hb, hz, q0, q1, q2⟩ := h
  by_cases hx : xs = []
  · cases rx
    cases ry
    obtain ⟨its, r1, p1, _⟩ := I.tuple ha
    obtain ⟨its2, r2, p2, _⟩ := I.tuple hb
    have e : its = [] := r1.nil_iff.mpr hx
    obtain ⟨⟨cls, dd, data, sl⟩, ho, hc, n, hd⟩ := id p1
    obtain ⟨⟨cls2, dd2, data2, sl2⟩, ho2, hc2, n2, hd2⟩ := id p2
    simp only at hc hd hc2 hd2
    subst hc hd hc2 hd2
    exact concat_meets ⟨_, ho, rfl⟩ ⟨_, ho2, rfl⟩ noFill_tuple_add seq_tuple_add PySem.F.slot_tuple_add PySem.F.entry_tuple_add (PySem.F.args_tuple_add_2 _ _)
      (tuple_addW0 a b its.toArray its2.toArray n n2 dd dd2 sl sl2 (by simp [e])) ⟨ho, ho2, ⟨.ref b, H, I, rfl, q0 hx⟩⟩
  · exact op_catT pins s σ H _ _ v u Q I rx ry ⟨a, b, xs, ys, rfl, rfl, ha, hb, hx, hz, q1 hx, q2 hx⟩
end
/-! ### a new object beside an iterator's turn -/
section
variable {X : Cx} {pins : List (Addr × Obj)} {σ : St} {H : Hp} {s : Shared} {h' : Heap}
end
/-! ### for k, v in d.items() over a dict that is written no more -/
def Iti (a : Addr) (o : Obj) (kvs : List (Key × V)) : It :=
  ⟨fun i H => i < kvs.length ∧ H a = some (.frz o (.dK kvs)), fun i H v H' => ∃ t p, kvs[i]? = some p ∧ H t = none ∧ v = .ref t ∧ H' = upd H t (.tup [kV p.1, p.2]), fun i H => kvs.length ≤ i ∧ H a = some (.frz o (.dK kvs))⟩
end L2
namespace L2
open PySem PySem.Spec PyProof.Rows
section
variable {X : Cx}
def iItems (to : TE) : TI := fun σ H R => to σ H fun x H1 => ∃ a ob kvs, x = .ref a ∧ H1 a = some (.frz ob (.dK kvs)) ∧ R (Iti a ob kvs) H1
end
end L2

set_option Elab.async false
set_option linter.all false
set_option maxRecDepth 100000
set_option maxHeartbeats 4000000
namespace L2
open PySem PySem.Spec PyProof.Rows
section
variable {X : Cx}
end
end L2

set_option Elab.async false
set_option linter.all false
set_option maxRecDepth 100000
set_option maxHeartbeats 4000000
/-! ### zip of two tuples -/
namespace L2
open PySem PySem.Spec PyProof.Rows
section
variable {prog : Program} {w : World} {A : Around} {E : Value → Shared → Prop} {s : Shared}
/-- where a zip's parts lie -/
structure ZAt (h : Heap) (z ti to i1 i2 l1 l2 : Addr) (k : Nat) (f : Value) : Prop where
  z : IsZip h z ti to f
  ti : IsPair h ti (.ref i1) (.ref i2)
  to : ∃ a b, IsPair h to a b
  i1 : h.IsTupleIter i1 l1 k
  i2 : h.IsTupleIter i2 l2 k
end
end L2

set_option Elab.async false
set_option linter.all false
set_option maxRecDepth 100000
set_option maxHeartbeats 4000000
namespace L2
open PySem PySem.Spec PyProof.Rows
/-! ### what gives pairs, each turn a new tuple -/
def Itp (ps : List (V × V)) (Ok : Hp → Prop) : It :=
  ⟨fun i H => i < ps.length ∧ Ok H, fun i H v H' => ∃ t p, ps[i]? = some p ∧ H t = none ∧ v = .ref t ∧ H' = upd H t (.tup [p.1, p.2]), fun i H => ps.length ≤ i ∧ Ok H⟩
section
variable {prog : Program} {w : World} {A : Around} {E : Value → Shared → Prop} {s : Shared}
abbrev zg1 (h : Heap) (l1 : Addr) : Heap := h.push { cls := .type "tuple_iterator", data := .fields #[.ref l1, .int 0 0] }
abbrev zg2 (h : Heap) (l1 l2 : Addr) : Heap := (zg1 h l1).push { cls := .type "tuple_iterator", data := .fields #[.ref l2, .int 0 0] }
abbrev zg3 (h : Heap) (l1 l2 : Addr) : Heap := (zg2 h l1 l2).push { cls := .type "tuple", data := .seq #[.ref h.objs.size, .ref (zg1 h l1).objs.size] }
abbrev zg4 (h : Heap) (l1 l2 : Addr) : Heap := (zg3 h l1 l2).push { cls := .type "tuple", data := .seq #[.none, .none] }
abbrev zg5 (h : Heap) (l1 l2 : Addr) : Heap := (zg4 h l1 l2).push { cls := .type "zip", data := .fields #[.none, .bool false, .bool false, .ref (zg2 h l1 l2).objs.size, .ref (zg3 h l1 l2).objs.size] }
end
section
variable {X : Cx}
def iZip (K : PySem.W.Frag) (ta : TA) : TI := fun σ H R => ta σ H fun vs H1 => ∃ (a b : Addr) (xs ys : List V), vs = [.ref a, .ref b] ∧ SqT K H1 a xs ∧ SqT K H1 b ys ∧ R (Itp (xs.zip ys) fun H => SqT K H a xs ∧ SqT K H b ys) H1
end
end L2

set_option Elab.async false
set_option linter.all false
set_option maxRecDepth 100000
set_option maxHeartbeats 4000000
/-! ### enumerate of a list or a tuple -/
namespace L2
open PySem PySem.Spec PyProof.Rows
/-- the iterator of a list (true) or of a tuple -/
def SIt (b : Bool) (h : Heap) (p a : Addr) (i : Nat) : Prop := if b = true then h.IsListIter p a i else h.IsTupleIter p a i
def SSq (b : Bool) (h : Heap) (a : Addr) (us : Array Value) : Prop := if b = true then h.IsList a us else h.IsTuple a us
def enumV (xs : List V) : List (V × V) := (rangeV 0 xs.length).zip xs
section
variable {prog : Program} {w : World} {A : Around} {E : Value → Shared → Prop} {s : Shared}
end
section
variable {X : Cx}
def iEnum (K : PySem.W.Frag) (ta : TA) : TI := fun σ H R => ta σ H fun vs H1 => ∃ (b : Bool) (a : Addr) (xs : List V), vs = [.ref a] ∧ SqB K b H1 a xs ∧ R (Itp (enumV xs) fun H => SqB K b H a xs) H1
end
end L2

set_option Elab.async false
set_option linter.all false
set_option maxRecDepth 100000
set_option maxHeartbeats 4000000
namespace L2
open PySem PySem.Spec PyProof.Rows PySem.W
theorem hu65 {A : Around} {k : Nat} (hr : Room k A) : A.units + 65 < cLine := by have := hr.un; omega
/-! ### dicts of any keys -/
/-! ### loops over pairs -/
/-- a pair taken apart into two slots -/
abbrev g2 (K : PySem.W.Frag) (i j : Nat) : TG := gTup K 2 (gCons (gName i) (gCons (gName j) gNil))
theorem snew {H : Hp} {t : Addr} {o : HO} (h : H t = none) : Same H (upd H t o) := fun b u e => by rw [upd_ne (ne_of_none e h)]; exact e
/-- the values come of the pairs alone -/
theorem paired_eq {α : Type} {f : α → V} : ∀ {xs : List α} {ys : List V}, Paired (fun x v => v = f x) xs ys → ys = xs.map f
  | _, _, .nil => rfl
  | _, _, .cons r t => by rw [List.map_cons, r, paired_eq t]
/-- one name of its own; tests and elements may lay new things -/
theorem comp_val {J : It} {xs : List V} {Ok : Hp → Prop} (R : Runs J xs Ok) {js : List Nat} {tt : TT} {te : TE} {σ : St} {Q : VK} {H1 : Hp} (hz : xs.length ≤ sizeLine) (p : V → Bool) (f : V → V)
    (hok : ∀ H, Same H1 H → Ok H)
    (ht : ∀ x H (R : Bool → Hp → Prop), Same H1 H → x ∈ xs → (∀ H', Same H H' → R (p x) H') → tt (some x :: js.map fun j => (σ[j]?).join) H R)
    (he : ∀ x H (R : V → Hp → Prop), Same H1 H → x ∈ xs → p x = true → (∀ H', Same H H' → R (f x) H') → te (some x :: js.map fun j => (σ[j]?).join) H R)
    (hd : ∀ D H', H1 D = none → Same H1 H' → H' D = some (.lst ((xs.filter p).map f)) → Q (.ref D) H') :
    compBody 1 js (gName 0) tt te σ Q J H1 :=
  comp_rel R hz p (fun _ x v _ => v = f x) (fun _ _ _ _ _ _ z => z) hok ht (fun D x H R hs _ _ hx hp k => he x H R hs hx hp fun H' s' => k _ _ s' rfl)
    fun D H' ys hD hs hl hp => hd D H' hD hs (by rw [hl, paired_eq hp])
section
variable {X : Cx}
/-! ### x in a list of things that are compared whole -/
noncomputable def rInD (K : PySem.W.Frag) (f : Bool → Bool) : R2 := fun x y H Q => ∃ d ds, Rep K H x d ∧ Rep K H y (.list ds) ∧ kqdOk 9 d = true ∧ ds.all (kqdOk 8) = true ∧ Q (.bl (f (ds.any fun e => dEq e d))) H
theorem shaped_l {ds : List Dat} (h : ds.all (kqdOk 8) = true) : SeqAt.shaped (PyData.list (kqdPs ds)) = true := by
  have := shaped_of (d := .list ds) (by rw [kqdOk]; exact h)
  rw [kqdP] at this
  exact this
end
end L2

set_option Elab.async false
set_option linter.all false
set_option maxRecDepth 100000
set_option maxHeartbeats 4000000
namespace L2
open PySem PySem.Spec PyProof.Rows PySem.W
/-! ### lists of whole numbers -/
def natV (i : Nat) : V := .int (i : Nat)
def natD (i : Nat) : Dat := .int (i : Nat)
end L2

set_option Elab.async false
set_option linter.all false
set_option maxRecDepth 100000
set_option maxHeartbeats 4000000
namespace L2
open PySem PySem.Spec PyProof.Rows
/-! ### xs.remove(k) of whole numbers, k among them -/
def isK (k : Nat) (v : Value) : Bool := match v with
  | .int i _ => i == (k : Nat)
  | _ => false
section
variable {X : Cx}
def rRemove : V → List V → Hp → VK → Prop := fun x vs H Q => ∃ (l : Addr) (ms : List Nat) (k : Nat), x = .ref l ∧ vs = [.int (k : Nat)] ∧ H l = some (.lst (ms.map natV)) ∧ k ∈ ms ∧ Q .non (upd H l (.lst ((ms.erase k).map natV)))
end
end L2

set_option Elab.async false
set_option linter.all false
set_option maxRecDepth 100000
set_option maxHeartbeats 4000000
namespace L2
open PySem PySem.W PySem.Spec PyProof.Rows
/-! ### xs.index(x) of things that are compared whole, x among them -/
theorem kqdPs_at : ∀ {ds : List Dat} {m : Nat} {e : Dat}, ds[m]? = some e → (kqdPs ds)[m]? = some (kqdP e)
  | [], _, _, h => by simp at h
  | a :: r, 0, e, h => by
    rw [kqdPs]
    have : a = e := by simpa using h
    rw [this]
    rfl
  | a :: r, m + 1, e, h => by
    rw [kqdPs, List.getElem?_cons_succ]
    exact kqdPs_at (by simpa using h)
theorem kqdPs_len : ∀ ds : List Dat, (kqdPs ds).length = ds.length
  | [] => by rw [kqdPs]; rfl
  | a :: r => by rw [kqdPs, List.length_cons, List.length_cons, kqdPs_len r]
section
variable {X : Cx}
noncomputable def rIndexD (K : PySem.W.Frag) : V → List V → Hp → VK → Prop := fun x vs H Q => ∃ y d ds j e, vs = [y] ∧ Rep K H x (.list ds) ∧ Rep K H y d ∧ ds.all (kqdOk 8) = true ∧ kqdOk 9 d = true ∧ ds.length ≤ 100000 ∧ ds[j]? = some e ∧ dEq e d = true ∧ (∀ m e, m < j → ds[m]? = some e → dEq e d = false) ∧ Q (.int (j : Nat)) H
theorem mt_indexD (hu : X.A.units + 65 < cLine) : MtM X "list.index" (rIndexD X.K) := by
  intro pins s σ H x vs v us Q I rx rv h
  obtain ⟨y, d, ds, j, e, rfl, h1, h2, k1, k2, hz, he, hd, hno, q⟩ := h
  obtain ⟨u, rfl, ru⟩ := rv.one
  obtain ⟨as, ra⟩ := h1.reads I rx
  obtain ⟨bs, rb⟩ := h2.reads I ru
  rw [kqdP] at ra
  have hxs := SeqAt.canLay_of_shaped (shaped_l k1)
  have hdl := SeqAt.canLay_of_shaped (shaped_of k2)
  cases ra with
  | @list l ob its n _ _ a1 a2 a3 a4 =>
    obtain ⟨cls, dd, data, sl⟩ := ob
    simp only at a2 a3
    subst a2 a3
    have hm := SeqAt.readsAll_map _ _ _ hxs a4
    have hml : its.size = ds.length := by
      have := congrArg List.length hm
      rw [List.length_map, kqdPs_len] at this
      simpa using this
    have all8 : ∀ m (e : Dat), ds[m]? = some e → kqdOk 8 e = true := fun m e h => List.all_eq_true.mp k1 e (List.mem_of_getElem? h)
    have val : ∀ m (e : Dat) (hm' : m < its.size), ds[m]? = some e → PyData.eqv (SeqAt.readOf s.heap its[m]) (kqdP d) = dEq e d := fun m e hm' h => by
      have e1 := kqdPs_at h
      rw [← hm, List.getElem?_map] at e1
      have e2 : its.toList[m]? = some its[m] := by simp [hm']
      rw [e2] at e1
      have e1 : SeqAt.readOf s.heap its[m] = kqdP e := Option.some.inj e1
      rw [e1]
      exact eqv_dEq (all8 m e h) k2
    have hj : j < its.size := by have := (List.getElem?_eq_some_iff.mp he).1; omega
    refine call_meets PySem.F.slot_list_index ⟨_, a1, rfl⟩ PySem.F.entry_list_index (PySem.F.args_list_index_2 _ _)
      (SeqAt.list_indexAt l its n dd sl u (fun y => PyData.eqv (SeqAt.readOf s.heap y) (kqdP d)) j hj (by omega) ?_ ?_) ⟨a1, SeqAt.items_eqAt a4 rb hxs hdl (room_in_shaped (shaped_of k2) hu), ?_⟩
    · show PyData.eqv (SeqAt.readOf s.heap its[j]) (kqdP d) = true
      rw [val j e hj he]
      exact hd
    · intro m hm' hlt
      show PyData.eqv (SeqAt.readOf s.heap its[m]) (kqdP d) = false
      have h0 : ds[m]? = some (ds[m]'(by omega)) := List.getElem?_eq_getElem (by omega)
      rw [val m _ hm' h0]
      exact hno m _ hlt h0
    · exact ⟨.int j, H, I.tok _, ⟨_, rfl⟩, q⟩
end
end L2

set_option Elab.async false
set_option linter.all false
set_option maxRecDepth 100000
set_option maxHeartbeats 4000000
namespace L2
open PySem PySem.Spec PyProof.Rows
/-! ### walking a dict, whatever its keys are -/
/-- a plain dict with these entries -/
def RawD (h : Heap) (d : Addr) (es : Array DictEntry) (ep : Nat) : Prop := ∃ o, h.get? d = some o ∧ o.ExactDict ∧ o.data = .dict es ep
section
variable {prog : Program} {w : World} {A : Around} {E : Value → Shared → Prop} {s : Shared} {d it : Addr} {es : Array DictEntry} {ep i : Nat}
/-! the same of the pairs -/
end
end L2

set_option Elab.async false
set_option linter.all false
set_option maxRecDepth 100000
set_option maxHeartbeats 4000000
namespace L2
open PySem PySem.Spec PyProof.Rows
section
variable {X : Cx} {pins : List (Addr × Obj)} {σ : St} {H H' : Hp} {s : Shared} {a : Addr} {kvs : List (List Key × V)} {o : Obj}
end
def ItkT (a : Addr) (o : Obj) (kvs : List (List Key × V)) : It :=
  ⟨fun i H => i < kvs.length ∧ H a = some (.frz o (.dT kvs)), fun i H v H' => H' = H ∧ ∃ p t, kvs[i]? = some p ∧ v = .ref t ∧ H t = some (.tup (p.1.map kV)), fun i H => kvs.length ≤ i ∧ H a = some (.frz o (.dT kvs))⟩
def ItiT (a : Addr) (o : Obj) (kvs : List (List Key × V)) : It :=
  ⟨fun i H => i < kvs.length ∧ H a = some (.frz o (.dT kvs)), fun i H v H' => ∃ t b p, kvs[i]? = some p ∧ H t = none ∧ H b = some (.tup (p.1.map kV)) ∧ v = .ref t ∧ H' = upd H t (.tup [.ref b, p.2]), fun i H => kvs.length ≤ i ∧ H a = some (.frz o (.dT kvs))⟩
/-- a dict keyed by tuples that is written no more -/
def tFrzT (t : TS) : TS := fun D σ H => ∃ a kvs, H a = some (.dT kvs) ∧ ∀ o, t D σ (upd H a (.frz o (.dT kvs)))
section
variable {X : Cx} {tg : Expr}
/-- walked where it is made: frozen then -/
def AtT (R : Obj → Hp → Prop) (H : Hp) (a : Addr) (kvs : List (List Key × V)) : Prop :=
  (H a = some (.dT kvs) ∧ ∀ ob, R ob (upd H a (.frz ob (.dT kvs)))) ∨ ∃ ob, H a = some (.frz ob (.dT kvs)) ∧ R ob H
def iKeysT (tl : TE) : TI := fun σ H R => tl σ H fun x H1 => ∃ a kvs, x = .ref a ∧ AtT (fun ob H' => R (ItkT a ob kvs) H') H1 a kvs
def iItemsT (to : TE) : TI := fun σ H R => to σ H fun x H1 => ∃ a kvs, x = .ref a ∧ AtT (fun ob H' => R (ItiT a ob kvs) H') H1 a kvs
end
end L2

set_option Elab.async false
set_option linter.all false
set_option maxRecDepth 100000
set_option maxHeartbeats 4000000
namespace L2
open PySem PySem.Spec PyProof.Rows
end L2
namespace L2
open PySem PySem.Spec PyProof.Rows
end L2

set_option Elab.async false
set_option linter.all false
set_option maxRecDepth 100000
set_option maxHeartbeats 4000000
namespace L2
open PySem PySem.Spec PyProof.Rows
end L2

set_option Elab.async false
set_option linter.all false
set_option maxRecDepth 100000
set_option maxHeartbeats 4000000
namespace L2
open PySem PySem.Spec PyProof.Rows

/-- an exception in the air: its object, the newest entry of its traceback, the mark there -/
structure Air (h : Heap) (e T : Addr) (cls : Value) (dx : Option Addr) (fl : Value) : Prop where
  ne : T ≠ e
  obj : ∃ oe vs, h.get? e = some oe ∧ oe.cls = cls ∧ oe.dict = dx ∧ oe.data = .fields vs ∧ vs[1]? = some (.ref T)
  tb : ∃ oT ts, h.get? T = some oT ∧ oT.data = .fields ts ∧ ts[3]? = some fl
/-- what changed: the slots of those at S, all of those at R -/
structure Chg (S R : List Addr) (h h' : Heap) : Prop where
  sz : h.objs.size ≤ h'.objs.size
  keep : ∀ b o, h.get? b = some o → b ∉ S → b ∉ R → h'.get? b = some o
  slot : ∀ b o, h.get? b = some o → b ∉ R → ∃ sl, h'.get? b = some { o with slots := sl }
  there : ∀ b o, h.get? b = some o → ∃ o', h'.get? b = some o'
theorem Chg.mono {S S' R R' : List Addr} {h h' : Heap} (c : Chg S R h h') (hs : ∀ b ∈ S, b ∈ S') (hr : ∀ b ∈ R, b ∈ R') : Chg S' R' h h' :=
  ⟨c.sz, fun b o e n1 n2 => c.keep b o e (fun z => n1 (hs b z)) fun z => n2 (hr b z), fun b o e n => c.slot b o e fun z => n (hr b z), c.there⟩
theorem Chg.trans {S R : List Addr} {h h1 h2 : Heap} (a : Chg S R h h1) (b : Chg S R h1 h2) : Chg S R h h2 :=
  ⟨Nat.le_trans a.sz b.sz, fun c o e n1 n2 => b.keep c o (a.keep c o e n1 n2) n1 n2, fun c o e n => by
    obtain ⟨sl, e1⟩ := a.slot c o e n
    obtain ⟨sl', e2⟩ := b.slot c _ e1 n
    exact ⟨sl', e2⟩, fun c o e => by
    obtain ⟨o1, e1⟩ := a.there c o e
    exact b.there c o1 e1⟩
/-- what is new has not been there -/
theorem Chg.drop {S R : List Addr} {h h' : Heap} {t : Addr} (c : Chg S (t :: R) h h') (ht : h.objs.size ≤ t) : Chg S R h h' :=
  ⟨c.sz, fun b o e n1 n2 => c.keep b o e n1 fun z => (List.mem_cons.mp z).elim (fun q => absurd (Heap.lt_size e) (by rw [q]; exact Nat.not_lt.mpr ht)) n2,
   fun b o e n => c.slot b o e fun z => (List.mem_cons.mp z).elim (fun q => absurd (Heap.lt_size e) (by rw [q]; exact Nat.not_lt.mpr ht)) n, c.there⟩
theorem dict_mapFields (f : Array Value → Array Value) (o : Obj) : (Obj.mapFields f o).dict = o.dict := by
  obtain ⟨c, d, dt, sl⟩ := o
  cases dt <;> rfl
theorem Chg.setF {h : Heap} {T : Addr} {oT : Obj} {ts : Array Value} {f : Array Value → Array Value} (hT : h.get? T = some oT) (hd : oT.data = .fields ts) : Chg [] [T] h (h.update T (Obj.mapFields f)) := by
  have other : ∀ b, b ≠ T → (h.update T (Obj.mapFields f)).get? b = h.get? b := fun b hb => Heap.get?_update_other _ _ (Ne.symm hb)
  refine ⟨Nat.le_of_eq (Heap.size_after_update ..).symm, fun b o e _ n => (other b fun z => n (by simp [z])).trans e, fun b o e n => ⟨o.slots, (other b fun z => n (by simp [z])).trans e⟩, fun b o e => ?_⟩
  by_cases hb : b = T
  · subst hb
    exact ⟨_, Heap.get?_update_self _ hT (Obj.isFreed_of_fields (Obj.data_mapFields hd _))⟩
  · exact ⟨o, (other b hb).trans e⟩

/-- an entry nb is laid, the exception's record points to it -/
theorem Chg.entry {S : List Addr} {h g : Heap} {e : Addr} {oe nb : Obj} {vs ts : Array Value} {fl : Value} (sl : Heap.SlotsOnly S h g) (ns : e ∉ S) (he : h.get? e = some oe) (hd : oe.data = .fields vs) (hsz : 1 < vs.size) (hnb : nb.data = .fields ts) (h3 : ts[3]? = some fl) :
    Air ((g.push nb).update e (Obj.mapFields fun r => r.setIfInBounds 1 (.ref g.objs.size))) e g.objs.size oe.cls oe.dict fl ∧ Chg S [e] h ((g.push nb).update e (Obj.mapFields fun r => r.setIfInBounds 1 (.ref g.objs.size))) := by
  have ge : g.get? e = some oe := (sl.2.1 e ns).trans he
  have apart : g.objs.size ≠ e := Nat.ne_of_gt (Heap.lt_size ge)
  have pe : (g.push nb).get? e = some oe := Heap.get?_push_of_some nb ge
  have data := Obj.data_mapFields hd fun r => r.setIfInBounds 1 (Value.ref g.objs.size)
  have self := Heap.get?_update_self (Obj.mapFields fun r => r.setIfInBounds 1 (Value.ref g.objs.size)) pe (Obj.isFreed_of_fields data)
  have rest : ∀ b o, b ≠ e → g.get? b = some o → ((g.push nb).update e (Obj.mapFields fun r => r.setIfInBounds 1 (.ref g.objs.size))).get? b = some o := fun b o n q =>
    (Heap.get?_update_other _ _ fun z => n z.symm).trans (Heap.get?_push_of_some nb q)
  have tnew : (g.push nb).get? g.objs.size = some nb := Heap.get?_push_size g (Obj.isFreed_of_fields hnb)
  refine ⟨⟨apart, ⟨_, _, self, Obj.cls_mapFields _ _, dict_mapFields _ _, data, by simp [hsz]⟩, ⟨nb, ts, (Heap.get?_update_other _ _ fun z => apart z.symm).trans tnew, hnb, h3⟩⟩, ⟨?_, fun b o q n1 n2 => ?_, fun b o q n => ?_, fun b o q => ?_⟩⟩
  · rw [Heap.size_after_update, Heap.size_push, sl.1]
    omega
  · exact rest b o (fun z => n2 (z ▸ List.mem_cons_self)) ((sl.2.1 b n1).trans q)
  · obtain ⟨k, r⟩ := sl.2.2 b o q
    exact ⟨k, rest b _ (fun z => n (z ▸ List.mem_cons_self)) r⟩
  · obtain ⟨k, r⟩ := sl.2.2 b o q
    by_cases z : b = e
    · subst z; exact ⟨_, self⟩
    · exact ⟨_, rest b _ z r⟩

section
variable {M : Model} {A : Around} {E : Value → Shared → Prop} {s : Shared}
/-- a new entry is laid -/
theorem note_new {base : Heap} {env : Env} {outer : List Env} {L e : Addr} {oe : Obj} {vs : Array Value} {head : Value} {hadNext : Bool} {Q : Unit → Shared → Prop}
    (hfr : A.frames = some (env :: outer)) (hl : s.heap.FunFrames base (env :: outer)) (hf : env.frame = some L) (he : s.heap.get? e = some oe) (hd : oe.data = .fields vs) (hsz : 1 < vs.size)
    (h : ∀ h' T, s.heap.objs.size ≤ T → Air h' e T oe.cls oe.dict (rawInt L) → Chg (frs (env :: outer)) [e] s.heap h' → Q () { s with heap := h' }) :
    wpAny M A (frameOf env >>= fun a => entryPlaceOf L hadNext >>= fun pl => EntryCells.newEntry head a .none (rawInt L) .none pl >>= fun b => setField (.ref e) 1 b) Q E s := by
  have nf : e ∉ frs (env :: outer) := fun m => by
    have q := (hl.mem m).2
    rw [he] at q
    obtain ⟨_, r1, r2⟩ := q
    cases r1
    exact r2 vs hd
  apply wpAny_bind
  refine wpAny_frameOf_fun hfr hl hf fun g1 sl1 => wpAny_bind (wpAny_entryPlaceOf fun pl place => wpAny_bind ?_)
  have three : ∀ xs : List Value, IsPlace xs → ([head, Value.ref L, .none, rawInt L, .none] ++ (if xs.isEmpty then List.replicate 6 Value.none else xs)).toArray[3]? = some (rawInt L) := fun xs _ => by simp
  have laid := Chg.entry (nb := { cls := .type "traceback", data := .fields ([head, .ref L, .none, rawInt L, .none] ++ (if pl.isEmpty then List.replicate 6 Value.none else pl)).toArray }) sl1 nf he hd hsz rfl (three pl place)
  refine wpAny_newObj_type (wpAny_setField (Heap.get?_push_of_some _ ((sl1.2.1 e nf).trans he)) hd hsz ?_) (place.sizeOk5 _ _ _ _ _)
  exact h _ _ (Nat.le_of_eq sl1.1.symm) laid.1 laid.2
/-- the mark goes -/
theorem air_lands {e T : Addr} {cls fl : Value} {dx : Option Addr} {Q : Unit → Shared → Prop} (a : Air s.heap e T cls dx fl)
    (h : ∀ h', Air h' e T cls dx .none → Chg [] [T] s.heap h' → Q () { s with heap := h' }) : wpAny M A (setFlight (.ref e) none) Q E s := by
  obtain ⟨ne, ⟨oe, vs, he, hc, hdx, hd, h1⟩, ⟨oT, ts, hT, hdT, h3⟩⟩ := a
  obtain ⟨hsz3, _⟩ := Array.getElem?_eq_some_iff.mp h3
  have some_ : (Value.ref T != Value.none) = true := by simp
  unfold setFlight
  apply wpAny_bind
  apply wpAny_field he hd h1
  rw [if_pos some_]
  refine wpAny_setField hT hdT hsz3 (h _ ⟨ne, ⟨oe, vs, (Heap.get?_update_other _ _ ne).trans he, hc, hdx, hd, h1⟩, ⟨_, _, Heap.get?_update_self _ hT (Obj.isFreed_of_fields (Obj.data_mapFields hdT _)), Obj.data_mapFields hdT _, by simp [hsz3]⟩⟩ (Chg.setF hT hdT))
/-- a frame notes it -/
theorem air_notes {base : Heap} {env : Env} {outer : List Env} {L e T : Addr} {cls : Value} {dx : Option Addr} {Q : Unit → Shared → Prop}
    (hfr : A.frames = some (env :: outer)) (hl : s.heap.FunFrames base (env :: outer)) (hf : env.frame = some L) (a : Air s.heap e T cls dx .none)
    (h : ∀ h' T', s.heap.objs.size ≤ T' → Air h' e T' cls dx (rawInt L) → Chg (frs (env :: outer)) [e, T] s.heap h' → Q () { s with heap := h' }) : wpAny M A (noteFrame (.ref e) env) Q E s := by
  obtain ⟨ne, ⟨oe, vs, he, hc, hdx, hd, h1⟩, ⟨oT, ts, hT, hdT, h3⟩⟩ := a
  subst hc hdx
  have some_ : (Value.ref T != Value.none) = true := by simp
  have apart : ¬ (Value.none == rawInt L) = true := by simp [rawInt]
  have c1 : Chg [] [T] s.heap (s.heap.update T (Obj.mapFields fun r => r.setIfInBounds 3 Value.none)) := Chg.setF hT hdT
  have kept : ∀ b o, s.heap.get? b = some o → b ≠ T → (s.heap.update T (Obj.mapFields fun r => r.setIfInBounds 3 Value.none)).get? b = some o := fun b o q n => c1.keep b o q (fun z => nomatch z) fun z => n (List.mem_singleton.mp z)
  unfold noteFrame
  simp only [hf]
  apply wpAny_bind
  apply wpAny_field he hd h1
  rw [if_pos some_]
  apply wpAny_bind
  apply wpAny_field hT hdT h3
  rw [if_neg apart]
  apply wpAny_bind
  refine wpAny_setField hT hdT (Array.getElem?_eq_some_iff.mp h3).1 ?_
  refine note_new hfr (hl.of_keeps fun b o q nf => ⟨o, kept b o q fun z => by subst z; rw [hT] at q; cases q; exact nf ts hdT, rfl⟩) hf (kept e oe he fun z => ne z.symm) hd (Array.getElem?_eq_some_iff.mp h1).1 fun h' T' hT' a' c' => ?_
  exact h h' T' (Nat.le_trans c1.sz hT') a' ((c1.mono (fun b z => nomatch z) fun b z => by simp at z; simp [z]).trans (c'.mono (fun b z => z) fun b z => by simp at z; simp [z]))
/-- it leaves a frame where it was raised -/
theorem air_first {base : Heap} {env : Env} {outer : List Env} {L e : Addr} {oe : Obj} {vs : Array Value} {Q : Unit → Shared → Prop}
    (hfr : A.frames = some (env :: outer)) (hl : s.heap.FunFrames base (env :: outer)) (hf : env.frame = some L) (he : s.heap.get? e = some oe) (hd : oe.data = .fields vs) (h1 : vs[1]? = some .none)
    (h : ∀ h' T, s.heap.objs.size ≤ T → Air h' e T oe.cls oe.dict .none → Chg (frs (env :: outer)) [e] s.heap h' → Q () { s with heap := h' }) : wpAny M A (leaving env (.ref e)) Q E s := by
  unfold leaving noteFrame
  simp only [hf]
  apply wpAny_bind
  apply wpAny_bind
  apply wpAny_field he hd h1
  rw [if_neg (by decide)]
  refine note_new hfr hl hf he hd (Array.getElem?_eq_some_iff.mp h1).1 fun h' T hT a c => ?_
  refine air_lands a fun h2 a2 c2 => h h2 T hT a2 ?_
  have c3 : Chg (frs (env :: outer)) [T, e] s.heap h2 := (c.mono (fun b z => z) fun b z => by simp at z; simp [z]).trans (c2.mono (fun b z => nomatch z) fun b z => by simp at z; simp [z])
  exact c3.drop hT
/-- it leaves the next frame -/
theorem air_next {base : Heap} {env : Env} {outer : List Env} {L e T : Addr} {cls : Value} {dx : Option Addr} {Q : Unit → Shared → Prop}
    (hfr : A.frames = some (env :: outer)) (hl : s.heap.FunFrames base (env :: outer)) (hf : env.frame = some L) (a : Air s.heap e T cls dx .none)
    (h : ∀ h' T', s.heap.objs.size ≤ T' → Air h' e T' cls dx .none → Chg (frs (env :: outer)) [e, T] s.heap h' → Q () { s with heap := h' }) : wpAny M A (leaving env (.ref e)) Q E s := by
  unfold leaving
  refine wpAny_bind (air_notes hfr hl hf a fun h' T' hT a' c => ?_)
  refine air_lands a' fun h2 a2 c2 => h h2 T' hT a2 ?_
  have c3 : Chg (frs (env :: outer)) [T', e, T] s.heap h2 := (c.mono (fun b z => z) fun b z => by simp at z; rcases z with z | z <;> simp [z]).trans (c2.mono (fun b z => nomatch z) fun b z => by simp at z; simp [z])
  exact c3.drop hT
end

/-! ### what stays of the abstract heap -/
theorem HOk.chg {P : Program} {w : World} {H : Hp} {h h' : Heap} {S R : List Addr} (x : HOk P w H h) (c : Chg S R h h') (hS : ∀ b ∈ S, H b = none) (hR : ∀ b ∈ R, H b = none) : HOk P w H h' := fun a o e =>
  (x a o e).stay (fun b u hb q => by
    have hn : H b ≠ none := by
      rcases hb with z | z
      · rw [z, e]; simp
      · rw [z]; simp
    exact c.keep b u q (fun z => hn (hS b z)) fun z => hn (hR b z)) (fun _ q => q) fun _ _ q => q
theorem Un.chg {fs ex S R : List Addr} {H : Hp} {h h' : Heap} (c : Chg S R h h') (hS : ∀ b ∈ S, b ∈ fs) (hR : ∀ b ∈ R, b ∈ ex) : Un fs ex H H h h' :=
  ⟨fun b o e n hb hx => c.keep b o e (fun z => hb (hS b z)) fun z => hx (hR b z), fun b o e n hb hx => c.slot b o e fun z => hx (hR b z), fun _ _ _ n _ => n, fun b o e _ => c.there b o e, fun _ _ q => q, fun _ _ _ q => q, fun _ ps q => ⟨#[], by rw [q]; simp⟩⟩

/-! ### how an exception lies behind a call -/
def CX1 (P : Program) (w : World) : CXT := fun outer H s E ev s' => ∃ (e T : Addr) (cls : Value) (dx : Option Addr) (H' : Hp), ev = .ref e ∧ s'.os = s.os ∧ AllBare s'.gens ∧ Un (frs outer) [] H H' s.heap s'.heap ∧ HOk P w H' s'.heap ∧
  H' e = none ∧ H' T = none ∧ s.heap.objs.size ≤ e ∧ s.heap.objs.size ≤ T ∧ Air s'.heap e T cls dx .none ∧ E cls dx H'
/-- a def's body, of whose exceptions E is wanted -/
structure Fns (X : Cx) (E : XK) : Prop where
  xe : X.xe = fun e s' => wpAny (model X.prog X.w) X.A (leaving X.env e) (fun _ s'' => CX1 X.prog X.w X.outer X.H₀ X.s₀ E e s'') (fun e' s'' => CX1 X.prog X.w X.outer X.H₀ X.s₀ E e' s'') s'
  stk : X.stack = X.env :: X.outer
  fr : X.env.frame = some X.env.locals
  ex : X.ex = []
theorem Fns.of {P : Program} {w : World} {K : PySem.W.Frag} {mg : Str → Option Value} {base : Heap} {N : List Str} {qual : Str} {scope : Scope} {f : Addr} {cd : Value} {A : Around} {outer : List Env} {s : Shared} {H : Hp} {E : XK} :
    Fns (cxOf (CX1 P w) P w K mg base N qual scope f cd A outer s H E) E := ⟨rfl, rfl, rfl, rfl⟩
section
variable {X : Cx} {pins : List (Addr × Obj)} {σ : St} {H : Hp} {s : Shared} {E : XK} {e T : Addr} {cls : Value} {dx : Option Addr}
theorem Fns.old (F : Fns X E) (f : FpOk X pins H e) : X.s₀.heap.objs.size ≤ e := by
  rcases f.2.2.2.1 with z | z
  · rw [F.ex] at z; cases z
  · exact z
theorem Fns.un {h' : Heap} {R : List Addr} (F : Fns X E) (I : Inv X pins σ H s) (c : Chg (frs X.stack) R s.heap h') (hR : ∀ b ∈ R, X.s₀.heap.objs.size ≤ b) : Un X.fs [] X.H₀ H X.s₀.heap h' := by
  have B := I.base
  have hx : ∀ b, b ∉ X.ex := fun b z => by rw [F.ex] at z; cases z
  have ns : ∀ b o, X.s₀.heap.get? b = some o → b ∉ X.fs → b ∉ frs X.stack := fun b o q n z => by
    rcases List.mem_cons.mp (I.stkSub b z) with r | r
    · exact absurd (Nat.lt_of_lt_of_le (Heap.lt_size q) (by rw [r]; exact I.ok.above)) (Nat.lt_irrefl _)
    · exact n r
  have nr : ∀ b o, X.s₀.heap.get? b = some o → b ∉ R := fun b o q z => absurd (Nat.lt_of_lt_of_le (Heap.lt_size q) (hR b z)) (Nat.lt_irrefl _)
  refine ⟨fun b o q n hb _ => c.keep b o (B.keep b o q n hb (hx b)) (ns b o q hb) (nr b o q), fun b o q n hb _ => ?_, fun b o q n _ => B.free b o q n (hx b), fun b o q _ => ?_, B.tups, B.frzs, B.tbls⟩
  · obtain ⟨sl, e1⟩ := B.slot b o q n hb (hx b)
    obtain ⟨sl', e2⟩ := c.slot b _ e1 (nr b o q)
    exact ⟨sl', e2⟩
  · obtain ⟨o1, e1⟩ := B.there b o q (hx b)
    exact c.there b o1 e1
/-- an exception in the air leaves the body -/
theorem Fns.leave (F : Fns X E) (I : Inv X pins σ H s) (fe : FpOk X pins H e) (fT : FpOk X pins H T) (a : Air s.heap e T cls dx .none) (h : E cls dx H) : X.xe (.ref e) s := by
  rw [F.xe]
  have hfr : X.A.frames = some (X.env :: X.outer) := by rw [← F.stk]; exact I.ok.frames
  have hl : s.heap.FunFrames X.base (X.env :: X.outer) := by rw [← F.stk]; exact I.stack
  refine air_next hfr hl F.fr a fun h' T' hT' a' c => ?_
  rw [← F.stk] at c
  exact ⟨e, T', cls, dx, H, rfl, I.os, I.bare, F.un I c fun b z => by simp at z; rcases z with z | z <;> rw [z]; exact F.old fe; exact F.old fT,
    I.hok.chg c I.stkFree (fun b z => by simp at z; rcases z with z | z <;> rw [z]; exact fe.1; exact fT.1), fe.1, I.hok.fresh hT', F.old fe, Nat.le_trans I.sz hT', a', h⟩
/-- an exception that was just made leaves the body -/
theorem Fns.raised {oe : Obj} {vs : Array Value} (F : Fns X E) (I : Inv X pins σ H s) (fe : FpOk X pins H e) (he : s.heap.get? e = some oe) (hd : oe.data = .fields vs) (h1 : vs[1]? = some .none) (h : E oe.cls oe.dict H) : X.xe (.ref e) s := by
  rw [F.xe]
  have hfr : X.A.frames = some (X.env :: X.outer) := by rw [← F.stk]; exact I.ok.frames
  have hl : s.heap.FunFrames X.base (X.env :: X.outer) := by rw [← F.stk]; exact I.stack
  refine air_first hfr hl F.fr he hd h1 fun h' T' hT' a' c => ?_
  rw [← F.stk] at c
  exact ⟨e, T', oe.cls, oe.dict, H, rfl, I.os, I.bare, F.un I c fun b z => by simp at z; rw [z]; exact F.old fe,
    I.hok.chg c I.stkFree (fun b z => by simp at z; rw [z]; exact fe.1), fe.1, I.hok.fresh hT', F.old fe, Nat.le_trans I.sz hT', a', h⟩
/-- .. of a callee -/
theorem pass1 (F : Fns X E) : Passes (CX1 X.prog X.w) X E := by
  rintro pins σ H s ev s' I ⟨e, T, cls, dx, H', rfl, os, bare, un, hok, he, hT, se, sT, a, h⟩
  have I' : Inv X pins σ H' s' := I.call' (ch := []) os un hok bare fun b z => nomatch z
  exact F.leave I' (I.fpOk se he) (I.fpOk sT hT) a h
end
/-- what raises nothing raises nothing wrong -/
theorem FnOk.any {P : Program} {w : World} {K : PySem.W.Frag} {mg : Str → Option Value} {base : Heap} {CX : CXT} {k : Nat} {f : Addr} {fd : FuncData} {ps : List Str} {sp : Sp} (F : FnOk P w K mg base CX0 k f fd ps sp) : FnOk P w K mg base CX k f fd ps sp :=
  ⟨F.len, fun A outer s H args us vs Q E hr he hb hv hs => codeAny_mono (F.run A outer s H args us vs Q E hr he hb hv hs) fun r s' hq => by
    cases r with
    | error e => exact False.elim hq
    | ok fl => cases fl <;> exact hq⟩
/-- THE RULE for a def that may raise -/
theorem Fun.ok1 {P : Program} {w : World} {K : PySem.W.Frag} {mg : Str → Option Value} {base : Heap} {x qual : Str} {st : Stmt} {f : Addr} {fd : FuncData} {N ps : List Str} {k : Nat} {sp : Sp} (F : Fun K x qual st f fd) (S : FnScope N ps (defScope st)) (len : ∀ vs H Q E, sp vs H Q E → vs.length = ps.length)
    (hbody : ∀ (cdv : Value) (A : Around) (outer : List Env) (s : Shared) (H : Hp) (vs : List V) (Q : VK) (E : XK), Room k (A.deeper (envOfC qual (defScope st) s.heap.objs.size f cdv)) → sp vs H Q E →
      ∃ t, PSs (cxOf (CX1 P w) P w K mg base N qual (defScope st) f cdv A outer s H E) (defBody st) t ∧ t { nx := fun _ H' => Q .non H', rt := Q } (start N vs) H) : FnOk P w K mg base (CX1 P w) (k + 1) f fd ps sp := by
  obtain ⟨oc, od, kV, doc, pm, an, cdv, ct, osl, rfl, lk, hcd⟩ := F.ex
  refine fn_of lk hcd S len fun A outer s H vs Q E hr hsp => ?_
  exact hbody cdv A outer s H vs Q E hr hsp
end L2

set_option Elab.async false
set_option linter.all false
set_option maxRecDepth 100000
set_option maxHeartbeats 4000000
namespace L2
open PySem PySem.Spec

/-- what the text must have of a class of exceptions (under ValueError) -/
structure ExC (K : PySem.W.Frag) (C : Addr) : Prop where
  obj : ∃ nm q N bs bm hdct sn sub ab col dd k0 k1 k2 k3 k5, K.lookup C = some (excClassObj nm q C N bs bm hdct sn sub ab col dd k0 k1 k2 k3 k5 "ValueError.__new__")
  val : PySem.W.subIn K (.ref C) (.type "ValueError") = some true
  bas : PySem.W.subIn K (.ref C) (.type "BaseException") = some true
  att : PySem.W.subIn K (.ref C) (.type "AttributeError") = some false
  nam : PySem.W.subIn K (.ref C) (.type "NameError") = some false
  kp : PySem.W.keepIn K (.ref C) = true
/-- a new exception, not raised yet -/
abbrev excObj (C t : Addr) : Obj := { cls := .ref C, data := .fields #[.ref t, .none, .none, .none, .bool false, .none] }
abbrev tupObj (us : List Value) : Obj := { cls := .type "tuple", data := .seq us.toArray }

section
variable {K : PySem.W.Frag} {prog : Program} {w : World} {A : Around} {E : Value → Shared → Prop} {h : Heap} {g : Array GenState} {d : Drawn} {t : Nat} {os : OsState} {C : Addr}
theorem sub_has {nm q : Str} {N : Addr} {bs bm : List Value} {hdct : Bool} {sn : List Str} {sub : List Value} {ab : Bool} {col : Option Bool} {dd : Option Addr} {k0 k1 k2 k3 k5 : Option Value} {nid : String} {x : Value} {b : Bool}
    (l : K.lookup C = some (excClassObj nm q C N bs bm hdct sn sub ab col dd k0 k1 k2 k3 k5 nid)) (e : PySem.W.subIn K (.ref C) x = some b) : (Value.ref C :: bm).contains x = b := by
  have e2 : ((PySem.W.clsIn K C).bind fun cd => if cd.mro.isEmpty = true then none else some (cd.mro.contains x)) = some b := e
  have e3 : PySem.W.clsIn K C = some { name := nm, bases := bs, mro := .ref C :: bm, ns := N, qualname := q, hasDict := hdct, slotNames := sn, subclasses := sub, abstract := ab, collection := col, hasDel := false } := by
    unfold PySem.W.clsIn
    rw [l]
  rw [e3] at e2
  exact Option.some.inj e2
/-- the new object -/
theorem exc_new {rest : List Value} {R : Result → Shared → Prop} (X : K.In h) (c : ExC K C) (hrest : rest.length ≤ sizeLine)
    (hq : R (.ok (.ret (.ref (h.objs.size + 1)))) ⟨(h.push (tupObj rest)).push (excObj C h.objs.size), g, d, t, os⟩) :
    codeAny (model prog w) A (.builtin "ValueError.__new__" ⟨.ref C :: rest, []⟩) R ⟨h, g, d, t, os⟩ := by
  obtain ⟨nm, q, N, bs, bm, hdct, sn, sub, ab, col, dd, k0, k1, k2, k3, k5, lk⟩ := c.obj
  have Fv := PySem.F.excBase_ValueError
  have cV := sub_has lk c.val
  have cA := sub_has lk c.att
  have cN := sub_has lk c.nam
  have hC := X _ _ lk
  have hends := Fv.ends
  refine codeAny_builtinAt Fv.entry ?_
  unfold Builtin.«BaseException.__new__»
  apply PySem.wpAt_bind
  show PySem.wpAt _ _ _ (stack >>= _) _ _ _
  apply PySem.wpAt_bind
  refine PySem.wpAt_stack fun p below => PySem.wpAt_of_wpAny ?_
  wp_walk
  apply PySem.wpAt_of_wpAny
  rw [Fv.owner]
  repeat (first | with_reducible refine wpAny_madeHere_exc Fv.canon hC ?_ | with_reducible refine wpAny_loadPart_at hC ?_ | (with_reducible refine wpAny_isSubtype_exc hC ?_; first | rw [cV] | rw [cA] | rw [cN]) | wp_step)
  show R _ _
  rw [Heap.size_push]
  exact hq
/-- C(..), till its __init__ is called -/
theorem exc_call {rest : List Value} {i : Value} {Q : Value → Shared → Prop} (X : K.In h) (c : ExC K C) (hi : PySem.W.findIn K (.ref C) "__init__" = some (some i))
    (hb : ∀ self, PySem.W.Looks (model prog w) ((h.push (tupObj rest)).push (excObj C h.objs.size)) (bindSpecial i self) (i, [self])) (hrest : rest.length ≤ sizeLine)
    (hq : codeAny (model prog w) (A.under (.builtin "type.__call__" ⟨.ref C :: rest, []⟩)) (.call i ⟨.ref (h.objs.size + 1) :: rest, []⟩)
      (fun r s' => match r with | .ok (.ret v) => v = .none ∧ Q (.ref (h.objs.size + 1)) s' | .ok _ => False | .error e => E e s') ⟨(h.push (tupObj rest)).push (excObj C h.objs.size), g, d, t, os⟩) :
    wpAny (model prog w) A (call (.ref C) rest) Q E ⟨h, g, d, t, os⟩ := by
  obtain ⟨nm, q, N, bs, bm, hdct, sn, sub, ab, col, dd, k0, k1, k2, k3, k5, lk⟩ := c.obj
  have Fv := PySem.F.excBase_ValueError
  have cV := sub_has lk c.val
  have cS : (Value.ref C :: bm).contains (.ref C) = true := by simp
  have hC := X _ _ lk
  have up : ∀ b o, h.get? b = some o → ((h.push (tupObj rest)).push (excObj C h.objs.size)).get? b = some o := fun b o e => Heap.get?_push_of_some _ (Heap.get?_push_of_some _ e)
  have X1 : K.In ((h.push (tupObj rest)).push (excObj C h.objs.size)) := X.keeps up
  have hC1 := X1 _ _ lk
  have got : ((h.push (tupObj rest)).push (excObj C h.objs.size)).get? (h.objs.size + 1) = some (excObj C h.objs.size) := Heap.get?_push_at (by rw [Heap.size_push]) rfl
  have f1 := tc_lookup
  have f2 := tc_bind (.ref C)
  have hT : (⟨h, g, d, t, os⟩ : Shared).TypeIs (.ref C) "type" := ⟨_, hC, rfl⟩
  have hstar := Fv.noStar
  apply wpAny_call
  apply codeAny_of_tree
  show wpAny _ _ (callAny (.ref C) _) _ _ _
  repeat (any_goals (first | assumption | with_reducible refine wpAny_loadPart_at hC ?_ | wp_step))
  constructor
  · rfl
  apply codeAny_call_builtin_at (Code.quiet_builtin _ (by decide +kernel)) entry_typeCall
  apply wpAny_check_type_call_sub hC
  repeat (first | with_reducible refine wpAny_loadPart_at hC ?_ | with_reducible refine wpAny_madeBy_exc hC ?_ | wp_step)
  apply codeAny_call_builtin_code (Code.quiet_builtin _ Fv.quiet)
  simp only [checkBuiltinCall, Fv.newKind, Fv.newSplit, Fv.newRow]
  repeat (first | refine wpAny_loadPart_at hC ?_ | (refine wpAny_isSubtype_exc hC ?_; rw [cV]) | refine wpAny_staticBase_exc hC ?_ | refine wpAny_madeBy_exc hC ?_ | simp only [bne_self_eq_false, Bool.false_eq_true, if_false] | wp_step)
  apply exc_new X c hrest
  show wpAny _ _ _ _ _ _
  apply wpAny_bind
  unfold isInstance
  repeat (first | with_reducible refine wpAny_loadPart_at got ?_ | (with_reducible refine wpAny_isSubtype_exc hC1 ?_; rw [cS]) | wp_step)
  refine (PySem.W.looks_findIn (M := model prog w) X1 hi).here ?_
  apply wpAny_holding
  apply wpAny_bind
  refine (hb (.ref (h.objs.size + 1))).here ?_
  apply wpAny_bind
  apply wpAny_call
  refine codeAny_mono hq fun r s' q => ?_
  cases r with
  | error e => exact q
  | ok f =>
    cases f with
    | ret v =>
      obtain ⟨rfl, q⟩ := q
      apply wpAny_pure
      show wpAny _ _ (ret (.ref (h.objs.size + 1))) _ _ _
      exact wpAny_pure q
    | next => exact q.elim
    | brk => exact q.elim
    | cont => exact q.elim
/-- ValueError's own __init__: the arguments are laid anew -/
theorem exc_init0 {rest : List Value} {R : Result → Shared → Prop} {e t0 : Addr} (X : K.In h) (c : ExC K C) (he : h.get? e = some (excObj C t0)) (hrest : rest.length ≤ sizeLine)
    (hq : R (.ok (.ret .none)) ⟨(h.push (tupObj rest)).update e (Obj.mapFields (·.setIfInBounds 0 (.ref h.objs.size))), g, d, t, os⟩) :
    codeAny (model prog w) A (.call (.builtin "ValueError.__init__") ⟨.ref e :: rest, []⟩) R ⟨h, g, d, t, os⟩ := by
  obtain ⟨nm, q, N, bs, bm, hdct, sn, sub, ab, col, dd, k0, k1, k2, k3, k5, lk⟩ := c.obj
  have Fv := PySem.F.excBase_ValueError
  have cV := sub_has lk c.val
  have hC := X _ _ lk
  have hshort := Fv.noStar
  have chk : ∀ (a b : String) (n : Nat), Bind.check ⟨.positional, "*", "ValueError", .self, [⟨"args", .varPos, false⟩]⟩ a b n (List.map (fun x => x.fst) ({ pos := Value.ref e :: rest } : Args).kw) = pure () := fun a b n => check_star_args _ _ _ _ _ _
  have he1 : (h.push (tupObj rest)).get? e = some (excObj C t0) := Heap.get?_push_of_some _ he
  apply codeAny_call_builtin Fv.init.plain Fv.initEntry
  simp only [checkBuiltinCall, Fv.initKind, Fv.initSplit, Fv.initRow]
  repeat (first | with_reducible refine wpAny_loadPart_at he ?_ | with_reducible refine wpAny_loadPart_at hC ?_ | (with_reducible refine wpAny_isSubtype_exc hC ?_; rw [cV]) | wp_step)
  apply wpAny_onRaise
  rw [chk]
  apply wpAny_pure
  wp_walk
  exact hq
/-- raise of what was made -/
theorem raise_made {env : Env} {x : Str} {np cpos pos : Pos} {args : List Expr} {s : Shared} {Q : Flow → Shared → Prop} (c : ExC K C) (hh : A.handled = none)
    (h1 : wpAny (model prog w) A (eval (.Call (.Name x np) args [] cpos) env) (fun v s₁ => ∃ e t0 dx sl, v = .ref e ∧ K.In s₁.heap ∧
      s₁.heap.get? e = some ⟨.ref C, dx, .fields #[.ref t0, .none, .none, .none, .bool false, .none], sl⟩ ∧ E (.ref e) s₁) E s) :
    wpAny (model prog w) A (exec (.Raise (some (.Call (.Name x np) args [] cpos)) none pos) env) Q E s := by
  obtain ⟨nm, q, N, bs, bm, hdct, sn, sub, ab, col, dd, k0, k1, k2, k3, k5, lk⟩ := c.obj
  have cB := sub_has lk c.bas
  rw [arm_exec_Raise]
  apply wpAny_bind
  apply wpAny_standAt
  unfold raiseStmt
  apply wpAny_bind
  show wpAny _ _ (do let v ← eval (.Call (.Name x np) args [] cpos) env; standAt pos; pure v) _ _ _
  apply wpAny_bind
  refine wpAny_mono h1 (fun v s₁ h₁ => ?_) fun _ _ z => z
  apply wpAny_bind
  apply wpAny_standAt
  apply wpAny_pure
  obtain ⟨e, t0, dx, sl, rfl, X, he, hE⟩ := h₁
  obtain ⟨hp, g, d, tk, os⟩ := s₁
  have hC := X _ _ lk
  repeat (first | with_reducible refine wpAny_loadPart_at he ?_ | with_reducible refine wpAny_loadPart_at hC ?_ | (with_reducible refine wpAny_isSubtype_exc hC ?_; rw [cB]) | wp_step)
  exact wpAny_raiseNew_none hh hE
end
end L2

set_option Elab.async false
set_option linter.all false
set_option maxRecDepth 100000
set_option maxHeartbeats 4000000
namespace L2
open PySem PySem.Spec PySem.Builtin PySem.Builtin.ObjectAttr PySem.W

/-- what the text must have of a class of exceptions for its attributes -/
structure ExA (K : PySem.W.Frag) (C : Addr) : Prop extends ExC K C where
  ga : PySem.W.findIn K (.ref C) "__getattribute__" = some (some (.builtin "BaseException.__getattribute__"))
  gt : PySem.W.findIn K (.ref C) "__getattr__" = some none
  ca : PySem.W.findIn K (.ref C) "__class__" = some (some (.builtin "object.__class__"))
  cg : PySem.W.specialIn K (.builtin "object.__class__") "__get__" = some (some (.builtin "getset_descriptor.__get__"))
  ct : PySem.W.takesIn K (.builtin "object.__class__") = some true
  ob : PySem.W.mroIn K C (.type "object") = some true
section
variable {K : PySem.W.Frag} {prog : Program} {w : World} {A : Around} {E : Value → Shared → Prop} {h : Heap} {g : Array GenState} {d : Drawn} {t : Nat} {os : OsState} {x C : Addr} {ox : Obj} {od : Option Obj} {name : Str}
theorem exc_check {nameV : Value} {M : Model} {Q : Unit → Shared → Prop} (X : K.In h) (c : ExC K C) (I : PySem.W.InstAt h x ox C od) (hq : Q () ⟨h, g, d, t, os⟩) :
    wpAny M A (checkBuiltinCall "BaseException.__getattribute__" ⟨[.ref x, nameV], []⟩) Q E ⟨h, g, d, t, os⟩ := by
  have hk : builtinKind "BaseException.__getattribute__" = some .slot := by decide +kernel
  have hs : splitId "BaseException.__getattribute__" = some ("BaseException", "__getattribute__") := by decide +kernel
  have ha := PySem.F.args_bexc_ga (.ref x) nameV
  have hi : PySem.W.Looks M h (isInstance (.ref x) (.type "BaseException")) true := I.type.andThen (PySem.W.looks_subIn X c.bas)
  simp only [checkBuiltinCall, hk, hs]
  apply wpAny_bind
  apply hi.at
  simp only [Bool.not_true, Bool.false_eq_true, if_false]
  exact wpAny_of_eq ha hq
theorem exc_entry {tk : Tok} {Q : Fin → Shared → Prop} {f : Found} (X : K.In h) (I : PySem.W.InstAt h x ox C od) (hf : PySem.W.Looks (model prog w) h (find (.ref x) (.ref C) name) f)
    (hq : wpAny (model prog w) A (match f with | .value v => ret v | .bind g a => bindTo g a (.ref x) (.ref C) | .missing => unsupported "") Q E ⟨h, g, d, t, os⟩) (hm : f ≠ .missing) :
    wpAny (model prog w) A (Builtin.«object.__getattribute__» ⟨[.ref x, .str name tk], []⟩) Q E ⟨h, g, d, t, os⟩ := by
  have L0 := I.type (M := model prog w)
  unfold Builtin.«object.__getattribute__»
  apply wpAny_bind
  apply wpAny_pure
  apply wpAny_bind
  apply wpAny_pure
  apply wpAny_bind
  apply L0.at
  apply wpAny_bind
  apply hf.at
  cases f with
  | value v => exact hq
  | bind a b => exact hq
  | missing => exact absurd rfl hm
theorem exc_by {tk : Tok} {fill expr : Bool} {Q : Value → Shared → Prop} {f : Found} {v : Value} (X : K.In h) (c : ExA K C) (I : PySem.W.InstAt h x ox C od) (hf : PySem.W.Looks (model prog w) h (find (.ref x) (.ref C) name) f) (hm : f ≠ .missing)
    (hq : ∀ {A : Around} {E : Value → Shared → Prop} {Q : Fin → Shared → Prop}, Q (.done (.ret v)) ⟨h, g, d, t, os⟩ → wpAny (model prog w) A (match f with | .value v => ret v | .bind g a => bindTo g a (.ref x) (.ref C) | .missing => unsupported "") Q E ⟨h, g, d, t, os⟩)
    (hh : handedIn v = true) (hv : Q v ⟨h, g, d, t, os⟩) : wpAny (model prog w) A (getAttrBy (.ref x) (.str name tk) fill expr) Q E ⟨h, g, d, t, os⟩ := by
  have L0 := I.type (M := model prog w)
  have L1 := looks_findIn (M := model prog w) X c.ga
  have L2 := looks_findIn (M := model prog w) X c.gt
  have hx0 : (expr && onTheHeap (Value.builtin "BaseException.__getattribute__")) = false := by cases expr <;> rfl
  have apart : (onTheHeap (Value.ref C) && Value.builtin "BaseException.__getattribute__" == Value.builtin "object.__getattribute__") = false := by
    rw [show (Value.builtin "BaseException.__getattribute__" == Value.builtin "object.__getattribute__") = false from by decide +kernel]; rfl
  have f3 := PySem.F.attrBase_ValueError.ga.bind (.ref x)
  have body : ∀ {A : Around} {R : Result → Shared → Prop}, R (.ok (.ret v)) ⟨h, g, d, t, os⟩ → codeAny (model prog w) A (.call (.builtin "BaseException.__getattribute__") ⟨[.ref x, .str name tk], []⟩) R ⟨h, g, d, t, os⟩ := fun {A R} r =>
    codeAny_call_builtin PySem.F.attrBase_ValueError.ga.plain PySem.F.entry_bexc_ga (exc_check X c.toExC I (exc_entry X I hf (hq r) hm))
  unfold getAttrBy
  apply wpAny_holding
  apply wpAny_bind
  apply L0.at
  apply wpAny_bind
  apply L1.at
  show wpAny _ _ (if (onTheHeap (Value.ref C) && Value.builtin "BaseException.__getattribute__" == Value.builtin "object.__getattribute__") = true then _ else getAttrByItsOwn (.ref x) (.str name tk) (.ref C) (.builtin "BaseException.__getattribute__") fill expr) _ _ _
  rw [if_neg (by rw [apart]; exact Bool.false_ne_true)]
  unfold getAttrByItsOwn
  apply wpAny_bind
  show wpAny _ _ (typeLookup (.ref C) "__getattr__") _ _ _
  apply L2.at
  apply wpAny_bind
  apply wpAny_attempt
  apply wpAny_holding
  unfold callGetattribute
  rw [if_neg (by rw [hx0]; exact Bool.false_ne_true)]
  unfold boundAndCalled
  apply wpAny_bind
  refine wpAny_of_eq f3 ?_
  refine wpAny_call (body ?_)
  show wpAny _ _ (handedOut v) _ _ _
  rw [handedOut_of hh]
  exact wpAny_pure hv
/-- the class of an exception, as isinstance asks for it -/
theorem exc_kit (c : ExA K C) : KitX K (.ref x) (.ref C) (fun h => InstAt h x ox C od) where
  ty := fun _ _ _ I => I.type
  it := fun _ _ X _ => by
    obtain ⟨nm, q, N, bs, bm, hdct, sn, sub, ab, col, dd, k0, k1, k2, k3, k5, lk⟩ := c.obj
    intro A' Q' E' s' k q
    unfold isType loadHead
    apply wpAny_bind
    apply wpAny_loadPart (k _ _ (X _ _ lk))
    exact wpAny_pure q
  ne := fun h tp dd its n sl X e => by
    obtain ⟨nm, q, N, bs, bm, hdct, sn, sub, ab, col, dd, k0, k1, k2, k3, k5, lk⟩ := c.obj
    have hC := X _ _ lk
    refine Bool.eq_false_iff.mpr fun z => ?_
    have z : C = tp := Value.ref.inj (beq_iff_eq.mp z)
    rw [z, e] at hC
    have q1 : Value.type "tuple" = Value.type "type" := congrArg (fun o => Option.elim o Value.none Obj.cls) hC
    exact absurd q1 (by decide)
  ca := fun {prog w A E Q s} X I q => by
    obtain ⟨hh, g, d, t, os⟩ := s
    have hcls : ∃ cd, clsIn K C = some cd := by
      obtain ⟨nm, q, N, bs, bm, hdct, sn, sub, ab, col, dd, k0, k1, k2, k3, k5, lk⟩ := c.obj
      unfold clsIn
      rw [lk]
      exact ⟨_, rfl⟩
    obtain ⟨cd, hcd⟩ := hcls
    have hf : findObj K C od "__class__" = some (.bind (.builtin "getset_descriptor.__get__") (.builtin "object.__class__")) := by
      unfold findObj
      rw [hcd, c.ca]
      dsimp only [Option.bind]
      rw [c.cg]
      dsimp only
      rw [c.ct]
    unfold getAttr? getAttrBy?
    apply wpAny_bind
    apply wpAny_mkText
    apply wpAny_bind
    apply wpAny_attempt
    refine exc_by X c I (looks_find X I hf) (fun z => nomatch z) (fun {A E Q} r => ?_) rfl (wpAny_pure q)
    show wpAny _ _ (bindTo (.builtin "getset_descriptor.__get__") (.builtin "object.__class__") (.ref x) (.ref C)) _ _ _
    unfold bindTo
    show wpAny _ _ (holding [.builtin "object.__class__"] (call (.builtin "getset_descriptor.__get__") [.builtin "object.__class__", .ref x, .ref C]) >>= ret) _ _ _
    apply wpAny_bind
    apply wpAny_holding
    exact wpAny_call (class_get (ox := ox) (od := od) X I c.ob (wpAny_pure r))
end
end L2

set_option Elab.async false
set_option linter.all false
set_option maxRecDepth 100000
set_option maxHeartbeats 4000000
namespace L2
open PySem PySem.Spec PyProof.Rows

/-- an exception that was caught, by what is true of its object -/
def XO (e C : Addr) (dx : Option Addr) : HO := .ext fun h => ∃ o, h.get? e = some o ∧ o.cls = .ref C ∧ o.dict = dx ∧ PySem.W.notCls o = true

/-! ### f-strings: each part is a text of at most 100,000 signs, there are less than a hundred -/
abbrev TF := St → Hp → (Hp → Prop) → Prop
def PF (X : Cx) (e : Expr) (t : TF) : Prop := ∀ (pins : List (Addr × Obj)) (s : Shared) (σ : St) (H : Hp) (Q : Hp → Prop), Inv X pins σ H s → t σ H Q →
  wpAny (model X.prog X.w) X.A (eval e X.env) (fun u s' => ∃ y tk H', u = .str y tk ∧ y.length ≤ 100000 ∧ Inv X pins σ H' s' ∧ Q H') X.xe s
def PFs (X : Cx) (es : List Expr) (t : TF) : Prop := ∀ (pins : List (Addr × Obj)) (s : Shared) (σ : St) (H : Hp) (Q : Hp → Prop) (acc : Str) (j : Nat), Inv X pins σ H s → acc.length ≤ 100000 * j → j + es.length ≤ 100 → t σ H Q →
  Joins (model X.prog X.w) X.A X.xe (evalEach es X.env) acc (fun out s' => ∃ H', out.length ≤ 10000000 ∧ Inv X pins σ H' s' ∧ Q H') s
section
variable {X : Cx} {e : Expr} {es : List Expr} {te : TE} {t u : TF} {pos : Pos}
def fCon (x : Str) : TF := fun _ H Q => x.length ≤ 100000 ∧ Q H
theorem pf_con {x j} : PF X (.Constant (.str x) j pos) (fCon x) := fun _ _ _ H _ I h => Calls.Constant_str ⟨x, _, H, rfl, h.1, I.tok _, h.2⟩
def fInt (te : TE) : TF := fun σ H Q => te σ H fun v H1 => ∃ i : Int, v = .int i ∧ i.natAbs < 2 ^ 64 ∧ Q H1
theorem int_log {i : Int} (h : i.natAbs < 2 ^ 64) : i.natAbs.log2 < 1920 := by
  by_cases z : i.natAbs = 0
  · rw [z]; decide
  · exact Nat.lt_trans ((Nat.log2_lt z).mpr h) (by decide)
theorem int_len {i : Int} (h : i.natAbs < 2 ^ 64) : (Str.ofString (toString i)).length ≤ 100000 := by
  have e := PySem.int_text_length_le (k := 1920) (by decide) (int_log h)
  rw [PySem.ofString_length]
  omega
theorem pf_int (he : PE X e te) : PF X (.FormattedValue e (-1) none pos) (fInt te) := by
  intro pins s σ H Q I h
  refine wpAny_FormattedValue_plain (thn (he pins s σ H _ I h) fun v s1 ⟨x, H1, I1, r1, i, ex, hi, q⟩ => ?_)
  subst ex
  obtain ⟨t, rfl⟩ := r1
  exact wpAny_formatField_int (int_log hi) ⟨_, _, H1, rfl, int_len hi, I1.tok _, q⟩
def fRepS (te : TE) : TF := fun σ H Q => te σ H fun v H1 => ∃ x : Str, v = .str x ∧ x.length ≤ 1000 ∧ (∀ c ∈ x.cps.toList, c < 16 ^ 8) ∧ Q H1
theorem pf_repS (he : PE X e te) : PF X (.FormattedValue e 114 none pos) (fRepS te) := by
  intro pins s σ H Q I h
  refine wpAny_FormattedValue_repr (thn (he pins s σ H _ I h) fun v s1 ⟨x, H1, I1, r1, y, ex, hl, hc, q⟩ => ?_)
  subst ex
  obtain ⟨t, rfl⟩ := r1
  have b := StrLaws.reprText_len y hc
  have b1 : (reprText y).length ≤ 100000 := by omega
  have b2 : (reprText y).length ≤ sizeLine := Nat.le_trans b1 (by decide)
  refine pyReprObj_str (wpAny_formatField_str ?_ ?_ b2) b2
  · exact ⟨_, _, H1, rfl, b1, I1.tok _, q⟩
  · exact ⟨_, _, H1, rfl, b1, I1.tok _, q⟩
def fNil : TF := fun _ H Q => Q H
def fSeq (t u : TF) : TF := fun σ H Q => t σ H fun H1 => u σ H1 Q
theorem pfs_nil : PFs X [] fNil := fun pins s σ H Q acc j I ha hj h => ⟨H, by simp at hj; exact Nat.le_trans ha (Nat.le_trans (Nat.mul_le_mul_left _ hj) (by decide)), I, h⟩
theorem pfs_cons (h1 : PF X e t) (h2 : PFs X es u) : PFs X (e :: es) (fSeq t u) := by
  intro pins s σ H Q acc j I ha hj h
  show wpAny _ _ (eval e X.env) _ _ s
  refine thn (h1 pins s σ H _ I h) fun v s1 ⟨y, tk, H1, ev, hy, I1, q⟩ => ?_
  have hl : (acc ++ y).length ≤ 100000 * (j + 1) := by rw [strLen_append]; omega
  have hj' : j + 1 + es.length ≤ 100 := by simp at hj; omega
  refine ⟨y, tk, ev, Nat.le_trans hl (Nat.le_trans (Nat.mul_le_mul_left _ (show j + 1 ≤ 100 by omega)) (by decide)), ?_⟩
  exact h2 pins s1 σ H1 Q _ (j + 1) I1 hl hj' q
/-- f"..": some text -/
def tFs (t : TF) : TE := fun σ H Q => t σ H fun H1 => ∀ x : Str, Q (.str x) H1
theorem pe_fstr {v1 v2 : Expr} {rest : List Expr} (h : PFs X (v1 :: v2 :: rest) t) (hl : (v1 :: v2 :: rest).length ≤ 100 := by decide) : PE X (.JoinedStr (v1 :: v2 :: rest) pos) (tFs t) := by
  intro pins s σ H Q I hq
  apply wpAny_JoinedStr
  have z := h pins s σ H _ Str.empty 0 I (Nat.zero_le _) (by simpa using hl) hq
  have mono : ∀ (l : List (Sem Value)) (acc : Str) (P P' : Str → Shared → Prop) (s : Shared), (∀ o s', P o s' → P' o s') → Joins (model X.prog X.w) X.A X.xe l acc P s → Joins (model X.prog X.w) X.A X.xe l acc P' s := by
    intro l
    induction l with
    | nil => intro acc P P' s f q; exact f _ _ q
    | cons a r ih =>
      intro acc P P' s f q
      exact thn (show wpAny _ _ a _ _ s from q) fun v s1 ⟨y, tk, e1, e2, e3⟩ => ⟨y, tk, e1, e2, ih _ P P' s1 f e3⟩
  exact mono _ _ _ _ _ (fun o s' ⟨H', l, I', q'⟩ => ⟨Nat.le_trans l (by decide), ⟨.str o, H', I'.tok _, ⟨_, rfl⟩, q' o⟩⟩) z
end

/-! ### raise C(..), C without an __init__ of its own -/
section
variable {X : Cx} {E : XK} {C : Addr} {x : Str} {np cpos pos : Pos} {e : Expr} {es : List Expr} {t : TA}
def tRz (E : XK) (C : Addr) (t : TA) : TS := fun _ σ H => t σ H fun vs H1 => vs.length ≤ sizeLine ∧ E (.ref C) none H1
theorem exc_made {K : PySem.W.Frag} {prog : Program} {w : World} {A : Around} {E : Value → Shared → Prop} {s : Shared} {us : List Value} {Q : Value → Shared → Prop} (X : K.In s.heap) (c : ExC K C) (hi : PySem.W.findIn K (.ref C) "__init__" = some (some (.builtin "ValueError.__init__"))) (hl : us.length ≤ sizeLine)
    (h : ∀ h' t0, (∀ b o, s.heap.get? b = some o → h'.get? b = some o) → h'.get? (s.heap.objs.size + 1) = some (excObj C t0) → Q (.ref (s.heap.objs.size + 1)) { s with heap := h' }) :
    wpAny (model prog w) A (call (.ref C) us) Q E s := by
  obtain ⟨hp, g, d, tk, os⟩ := s
  dsimp only at X h ⊢
  refine exc_call X c hi (fun self => PySem.W.Looks.of_pure (PySem.F.excBase_ValueError.init.bind self)) hl ?_
  have up : ∀ b o, hp.get? b = some o → ((hp.push (tupObj us)).push (excObj C hp.objs.size)).get? b = some o := fun b o q => Heap.get?_push_of_some _ (Heap.get?_push_of_some _ q)
  have got : ((hp.push (tupObj us)).push (excObj C hp.objs.size)).get? (hp.objs.size + 1) = some (excObj C hp.objs.size) := Heap.get?_push_at (by rw [Heap.size_push]) rfl
  refine exc_init0 (t0 := hp.objs.size) (X.keeps up) c got hl ⟨rfl, h _ ((hp.push (tupObj us)).push (excObj C hp.objs.size)).objs.size (fun b o q => ?_) ?_⟩
  · have nb : b ≠ hp.objs.size + 1 := Nat.ne_of_lt (Nat.lt_succ_of_lt (Heap.lt_size q))
    rw [Heap.get?_update_other _ _ (Ne.symm nb)]
    exact Heap.get?_push_of_some _ (up b o q)
  · rw [Heap.get?_update_self _ (Heap.get?_push_of_some _ got) rfl]
    rfl
theorem ps_raise (F : Fns X E) (hh : X.A.handled = none) (c : ExC X.K C) (hi : PySem.W.findIn X.K (.ref C) "__init__" = some (some (.builtin "ValueError.__init__"))) (hg : Gl X x) (hm : X.mg x = some (.ref C)) (ha : PA X (e :: es) t)
    (hdb : (x == ("__debug__" : Str)) = false := by decide) (he : starEach (e :: es) X.env = (false, eval e X.env) :: starEach es X.env := by rfl) (hpl : (backTo cpos (starEach es X.env)).any (·.1) = false := by rfl) :
    PS X (.Raise (some (.Call (.Name x np) (e :: es) [] cpos)) none pos) (tRz E C t) := by
  intro pins s σ H D I h
  refine raise_made c hh (wpAny_Call_Name_kw (ld_glob I hg hm ?_ hdb))
  refine PySem.W.callWith_K (h₀ := X.base) I.ok.mod.kin c.kp (thn (ha cpos pins s σ H _ I h) fun us s1 ⟨vs, H1, I1, r, hl, q⟩ => ⟨I1.kIn, ?_⟩) he hpl
  refine exc_made I1.kIn c hi (by rw [List.nil_append, ← r.length]; exact hl) fun h' t0 k got => ?_
  have I2 : Inv X pins σ H1 { s1 with heap := h' } := I1.kept (t' := s1.toks) k
  refine ⟨_, t0, none, #[], rfl, I2.kIn, got, ?_⟩
  exact F.raised I2 (I1.fpOk (Nat.le_succ _) (I1.hok.fresh (Nat.le_succ _))) got rfl rfl q
end

/-! ### a caught exception's class -/
section
variable {X : Cx} {pins : List (Addr × Obj)} {σ : St} {H : Hp} {s : Shared} {A : Around} {E : Value → Shared → Prop} {Q : Value → Shared → Prop} {e C : Addr} {dx : Option Addr} {cv : Value} {b : Bool}
/-- the exception's own dict, where it has one, is known -/
def XDict (H : Hp) (dx : Option Addr) : Prop := dx = none ∨ ∃ a fs, dx = some a ∧ H a = some (.xd fs)
theorem xo_inst (I : Inv X pins σ H s) (hx : H e = some (XO e C dx)) (hd : XDict H dx) : ∃ ox od, PySem.W.InstAt s.heap e ox C od := by
  have q : ObjOk X.prog X.w H s.heap e (XO e C dx) := I.hok e _ hx
  obtain ⟨⟨o, h1, h2, h3, h4⟩, _⟩ := q
  rcases hd with hd | ⟨a, fs, hd, ha⟩
  · exact ⟨o, none, ⟨h1, h2, h4, by rw [h3, hd]; trivial⟩⟩
  · have q : ObjOk X.prog X.w H s.heap a (.xd fs) := I.hok a _ ha
    obtain ⟨mA, ⟨oa, es, ep, e1, _⟩, _⟩ := q
    exact ⟨o, some oa, ⟨h1, h2, h4, by rw [h3, hd]; exact e1⟩⟩
theorem isinstX_ok (I : Inv X pins σ H s) (hx : H e = some (XO e C dx)) (hd : XDict H dx) (c : ExA X.K C) (k : PySem.W.kitOne X.K (.ref C) cv = some b) (h : ∀ tk, Q (.bool b) { s with toks := tk }) :
    wpAny (model X.prog X.w) A (call (.builtin "isinstance") [.ref e, cv]) Q E s := by
  obtain ⟨ox, od, J⟩ := xo_inst I hx hd
  exact PySem.W.kia_one (exc_kit (ox := ox) (od := od) c) I.kIn J k (fun z => nomatch z) h
end

/-! ### a block whose exceptions are told with the names' values -/
abbrev XKs := Value → Option Addr → St → Hp → Prop
abbrev TSx := Ends → XKs → St → Hp → Prop
abbrev TEx := St → Hp → VK → XK → Prop
def XP (X : Cx) (pins : List (Addr × Obj)) (E : XKs) (ev : Value) (s' : Shared) : Prop := ∃ (e T : Addr) (cls : Value) (dx : Option Addr) (σ' : St) (H' : Hp), ev = .ref e ∧ Inv X pins σ' H' s' ∧ FpOk X pins H' e ∧ FpOk X pins H' T ∧ Air s'.heap e T cls dx .none ∧ E cls dx σ' H'
def PEx (X : Cx) (e : Expr) (t : TEx) : Prop := ∀ (pins : List (Addr × Obj)) (s : Shared) (σ : St) (H : Hp) (Q : VK) (E : XK), Inv X pins σ H s → t σ H Q E →
  wpAny (model X.prog X.w) X.A (eval e X.env) (EP X pins σ Q) (XP X pins fun c d σ' H' => σ' = σ ∧ E c d H') s
def PSx (X : Cx) (st : Stmt) (t : TSx) : Prop := ∀ (pins : List (Addr × Obj)) (s : Shared) (σ : St) (H : Hp) (D : Ends) (E : XKs), Inv X pins σ H s → t D E σ H → wpAny (model X.prog X.w) X.A (exec st X.env) (SP X pins D) (XP X pins E) s
def PSsx (X : Cx) (st : List Stmt) (t : TSx) : Prop := ∀ (pins : List (Addr × Obj)) (s : Shared) (σ : St) (H : Hp) (D : Ends) (E : XKs), Inv X pins σ H s → t D E σ H → wpAny (model X.prog X.w) X.A (execs st X.env) (SP X pins D) (XP X pins E) s
section
variable {X : Cx} {st : Stmt} {rest : List Stmt} {t u : TSx} {e : Expr} {te : TEx} {pos : Pos}
def xOf (t : TS) : TSx := fun D _ σ H => t D σ H
def xSeq (t u : TSx) : TSx := fun D E σ H => t { D with nx := u D E } E σ H
theorem pssx_one (h1 : PSx X st t) : PSsx X [st] t := by
  intro pins s σ H D E I h
  refine wpAny_execs_cons (thn (h1 pins s σ H D E I h) fun f s1 q => ?_)
  cases f with
  | next => exact wpAny_execs_nil q
  | ret v => exact q
  | brk => exact q
  | cont => exact q
def xDrop (te : TEx) : TSx := fun D E σ H => te σ H (fun _ H1 => D.nx σ H1) fun c d H1 => E c d σ H1
theorem xp_mono {pins : List (Addr × Obj)} {E E' : XKs} (f : ∀ c d σ H, E c d σ H → E' c d σ H) {ev : Value} {s' : Shared} (h : XP X pins E ev s') : XP X pins E' ev s' := by
  obtain ⟨e, T, cls, dx, σ', H', r, I, fe, fT, a, q⟩ := h
  exact ⟨e, T, cls, dx, σ', H', r, I, fe, fT, a, f _ _ _ _ q⟩
theorem psx_expr (he : PEx X e te) (hs : swapsWith e none pos.line X.env = pure false := by rfl) : PSx X (.Expr e pos) (xDrop te) := by
  intro pins s σ H D E I h
  refine wpAny_Expr_any (wpAny_mono (he pins s σ H _ _ I h) (fun v s1 ⟨x, H1, I1, r1, q1⟩ => ⟨σ, H1, I1, q1⟩) fun ev s1 z => xp_mono (fun c d σ' H' q => ?_) z) I.quiet hs
  obtain ⟨rfl, q⟩ := q
  exact q
def xSet (i : Nat) (te : TEx) : TSx := fun D E σ H => te σ H (fun v H1 => D.nx (σ.set i (some v)) H1) fun c d H1 => E c d σ H1
def xIf (c : TT) (t u : TSx) : TSx := fun D E σ H => c σ H fun b H1 => if b = true then t D E σ H1 else u D E σ H1
end
/-! ### a call in such a block -/
section
variable {X : Cx} {k : Nat} {f C : Addr} {fd : FuncData} {ps : List Str} {sp : Sp} {dvs : List V} {ds : List Value} {x m : Str} {p pos apos : Pos} {e o : Expr} {es : List Expr} {ta : TE} {t : TA}
def xCall (sp : Sp) (t : TA) : TEx := fun σ H Q E => t σ H fun vs H1 => sp vs H1 Q E
theorem pa_wish {pins : List (Addr × Obj)} {s : Shared} {σ : St} {H : Hp} {Q : List V → Hp → Prop} {E : Value → Shared → Prop} (ha : PA X.nox es t) (I : Inv X pins σ H s) (h : t σ H Q) :
    wpAny (model X.prog X.w) X.A (spliced (backTo pos (starEach es X.env))) (AP X pins σ Q) E s :=
  wpAny_mono (ha pos pins s σ H Q (I.wish _) h) (fun _ _ ⟨vs, H', I', r, q⟩ => ⟨vs, H', I'.unwish, r, q⟩) fun _ _ z => False.elim z
end
end L2

set_option Elab.async false
set_option linter.all false
set_option maxRecDepth 100000
set_option maxHeartbeats 4000000
namespace L2
open PySem PySem.Spec PyProof.Rows

section
variable {K : PySem.W.Frag} {M : Model} {A : Around} {E : Value → Shared → Prop} {h : Heap} {g : Array GenState} {d : Drawn} {t : Nat} {os : OsState} {e C D : Addr}
theorem exc_matches {oe : Obj} {Q : Bool → Shared → Prop} (X : K.In h) (cD : ExC K D) (he : h.get? e = some oe) (hcls : oe.cls = .ref C) (cC : ExC K C) (hs : PySem.W.subIn K (.ref C) (.ref D) = some true) (hq : Q true ⟨h, g, d, t, os⟩) :
    wpAny M A (excMatches (.ref e) (.ref D)) Q E ⟨h, g, d, t, os⟩ := by
  obtain ⟨nm, q, N, bs, bm, hdct, sn, sub, ab, col, dd, k0, k1, k2, k3, k5, lk⟩ := cD.obj
  obtain ⟨nm', q', N', bs', bm', hdct', sn', sub', ab', col', dd', k0', k1', k2', k3', k5', lk'⟩ := cC.obj
  have cB := sub_has lk cD.bas
  have cS := sub_has lk' hs
  have hD := X _ _ lk
  have hC := X _ _ lk'
  have f := tc_notTuple
  unfold excMatches
  repeat (first | (with_reducible refine wpAny_loadPart_at he ?_; rw [hcls]) | with_reducible refine wpAny_loadPart_at hD ?_ | (with_reducible refine wpAny_isSubtype_exc hD ?_; rw [cB]) | (with_reducible refine wpAny_isSubtype_exc hC ?_; rw [cS]) | wp_step)
  exact hq
end

section
variable {X : Cx} {pins : List (Addr × Obj)} {σ : St} {H : Hp} {s : Shared}
/-- an object of ours is tracked from here on -/
theorem Inv.track {a : Addr} {o : HO} (I : Inv X pins σ H s) (f : FpOk X pins H a) (ok : ObjOk X.prog X.w (upd H a o) s.heap a o) : Inv X pins σ (upd H a o) s := by
  obtain ⟨f0, f1, f2, f3, f4, f5⟩ := f
  have ne : ∀ b u, H b = some u → b ≠ a := fun b u q z => by rw [z, f0] at q; cases q
  have old : ∀ b u, X.s₀.heap.get? b = some u → b ∉ X.ex → b ≠ a := fun b u q n z => by
    rcases f3 with r | r
    · rw [z] at n; exact n r
    · exact absurd (Nat.lt_of_lt_of_le (Heap.lt_size q) (by rw [z]; exact r)) (Nat.lt_irrefl _)
  refine ⟨I.ok, I.os, I.bare, ⟨I.base.keep, I.base.slot, fun b u q n hx => by rw [upd_ne (old b u q hx)]; exact I.base.free b u q n hx, I.base.there, fun b xs q => by have z := I.base.tups b xs q; rw [upd_ne (ne b _ z)]; exact z,
    fun b u xs q => by have z := I.base.frzs b u xs q; rw [upd_ne (ne b _ z)]; exact z, fun b ps q => by obtain ⟨m, z⟩ := I.base.tbls b ps q; exact ⟨m, by rw [upd_ne (ne b _ z)]; exact z⟩⟩,
    I.loc, I.cell, by rw [upd_ne (Ne.symm f1)]; exact I.free, fun x c q => by rw [upd_ne (f4 x c q)]; exact I.freeC x c q, fun p hp => ?_, fun b u q => ?_, I.len⟩
  · obtain ⟨p1, p2, p3, p4, p5⟩ := I.pin p hp
    exact ⟨p1, by rw [upd_ne (f5 p hp)]; exact p2, p3, p4, p5⟩
  · by_cases hb : b = a
    · subst hb; rw [upd_same] at q; cases q; exact ok
    · rw [upd_ne hb] at q
      exact (I.hok b u q).stay (fun _ _ _ z => z) (fun c z => by rw [upd_ne (ne c _ z)]; exact z) fun c xs z => by rw [upd_ne (ne c _ z)]; exact z
/-- a name has gone -/
theorem Inv.gone {i : Nat} {x : Str} {m : Str → Option Value} {v : Option Value} {h' : Heap} {tk : Nat} (I : Inv X pins σ H s) (hN : X.N.Nodup) (hi : X.N[i]? = some x) (hx : X.env.scope.names.lookup x = some .local)
    (hm : s.heap.Ns X.env.locals m) (hn : h'.Ns X.env.locals fun y => if y = x then v else m y) (hs : Heap.SameBut X.env.locals s.heap h') : Inv X pins (σ.set i none) H { s with heap := h', toks := tk } := by
  obtain ⟨m0, hm0, hl⟩ := id I.loc
  have hmm : m0 = m := by
    obtain ⟨o1, es1, ep1, a1, a2, _, a3⟩ := hm0
    obtain ⟨o2, es2, ep2, b1, b2, _, b3⟩ := hm
    rw [a1] at b1
    cases b1
    rw [a2] at b2
    cases b2
    funext y
    rw [← a3, ← b3]
  subst hmm
  have cne := I.cne
  obtain ⟨oL, _, _, hoL, _⟩ := id hm
  refine ⟨I.ok, I.os, I.bare, ⟨fun b o e n hb hx => ?_, fun b o e n hb hx => ?_, I.base.free, fun b o e hx => ?_, I.base.tups, I.base.frzs, I.base.tbls⟩, ⟨_, hn, fun j y v' e1 e2 e3 => ?_⟩, fun y c e => ?_, I.free, I.freeC, fun p hp => ?_, fun b ob e => ?_, by simpa using I.len⟩
  · exact (hs.2 b (Nat.ne_of_lt (Nat.lt_of_lt_of_le (Heap.lt_size e) I.ok.above))).trans (I.base.keep b o e n hb hx)
  · obtain ⟨sl, e1⟩ := I.base.slot b o e n hb hx
    exact ⟨sl, (hs.2 b (Nat.ne_of_lt (Nat.lt_of_lt_of_le (Heap.lt_size e) I.ok.above))).trans e1⟩
  · obtain ⟨o', e1⟩ := I.base.there b o e hx
    exact ⟨o', (hs.2 b (Nat.ne_of_lt (Nat.lt_of_lt_of_le (Heap.lt_size e) I.ok.above))).trans e1⟩
  · have hj : j ≠ i := fun z => by
      subst z
      by_cases hb : j < σ.length
      · rw [List.getElem?_set_self hb] at e2; cases e2
      · rw [List.getElem?_eq_none (by simpa using hb)] at e2; cases e2
    rw [List.getElem?_set_ne (Ne.symm hj)] at e2
    obtain ⟨u', r', q⟩ := hl j y v' e1 e2 e3
    refine ⟨u', r', ?_⟩
    rcases q with ⟨k, e⟩ | ⟨k, c, e, z⟩
    · refine .inl ⟨k, ?_⟩
      have : y ≠ x := fun e => hj (nodup_ix hN e1 (e ▸ hi))
      simp [this, e]
    · exact .inr ⟨k, c, e, z.sameBut hs (cne y c e)⟩
  · obtain ⟨w', z⟩ := I.cell y c e
    exact ⟨w', z.sameBut hs (cne y c e)⟩
  · obtain ⟨e, n, ne, nf, d⟩ := I.pin p hp
    exact ⟨(hs.2 p.1 ne).trans e, n, ne, nf, d⟩
  · refine (I.hok b ob e).stay (fun c w' hc q => (hs.2 c ?_).trans q) (fun _ q => q) fun _ _ q => q
    rintro rfl
    rcases hc with rfl | hc
    · rw [I.free] at e; cases e
    · rw [I.free] at hc; cases hc
/-- an except suite's context -/
abbrev Cx.marked (X : Cx) (v : Value) : Cx := { X with A := X.A.mark (some v), calm := false, xe := fun _ _ => False }
theorem Inv.mark (I : Inv X pins σ H s) (v : Value) : Inv (X.marked v) pins σ H s :=
  ⟨⟨I.ok.mod, I.ok.kind, I.ok.glob, I.ok.blt, I.ok.above, I.ok.inj, I.ok.has, I.ok.cab, fun z => absurd z Bool.false_ne_true, I.ok.frames, I.ok.stk, I.ok.exf, I.ok.bs, I.ok.bsz, I.ok.noex, I.ok.exfs, I.ok.funs, I.ok.frf⟩,
    I.os, I.bare, I.base, I.loc, I.cell, I.free, I.freeC, I.pin, I.hok, I.len⟩
theorem Inv.unmark {v : Value} (J : Inv (X.marked v) pins σ H s) (ok : X.Ok) : Inv X pins σ H s :=
  ⟨ok, J.os, J.bare, J.base, J.loc, J.cell, J.free, J.freeC, J.pin, J.hok, J.len⟩
end

/-! ### try: .. except D as e: x = e -/
section
variable {X : Cx} {D : Addr} {body : List Stmt} {t : TSx} {x n dn : Str} {np xp ep ap hp pos : Pos} {i j : Nat}
def tTry (K : PySem.W.Frag) (D : Addr) (i j : Nat) (t : TSx) : TS := fun B σ H => t B (fun cls dx σ' H' => ∃ C, cls = .ref C ∧ ExC K C ∧ PySem.W.subIn K (.ref C) (.ref D) = some true ∧
  ∀ e, H' e = none → B.nx (((σ'.set j (some (.ref e))).set i (some (.ref e))).set j none) (upd H' e (XO e C dx))) σ H
theorem ps_try (hst : X.stack = X.env :: X.outer) (hf : X.env.frame = some X.env.locals) (cD : ExC X.K D) (hN : X.N.Nodup) (hg : Gl X dn) (hm : X.mg dn = some (.ref D)) (hi : X.N[i]? = some x) (hx : Loc X.env.scope x) (hj : X.N[j]? = some n)
    (hn : X.env.scope.names.lookup n = some .local) (hb : PSsx X body t) (hfx : X.fn x = true ∨ X.env.scope.names.lookup x = some .local := by first | exact .inl rfl | exact .inr rfl | assumption) (hdb : (dn == ("__debug__" : Str)) = false := by decide)
    (hd2 : (n == ("__debug__" : Str)) = false := by decide) (hd3 : (n == ("__classdict__" : Str)) = false := by decide) (hs : ∀ v, swapsWith (.Name n ep) (some (.Name x xp)) ap.line (X.marked v).env = pure false := by intro; rfl) :
    PS X (.Try body [.ExceptHandler (some (.Name dn np)) (some n) [.Assign [.Name x xp] (.Name n ep) ap] hp] [] [] pos) (tTry X.K D i j t) := by
  intro pins s σ H B I h
  refine wpAny_Try_except (wpAny_mono (hb pins s σ H B _ I h) (fun f s1 q => ?_) fun ev s1 z => ?_)
  · cases f with
    | next => exact wpAny_execs_nil q
    | ret v => exact q
    | brk => exact q
    | cont => exact q
  · obtain ⟨e, T, cls, dx, σ', H', rfl, I1, fe, fT, a, C, rfl, cC, csub, q⟩ := z
    have hfr : X.A.frames = some (X.env :: X.outer) := by rw [← hst]; exact I1.ok.frames
    have hl : s1.heap.FunFrames X.base (X.env :: X.outer) := by rw [← hst]; exact I1.stack
    refine air_notes hfr hl hf a fun h1 T1 hT1 a1 c1 => ?_
    refine air_lands a1 fun h2 a2 c2 => ?_
    rw [← hst] at c1
    have c3 : Chg (frs X.stack) [T1, e, T] s1.heap h2 := (c1.mono (fun b z => z) fun b z => by simp at z; rcases z with z | z <;> simp [z]).trans (c2.mono (fun b z => nomatch z) fun b z => by simp at z; simp [z])
    have I2 : Inv X pins σ' H' { s1 with heap := h2 } := I1.call (ch := [e, T]) (t' := s1.toks) (d' := s1.drawn) (g' := s1.gens) (Un.chg (c3.drop hT1) (fun b z => z) fun b z => z) (I1.hok.chg (c3.drop hT1) I1.stkFree fun b z => by
      simp at z; rcases z with z | z <;> rw [z]; exact fe.1; exact fT.1) I1.bare fun b z => by
      simp at z; rcases z with z | z <;> rw [z]; exact ⟨fe.2.2.2.1, fe.2.1, fe.2.2.2.2.1, fe.2.2.2.2.2⟩; exact ⟨fT.2.2.2.1, fT.2.1, fT.2.2.2.2.1, fT.2.2.2.2.2⟩
    have fT1 : FpOk X pins H' T1 := I1.fpOk hT1 (I1.hok.fresh hT1)
    have M2 := I2.mark (.ref e)
    refine wpAny_handleBy_cons (codeAny_handlers_test (ld_glob (X := X.marked (.ref e)) M2 hg hm ?_ hdb)) (by intro q; cases q)
    obtain ⟨oe, vs, he, hc, hdx, hd, hv1⟩ := a2.obj
    refine exc_matches I2.kIn cD he hc cC csub (codeAny_handlers_suite_as ?_)
    refine air_lands a2 fun h3 a3 c4 => ?_
    have c5 : Chg (frs X.stack) [T1] h2 h3 := c4.mono (fun b z => nomatch z) fun b z => z
    have I3 : Inv X pins σ' H' { s1 with heap := h3 } := I2.call (s := { s1 with heap := h2 }) (h' := h3) (ch := [T1]) (t' := s1.toks) (d' := s1.drawn) (g' := s1.gens) (Un.chg c5 (fun b z => z) fun b z => z) (I2.hok.chg c4 (fun b z => (nomatch z : H' b = none)) fun b z => by simp at z; rw [z]; exact fT1.1) I2.bare fun b z => by
      simp at z; rw [z]; exact ⟨fT1.2.2.2.1, fT1.2.1, fT1.2.2.2.2.1, fT1.2.2.2.2.2⟩
    obtain ⟨oe3, vs3, he3, hc3, hdx3, hd3', hv3⟩ := a3.obj
    have I4 : Inv X pins σ' (upd H' e (XO e C dx)) { s1 with heap := h3 } := I3.track fe ⟨⟨oe3, he3, hc3, hdx3, by unfold PySem.W.notCls; rw [hd3']⟩, ⟨oe3, he3⟩, fun h1 h2 ⟨o, q1, q2⟩ k => ⟨o, k o q1, q2⟩⟩
    have M4 := I4.mark (.ref e)
    refine store_ok (X := X.marked (.ref e)) (i := j) M4 hN hj (.inl hn) (v := .ref e) rfl (fun s5 M5 => ?_) (.inr hn)
    have L5 : (σ'.set j (some (.ref e)))[j]? = some (some (.ref e)) := by
      have : j < σ'.length := by rw [I3.len]; exact (List.getElem?_eq_some_iff.mp hj).1
      rw [List.getElem?_set_self this]
    have R := (pss_one (ps_set (X := X.marked (.ref e)) (i := i) (pos := ap) (pos' := xp) hN hi hx (pe_var (X := X.marked (.ref e)) (pos := ep) hj (.inl hn) hd2 hd3) (hs _) hfx)) pins s5 _ _
      { nx := fun σ6 H6 => σ6 = (σ'.set j (some (.ref e))).set i (some (.ref e)) ∧ H6 = upd H' e (XO e C dx), rt := fun _ _ => False } M5 ⟨_, L5, rfl, rfl⟩
    refine wpAny_mono R (fun f s6 q6 => ?_) fun _ _ z => False.elim z
    cases f with
    | ret v => obtain ⟨_, _, _, _, _, z⟩ := q6; exact z.elim
    | brk => obtain ⟨_, _, _, z⟩ := q6; exact z.elim
    | cont => obtain ⟨_, _, _, z⟩ := q6; exact z.elim
    | next =>
      obtain ⟨σ6, H6, M6, rfl, rfl⟩ := q6
      have I6 := M6.unmark I.ok
      obtain ⟨m, hm6, _⟩ := id I6.loc
      refine wpAny_nameGoes_keeps hn hm6 (by rw [I.ok.kind]; rfl) fun h7 v hn7 hs7 => ?_
      exact ⟨_, _, I6.gone hN hj hn hm6 hn7 hs7, q e fe.1⟩
end

/-! ### methods and instances made, in a block that may raise -/
section
variable {X : Cx} {k : Nat} {f C : Addr} {fd : FuncData} {ps : List Str} {sp : Sp} {x m : Str} {p pos apos : Pos} {e o : Expr} {es : List Expr} {ta : TE} {t : TA}
def xMeth (C : Addr) (m : Str) (sp : Sp) (ta : TE) (t : TA) : TEx := fun σ H Q E => ta σ H fun x H1 => ∃ a dx fs, x = .ref a ∧ H1 a = some (.ins C dx fs) ∧ fs.lookup m = none ∧ t σ H1 fun vs H2 => sp (x :: vs) H2 Q E
def xMake (C : Addr) (sp : Sp) (t : TA) : TEx := fun σ H Q E => t σ H fun vs H1 => ∀ x dx, H1 x = none → H1 dx = none → dx ≠ x → sp (.ref x :: vs) (upd (upd H1 dx (.own x)) x (.ins C dx [])) (fun v H2 => v = .non ∧ Q (.ref x) H2) E
theorem pex_make (M : Mk X.K C f) (F : FnOk X.prog X.w X.K X.mg X.base (CX1 X.prog X.w) k f fd ps sp) (hr : Room (k + 1) X.A) (hg : Gl X x) (hm : X.mg x = some (.ref C)) (hb : Binds X.K fd ps []) (ha : PA X.nox (e :: es) t)
    (hdb : (x == ("__debug__" : Str)) = false := by decide) (he : starEach (e :: es) X.env = (false, eval e X.env) :: starEach es X.env := by rfl) (hpl : (backTo pos (starEach es X.env)).any (·.1) = false := by rfl) :
    PEx X (.Call (.Name x p) (e :: es) [] pos) (xMake C sp t) := by
  intro pins s σ H Q E I h
  refine wpAny_Call_Name_kw (ld_glob I hg hm ?_ hdb)
  refine PySem.W.callWith_K (h₀ := X.base) I.ok.mod.kin M.kp (thn (pa_wish ha I h) fun us s1 ⟨vs, H1, I1, r, q⟩ => ⟨I1.kIn, ?_⟩) he hpl
  rw [List.nil_append]
  have hq := q (s1.heap.objs.size + 1) s1.heap.objs.size (I1.hok.fresh (Nat.le_succ _)) (I1.hok.fresh (Nat.le_refl _)) (Nat.ne_of_lt (Nat.lt_succ_self _))
  have I2 := Inv.made (C := C) I1
  have r2 : Vals (V.ref (s1.heap.objs.size + 1) :: vs) (Value.ref (s1.heap.objs.size + 1) :: us) := .cons rfl r
  have hl : (Value.ref (s1.heap.objs.size + 1) :: us ++ []).length = ps.length := by rw [List.append_nil, ← r2.length]; exact F.len _ _ _ _ hq
  have b := hb _ (Value.ref (s1.heap.objs.size + 1) :: us) I2.kIn hl
  rw [List.append_nil] at b
  refine wpAny_call (make_map (f := f) I1.kIn M.makes M.init (beq_iff_eq.mp M.fn) (codeAny_mono (F.run _ X.stack _ _ ⟨Value.ref (s1.heap.objs.size + 1) :: us, []⟩ (Value.ref (s1.heap.objs.size + 1) :: us) _ _ E (hr.make C us [])
    (I2.env0.make C us []) b r2 hq) fun r s' hq' => ?_))
  cases r with
  | error ev =>
    obtain ⟨e, T, cls, dx, H', rfl, os, bare, un, hok, he, hT, se, sT, a, q⟩ := hq'
    exact ⟨e, T, cls, dx, σ, H', rfl, I2.call' (ch := []) os un hok bare (fun b z => nomatch z), I2.fpOk se he, I2.fpOk sT hT, a, rfl, q⟩
  | ok fl =>
    cases fl with
    | ret u =>
      obtain ⟨v, H', I3, rv, ev, q3⟩ := I2.after hq'
      subst ev
      exact ⟨rv, ⟨V.ref (s1.heap.objs.size + 1), H', I3, rfl, q3⟩⟩
    | next => exact False.elim hq'
    | brk => exact False.elim hq'
    | cont => exact False.elim hq'
end
end L2

set_option Elab.async false
set_option linter.all false
set_option maxRecDepth 100000
set_option maxHeartbeats 4000000
namespace L2
open PySem PySem.Spec PyProof.Rows
/-! ### xs.count(b) of bools -/
theorem bools_its : ∀ {bs : List Bool} {us : List Value}, Vals (bs.map V.bl) us → us = bs.map Value.bool
  | [], _, h => by cases h; rfl
  | b :: r, _, h => by
    cases h with
    | cons a t => rw [bools_its t]; cases a; rfl
theorem bools_reads (h : Heap) : ∀ bs : List Bool, ReadsAll h (bs.map Value.bool) (bs.map PyData.bool) []
  | [] => .nil
  | b :: r => by have := ReadsAll.cons (Reads.bool (h := h) b) (bools_reads h r); exact this
theorem bools_count (k : Bool) : ∀ bs : List Bool, countIn (.bool k) (bs.map PyData.bool) = ((bs.countP (· == k) : Nat) : Int)
  | [] => rfl
  | b :: r => by
    rw [List.map_cons, countIn, bools_count k r, List.countP_cons]
    cases b <;> cases k <;> simp [same] <;> omega
theorem mt_countB {X : Cx} : MtM X "list.count" (fun x vs H Q => ∃ (l : Addr) (bs : List Bool) (k : Bool), x = .ref l ∧ vs = [.bl k] ∧ H l = some (.lst (bs.map V.bl)) ∧ Q (.int ((bs.countP (· == k) : Nat) : Int)) H) := by
  intro pins s σ H x vs v us Q I rx rv h
  obtain ⟨l, bs, k, rfl, rfl, hH, q⟩ := h
  cases rx
  obtain ⟨u, rfl, ru⟩ := rv.one
  cases ru
  obtain ⟨z, its, n, r, hl, e⟩ := I.lstM hH
  have hb := bools_its r
  subst hb
  refine count_list_bools (xs := bs.map PyData.bool) (hp := s.heap) ⟨_, e, rfl, _, rfl⟩ (bools_reads _ _) ?_ ?_
  · rw [List.all_map, List.all_eq_true]
    intro b _
    rfl
  · rw [bools_count]
    exact ⟨.int _, H, I.tok _, ⟨_, rfl⟩, q⟩
/-! ### isinstance(e, C) of a caught exception -/
theorem kit_cls1 {K : PySem.W.Frag} {C D : Addr} {b : Bool} (h1 : PySem.W.isClsIn K D = true) (h2 : PySem.W.typeIn K (.ref D) = some (.type "type")) (c : ExC K C) (h : PySem.W.subIn K (.ref C) (.ref D) = some b) : PySem.W.kitOne K (.ref C) (.ref D) = some b := by
  unfold PySem.W.kitOne
  by_cases z : C = D
  · subst z
    obtain ⟨nm, q, N, bs, bm, hdct, sn, sub, ab, col, dd, k0, k1, k2, k3, k5, lk⟩ := c.obj
    have := sub_has lk h
    rw [if_pos (by simp)]
    rw [← this]
    simp
  · rw [if_neg (by simpa using z)]
    unfold PySem.W.kitCls
    have h1' : (PySem.W.clsIn K D).isSome = true := h1
    show (if ((PySem.W.clsIn K D).isSome && PySem.W.typeIn K (.ref D) == some (.type "type")) = true then PySem.W.subIn K (.ref C) (.ref D) else none) = some b
    rw [if_pos (by rw [h1', h2]; rfl)]
    exact h
theorem kit_value {K : PySem.W.Frag} {C : Addr} (c : ExC K C) : PySem.W.kitOne K (.ref C) (.type "ValueError") = some true := by
  unfold PySem.W.kitOne
  rw [if_neg (by simp)]
  unfold PySem.W.kitCls
  show (if PySem.W.kitMeta "ValueError" = true then PySem.W.subIn K (.ref C) (.type "ValueError") else none) = some true
  rw [if_pos (by decide +kernel)]
  exact c.val
def rIsiX (K : PySem.W.Frag) : List V → Hp → VK → Prop := fun xs H Q => ∃ (e C : Addr) (dx : Option Addr) (y : V) (cv : Value) (b : Bool), xs = [.ref e, y] ∧ RelV y cv ∧ (∀ u, RelV y u → u = cv) ∧ H e = some (XO e C dx) ∧ XDict H dx ∧ ExA K C ∧ PySem.W.kitOne K (.ref C) cv = some b ∧ Q (.bl b) H
theorem call_isiX {X : Cx} : CallR X (.builtin "isinstance") (rIsiX X.K) := by
  intro pins s σ H xs us Q I r h
  obtain ⟨e, C, dx, y, cv, b, rfl, ry, hy, hx, hd, c, k, q⟩ := h
  obtain ⟨u, w', rfl, r1, r2⟩ := vals2 r
  cases r1
  rw [hy w' r2]
  exact isinstX_ok I hx hd c k fun tk => ⟨.bl b, H, I.tok _, rfl, q⟩
theorem Same.xdict {H H' : Hp} {dx : Option Addr} (h : XDict H dx) (s : Same H H') : XDict H' dx := h.elim .inl fun ⟨a, fs, e, x⟩ => .inr ⟨a, fs, e, s _ _ x⟩
end L2

set_option Elab.async false
set_option linter.all false
set_option maxRecDepth 100000
set_option maxHeartbeats 4000000
namespace L2
open PySem PySem.Spec PyProof.Rows
/-! ### a written tuple of pairs of ints -/
def intE : Expr → Option Int
  | .Constant (.int i) _ _ => some i
  | _ => none
def pairE : Expr → Option (Int × Int)
  | .Tuple [a, b] _ _ => match intE a, intE b with
    | some i, some j => some (i, j)
    | _, _ => none
  | _ => none
def pairsE : List Expr → Option (List (Int × Int))
  | [] => some []
  | e :: r => match pairE e, pairsE r with
    | some p, some l => some (p :: l)
    | _, _ => none
def tupsE : Expr → Option (List (Int × Int))
  | .Tuple es _ _ => pairsE es
  | _ => none
def PairV (H : Hp) (p : Int × Int) (v : V) : Prop := ∃ t, v = .ref t ∧ H t = some (.tup [.int p.1, .int p.2])
def aPairs (l : List (Int × Int)) : TA := fun _ H Q => ∀ H' vs, Same H H' → Paired (PairV H') l vs → Q vs H'
def tPairs2 (l : List (Int × Int)) : TE := fun _ H Q => ∀ H' p vs, Same H H' → H' p = some (.tup vs) → Paired (PairV H') l vs → Q (.ref p) H'
section
variable {X : Cx}
end
end L2
namespace L2
open PySem PySem.Spec PyProof.Rows
end L2
namespace L2
open PySem PySem.Spec PyProof.Rows
/-! ### if c: a, b = ((..), ..)[i], by its parts (the written tuple is never looked at) -/
def ifC : Stmt → Expr
  | .If c _ _ _ => c
  | _ => .Constant .none 0 ⟨0, 0, 0, 0⟩
def ifTg : Stmt → Expr
  | .If _ [.Assign [tg] _ _] _ _ => tg
  | _ => .Constant .none 0 ⟨0, 0, 0, 0⟩
def ifIx : Stmt → Expr
  | .If _ [.Assign _ (.Subscript _ b _) _] _ _ => b
  | _ => .Constant .none 0 ⟨0, 0, 0, 0⟩
def ifOk (l : List (Int × Int)) : Stmt → Bool
  | .If _ [.Assign [_] (.Subscript e _ _) _] [] _ => match tupsE e with
    | some l' => decide (l' = l)
    | none => false
  | _ => false
end L2

set_option Elab.async false
set_option linter.all false
set_option maxRecDepth 100000
set_option maxHeartbeats 4000000
namespace L2
open PySem PySem.W PySem.Spec PyProof.Rows
/-! ### f"{t!r}", t a tuple or a list of texts -/
theorem repsS {K : PySem.W.Frag} {H : Hp} : ∀ xs : List Str, Reps K H (xs.map V.str) (xs.map Dat.str)
  | [] => .nil
  | x :: r => .cons (.str x) (repsS r)
theorem kqdPs_strs : ∀ xs : List Str, kqdPs (xs.map Dat.str) = xs.map PyData.str
  | [] => by rw [List.map_nil, kqdPs]; rfl
  | x :: r => by rw [List.map_cons, kqdPs, kqdPs_strs r, kqdP]; rfl
theorem depth_strs : ∀ xs : List Str, PyData.depthAll (xs.map PyData.str) = 0
  | [] => by rw [List.map_nil, PyData.depthAll]
  | x :: r => by rw [List.map_cons, PyData.depthAll, depth_strs r, PyData.depth]; rfl
theorem nodict_strs : ∀ xs : List Str, PyData.hasDictAll (xs.map PyData.str) = false
  | [] => by rw [List.map_nil, PyData.hasDictAll]
  | x :: r => by rw [List.map_cons, PyData.hasDictAll, nodict_strs r, PyData.hasDict]; rfl
theorem sum_strs : ∀ {xs : List Str}, (∀ x ∈ xs, x.length ≤ 50 ∧ ∀ c ∈ x.cps.toList, c < 16 ^ 8) → ((xs.map reprText).map (·.length)).sum ≤ 502 * xs.length
  | [], _ => by simp
  | x :: r, h => by
    have ih := sum_strs (xs := r) fun y hy => h y (by simp [hy])
    obtain ⟨h1, h2⟩ := h x (by simp)
    have b := StrLaws.reprText_len x h2
    rw [List.map_cons, List.map_cons, List.sum_cons, List.length_cons]
    omega
theorem join_strs {xs : List Str} (h : ∀ x ∈ xs, x.length ≤ 50 ∧ ∀ c ∈ x.cps.toList, c < 16 ^ 8) (hl : xs.length ≤ 100) : (Str.join ", " (xs.map reprText)).length ≤ 60000 := by
  cases xs with
  | nil => decide
  | cons a r =>
    have s := sum_strs h
    rw [List.map_cons, len_join_cons ", " (reprText a) (r.map reprText), ← List.map_cons, List.length_map]
    have e : (Str.ofString ", ").length = 2 := by decide
    rw [e]
    simp only [List.length_cons] at hl s
    omega

section
variable {X : Cx} {e : Expr} {te : TE} {pos : Pos} {k : Nat}
def Shows (x : Str) : Prop := x.length ≤ 50 ∧ ∀ c ∈ x.cps.toList, c < 16 ^ 8
def fRepT (K : PySem.W.Frag) (te : TE) : TF := fun σ H Q => te σ H fun v H1 => ∃ (t : Addr) (xs : List Str), v = .ref t ∧ (SqT K H1 t (xs.map V.str) ∨ SqL K H1 t (xs.map V.str)) ∧ xs.length ≤ 100 ∧ (∀ x ∈ xs, Shows x) ∧ Q H1
theorem pf_repT (hr : Room k X.A) (he : PE X e te) : PF X (.FormattedValue e 114 none pos) (fRepT X.K te) := by
  intro pins s σ H Q I h
  refine wpAny_FormattedValue_repr (thn (he pins s σ H _ I h) fun v s1 ⟨y, H1, I1, r1, t, xs, ey, ht, hl, hx, q⟩ => ?_)
  subst ey
  obtain rfl : v = Value.ref t := r1
  have hu := hr.units
  have hj := join_strs hx hl
  have fin : ∀ z : Str, z.length ≤ 100000 → ∀ h' u tk, (∀ b o, s1.heap.get? b = some o → h'.get? b = some o) → wpAny (model X.prog X.w) X.A (formatField (.str z u) Str.empty) (fun u s' => ∃ y tk H', u = .str y tk ∧ y.length ≤ 100000 ∧ Inv X pins σ H' s' ∧ Q H') X.xe { s1 with heap := h', toks := tk } := fun z hz h' u tk kp => by
    have I2 : Inv X pins σ H1 { s1 with heap := h', toks := tk } := I1.kept kp
    exact wpAny_formatField_str ⟨_, _, H1, rfl, hz, I2, q⟩ ⟨_, _, H1, rfl, hz, I2.tok _, q⟩ (Nat.le_trans hz (by decide))
  rcases ht with ht | ht
  · obtain ⟨as, ra⟩ := (Rep.tuple ht (repsS xs)).reads I1 rfl
    rw [kqdP, kqdPs_strs] at ra
    have sh : (PyData.tuple (xs.map PyData.str)).shown.length ≤ 100000 := by
      rw [PyData.shown_tuple, PyData.shownAll_strs, strLen_append, strLen_append]
      have e1 : (Str.ofString "(").length = 1 := by decide
      have e2 : (Str.ofString (if (xs.map PyData.str).length == 1 then ",)" else ")")).length ≤ 2 := by split <;> decide
      omega
    refine pyReprObj_of_reads ra ?_ ?_ hr.gd ?_ (fun _ _ z => z) (fun h' u tk kp => fin _ sh h' u tk kp) (Nat.le_trans sh (by decide))
    · rw [PyData.showable, PyData.showableAll_strs]
    · rw [PyData.hasDict, nodict_strs]
      intro z; cases z
    · rw [PyData.depth, depth_strs]
      omega
  · obtain ⟨as, ra⟩ := (Rep.list ht (repsS xs)).reads I1 rfl
    rw [kqdP, kqdPs_strs] at ra
    have sh : (PyData.list (xs.map PyData.str)).shown.length ≤ 100000 := by
      rw [PyData.shown_list, PyData.shownAll_strs, strLen_append, strLen_append]
      have e1 : (Str.ofString "[").length = 1 := by decide
      have e2 : (Str.ofString "]").length = 1 := by decide
      omega
    refine pyReprObj_of_reads ra ?_ ?_ hr.gd ?_ (fun _ _ z => z) (fun h' u tk kp => fin _ sh h' u tk kp) (Nat.le_trans sh (by decide))
    · rw [PyData.showable, PyData.showableAll_strs]
    · rw [PyData.hasDict, nodict_strs]
      intro z; cases z
    · rw [PyData.depth, depth_strs]
      omega
end
/-- two promises of one def -/
theorem FnOk.or {P : Program} {w : World} {K : PySem.W.Frag} {mg : Str → Option Value} {base : Heap} {CX : CXT} {k : Nat} {f : Addr} {fd : FuncData} {ps : List Str} {sp sp' : Sp} (F : FnOk P w K mg base CX k f fd ps sp) (G : FnOk P w K mg base CX k f fd ps sp') :
    FnOk P w K mg base CX k f fd ps (fun vs H Q E => sp vs H Q E ∨ sp' vs H Q E) :=
  ⟨fun vs H Q E h => h.elim (F.len vs H Q E) (G.len vs H Q E), fun A outer s H args us vs Q E hr he hb hv hs => hs.elim (F.run A outer s H args us vs Q E hr he hb hv) (G.run A outer s H args us vs Q E hr he hb hv)⟩
end L2

set_option Elab.async false
set_option linter.all false
set_option maxRecDepth 100000
set_option maxHeartbeats 4000000
namespace L2
open PySem PySem.Spec PyProof.Rows HT
section
variable {prog : Program} {w : World} {A : Around} {E : Value → Shared → Prop} {s : Shared}
/-- t[a:b], the whole -/
theorem getItem_tuple_all {t sl : Addr} {items : Array Value} {vl vu : Value} {lo hi : Option Int} {Q : Value → Shared → Prop} (ht : IsTup s.heap t items) (hs : s.heap.IsSliceOf sl vl vu .none) (pl : IsPart vl lo) (pu : IsPart vu hi)
    (hw : sIx items.size 0 lo = 0 ∧ sIx items.size items.size hi = items.size) (h : Q (.ref t) s) : wpAny (model prog w) A (getItem (.ref t) (.ref sl)) Q E s := by
  obtain ⟨os, hos, hcs, hds⟩ := id hs
  have hTs : s.TypeIs (.ref sl) "slice" := ⟨os, hos, hcs⟩
  unfold getItem
  try with_reducible refine wpAny_holding ?_
  first | refine wpAny_bind (wpAny_pure ?_) | skip
  refine wpAny_bind (wpAny_sequenceKey ht.typeIs (by decide) ?_)
  refine wpAny_bind (wpAny_callSpecial?_slot (name := Str.ofString "__getitem__") ht.typeIs PyProof.Rows.slot_tuple_getitem
    (wpAny_call_entry PyProof.Rows.slot_tuple_getitem ht.typeIs entry_tuple_getitem ?_ (args_tuple_getitem _ _)))
  show wpAny _ _ (Builtin.Tuple.tupleItemsOf (.ref t) >>= _) _ _ s
  refine wpAny_bind (tupleItemsOf_ ht ?_)
  refine wpAny_bind (wpAny_typeOf hTs ?_)
  rw [if_pos (by decide)]
  refine wpAny_bind (sliceApplied_gen hs pl pu ?_)
  have yes : (((sIx items.size 0 lo : Nat) : Int) == 0 && (1 : Int) == 1 && (sIx items.size items.size hi - sIx items.size 0 lo) == items.size) = true := by
    rw [hw.1, hw.2]
    simp
  show wpAny _ _ (if (((sIx items.size 0 lo : Nat) : Int) == 0 && (1 : Int) == 1 && (sIx items.size items.size hi - sIx items.size 0 lo) == items.size) = true then _ else _) _ _ s
  rw [if_pos yes]
  apply wpAny_bind
  unfold Builtin.Tuple.tupleIsExact
  refine wpAny_bind (wpAny_typeOf ht.typeIs ?_)
  apply wpAny_pure
  rw [if_pos (by decide)]
  refine wpAny_bind (wpAny_rule ?_)
  refine wpAny_pure ?_
  exact ⟨_, rfl, wpAny_pure h⟩
end
/-- t[a:b] of a tuple, whole or not -/
def rSlA (K : PySem.W.Frag) : V → Option Int → Option Int → Hp → VK → Prop := fun x lo hi H Q => ∃ a xs, x = .ref a ∧ SqT K H a xs ∧
  ((sIx xs.length 0 lo = 0 ∧ sIx xs.length xs.length hi = xs.length) → Q (.ref a) H) ∧ (¬ (sIx xs.length 0 lo = 0 ∧ sIx xs.length xs.length hi = xs.length) → ∀ p, H p = none → Q (.ref p) (upd H p (.tup (cutV xs lo hi))))
theorem sl_tupA {X : Cx} : SlR X (rSlA X.K) := by
  intro pins s σ H x v vl vu lo hi sl Q I rx hs pl pu h
  obtain ⟨a, xs, ex, hx, q1, q2⟩ := h
  by_cases hw : sIx xs.length 0 lo = 0 ∧ sIx xs.length xs.length hi = xs.length
  · subst ex
    cases rx
    obtain ⟨its, r, ht, hz⟩ := I.tuple hx
    have hlen : its.toArray.size = xs.length := by rw [List.size_toArray]; exact r.length.symm
    refine ⟨"tuple", _, PyProof.Rows.slot_tuple_getitem.lookup, ht.typeIs, ?_⟩
    exact getItem_tuple_all ht hs pl pu (by rw [hlen]; exact hw) ⟨.ref a, H, I, rfl, q1 hw⟩
  · exact sl_tup pins s σ H x v vl vu lo hi sl Q I rx hs pl pu ⟨a, xs, ex, hx, hw, q2 hw⟩
theorem cut_all {xs : List V} {lo hi : Option Int} (h : sIx xs.length 0 lo = 0 ∧ sIx xs.length xs.length hi = xs.length) : cutV xs lo hi = xs := by
  unfold cutV
  rw [h.1, h.2, List.drop_zero, Nat.sub_zero, List.take_length]
/-- the same, told by a tuple with the cut -/
theorem rSlA_of {K : PySem.W.Frag} {H : Hp} {a : Addr} {xs : List V} {lo hi : Option Int} {Q : VK} (hx : H a = some (.tup xs)) (q : ∀ p H', Same H H' → H' p = some (.tup (cutV xs lo hi)) → Q (.ref p) H') : rSlA K (.ref a) lo hi H Q :=
  ⟨a, xs, rfl, SqT.of hx, fun h => q a H (Same.refl _) (by rw [cut_all h]; exact hx), fun _ p hp => q p _ (fun b o e => by rw [upd_ne (ne_of_none e hp)]; exact e) upd_same⟩
/-- t + u, told by a tuple with both -/
theorem rCatA_of {K : PySem.W.Frag} {H : Hp} {a b : Addr} {xs ys : List V} {Q : VK} (hx : H a = some (.tup xs)) (hy : H b = some (.tup ys)) (hz : xs.length + ys.length ≤ sizeLine) (q : ∀ p H', Same H H' → H' p = some (.tup (xs ++ ys)) → Q (.ref p) H') : rCatA K (.ref a) (.ref b) H Q :=
  ⟨a, b, xs, ys, rfl, rfl, SqT.of hx, SqT.of hy, hz, fun e => q b H (Same.refl _) (by rw [e]; exact hy), fun _ e => q a H (Same.refl _) (by rw [e, List.append_nil]; exact hx), fun _ _ p hp => q p _ (fun c o e => by rw [upd_ne (ne_of_none e hp)]; exact e) upd_same⟩
theorem cut_strs (xs : List Str) (lo hi : Option Int) : ∃ ys : List Str, cutV (xs.map V.str) lo hi = ys.map V.str ∧ (∀ y ∈ ys, y ∈ xs) ∧ ys.length ≤ xs.length := by
  refine ⟨((xs.drop (HT.sIx xs.length 0 lo)).take (HT.sIx xs.length xs.length hi - HT.sIx xs.length 0 lo)), ?_, fun y hy => List.mem_of_mem_drop (List.mem_of_mem_take hy), ?_⟩
  · unfold cutV
    rw [List.length_map, ← List.map_drop, ← List.map_take]
  · rw [List.length_take, List.length_drop]
    omega
end L2
namespace L2
open PySem PySem.Spec PyProof.Rows
/-! ### x = ("..", ..)[i] -/
def textE : Expr → Option Str
  | .Constant (.str x) _ _ => some x
  | _ => none
def textsE : List Expr → Option (List Str)
  | [] => some []
  | e :: r => match textE e, textsE r with
    | some p, some l => some (p :: l)
    | _, _ => none
def strsE : Expr → Option (List Str)
  | .Tuple es _ _ => textsE es
  | _ => none
def tStrs (l : List Str) : TE := fun _ H Q => ∀ p, H p = none → Q (.ref p) (upd H p (.tup (l.map V.str)))
section
variable {X : Cx}
theorem textE_shape {e : Expr} {x : Str} (h : textE e = some x) : ∃ k pos, e = .Constant (.str x) k pos := by
  unfold textE at h
  split at h
  · cases h
    exact ⟨_, _, rfl⟩
  · cases h
theorem pa_textsE : ∀ {es : List Expr} {l : List Str}, textsE es = some l → PA X es (fun _ H Q => Q (l.map V.str) H)
  | [], l, h => by
    cases h
    exact pa_nil
  | e :: r, l, h => by
    unfold textsE at h
    split at h
    · rename_i p l' h1 h2
      cases h
      obtain ⟨k, pos, rfl⟩ := textE_shape h1
      exact pa_cons pe_str (pa_textsE h2)
    · cases h
theorem pe_strsE {e : Expr} (l : List Str) (h : strsE e = some l) (hl : l.length ≤ 100000) : PE X e (tStrs l) := by
  unfold strsE at h
  split at h
  · intro pins s σ H Q I q
    exact pe_tup (pa_textsE h) pins s σ H Q I ⟨small_line (by rw [List.length_map]; exact hl), q⟩
  · cases h
theorem ps_strAt {i : Nat} {x : Str} {e b : Expr} {tb : TE} {p0 p1 p2 : Pos} (l : List Str) (h : strsE e = some l) (hl : l.length ≤ 100000) (hN : X.N.Nodup) (hi : X.N[i]? = some x) (hx : Loc X.env.scope x) (hb : PE X b tb) (hp : PlainIx b)
    (hf : X.fn x = true ∨ X.env.scope.names.lookup x = some .local := by first | exact .inl rfl | exact .inr rfl | assumption) : PS X (.Assign [.Name x p0] (.Subscript e b p1) p2) (tAsg (tOp (rIxT X.K) (tStrs l) tb) (gName i)) :=
  ps_set hN hi hx (pe_ix ix_tup (pe_strsE l h hl) hb hp) rfl hf
end
end L2

set_option Elab.async false
set_option linter.all false
set_option maxRecDepth 100000
set_option maxHeartbeats 4000000
namespace L2
open PySem PySem.Spec PySem.Builtin PySem.Builtin.ObjectAttr PySem.W

/-- what the text must have of a class of exceptions whose __init__ writes an attribute: it stands right under D, D under ValueError -/
structure ExI (K : PySem.W.Frag) (C D : Addr) (a : Str) : Prop extends ExA K C where
  lk : ∃ nm q N bs sn sub ab col dd k0 k1 k2 k3 k5, K.lookup C = some (excClassObj nm q C N bs [.ref D, .type "ValueError", .type "Exception", .type "BaseException", .type "object"] true sn sub ab col dd k0 k1 k2 k3 k5 "ValueError.__new__")
  sa : PySem.W.findIn K (.ref C) "__setattr__" = some (some (.builtin "object.__setattr__"))
  na : PySem.W.findIn K (.ref C) a = some none
/-- a new exception that has its own dict -/
abbrev excObjD (C t : Addr) (dx : Option Addr) : Obj := { cls := .ref C, dict := dx, data := .fields #[.ref t, .none, .none, .none, .bool false, .none] }
section
variable {K : PySem.W.Frag} {prog : Program} {w : World} {A : Around} {E : Value → Shared → Prop} {s : Shared} {C D e t0 : Addr} {a : Str} {v : Value}
theorem exc_osa {tk : Tok} {R : Result → Shared → Prop} (X : K.In s.heap) (c : ExI K C D a) (he : s.heap.get? e = some (excObj C t0))
    (h : ∀ h' dx, s.heap.objs.size ≤ dx → h'.get? e = some (excObjD C t0 (some dx)) → h'.Ns1 dx (fun y => if y = a then some v else none) → (∀ b o, b ≠ e → s.heap.get? b = some o → h'.get? b = some o) → R (.ok (.ret .none)) { s with heap := h', toks := s.toks + 1 }) :
    codeAny (model prog w) A (.call (.builtin "object.__setattr__") ⟨[.ref e, .str a tk, v], []⟩) R s := by
  obtain ⟨nm, q, N, bs, sn, sub, ab, col, dd, k0, k1, k2, k3, k5, lk⟩ := c.lk
  have SF := PySem.F.store_object
  have I : InstAt s.heap e (excObj C t0) C none := ⟨he, rfl, rfl, trivial⟩
  have hcd : clsIn K C = some { name := nm, bases := bs, mro := .ref C :: [.ref D, .type "ValueError", .type "Exception", .type "BaseException", .type "object"], ns := N, qualname := q, hasDict := true, slotNames := sn, subclasses := sub, abstract := ab, collection := col, hasDel := false } := by
    unfold PySem.W.clsIn
    rw [lk]
  have sb : Looks (model prog w) s.heap (isInstance (.ref e) (.type "object")) true := I.type.andThen (looks_mroIn X c.ob)
  refine codeAny_call_builtin SF.slot.plain SF.entry (@check_slot (model prog w) _ _ s "object.__setattr__" "object" "__setattr__" (.ref e) [.str a tk, v] [] _ SF.kind SF.split sb (SF.args (.ref e) (.str a tk) v) ?_)
  have hm : Looks (model prog w) s.heap (mroOf (.ref C)) (.ref C :: [.ref D, .type "ValueError", .type "Exception", .type "BaseException", .type "object"]) := (looks_clsIn X hcd).andThen .now
  rw [osa_eq, refuse_eq]
  refine wpAny_bind (wpAny_bind (I.type.here (wpAny_bind (hm.here ?_))))
  rw [refuseLoop_ref, refuseLoop_ref, PySem.F.store_ValueError.passes]
  refine wpAny_pure (wpAny_bind (I.type.here (wpAny_bind ((looks_findIn X c.na).here (wpAny_bind (wpAny_pure ?_))))))
  show wpAny _ _ (storeInOwnDict (.ref e) (.ref C) (.str a tk) a v false) _ _ _
  refine wpAny_bind (wpAny_pure (wpAny_bind (wpAny_bind (wpAny_loadPart he (wpAny_bind ((looks_clsIn X hcd).here ?_))))))
  have hes : e ≠ s.heap.objs.size := Nat.ne_of_lt (Heap.lt_size he)
  have he1 : (s.heap.push { cls := .type "dict", data := .dict #[] }).get? e = some (excObj C t0) := Heap.get?_push_of_some _ he
  obtain ⟨hh, g, d, t, os⟩ := s
  dsimp only at he he1 hes h ⊢
  refine wpAny_bind (wpAny_alloc' (wpAny_bind (wpAny_update' he1 (wpAny_pure ?_))))
  have hgd : ((hh.push { cls := .type "dict", data := .dict #[] }).update e fun o => { cls := o.cls, dict := some hh.objs.size, data := o.data, slots := o.slots }).get? hh.objs.size = some { cls := .type "dict", data := .dict #[] } :=
    (Heap.get?_update_ne _ _ _ _ hes.symm).trans (Heap.get?_push_at rfl rfl)
  have hnd : ((hh.push { cls := .type "dict", data := .dict #[] }).update e fun o => { cls := o.cls, dict := some hh.objs.size, data := o.data, slots := o.slots }).Ns hh.objs.size (fun _ => none) :=
    ⟨_, #[], _, hgd, rfl, fun e he => absurd he (by simp), fun _ => rfl⟩
  show wpAny _ _ (storeInDict hh.objs.size (.str a tk) a v) _ _ _
  unfold storeInDict newKeyGuard
  refine wpAny_bind (wpAny_pure (wpAny_bind (wpAny_nsSet1 (Heap.Ns1.of_empty hnd) fun h' hn' hs => ?_)))
  obtain ⟨oD, esD, epD, hoD, hdD, hcD⟩ := hn'.count (Within.cons a v Within.nil)
  refine wpAny_bind (wpAny_lookBehind hoD (by rw [hdD]; exact pastItsLine_dict (Nat.le_trans hcD (by rw [List.length_cons, List.length_nil, sizeLine_eq]; omega))) ?_)
  refine wpAny_pure (h h' hh.objs.size (Nat.le_refl _) ?_ hn' fun b o hb q => ?_)
  · exact (hs.2 e hes).trans (Heap.get?_update_self _ he1 rfl)
  · exact (hs.2 b (Nat.ne_of_lt (Heap.lt_size q))).trans ((Heap.get?_update_ne _ _ _ _ hb).trans (Heap.get?_push_of_some _ q))
theorem exc_set {Q : Unit → Shared → Prop} (X : K.In s.heap) (c : ExI K C D a) (he : s.heap.get? e = some (excObj C t0))
    (h : ∀ h' dx, s.heap.objs.size ≤ dx → h'.get? e = some (excObjD C t0 (some dx)) → h'.Ns1 dx (fun y => if y = a then some v else none) → (∀ b o, b ≠ e → s.heap.get? b = some o → h'.get? b = some o) → Q () { s with heap := h', toks := s.toks + 2 }) :
    wpAny (model prog w) A (setAttr (.ref e) a v) Q E s :=
  set_plain X (⟨he, rfl, rfl, trivial⟩ : InstAt s.heap e (excObj C t0) C none) c.sa (exc_osa (s := { s with toks := s.toks + 1 }) X c he fun h' dx a1 a2 a3 a4 => h h' dx a1 a2 a3 a4)
/-- reading it back -/
theorem exc_get {ox od : Obj} {Q : Value → Shared → Prop} {expr : Bool} (X : K.In s.heap) (c : ExI K C D a) (I : InstAt s.heap e ox C (some od)) (hl : lookIn a od = some (some v)) (hv : handedIn v = true) (h : Q v { s with toks := s.toks + 1 }) :
    wpAny (model prog w) A (getAttr (.ref e) a expr) Q E s := by
  obtain ⟨nm, q, N, bs, sn, sub, ab, col, dd, k0, k1, k2, k3, k5, lk⟩ := c.lk
  have hd : hasDictIn K C = true := by
    unfold hasDictIn clsIn
    rw [lk]
    rfl
  obtain ⟨hh, g, d, t, os⟩ := s
  unfold getAttr
  refine wpAny_bind (wpAny_mkText ?_)
  exact exc_by X c.toExA I (looks_find X I (findObj_own hd c.na rfl hl)) (fun z => nomatch z) (fun {A E Q} r => wpAny_pure r) hv h
end
end L2

set_option Elab.async false
set_option linter.all false
set_option maxRecDepth 100000
set_option maxHeartbeats 4000000
namespace L2
open PySem PySem.Spec PyProof.Rows

/-- an exception in its __init__, before and after its attribute is written -/
def XN (e C : Addr) : HO := .ext fun h => ∃ t0, h.get? e = some (excObj C t0)
def XM (e C dx : Addr) : HO := .ext fun h => ∃ t0, h.get? e = some (excObjD C t0 (some dx))
def del (H : Hp) (a : Addr) : Hp := fun b => if b = a then none else H b
theorem del_same {H : Hp} {a : Addr} : del H a a = none := by unfold del; rw [if_pos rfl]
theorem del_ne {H : Hp} {a b : Addr} (h : b ≠ a) : del H a b = H b := by unfold del; rw [if_neg h]
/-- the class right above has a plain __init__, ValueError's -/
structure DIn (K : PySem.W.Frag) (D : Addr) : Prop where
  ga : PySem.W.specialIn K (.ref D) "__getattribute__" = some (some (.builtin "type.__getattribute__"))
  rd : PySem.W.readsIn K D (.type "type") = true
  fi : PySem.W.findCls K (.ref D) (.type "type") "__init__" = some (.val (.builtin "ValueError.__init__"))
section
variable {X : Cx} {pins : List (Addr × Obj)} {σ : St} {H : Hp} {s : Shared} {a : Addr} {φ : Heap → Prop}
/-- an object of ours is no longer tracked -/
theorem Inv.untrack (I : Inv X pins σ H s) (ha : H a = some (.ext φ)) (f : X.s₀.heap.objs.size ≤ a) : Inv X pins σ (del H a) s := by
  have ne : ∀ b u, H b = some u → (∀ ψ, u ≠ .ext ψ) → b ≠ a := fun b u q n z => by rw [z, ha] at q; cases q; exact n _ rfl
  have none' : ∀ b, H b = none → del H a b = none := fun b q => by
    unfold del
    split
    · rfl
    · exact q
  refine ⟨I.ok, I.os, I.bare, ⟨I.base.keep, I.base.slot, fun b u q n hx => none' b (I.base.free b u q n hx), I.base.there, fun b xs q => ?_, fun b u xs q => ?_, fun b ps q => ?_⟩,
    I.loc, I.cell, none' _ I.free, fun x c q => none' _ (I.freeC x c q), fun p hp => ?_, fun b u q => ?_, I.len⟩
  · have z := I.base.tups b xs q; rw [del_ne (ne b _ z fun _ q => nomatch q)]; exact z
  · have z := I.base.frzs b u xs q; rw [del_ne (ne b _ z fun _ q => nomatch q)]; exact z
  · obtain ⟨m, z⟩ := I.base.tbls b ps q; exact ⟨m, by rw [del_ne (ne b _ z fun _ q => nomatch q)]; exact z⟩
  · obtain ⟨p1, p2, p3, p4, p5⟩ := I.pin p hp
    exact ⟨p1, none' _ p2, p3, p4, p5⟩
  · have hb : b ≠ a := fun z => by rw [z, del_same] at q; cases q
    rw [del_ne hb] at q
    exact (I.hok b u q).stay (fun _ _ _ z => z) (fun c z => by rw [del_ne (ne c _ z fun _ q => nomatch q)]; exact z) fun c xs z => by rw [del_ne (ne c _ z fun _ q => nomatch q)]; exact z
end

section
variable {X : Cx} {C D f : Addr} {fd : FuncData} {k : Nat} {x dn a : Str} {np cpos pos apos pos' : Pos} {e o value : Expr} {es : List Expr} {t : TA} {ta tv : TE} {ps : List Str}
/-- D.__init__(self, ..) -/
def tDI (K : PySem.W.Frag) (t : TA) : TE := fun σ H Q => t σ H fun vs H1 => ∃ x C ws, vs = .ref x :: ws ∧ ws.length ≤ 100 ∧ ExC K C ∧ H1 x = some (XN x C) ∧ Q .non H1
theorem pe_dinit {pl : Sem Bool} (d : DIn X.K D) (hg : Gl X dn) (hm : X.mg dn = some (.ref D)) (ha : PA X (e :: es) t) (hdb : (dn == ("__debug__" : Str)) = false := by decide)
    (hst : starEach (e :: es) X.env = (false, eval e X.env) :: starEach es X.env := by rfl) (hpl : (backTo cpos (starEach es X.env)).any (·.1) = false := by rfl)
    (ht : eval (.Call (.Attribute (.Name dn np) "__init__" apos) (e :: es) [] cpos) X.env = (eval (.Name dn np) X.env >>= fun ov => standAt apos.atName >>= fun _ => holding [ov] (getMethod ov "__init__" pl) >>= fun r => callWith cpos r.1 r.2 (backTo cpos (starEach (e :: es) X.env)) (backToKw cpos (keywordEach [] X.env))) := by rfl) :
    PE X (.Call (.Attribute (.Name dn np) "__init__" apos) (e :: es) [] cpos) (tDI X.K t) := by
  intro pins s σ H Q I h
  refine PySem.W.methodCall_KW (pl := pl) (ld_glob I hg hm ?_ hdb) ht
  refine PySem.W.method_cls I.kIn d.ga (PySem.W.cls_value I.kIn d.rd d.fi rfl ?_)
  have I0 : Inv X pins σ H { s with toks := s.toks + 1 } := I.tok _
  refine PyProof.Rows.callWith_builtin1 (thn (ha cpos pins _ σ H _ I0 h) fun us s1 ⟨vs, H1, I1, r, x, C, ws, ev, hl, c, hx, q⟩ => ?_) hst hpl
  subst ev
  obtain ⟨u, us', eu, r1, r2⟩ : ∃ u us', us = u :: us' ∧ RelV (.ref x) u ∧ Vals ws us' := by cases r with | cons a b => exact ⟨_, _, rfl, a, b⟩
  subst eu
  obtain rfl : u = Value.ref x := r1
  · skip
    have ok : ObjOk X.prog X.w H1 s1.heap x (XN x C) := I1.hok x _ hx
    obtain ⟨⟨t0, he⟩, _, _⟩ := ok
    obtain ⟨hp, g, dr, tk, os⟩ := s1
    dsimp only at he
    refine wpAny_call (exc_init0 (t0 := t0) I1.kIn c he (by rw [← r2.length, sizeLine_eq]; omega) ?_)
    refine ⟨.non, H1, ?_, rfl, q⟩
    have hs : x ≠ hp.objs.size := Nat.ne_of_lt (Heap.lt_size he)
    have he1 : (hp.push (tupObj us')).get? x = some (excObj C t0) := Heap.get?_push_of_some _ he
    have up : upd H1 x (XN x C) = H1 := by
      funext b
      unfold upd
      split
      · rename_i z; rw [z]; exact hx.symm
      · rfl
    have W := I1.write (x := x) (e := x) (o := XN x C) (t' := tk) (h' := (hp.push (tupObj us')).update x (Obj.mapFields (·.setIfInBounds 0 (.ref hp.objs.size)))) (by rw [hx]; exact True.intro) (.inl rfl)
      (fun b u hb z => (Heap.get?_update_other _ _ (Ne.symm hb)).trans (Heap.get?_push_of_some _ z)) ⟨_, Heap.get?_update_self _ he1 rfl⟩
      ⟨⟨hp.objs.size, Heap.get?_update_self _ he1 rfl⟩, ⟨_, Heap.get?_update_self _ he1 rfl⟩, fun h1 h2 ⟨t1, q1⟩ k => ⟨t1, k _ q1⟩⟩
    rw [up] at W
    exact W
/-- self.a = value, in an exception's __init__ -/
def sXF (K : PySem.W.Frag) (D : Addr) (ta tv : TE) (a : Str) : TS := fun B σ H => tv σ H fun y H1 => ta σ H1 fun x H2 => ∃ e C, x = .ref e ∧ H2 e = some (XN e C) ∧ ExI K C D a ∧
  ∀ dx, H2 dx = none → B.nx σ (upd (upd H2 e (XM e C dx)) dx (.xd [(a, y)]))
theorem ps_xfld (ha : PE X o ta) (hv : PE X value tv) (hs : swapsWith value (some (.Attribute o a pos')) pos.line X.env = pure false := by rfl) : PS X (.Assign [.Attribute o a pos'] value pos) (sXF X.K D ta tv a) := by
  intro pins s σ H B I h
  refine plainObj_wpAny_Assign_Attribute (thn (hv pins s σ H _ I h) fun u s1 ⟨y, H1, I1, ry, q⟩ => thn (ha pins s1 σ H1 _ I1 q) fun ov s2 ⟨x, H2, I2, rx, e, C, ex, hx, c, q2⟩ => ?_) hs
  subst ex
  obtain rfl : ov = Value.ref e := rx
  have ok : ObjOk X.prog X.w H2 s2.heap e (XN e C) := I2.hok e _ hx
  obtain ⟨⟨t0, he⟩, _, _⟩ := ok
  refine exc_set I2.kIn c he fun h' dx hdx he' hn k => ?_
  have hd0 : H2 dx = none := I2.hok.fresh hdx
  have hde : dx ≠ e := Nat.ne_of_gt (Nat.lt_of_lt_of_le (Heap.lt_size he) hdx)
  refine ⟨σ, _, ?_, q2 dx hd0⟩
  have W := I2.write (x := e) (e := e) (o := XM e C dx) (t' := s2.toks + 2) (h' := h') (by rw [hx]; exact True.intro) (.inl rfl) (fun b u hb z => k b u hb z) ⟨_, he'⟩ ⟨⟨t0, he'⟩, ⟨_, he'⟩, fun h1 h2 ⟨t1, q1⟩ k => ⟨t1, k _ q1⟩⟩
  refine W.track ?_ ⟨_, hn, fun f => ?_⟩
  · refine I2.fpOk hdx ?_
    rw [upd_ne hde]; exact hd0
  · by_cases q : f = a
    · subst q
      simp only [List.lookup, beq_self_eq_true, if_true]
      exact ry
    · have hb : (f == a) = false := beq_eq_false_iff_ne.mpr q
      simp only [List.lookup, hb, if_neg q]
      exact True.intro
/-- what the __init__ of such a class does -/
def spXI (C : Addr) (a : Str) (ok : V → Hp → Prop) : Sp := fun vs H Q _ => ∃ x y, vs = [.ref x, y] ∧ ok y H ∧ H x = some (XN x C) ∧ ∀ dx, H dx = none → Q .non (upd (upd H x (XM x C dx)) dx (.xd [(a, y)]))
def tRzI (E : XK) (C : Addr) (a : Str) (ok : V → Hp → Prop) (t : TA) : TS := fun _ σ H => t σ H fun vs H1 => ∃ y, vs = [y] ∧ (∀ x, H1 x = none → ok y (upd H1 x (XN x C))) ∧ ∀ dx, H1 dx = none → E (.ref C) (some dx) (upd H1 dx (.xd [(a, y)]))
theorem ps_raiseI {E : XK} {ok : V → Hp → Prop} (Fx : Fns X E) (hh : X.A.handled = none) (c : ExC X.K C) (hi : PySem.W.findIn X.K (.ref C) "__init__" = some (some (.ref f))) (hf : PySem.W.typeIn X.K (.ref f) = some (.type "function"))
    (F : FnOk X.prog X.w X.K X.mg X.base CX0 k f fd ps (spXI C a ok)) (hr : Room (k + 1) X.A) (hb : Binds X.K fd ps []) (hg : Gl X x) (hm : X.mg x = some (.ref C)) (ha : PA X (e :: es) t)
    (hdb : (x == ("__debug__" : Str)) = false := by decide) (he : starEach (e :: es) X.env = (false, eval e X.env) :: starEach es X.env := by rfl) (hpl : (backTo cpos (starEach es X.env)).any (·.1) = false := by rfl) :
    PS X (.Raise (some (.Call (.Name x np) (e :: es) [] cpos)) none pos) (tRzI E C a ok t) := by
  intro pins s σ H B I h
  refine raise_made c hh (wpAny_Call_Name_kw (ld_glob I hg hm ?_ hdb))
  refine PySem.W.callWith_K (h₀ := X.base) I.ok.mod.kin c.kp (thn (ha cpos pins s σ H _ I h) fun us s1 ⟨vs, H1, I1, r, y, ev, hy, q⟩ => ⟨I1.kIn, ?_⟩) he hpl
  subst ev
  rw [List.nil_append]
  have rl : us.length = 1 := r.length.symm
  obtain ⟨hp, g, dr, tk, os⟩ := s1
  refine exc_call I1.kIn c hi (fun self => PySem.W.bind_fn (I1.kIn.keeps fun b o q => Heap.get?_push_of_some _ (Heap.get?_push_of_some _ q)) self hf) (by rw [rl, sizeLine_eq]; decide) ?_
  have got : ((hp.push (tupObj us)).push (excObj C hp.objs.size)).get? (hp.objs.size + 1) = some (excObj C hp.objs.size) := Heap.get?_push_at (by rw [Heap.size_push]) rfl
  have n0 : H1 (hp.objs.size + 1) = none := I1.hok.fresh (Nat.le_succ _)
  have I2 : Inv X pins σ (upd H1 (hp.objs.size + 1) (XN (hp.objs.size + 1) C)) ⟨(hp.push (tupObj us)).push (excObj C hp.objs.size), g, dr, tk, os⟩ :=
    I1.laid (t' := tk) (fun b u q => Heap.get?_push_of_some _ (Heap.get?_push_of_some _ q)) (Nat.le_succ _) ⟨⟨_, got⟩, ⟨_, got⟩, fun h1 h2 ⟨t1, q1⟩ k => ⟨t1, k _ q1⟩⟩
  have r2 : Vals [V.ref (hp.objs.size + 1), y] (Value.ref (hp.objs.size + 1) :: us) := .cons rfl r
  have hq : spXI C a ok [V.ref (hp.objs.size + 1), y] (upd H1 (hp.objs.size + 1) (XN (hp.objs.size + 1) C)) (fun v H2 => v = .non ∧ ∃ dx, H1 dx = none ∧ dx ≠ hp.objs.size + 1 ∧ H2 = upd (upd (upd H1 (hp.objs.size + 1) (XN (hp.objs.size + 1) C)) (hp.objs.size + 1) (XM (hp.objs.size + 1) C dx)) dx (.xd [(a, y)])) (fun _ _ _ => False) := by
    refine ⟨_, y, rfl, hy _ n0, upd_same, fun dx hd => ⟨rfl, dx, ?_, ?_, rfl⟩⟩
    · by_cases z : dx = hp.objs.size + 1
      · rw [z]; exact n0
      · rw [upd_ne z] at hd; exact hd
    · intro z; rw [z, upd_same] at hd; cases hd
  have hl : (Value.ref (hp.objs.size + 1) :: us ++ []).length = ps.length := by rw [List.append_nil, ← r2.length]; exact F.len _ _ _ _ hq
  have b := hb _ (Value.ref (hp.objs.size + 1) :: us) I2.kIn hl
  rw [List.append_nil] at b
  refine codeAny_mono (F.run _ X.stack _ _ ⟨Value.ref (hp.objs.size + 1) :: us, []⟩ (Value.ref (hp.objs.size + 1) :: us) _ _ (fun _ _ _ => False) (hr.make C us []) (I2.env0.make C us []) b r2 hq) fun r s' hq' => ?_
  cases r with
  | error ev => exact False.elim hq'
  | ok fl =>
    cases fl with
    | ret u =>
      obtain ⟨v, H', I3, rv, ev, dx, d1, d2, eH⟩ := I2.after hq'
      subst ev
      have hx : H' (hp.objs.size + 1) = some (XM (hp.objs.size + 1) C dx) := by rw [eH, upd_ne (Ne.symm d2), upd_same]
      have ok3 : ObjOk X.prog X.w H' s'.heap _ (XM (hp.objs.size + 1) C dx) := I3.hok _ _ hx
      obtain ⟨⟨t0, g0⟩, _, _⟩ := ok3
      have eq : del H' (hp.objs.size + 1) = upd H1 dx (.xd [(a, y)]) := by
        funext b
        by_cases z : b = hp.objs.size + 1
        · rw [z, del_same, upd_ne (Ne.symm d2), n0]
        · rw [del_ne z, eH]
          by_cases z' : b = dx
          · rw [z', upd_same, upd_same]
          · rw [upd_ne z', upd_ne z', upd_ne z, upd_ne z]
      have I4 := I3.untrack hx (Nat.le_trans I1.sz (Nat.le_succ _))
      refine ⟨rv, hp.objs.size + 1, t0, some dx, #[], rfl, I4.kIn, g0, ?_⟩
      exact Fx.raised I4 (I1.fpOk (Nat.le_succ _) del_same) g0 rfl rfl (by rw [eq]; exact q dx d1)
    | next => exact False.elim hq'
    | brk => exact False.elim hq'
    | cont => exact False.elim hq'
/-- e.a, an attribute of a caught exception -/
def tXF (K : PySem.W.Frag) (D : Addr) (ta : TE) (a : Str) : TE := fun σ H Q => ta σ H fun x H1 => ∃ e C dx fs v, x = .ref e ∧ H1 e = some (XO e C (some dx)) ∧ H1 dx = some (.xd fs) ∧ ExI K C D a ∧ fs.lookup a = some v ∧ Q v H1
theorem pe_xfld (ha : PE X o ta) (hb : attributeBase o a X.env (eval o X.env) = eval o X.env := by rfl) : PE X (.Attribute o a pos) (tXF X.K D ta a) := by
  intro pins s σ H Q I h
  refine attr_of hb (thn (ha pins s σ H _ I h) fun u s1 ⟨x, H1, I1, rx, e, C, dx, fs, v, ex, hx, hd, c, l, q⟩ => ?_)
  subst ex
  obtain rfl : u = Value.ref e := rx
  have ok : ObjOk X.prog X.w H1 s1.heap e (XO e C (some dx)) := I1.hok e _ hx
  obtain ⟨⟨oe, h1, h2, h3, h4⟩, _, _⟩ := ok
  have okd : ObjOk X.prog X.w H1 s1.heap dx (.xd fs) := I1.hok dx _ hd
  obtain ⟨mA, n, r⟩ := okd
  obtain ⟨od, ho, hl⟩ := lookIn_ns n
  obtain ⟨u, hu, ru⟩ := RelO.some_of (v := v) (o := mA a) (by rw [← l]; exact r a)
  exact exc_get (ox := oe) (od := od) I1.kIn c ⟨h1, h2, h4, by rw [h3]; exact ho⟩ (by rw [hl, hu]) (handed_of ru) ⟨v, H1, I1.tok _, ru, q⟩
end
end L2

set_option Elab.async false
set_option linter.all false
set_option maxRecDepth 100000
set_option maxHeartbeats 4000000
namespace L2
open PySem PySem.Spec PyProof.Rows

/-! ### comprehensions whose own names are cells -/
/-- the block's context -/
abbrev cxCompC (X : Cx) (scope : Scope) (N : List Str) (C : Addr) (s : Shared) (H : Hp) (fp : List Addr) : Cx :=
  { X with N := N, s₀ := s, H₀ := H, env := compEnvC scope (cellsFrom (C + 1) scope.names [] ++ clOf X.env scope.names []) C X.env, outer := X.stack, ex := fp, fn := fun x => scope.names.lookup x == some .cell, pn := [], xe := fun _ _ => False }
/-- what the rule asks of the text -/
structure CompOkC (X : Cx) (scope : Scope) (own frees : List Str) (js : List Nat) : Prop where
  calm : X.calm = true
  kind : scope.kind = .function
  cells : ∀ y ∈ scope.names, y.2 = .cell → scope.names.lookup y.1 = some .cell
  locals : ∀ y ∈ scope.names, y.2 = .local → scope.names.lookup y.1 = some .local
  fr : ∀ y ∈ scope.names, y.2 = .free → X.env.scope.names.lookup y.1 = some .cell ∨ X.env.scope.names.lookup y.1 = some .free
  fre : ∀ x ∈ frees, scope.names.lookup x = some .free
  slots : js.map (fun j => X.N[j]?) = frees.map some
section
variable {X : Cx} {pins : List (Addr × Obj)} {σ : St} {scope : Scope} {own frees : List Str} {js : List Nat}
end

section
variable {X : Cx} {scope : Scope} {own frees : List Str} {js : List Nat} {tg iter elt : Expr} {ifs : List Expr} {wi : TI} {g : TG} {tt : TT} {te : TE} {pos : Pos}
end


def compTC (osc : Scope) (on : List Str) (scope : Scope) (frees : List Str) (js : List Nat) : Bool :=
  (scope.kind == .function) && scope.names.all (fun y => y.2 != .cell || scope.names.lookup y.1 == some .cell) && scope.names.all (fun y => y.2 != .local || scope.names.lookup y.1 == some .local) &&
  scope.names.all (fun y => y.2 != .free || (osc.names.lookup y.1 == some .cell || osc.names.lookup y.1 == some .free)) && frees.all (fun x => scope.names.lookup x == some .free) && decide (js.map (fun j => on[j]?) = frees.map some)
/-- a block's scope, as its names stand in it -/
def relab (sc osc : Scope) : Scope := { sc with names := sc.names.map fun (n, k) => if (k == NameKind.free && osc.kind == .function && osc.names.lookup n == some .cell) then (n, NameKind.cell) else (n, k) }
end L2

set_option Elab.async false
set_option linter.all false
set_option maxRecDepth 100000
set_option maxHeartbeats 4000000
/-! ### list(reversed(l)) -/
namespace L2
open PySem PySem.Spec PyProof.Rows
section
variable {prog : Program} {w : World} {A : Around} {E : Value → Shared → Prop} {s : Shared} {r : Addr}
end
section
variable {X : Cx}
end
end L2

set_option Elab.async false
set_option linter.all false
set_option maxRecDepth 100000
set_option maxHeartbeats 4000000
namespace L2
open PySem PySem.Spec PyProof.Rows
/-! ### isinstance with a class of one's own -/
def rIsiC (K : PySem.W.Frag) : List V → Hp → VK → Prop := fun xs H Q => ∃ x D t b, xs = [x, .ref D] ∧ TyOf K H x t ∧ PySem.W.kitOne K t (.ref D) = some b ∧ Q (.bl b) H
/-- what the text must have for isinstance(x, D), x an instance of D -/
structure IsCls (K : PySem.W.Frag) (D : Addr) : Prop where
  ha : PySem.W.findIn K (.ref D) "__class__" = some (some (.builtin "object.__class__"))
  hn : PySem.W.specialIn K (.builtin "object.__class__") "__get__" = some (some (.builtin "getset_descriptor.__get__"))
  ht : PySem.W.takesIn K (.builtin "object.__class__") = some true
  hm : PySem.W.mroIn K D (.type "object") = some true
  ki : PySem.W.kitOne K (.ref D) (.ref D) = some true
end L2

set_option Elab.async false
set_option linter.all false
set_option maxRecDepth 100000
set_option maxHeartbeats 4000000
namespace L2
open PySem PySem.Spec PyProof.Rows
/-! ### list(d) of a dict keyed by tuples -/
section
variable {prog : Program} {w : World} {A : Around}
end
section
variable {X : Cx}
end
end L2

set_option Elab.async false
set_option linter.all false
set_option maxRecDepth 100000
set_option maxHeartbeats 4000000
namespace L2
open PySem PySem.Spec PyProof.Rows
section
variable {X : Cx} {pins : List (Addr × Obj)} {σ : St} {H : Hp} {s : Shared} {a : Addr} {o : Obj} {kvs : List (List Key × V)}
/-! ### a dict that was frozen in this call's own frame may be written again -/
def tThawT (H₀ : Hp) (t : TS) : TS := fun D σ H => ∃ a o kvs, H a = some (.frz o (.dT kvs)) ∧ (∀ o' v, H₀ a ≠ some (.frz o' v)) ∧ t D σ (upd H a (.dT kvs))
end
end L2

set_option Elab.async false
set_option linter.all false
set_option maxRecDepth 100000
set_option maxHeartbeats 4000000
namespace L2
open PySem PySem.Spec PySem.Builtin
/-! ### t * n, a tuple -/
section
variable {X : Cx}
def rRepT (K : PySem.W.Frag) : R2 := fun x y H Q => ∃ a k xs, x = .ref a ∧ y = .int k ∧ SqT K H a xs ∧ 0 < k ∧ k ≤ 1000 ∧ xs.length ≤ 100 ∧ ((xs = [] ∨ k = 1) → Q (.ref a) H) ∧ (xs ≠ [] → k ≠ 1 → ∀ p, H p = none → Q (.ref p) (upd H p (.tup (List.replicate k.toNat xs).flatten)))
end
end L2

set_option Elab.async false
set_option linter.all false
set_option maxRecDepth 100000
set_option maxHeartbeats 4000000
namespace L2
open PySem PySem.Spec PyProof.Rows
/-! ### raise C(xs), C's __init__ keeps a copy of the list -/
section
variable {X : Cx} {C D f : Addr} {fd : FuncData} {k : Nat} {x dn a : Str} {np cpos pos apos pos' : Pos} {e o value : Expr} {es : List Expr} {t : TA} {ta tv : TE} {ps : List Str}
def spXL (C : Addr) (a : Str) : Sp := fun vs H Q _ => ∃ (x r : Addr) (ys : List Str), vs = [.ref x, .ref r] ∧ H r = some (.lst (ys.map V.str)) ∧ ys.length ≤ 100 ∧ (∀ y ∈ ys, Shows y) ∧ H x = some (XN x C) ∧
  ∀ l dx, H l = none → (upd H l (.lst (ys.map V.str))) dx = none → Q .non (upd (upd (upd H l (.lst (ys.map V.str))) x (XM x C dx)) dx (.xd [(a, .ref l)]))
def tRzL (E : XK) (C : Addr) (a : Str) (t : TA) : TS := fun _ σ H => t σ H fun vs H1 => ∃ (r : Addr) (ys : List Str), vs = [.ref r] ∧ H1 r = some (.lst (ys.map V.str)) ∧ ys.length ≤ 100 ∧ (∀ y ∈ ys, Shows y) ∧ ∀ l dx, H1 l = none → H1 dx = none → l ≠ dx → E (.ref C) (some dx) (upd (upd H1 l (.lst (ys.map V.str))) dx (.xd [(a, .ref l)]))
theorem ps_raiseL {E : XK} (Fx : Fns X E) (hh : X.A.handled = none) (c : ExC X.K C) (hi : PySem.W.findIn X.K (.ref C) "__init__" = some (some (.ref f))) (hf : PySem.W.typeIn X.K (.ref f) = some (.type "function"))
    (F : FnOk X.prog X.w X.K X.mg X.base CX0 k f fd ps (spXL C a)) (hr : Room (k + 1) X.A) (hb : Binds X.K fd ps []) (hg : Gl X x) (hm : X.mg x = some (.ref C)) (ha : PA X (e :: es) t)
    (hdb : (x == ("__debug__" : Str)) = false := by decide) (he : starEach (e :: es) X.env = (false, eval e X.env) :: starEach es X.env := by rfl) (hpl : (backTo cpos (starEach es X.env)).any (·.1) = false := by rfl) :
    PS X (.Raise (some (.Call (.Name x np) (e :: es) [] cpos)) none pos) (tRzL E C a t) := by
  intro pins s σ H B I h
  refine raise_made c hh (wpAny_Call_Name_kw (ld_glob I hg hm ?_ hdb))
  refine PySem.W.callWith_K (h₀ := X.base) I.ok.mod.kin c.kp (thn (ha cpos pins s σ H _ I h) fun us s1 ⟨vs, H1, I1, r, ra, ys, ev, hra, hl0, hsh, q⟩ => ⟨I1.kIn, ?_⟩) he hpl
  subst ev
  rw [List.nil_append]
  have rl : us.length = 1 := r.length.symm
  obtain ⟨hp, g, dr, tk, os⟩ := s1
  refine exc_call I1.kIn c hi (fun self => PySem.W.bind_fn (I1.kIn.keeps fun b o q => Heap.get?_push_of_some _ (Heap.get?_push_of_some _ q)) self hf) (by rw [rl, sizeLine_eq]; decide) ?_
  have got : ((hp.push (tupObj us)).push (excObj C hp.objs.size)).get? (hp.objs.size + 1) = some (excObj C hp.objs.size) := Heap.get?_push_at (by rw [Heap.size_push]) rfl
  have n0 : H1 (hp.objs.size + 1) = none := I1.hok.fresh (Nat.le_succ _)
  have I2 : Inv X pins σ (upd H1 (hp.objs.size + 1) (XN (hp.objs.size + 1) C)) ⟨(hp.push (tupObj us)).push (excObj C hp.objs.size), g, dr, tk, os⟩ :=
    I1.laid (t' := tk) (fun b u q => Heap.get?_push_of_some _ (Heap.get?_push_of_some _ q)) (Nat.le_succ _) ⟨⟨_, got⟩, ⟨_, got⟩, fun h1 h2 ⟨t1, q1⟩ k => ⟨t1, k _ q1⟩⟩
  have r2 : Vals [V.ref (hp.objs.size + 1), V.ref ra] (Value.ref (hp.objs.size + 1) :: us) := .cons rfl r
  have nr : ra ≠ hp.objs.size + 1 := ne_of_none hra n0
  have hq : spXL C a [V.ref (hp.objs.size + 1), V.ref ra] (upd H1 (hp.objs.size + 1) (XN (hp.objs.size + 1) C)) (fun v H2 => v = .non ∧ ∃ l dx, H1 l = none ∧ H1 dx = none ∧ l ≠ hp.objs.size + 1 ∧ dx ≠ hp.objs.size + 1 ∧ l ≠ dx ∧ H2 = upd (upd (upd (upd H1 (hp.objs.size + 1) (XN (hp.objs.size + 1) C)) l (.lst (ys.map V.str))) (hp.objs.size + 1) (XM (hp.objs.size + 1) C dx)) dx (.xd [(a, .ref l)])) (fun _ _ _ => False) := by
    refine ⟨_, ra, ys, rfl, by rw [upd_ne nr]; exact hra, hl0, hsh, upd_same, fun l dx hl' hd => ?_⟩
    have l1 : l ≠ hp.objs.size + 1 := fun z => by rw [z, upd_same] at hl'; cases hl'
    have l2 : l ≠ dx := fun z => by rw [z, upd_same] at hd; cases hd
    rw [upd_ne l1] at hl'
    rw [upd_ne (Ne.symm l2)] at hd
    have d1 : dx ≠ hp.objs.size + 1 := fun z => by rw [z, upd_same] at hd; cases hd
    rw [upd_ne d1] at hd
    exact ⟨rfl, l, dx, hl', hd, l1, d1, l2, rfl⟩
  have hl : (Value.ref (hp.objs.size + 1) :: us ++ []).length = ps.length := by rw [List.append_nil, ← r2.length]; exact F.len _ _ _ _ hq
  have b := hb _ (Value.ref (hp.objs.size + 1) :: us) I2.kIn hl
  rw [List.append_nil] at b
  refine codeAny_mono (F.run _ X.stack _ _ ⟨Value.ref (hp.objs.size + 1) :: us, []⟩ (Value.ref (hp.objs.size + 1) :: us) _ _ (fun _ _ _ => False) (hr.make C us []) (I2.env0.make C us []) b r2 hq) fun r s' hq' => ?_
  cases r with
  | error ev => exact False.elim hq'
  | ok fl =>
    cases fl with
    | ret u =>
      obtain ⟨v, H', I3, rv, ev, l, dx, q1, d1, l1, d2, l2, eH⟩ := I2.after hq'
      subst ev
      have hx : H' (hp.objs.size + 1) = some (XM (hp.objs.size + 1) C dx) := by rw [eH, upd_ne (Ne.symm d2), upd_same]
      have ok3 : ObjOk X.prog X.w H' s'.heap _ (XM (hp.objs.size + 1) C dx) := I3.hok _ _ hx
      obtain ⟨⟨t0, g0⟩, _, _⟩ := ok3
      have eq : del H' (hp.objs.size + 1) = upd (upd H1 l (.lst (ys.map V.str))) dx (.xd [(a, .ref l)]) := by
        funext b
        by_cases z : b = hp.objs.size + 1
        · rw [z, del_same, upd_ne (Ne.symm d2), upd_ne (Ne.symm l1), n0]
        · rw [del_ne z, eH]
          by_cases z' : b = dx
          · rw [z', upd_same, upd_same]
          · rw [upd_ne z', upd_ne z', upd_ne z]
            by_cases z2 : b = l
            · rw [z2, upd_same, upd_same]
            · rw [upd_ne z2, upd_ne z2, upd_ne z]
      have I4 := I3.untrack hx (Nat.le_trans I1.sz (Nat.le_succ _))
      refine ⟨rv, hp.objs.size + 1, t0, some dx, #[], rfl, I4.kIn, g0, ?_⟩
      exact Fx.raised I4 (I1.fpOk (Nat.le_succ _) del_same) g0 rfl rfl (by rw [eq]; exact q l dx q1 d1 l2)
    | next => exact False.elim hq'
    | brk => exact False.elim hq'
    | cont => exact False.elim hq'
end
end L2

set_option Elab.async false
set_option linter.all false
set_option maxRecDepth 100000
set_option maxHeartbeats 4000000
namespace L2
open PySem PySem.Spec PySem.Builtin
/-! ### sorted(l), a list of texts -/
theorem strsAre_of {ss : List Str} : ∀ {us : List Value}, Vals (ss.map V.str) us → PyProof.Rows.StrsAre us ss := by
  induction ss with
  | nil => intro us r; rw [List.map_nil] at r; cases r; exact .nil
  | cons x xs ih =>
    intro us r
    rw [List.map_cons] at r
    cases r with
    | cons h t =>
      obtain ⟨tk, rfl⟩ := h
      exact .cons _ _ (ih t)
theorem vals_strs {ss : List Str} {us : List Value} (h : PyProof.Rows.StrsAre us ss) : Vals (ss.map V.str) us := by
  induction h with
  | nil => exact .nil
  | cons y t h ih => exact .cons ⟨t, rfl⟩ ih
section
variable {X : Cx}
end
/-! ### what is sorted is one -/
def leS (a b : Str) : Prop := ¬ b.cps.toList < a.cps.toList
/-! ### xs.remove(k) of texts, k among them -/
def isS (k : Str) (v : Value) : Bool := match v with
  | .str i _ => i.cps.toList == k.cps.toList
  | _ => false
section
variable {X : Cx}
def rRemoveS : V → List V → Hp → VK → Prop := fun x vs H Q => ∃ (l : Addr) (ms : List Str) (k : Str), x = .ref l ∧ vs = [.str k] ∧ H l = some (.lst (ms.map V.str)) ∧ k ∈ ms ∧ Q .non (upd H l (.lst ((ms.erase k).map V.str)))
end
end L2

set_option Elab.async false
set_option linter.all false
set_option maxRecDepth 100000
set_option maxHeartbeats 4000000
namespace L2
open PySem PySem.Spec
/-! ### sets of texts -/
def sOf (e : Int × Value) : Str := PyProof.Rows.strOf e.2
def byT (w : World) : Bool := w.params.followText "set-order"
structure TxS (w : World) (o : Obj) (es : Array (Int × Value)) (ep : Nat) (t : SetTable) (ss : List Str) : Prop where
  ex : o.ExactSet
  dat : o.data = .set es ep t
  str : ∀ e ∈ es.toList, ∃ y k, e.2 = .str y k
  all : (es.toList.map sOf).Perm ss
  fit : t.fits es.size = true
  led : t.led = !byT w
  pln : es.size = 0 ∨ t.plain = false
theorem TxS.len {w : World} {o : Obj} {es : Array (Int × Value)} {ep : Nat} {t : SetTable} {ss : List Str} (h : TxS w o es ep t ss) : es.size = ss.length := by
  have := h.all.length_eq
  rwa [List.length_map, Array.length_toList] at this
theorem lay_led (t : SetTable) (es : Array (Int × Value)) (h : Int) (x : Value) : (layNew t es h x).2.1.led = t.led := by
  unfold layNew
  split
  · dsimp only
    unfold SetTable.orStandIn
    split <;> rfl
  · rfl
theorem relaid_lp {t t' : SetTable} {hs : Array Int} {n : Nat} {ord : Array Nat} (e : t.relaid hs n = some (t', ord)) : t'.led = t.led ∧ t'.plain = t.plain := by
  unfold SetTable.relaid SetTable.laid at e
  rw [Option.bind_eq_bind, Option.bind_eq_some_iff] at e
  obtain ⟨ow, _, e⟩ := e
  have e := Option.some.inj e
  rw [Prod.mk.injEq] at e
  rw [← e.1]
  exact ⟨rfl, rfl⟩
theorem relay_lp (t : SetTable) (es : Array (Int × Value)) (n : Nat) (hp : t.plain = false) : (relayAll t es n).2.1.led = t.led ∧ (relayAll t es n).2.1.plain = false := by
  unfold relayAll
  split
  · rename_i t' ord e
    have := relaid_lp e
    dsimp only
    split
    · exact ⟨this.1, this.2.trans hp⟩
    · exact ⟨rfl, rfl⟩
  · exact ⟨rfl, rfl⟩
section
variable {prog : Program} {w : World} {A : Around} {E : Value → Shared → Prop} {s : Shared}
theorem ts_tail {g : Bool → Sem Unit} (hg : ∀ (b : Bool) (s₁ : Shared) (Q' : Unit → Shared → Prop), Q' () s₁ → wpAny (model prog w) A (g b) Q' E s₁) {a : Addr} {o : Obj} {es e1 : Array (Int × Value)} {ep : Nat} {t t2 : SetTable} {ss : List Str} (ho : s.heap.get? a = some o) (hd : o.data = .set es ep t) (hx : o.ExactSet)
    (h1 : ∀ e ∈ e1.toList, ∃ y k, e.2 = .str y k) (h2 : (e1.toList.map sOf).Perm ss) (h3 : t2.fits e1.size = true) (h4 : t2.led = !byT w) (h5 : t2.plain = false) (hl : ss.length < 100) {wd : Bool} {R : Option Bool → Shared → Prop}
    (h : ∀ h' o' es' ep' t', Heap.SameBut a s.heap h' → h'.get? a = some o' → TxS w o' es' ep' t' ss → R (some true) { s with heap := h' }) :
    wpAny (model prog w) A (do
      storeSet a e1 t2
      if (!wd && t2.tooFull) = true then do
          g (relayAll t2 e1 (SetTable.grown e1.size)).2.2
          storeSet a (relayAll t2 e1 (SetTable.grown e1.size)).1 (relayAll t2 e1 (SetTable.grown e1.size)).2.1
          pure (some true)
        else pure (some true)) R E s := by
  have z1 : e1.size < 100 := by have := h2.length_eq; rw [List.length_map, Array.length_toList] at this; omega
  have zl : ∀ n, n < 100 → n ≤ sizeLine := fun n hn => by rw [sizeLine_eq]; omega
  have at1 : ∀ {hp : Heap} {ob : Obj} {fs : Array (Int × Value)} {q : Nat} {tb : SetTable} (fs' : Array (Int × Value)) (tb' : SetTable), hp.get? a = some ob → ob.data = .set fs q tb → (hp.update a (Obj.putSet fs' tb')).get? a = some { ob with data := .set fs' (q + 1) tb' } := fun fs' tb' hb hdb => by
    have := Heap.get?_update_self (Obj.putSet fs' tb') hb (by rw [putSet_of fs' tb' hdb]; rfl)
    rwa [putSet_of fs' tb' hdb] at this
  refine wpAny_bind (wpAny_storeSet_of ho hd ?_ (zl _ z1))
  have o1 := at1 e1 t2 ho hd
  have b1 := Heap.SameBut.update s.heap a (Obj.putSet e1 t2)
  split
  · have p2 := relayAll_perm t2 e1 (SetTable.grown e1.size)
    have f2 := relayAll_fits t2 e1 (SetTable.grown e1.size)
    have l2 := relay_lp t2 e1 (SetTable.grown e1.size) h5
    generalize relayAll t2 e1 (SetTable.grown e1.size) = r at p2 f2 l2 ⊢
    obtain ⟨e2, t3, gv⟩ := r
    dsimp only at p2 f2 l2 ⊢
    have z2 : e2.size = e1.size := by have := p2.length_eq; rwa [Array.length_toList, Array.length_toList] at this
    refine wpAny_bind (hg _ _ _ ?_)
    refine wpAny_bind (wpAny_storeSet_of o1 rfl ?_ (zl _ (by omega)))
    exact wpAny_pure (h _ _ e2 _ t3 (b1.trans (Heap.SameBut.update _ a _)) (at1 e2 t3 o1 rfl) ⟨hx, rfl, fun e he => h1 e (p2.mem_iff.mp he), (p2.map sOf).trans h2, f2, l2.1.trans h4, .inr l2.2⟩)
  · exact wpAny_pure (h _ _ e1 _ t2 b1 o1 ⟨hx, rfl, h1, h2, h3, h4, .inr h5⟩)
theorem ts_scan {a : Addr} {x : Str} {k : Tok} {hh : Int} {es : Array (Int × Value)} {Q : ScanMet → Shared → Prop} (h1 : ∀ e ∈ es.toList, ∃ y j, e.2 = .str y j) (hx : x ∉ es.toList.map sOf) (h : Q .absent s) : wpAny (model prog w) A (setScan a (.str x k) hh true es) Q E s := by
  have ha : es.all (fun e => isExactStrKey e.2) = true := by
    rw [← Array.all_toList, List.all_eq_true]
    intro e he
    obtain ⟨y, j, ej⟩ := h1 e he
    rw [ej]; rfl
  have hf : es.findIdx? (fun e => e.2.isStr x) = none := by
    have : es.toList.findIdx? (fun e => e.2.isStr x) = none := by
      rw [List.findIdx?_eq_none_iff]
      intro e he
      obtain ⟨y, j, ej⟩ := h1 e he
      rw [ej]
      show (Value.str y j).isStr x = false
      have hne : y ≠ x := fun z => hx (List.mem_map.mpr ⟨e, he, by unfold sOf; rw [ej]; exact z⟩)
      cases hb : (Value.str y j).isStr x with
      | false => rfl
      | true => exact absurd (by simpa [Value.isStr] using hb) hne
    cases es; simpa using this
  unfold setScan
  dsimp only
  rw [if_pos ha]
  unfold setScanStrs
  rw [hf]
  exact wpAny_pure h
theorem ts_add {a : Addr} {o : Obj} {es : Array (Int × Value)} {ep : Nat} {t : SetTable} {ss : List Str} {x : Str} {k : Tok} {Q : Bool → Shared → Prop} (ho : s.heap.get? a = some o) (T : TxS w o es ep t ss) (hx : x ∉ ss) (hl : ss.length < 90)
    (h : ∀ h' o' es' ep' t', Heap.SameBut a s.heap h' → h'.get? a = some o' → TxS w o' es' ep' t' (ss ++ [x]) → Q true { s with heap := h', toks := s.toks + 1 }) :
    wpAny (model prog w) A (setAdd a (.str x k)) Q E s := by
  unfold setAdd
  refine wpAny_holding (wpAny_bind ((strKind prog w).pyHash (k := x) (by exact decide_eq_true rfl) ?_))
  generalize (strKind prog w).hash x = hv
  unfold setAddHashed setAddHashedIn
  refine wpAny_holding (wpAny_bind (wpAny_setState_of (s := { s with toks := s.toks + 1 }) ho T.dat T.fit ?_))
  dsimp only
  have hb : byScan (Value.str x k) es = true := by
    unfold byScan
    rw [Bool.and_eq_true, Bool.and_eq_true]
    refine ⟨⟨rfl, decide_eq_true (by have := T.len; unfold scanBound; omega)⟩, ?_⟩
    rw [← Array.all_toList, List.all_eq_true]
    intro e he
    obtain ⟨y, j, ej⟩ := T.str e he
    rw [ej]; rfl
  rw [hb]
  simp only [↓reduceIte]
  unfold setAddByScan
  refine wpAny_bind (wpAny_bind (wpAny_rule (wpAny_bind (ts_scan T.str (fun z => hx (T.all.mem_iff.mp z)) ?_))))
  dsimp only
  have p1 := layNew_perm t es hv (.str x k)
  have f1 := layNew_fits t es hv (.str x k)
  have l1 := lay_led t es hv (.str x k)
  generalize layNew t es hv (.str x k) = L at p1 f1 l1 ⊢
  obtain ⟨e1, t1, wd, gv⟩ := L
  dsimp only at p1 f1 l1 ⊢
  rw [Array.toList_push] at p1
  have gw : ∀ (b : Bool) (s₁ : Shared) (Q' : Unit → Shared → Prop), Q' () s₁ → wpAny (model prog w) A (match b with | true => rule "set.scan.the-table-gave-way" | false => pure ()) Q' E s₁ := fun b s₁ Q' hq => by
    cases b
    · exact wpAny_pure hq
    · exact wpAny_rule hq
  have h1 : ∀ e ∈ e1.toList, ∃ y j, e.2 = .str y j := fun e he => by
    rcases List.mem_append.mp (p1.mem_iff.mp he) with z | z
    · exact T.str e z
    · rw [List.mem_singleton.mp z]; exact ⟨x, k, rfl⟩
  have h2 : (e1.toList.map sOf).Perm (ss ++ [x]) := by
    refine (p1.map sOf).trans ?_
    rw [List.map_append]
    exact T.all.append (List.Perm.refl _)
  have hl2 : (ss ++ [x]).length < 100 := by rw [List.length_append, List.length_singleton]; omega
  refine wpAny_bind (gw _ _ _ ?_)
  have fin : ∀ h' o' es' ep' t', Heap.SameBut a s.heap h' → h'.get? a = some o' → TxS w o' es' ep' t' (ss ++ [x]) → wpAny (model prog w) A (pure true : Sem Bool) Q E { s with heap := h', toks := s.toks + 1 } := fun h' o' es' ep' t' q1 q2 q3 => wpAny_pure (h h' o' es' ep' t' q1 q2 q3)
  split
  · refine wpAny_bind ?_
    rw [hashByValue_scannable 8 (x := Value.str x k) rfl]
    refine wpAny_pure ?_
    rw [show plainKind (Value.str x k) = false from rfl]
    simp only [Bool.false_eq_true, ↓reduceIte]
    exact ts_tail (s := { s with toks := s.toks + 1 }) gw ho T.dat T.ex h1 h2 (SetTable.fits_plain_off f1) (l1.trans T.led) rfl hl2 fun h' o' es' ep' t' q1 q2 q3 => fin h' o' es' ep' t' q1 q2 q3
  · rename_i hp
    refine wpAny_bind (wpAny_pure ?_)
    simp only [↓reduceIte]
    exact ts_tail (s := { s with toks := s.toks + 1 }) gw ho T.dat T.ex h1 h2 f1 (l1.trans T.led) (by cases z : t1.plain with | false => rfl | true => exact absurd z hp) hl2 fun h' o' es' ep' t' q1 q2 q3 => fin h' o' es' ep' t' q1 q2 q3
end
end L2

set_option Elab.async false
set_option linter.all false
set_option maxRecDepth 100000
set_option maxHeartbeats 4000000
namespace L2
open PySem PySem.Spec
theorem subTS : isSubtype (.type "tuple") (.type "set") = pure false := by
  rw [isSubtype_type]
  kernel_rfl
theorem subTF : isSubtype (.type "tuple") (.type "frozenset") = pure false := by
  rw [isSubtype_type]
  kernel_rfl
def SetX (w : World) (h : Heap) (a : Addr) (ss : List Str) : Prop := ∃ o es ep t, h.get? a = some o ∧ TxS w o es ep t ss
theorem SetX.at {w : World} {h h' : Heap} {a : Addr} {ss : List Str} (x : SetX w h a ss) (k : ∀ o, h.get? a = some o → h'.get? a = some o) : SetX w h' a ss :=
  let ⟨o, es, ep, t, e, z⟩ := x; ⟨o, es, ep, t, k o e, z⟩
section
variable {prog : Program} {w : World} {A : Around} {R : Result → Shared → Prop} {I : Addr} {fp wr : List Addr} {G : Array GenState → Array GenState → Prop} {n : Nat} {P : Nat → Value → Prop} {St : Nat → Shared → Prop}
theorem ts_loop (W : WalksS prog w A.in1 I fp wr G n P St) (S : Addr) (hS : S ∉ fp) (val : Nat → Str) (hv : ∀ i v, P i v → ∃ k, v = .str (val i) k) (nd : ((List.range n).map val).Nodup) (hn : n < 80) :
    ∀ (k i : Nat) (s : Shared), n - i = k → i ≤ n → St i s → SetX w s.heap S ((List.range i).map val) → (∀ s', Moved (S :: wr) G s s' → SetX w s'.heap S ((List.range n).map val) → R (.ok (.ret .none)) s') →
      codeAny (model prog w) A (.builtin "set.update.loop" ⟨[.ref S, .ref I], []⟩) R s := by
  have hSw : S ∉ wr := fun z => hS (W.sub _ z)
  have sub : ∀ b ∈ wr, b ∈ S :: wr := fun b z => List.mem_cons_of_mem _ z
  intro k
  induction k with
  | zero =>
    intro i s hk hi st hX hR
    have e : i = n := by omega
    subst e
    refine codeAny_builtin PyProof.Rows.F.entry_set_update_loop ?_
    rw [Around.under_plainId PyProof.Rows.F.plain_set_update_loop _]
    show wpAny _ A.in1 (pyNext (.ref I) >>= _) _ _ s
    refine wpAny_bind (W.done s _ _ st fun s' m => ?_)
    exact wpAny_pure (hR s' (m.mono sub) (hX.at fun o e => m.heap S _ hSw e))
  | succ k ih =>
    intro i s hk hi st hX hR
    have lt : i < n := by omega
    refine codeAny_builtin PyProof.Rows.F.entry_set_update_loop ?_
    rw [Around.under_plainId PyProof.Rows.F.plain_set_update_loop _]
    show wpAny _ A.in1 (pyNext (.ref I) >>= _) _ _ s
    refine wpAny_bind (W.item i s _ _ lt st fun v s' hP st' m => ?_)
    obtain ⟨tk, rfl⟩ := hv i v hP
    obtain ⟨o, es, ep, t, ho, T⟩ := hX.at fun o e => m.heap S _ hSw e
    have e1 : (List.range (i + 1)).map val = (List.range i).map val ++ [val i] := by rw [List.range_succ, List.map_append]; rfl
    have new : val i ∉ (List.range i).map val := by
      have : ((List.range (i + 1)).map val).Nodup := by
        refine nd.sublist (List.Sublist.map _ ?_)
        have : List.range n = List.range (i + 1) ++ (List.range (n - (i + 1))).map ((i + 1) + ·) := by rw [← List.range_add]; congr 1; omega
        rw [this]
        exact List.sublist_append_left ..
      rw [e1, List.nodup_append] at this
      exact fun z => this.2.2 _ z _ (List.mem_singleton.mpr rfl) rfl
    show wpAny _ A.in1 (holding [Value.str (val i) tk] (setAdd S (.str (val i) tk)) >>= _) _ _ s'
    refine wpAny_bind (wpAny_holding (ts_add ho T new (by rw [List.length_map, List.length_range]; omega) fun h' o' es' ep' t' sb ho' T' => ?_))
    refine wpAny_pure ⟨plainId_quiet PyProof.Rows.F.plain_set_update_loop _, ih (i + 1) _ (by omega) lt (W.frame _ s' _ _ st' (Nat.le_succ _) fun b hb o e => ?_) ⟨o', es', ep', t', ho', by rw [e1]; exact T'⟩ fun s'' m' hX' => ?_⟩
    · rw [sb.2 b (fun z => hS (by rw [← z]; exact hb))]; exact e
    · refine hR s'' (Moved.trans W.gtrans ((m.mono sub).then_heap (Nat.le_succ _) fun b o hb e => ?_) m') hX'
      rw [sb.2 b (fun z => hb (by rw [z]; exact List.mem_cons_self))]; exact e
end
section
variable {prog : Program} {w : World} {A : Around} {E : Value → Shared → Prop} {s : Shared}
def newS (w : World) : Obj := { cls := .type "set", dict := none, data := .set #[] 0 (.fresh 0 0 (!byT w)) }
theorem ts_new (a : Value) {Q : Value → Shared → Prop} (h : Q (.ref s.heap.objs.size) { s with heap := s.heap.push (newS w) }) : codeAny (model prog w) A (.call (.builtin "set.__new__") ⟨[.type "set", a], []⟩) (wants Q E) s := by
  refine codeAny_of_tree ?_
  show wpAny _ A.in1 (checkBuiltinCall "set.__new__" ⟨[.type "set", a], []⟩ >>= fun _ => again (.builtin "set.__new__" ⟨[.type "set", a], []⟩)) _ _ s
  refine wpAny_bind (wpAny_of_eq (PySem.F.newCall_set_1 a) (wpAny_pure ⟨plainId_quiet PySem.F.plain_set_new _, codeAny_builtin PySem.F.entry_set_new ?_⟩))
  rw [Around.under_plainId PySem.F.plain_set_new _]
  unfold Builtin.«set.__new__» Builtin.Frozenset.newClass
  have z := sub_set_self
  obtain ⟨hp, g, d, tk, os⟩ := s
  dsimp only
  wp_walk
  refine wpAny_askSetting (wpAny_pure ?_)
  dsimp only
  simp only [newObj]
  exact wpAny_bind (wpAny_alloc (wpAny_pure (wpAny_pure h)))
theorem newS_ok : TxS w (newS w) #[] 0 (.fresh 0 0 (!byT w)) [] := ⟨⟨rfl, rfl, rfl⟩, rfl, (fun _ z => by cases z), List.Perm.refl _, rfl, rfl, .inl rfl⟩
end
end L2

set_option Elab.async false
set_option linter.all false
set_option maxRecDepth 100000
set_option maxHeartbeats 4000000
namespace L2
open PySem PySem.Spec
section
variable {prog : Program} {w : World} {A : Around} {E : Value → Shared → Prop} {s : Shared}
/-- set(t) of a tuple of unlike texts -/
theorem ts_call {l : Addr} {items : Array Value} {ss : List Str} {Q : Value → Shared → Prop} (hh : A.handled = none) (hl : s.heap.IsTuple l items) (hi : PyProof.Rows.StrsAre items.toList ss) (nd : ss.Nodup) (hn : ss.length < 80)
    (h : ∀ (h' : Heap) (tk : Nat), SetX w h' s.heap.objs.size ss → (∀ b o, s.heap.get? b = some o → h'.get? b = some o) → Q (.ref s.heap.objs.size) { s with heap := h', toks := tk }) :
    wpAny (model prog w) A (call (.type "set") [.ref l]) Q E s := by
  have zs : items.size = ss.length := by
    have := PyProof.Rows.StrsAre.strs hi
    rw [← Array.length_toList, ← this, List.length_map]
  obtain ⟨c, tl, hmro⟩ := PySem.F.called_set.mro
  have hmade := PySem.F.called_set.made
  have hsub := PySem.F.called_set.sub
  refine wpAny_call (codeAny_of_tree ?_)
  show wpAny _ _ (callAny (.type "set") _) _ _ _
  refine wpAny_pure ⟨Code.quiet_builtin _ (by decide +kernel), codeAny_builtin PySem.F.entry_type_call ?_⟩
  rw [Around.under_plain (weight_type_call_type "set" [.ref l] []) rfl]
  have h1 := PySem.F.called_set.notType
  have h2 := PySem.F.called_set.canCreate
  have hct := PySem.F.typeCall_set_1 (.ref l)
  repeat (any_goals (first | assumption | wp_step))
  refine codeAny_mono (ts_new (.ref l) (E := E) (Q := fun obj s₁ => obj = .ref s.heap.objs.size ∧ s₁ = { s with heap := s.heap.push (newS w) }) ⟨rfl, rfl⟩) fun r s₁ hr => ?_
  cases r with
  | error e => exact hr
  | ok fl =>
    cases fl with
    | ret obj =>
      obtain ⟨rfl, rfl⟩ := hr
      have hS : (s.heap.push (newS w)).get? s.heap.objs.size = some (newS w) := Heap.get?_push_size _ rfl
      have hT : Shared.TypeIs { s with heap := s.heap.push (newS w) } (.ref s.heap.objs.size) "set" := ⟨_, hS, rfl⟩
      have hli := PySem.F.called_set.init.lookup
      have hbi := PySem.F.called_set.init.bind (.ref s.heap.objs.size)
      repeat (any_goals (first | assumption | wp_step))
      refine codeAny_mono (codeAny_call_builtin (R := wants (fun r s₂ => r = .none ∧ ∃ h' tk, s₂ = { s with heap := h', toks := tk } ∧ SetX w h' s.heap.objs.size ss ∧ ∀ b o, s.heap.get? b = some o → h'.get? b = some o) E) PySem.F.called_set.init.plain PySem.F.entry_set_init (check_set_init_1 hT ?_)) fun r₂ s₂ hr₂ => ?_
      · have hl1 : (s.heap.push (newS w)).IsTuple l items := by
          obtain ⟨o, e, z⟩ := hl
          exact ⟨o, Heap.get?_push_of_some _ e, z⟩
        obtain ⟨ol, hol, hcl, nl, hdl⟩ := id hl1
        have hTl : Shared.TypeIs { s with heap := s.heap.push (newS w) } (.ref l) "tuple" := ⟨ol, hol, hcl⟩
        have hsls := subTS
        have hslf := subTF
        have hne : (Value.type "tuple" == Value.type "dict") = false := by decide
        unfold Builtin.«set.__init__» noKeywords Builtin.Frozenset.updateFrom
        generalize hPI : pyIter = PI
        wp_walk
        subst hPI
        refine wpAny_pyIter_tuple hl1 ?_
        refine wpAny_bind (wpAny_runValue ?_)
        have lS : l < s.heap.objs.size := by obtain ⟨o, e, _⟩ := hl; exact Heap.lt_size e
        have hh3 : A.in1.in1.in1.handled = none := by simp [hh]
        have nI : l ≠ (s.heap.push (newS w)).objs.size := by rw [Heap.size_push]; exact Nat.ne_of_lt (Nat.lt_succ_of_lt lS)
        have nS : s.heap.objs.size ∉ [(s.heap.push (newS w)).objs.size, l] := by
          rw [Heap.size_push]
          intro z
          rcases List.mem_cons.mp z with z | z
          · exact absurd z (Nat.ne_of_lt (Nat.lt_succ_self _))
          · rw [List.mem_singleton.mp z] at lS
            exact absurd lS (Nat.lt_irrefl _)
        have hv : ∀ (i : Nat) (v : Value), items[i]? = some v → ∃ k, v = .str (ss.getD i ⟨#[]⟩) k := fun i v hv => by
          have e : items.toList[i]? = some v := by rw [Array.getElem?_toList]; exact hv
          obtain ⟨x, k, rfl⟩ := PyProof.Rows.StrsAre.all hi v (List.mem_of_getElem? e)
          have := PyProof.Rows.StrsAre.strs hi
          have e2 : ss[i]? = some x := by rw [← this, List.getElem?_map, e]; rfl
          exact ⟨k, by rw [List.getD_eq_getElem?_getD, e2]; rfl⟩
        have er : (List.range items.size).map (fun i => ss.getD i ⟨#[]⟩) = ss := by
          rw [zs]
          refine List.ext_getElem? fun i => ?_
          rw [List.getElem?_map]
          by_cases z : i < ss.length
          · rw [List.getElem?_range z, List.getElem?_eq_getElem z]
            simp [List.getD_eq_getElem?_getD, List.getElem?_eq_getElem z]
          · rw [List.getElem?_eq_none (by rw [List.length_range]; omega), List.getElem?_eq_none (by omega)]; rfl
        refine ts_loop ((Walks.tuple hh3 _ l nI items).toS) s.heap.objs.size nS (fun i => ss.getD i ⟨#[]⟩) hv (by rw [er]; exact nd) (by omega) (items.size - 0) 0 _ (by omega) (Nat.zero_le _) ⟨⟨_, Heap.get?_push_size _ rfl, rfl, rfl⟩, ?h0⟩ ?hS0 ?hR
        case h0 =>
          obtain ⟨o, e, z⟩ := hl1
          exact ⟨o, Heap.get?_push_of_some _ e, z⟩
        case hS0 => exact ⟨newS w, _, _, _, Heap.get?_push_of_some _ hS, newS_ok⟩
        case hR =>
          intro s' m hX
          rw [er] at hX
          obtain ⟨h', g', d', tk', os'⟩ := s'
          have eg : g' = s.gens := m.gens
          have ed : d' = s.drawn := m.drawn
          have eo : os' = s.os := m.os
          subst eg; subst ed; subst eo
          refine wpAny_pure ?_
          show wpAny _ _ (ret Value.none) _ _ _
          refine wpAny_pure ⟨rfl, h', tk', rfl, hX, fun b o e => ?_⟩
          have hb := Heap.lt_size e
          refine m.heap b o (fun z => ?_) (Heap.get?_push_of_some _ (Heap.get?_push_of_some _ e))
          rcases List.mem_cons.mp z with z | z
          · exact absurd z (Nat.ne_of_lt hb)
          · have z2 := List.mem_singleton.mp z
            rw [Heap.size_push] at z2
            exact absurd z2 (Nat.ne_of_lt (Nat.lt_succ_of_lt hb))
      · cases r₂ with
        | error e => exact hr₂
        | ok fl₂ =>
          cases fl₂ with
          | ret r =>
            obtain ⟨rfl, h', tk, rfl, hX, hk⟩ := hr₂
            repeat (any_goals (first | assumption | wp_step))
            exact h _ _ hX hk
          | _ => exact hr₂.elim
    | _ => exact hr.elim
end
end L2

set_option Elab.async false
set_option linter.all false
set_option maxRecDepth 100000
set_option maxHeartbeats 4000000
namespace L2
open PySem PySem.Spec
theorem si_next : Slot "set_iterator" "__next__" "set_iterator.__next__" := by
  refine Slot.of (owner := "set_iterator") (n := "__next__") ?_ (by decide +kernel) (by decide +kernel) (by decide +kernel) (.inl (by decide +kernel)) ?_
  · rw [typeLookup_type, builtinLookup_eq_fast]
    kernel_rfl
  · rw [isSubtype_type]
    kernel_rfl
theorem si_entry : entryFor table "set_iterator.__next__" = some Builtin.«set_iterator.__next__» := entryFor_of_tree (by kernel_rfl)
theorem si_args (a : Value) : argsOk "set_iterator.__next__" ⟨[a], []⟩ := by
  unfold argsOk
  rw [signature?_of (rows := Manifest.sig_set_iterator) (id := "set_iterator.__next__") (n := ['_', '_', 't', 'x', 'e', 'n', '_', '_']) (o := ['r', 'o', 't', 'a', 'r', 'e', 't', 'i', '_', 't', 'e', 's']) (by kernel_rfl) (by kernel_rfl)]
  kernel_rfl
theorem set_ientry : entryFor table "set.__iter__" = some Builtin.«frozenset.__iter__» :=
  entryFor_alias (id' := "frozenset.__iter__") (by kernel_rfl) (by first | rfl | decide +kernel | (unfold String.splitOn; simp +decide [String.splitOnAux])) (by decide +kernel) (by kernel_rfl)
theorem erase_perm {α : Type} : ∀ (l : List α) (i : Nat) (h : i < l.length), (l[i] :: l.eraseIdx i).Perm l
  | a :: l, 0, _ => List.Perm.refl _
  | a :: l, i + 1, h => (List.Perm.swap ..).trans ((erase_perm l i (Nat.lt_of_succ_lt_succ h)).cons a)
def SetIt (h : Heap) (I : Addr) (f : Value) (i : Nat) (S : Addr) (n ep : Nat) : Prop := ∃ o, h.get? I = some o ∧ o.cls = .type "set_iterator" ∧ o.data = .fields #[f, .int i 0, .ref S, .int n 0, .int ep 0]
theorem SetIt.at {h h' : Heap} {I : Addr} {f : Value} {i : Nat} {S : Addr} {n ep : Nat} (x : SetIt h I f i S n ep) (k : ∀ o, h.get? I = some o → h'.get? I = some o) : SetIt h' I f i S n ep :=
  let ⟨o, e, z⟩ := x; ⟨o, k o e, z⟩
section
variable {prog : Program} {w : World} {A : Around} {E : Value → Shared → Prop} {s : Shared}
theorem wp_drawn {src : Source} {n : Nat} {Q : Nat → Shared → Prop} (hn : n ≠ 0) (h : ∀ i, i < n → Q i { s with drawn := s.drawn.bump src }) : wpAny (model prog w) A (choose src n) Q E s := fun Γ p hΓ => by
  unfold choose
  rw [Sem.wp_choose]
  exact ⟨hn, h _ (Nat.mod_lt _ (Nat.pos_of_ne_zero hn))⟩
theorem draw_ok {α : Type} : ∀ (n : Nat) (xs : List α) (s : Shared) {Q : List α → Shared → Prop}, n = xs.length → (∀ ys d, ys.Perm xs → Q ys { s with drawn := d }) → wpAny (model prog w) A (drawOrder n xs) Q E s
  | 0, xs, s, Q, hn, h => by
    have : xs = [] := List.length_eq_zero_iff.mp hn.symm
    subst this
    unfold drawOrder
    exact wpAny_pure (h [] s.drawn (List.Perm.refl _))
  | n + 1, [], s, Q, hn, h => by cases hn
  | n + 1, x :: xs, s, Q, hn, h => by
    unfold drawOrder
    refine wpAny_bind (wp_drawn (by simp) fun i hi => ?_)
    rw [List.getElem?_eq_getElem hi]
    dsimp only
    refine wpAny_bind (draw_ok n ((x :: xs).eraseIdx i) _ (by rw [List.length_eraseIdx, if_pos hi]; omega) fun ys d hp => ?_)
    exact wpAny_pure (h _ d ((List.Perm.cons _ hp).trans (erase_perm _ _ hi)))
theorem pick_go {α : Type} (next : Nat → Nat) : ∀ (fuel k : Nat) (left : List α) (out : Array α), fuel = left.length → ((pickOrder.go next fuel k left out).toList).Perm (out.toList ++ left)
  | 0, k, left, out, hf => by
    have : left = [] := List.length_eq_zero_iff.mp hf.symm
    subst this
    unfold pickOrder.go
    rw [List.append_nil]
  | fuel + 1, k, left, out, hf => by
    have hi : next k % left.length < left.length := Nat.mod_lt _ (by omega)
    unfold pickOrder.go
    rw [List.getElem?_eq_getElem hi]
    dsimp only
    refine (pick_go next fuel (k + 1) _ _ (by rw [List.length_eraseIdx, if_pos hi]; omega)).trans ?_
    rw [Array.toList_push, List.append_assoc]
    exact List.Perm.append_left _ (erase_perm _ _ hi)
theorem pick_perm {α : Type} (next : Nat → Nat) (xs : Array α) : ((pickOrder next xs).toList).Perm xs.toList := by
  unfold pickOrder
  have := pick_go next xs.size 0 xs.toList #[] Array.length_toList.symm
  simpa using this
theorem wp_byT {Q : Bool → Shared → Prop} (h : Q (byT w) s) : wpAny (model prog w) A setsByText Q E s := by
  unfold setsByText
  exact wpAny_bind (wpAny_askSetting (wpAny_pure h))
theorem si_step {h : Heap} {I : Addr} {f f' : Value} {i j : Nat} {S : Addr} {n ep : Nat} (x : SetIt h I f i S n ep) : SetIt (h.update I (Obj.mapFields (·.setIfInBounds 1 (.int j 0)))) I f j S n ep := by
  obtain ⟨o, ho, hc, hd⟩ := x
  exact ⟨_, Heap.get?_update_self _ ho (Obj.isFreed_of_fields (Obj.data_mapFields hd _)), (Obj.cls_mapFields ..).trans hc, by rw [Obj.data_mapFields hd]; simp⟩
theorem si_first {h : Heap} {I : Addr} {f f' : Value} {i : Nat} {S : Addr} {n ep : Nat} (x : SetIt h I f i S n ep) : SetIt (h.update I (Obj.mapFields (·.setIfInBounds 0 f'))) I f' i S n ep := by
  obtain ⟨o, ho, hc, hd⟩ := x
  exact ⟨_, Heap.get?_update_self _ ho (Obj.isFreed_of_fields (Obj.data_mapFields hd _)), (Obj.cls_mapFields ..).trans hc, by rw [Obj.data_mapFields hd]; simp⟩
theorem si_item {I S : Addr} {k i ep nx : Nat} {x : Value} {o : Obj} {es : Array (Int × Value)} {t : SetTable} {ss : List Str} {Q : Option Value → Shared → Prop} (hit : SetIt s.heap I (.int k 0) i S es.size ep) (ho : s.heap.get? S = some o) (T : TxS w o es ep t ss)
    (nxt : ∀ (A : Around) (E : Value → Shared → Prop) (s : Shared) (Q : Option (Value × Nat) → Shared → Prop), s.heap.get? S = some o → Q (some (x, nx)) s → wpAny (model prog w) A (setNext S k i ep) Q E s)
    (hQ : ∀ h', SetIt h' I (.int nx 0) (i + 1) S es.size ep → Heap.SameBut I s.heap h' → Q (some x) { s with heap := h' }) : wpAny (model prog w) A (pyNext (.ref I)) Q E s := by
  obtain ⟨oi, hi, hc, hd⟩ := id hit
  unfold pyNext
  refine wpAny_bind (wpAny_attempt (wpAny_callSpecial?_slot (name := Str.ofString "__next__") ⟨oi, hi, hc⟩ si_next (wpAny_call_entry si_next ⟨oi, hi, hc⟩ si_entry ?_ (si_args _))))
  show wpAny _ _ (fieldsOf (.ref I) >>= _) _ _ s
  refine wpAny_bind (wpAny_fieldsOf hi hd ?_)
  show wpAny _ _ (setEntries S >>= _) _ _ s
  refine wpAny_bind (wpAny_setEntries_of ho T.dat T.fit ?_)
  rw [if_neg (by simp)]
  show wpAny _ _ (setNext S (k : Int).toNat (i : Int).toNat (ep : Int).toNat >>= _) _ _ s
  rw [Int.toNat_natCast, Int.toNat_natCast, Int.toNat_natCast]
  refine wpAny_bind (nxt _ _ _ _ ho ?_)
  dsimp only
  refine wpAny_bind (wpAny_setField hi hd (by simp) ?_)
  have x1 := si_first (f' := rawInt nx) hit
  obtain ⟨o1, h1, c1, d1⟩ := id x1
  refine wpAny_bind (wpAny_setField h1 d1 (by simp) ?_)
  have x2 := si_step (f' := .none) (j := i + 1) x1
  refine wpAny_pure ⟨x, rfl, wpAny_pure (hQ _ x2 ((Heap.SameBut.update ..).trans (Heap.SameBut.update ..)))⟩
theorem si_end {I S : Addr} {k i ep : Nat} {o : Obj} {es : Array (Int × Value)} {t : SetTable} {ss : List Str} {Q : Option Value → Shared → Prop} (hh : A.handled = none) (hit : SetIt s.heap I (.int k 0) i S es.size ep) (ho : s.heap.get? S = some o) (T : TxS w o es ep t ss)
    (nxt : ∀ (A : Around) (E : Value → Shared → Prop) (s : Shared) (Q : Option (Value × Nat) → Shared → Prop), s.heap.get? S = some o → Q none s → wpAny (model prog w) A (setNext S k i ep) Q E s)
    (hQ : ∀ h', Heap.ExtBut I s.heap h' → Q none { s with heap := h' }) : wpAny (model prog w) A (pyNext (.ref I)) Q E s := by
  obtain ⟨oi, hi, hc, hd⟩ := id hit
  unfold pyNext
  refine wpAny_bind (wpAny_attempt (wpAny_callSpecial?_slot (name := Str.ofString "__next__") ⟨oi, hi, hc⟩ si_next (wpAny_call_entry si_next ⟨oi, hi, hc⟩ si_entry ?_ (si_args _))))
  show wpAny _ _ (fieldsOf (.ref I) >>= _) _ _ s
  refine wpAny_bind (wpAny_fieldsOf hi hd ?_)
  show wpAny _ _ (setEntries S >>= _) _ _ s
  refine wpAny_bind (wpAny_setEntries_of ho T.dat T.fit ?_)
  rw [if_neg (by simp)]
  show wpAny _ _ (setNext S (k : Int).toNat (i : Int).toNat (ep : Int).toNat >>= _) _ _ s
  rw [Int.toNat_natCast, Int.toNat_natCast, Int.toNat_natCast]
  refine wpAny_bind (nxt _ _ _ _ ho ?_)
  dsimp only
  refine wpAny_bind (wpAny_setField hi hd (by simp) ?_)
  show wpAny _ _ (newExc (.type "StopIteration") [] >>= _) _ _ _
  refine wpAny_bind ?_
  simp only [newExc, newTuple]
  refine wpAny_bind (wpAny_newObj_type ?_ (by size_fits))
  refine wpAny_bind (m := firstArgMember _ _) (wpAny_of_eq (a := Value.none) (by first | rfl | (simp only [firstArgMember]; rfl)) ?_)
  refine wpAny_newObj_type ?_ (by size_fits)
  simp only [raiseNew]
  refine wpAny_bind (wpAny_handled ?_)
  first | rw [show A.in1.handled = none from hh] | rw [hh]
  refine wpAny_bind (wpAny_pure (wpAny_throw ?_))
  refine wpAny_bind (wpAny_isInstance (T := "StopIteration") (b := true) ⟨_, Heap.get?_push_size _ rfl, rfl⟩ isSubtype_stop ?_)
  exact wpAny_pure (hQ _ (((Heap.SameBut.update ..).extBut.push _).push _))
end
end L2

set_option Elab.async false
set_option linter.all false
set_option maxRecDepth 100000
set_option maxHeartbeats 4000000
namespace L2
open PySem PySem.Spec
theorem si_iter : Slot "set_iterator" "__iter__" "set_iterator.__iter__" := by
  refine Slot.of (owner := "set_iterator") (n := "__iter__") ?_ (by decide +kernel) (by decide +kernel) (by decide +kernel) (.inl (by decide +kernel)) ?_
  · rw [typeLookup_type, builtinLookup_eq_fast]
    kernel_rfl
  · rw [isSubtype_type]
    kernel_rfl
theorem si_ientry : entryFor table "set_iterator.__iter__" = some Builtin.«dict_keyiterator.__iter__» :=
  entryFor_alias (id' := "dict_keyiterator.__iter__") (by kernel_rfl) (by first | rfl | decide +kernel | (unfold String.splitOn; simp +decide [String.splitOnAux])) (by decide +kernel) (by kernel_rfl)
theorem si_iargs (a : Value) : argsOk "set_iterator.__iter__" ⟨[a], []⟩ := by
  unfold argsOk
  rw [signature?_of (rows := Manifest.sig_set_iterator) (id := "set_iterator.__iter__") (n := ['_', '_', 'r', 'e', 't', 'i', '_', '_']) (o := ['r', 'o', 't', 'a', 'r', 'e', 't', 'i', '_', 't', 'e', 's']) (by kernel_rfl) (by kernel_rfl)]
  kernel_rfl
section
variable {prog : Program} {w : World} {A : Around} {E : Value → Shared → Prop} {s : Shared}
theorem si_self {I S : Addr} {f : Value} {i n ep : Nat} {Q : Value → Shared → Prop} (hit : SetIt s.heap I f i S n ep) (h : Q (.ref I) s) : wpAny (model prog w) A (pyIter (.ref I)) Q E s := by
  obtain ⟨o, ho, hc, hd⟩ := hit
  refine wpAny_pyIter_slot ⟨o, ho, hc⟩ si_iter (wpAny_call_entry si_iter ⟨o, ho, hc⟩ si_ientry ?_ (si_iargs _))
  show wpAny _ _ (ret (.ref I)) _ _ s
  exact wpAny_pure ⟨_, rfl, "set_iterator", _, ⟨o, ho, hc⟩, si_next.lookup, h⟩
theorem nx_text {S : Addr} {k i ep : Nat} {o : Obj} {es : Array (Int × Value)} {t : SetTable} {ss : List Str} (hb : byT w = true) (T : TxS w o es ep t ss) {Q : Option (Value × Nat) → Shared → Prop} (ho : s.heap.get? S = some o)
    (h : Q (((pickOrder (w.params.setOrder S ep) es)[i]?).map fun e => (e.2, k)) s) : wpAny (model prog w) A (setNext S k i ep) Q E s := by
  unfold setNext
  refine wpAny_bind (wpAny_setState_of ho T.dat T.fit ?_)
  dsimp only
  refine wpAny_bind (wp_byT ?_)
  rw [hb]
  simp only [↓reduceIte, bne_self_eq_false, Bool.false_eq_true]
  refine wpAny_bind ?_
  unfold setWalk
  refine wpAny_bind (wpAny_setState_of ho T.dat T.fit ?_)
  dsimp only
  refine wpAny_bind (wp_byT ?_)
  rw [hb]
  simp only [↓reduceIte]
  exact wpAny_bind (wpAny_askSetting (wpAny_pure (wpAny_pure h)))
def slC (t : SetTable) (i : Nat) : Nat := if i = 0 then 0 else t.place.getD 0 0 + 1
theorem nx_few {S : Addr} {i ep : Nat} {o : Obj} {es : Array (Int × Value)} {t : SetTable} {ss : List Str} (hb : byT w = false) (h1 : es.size ≤ 1) (hi : i ≤ es.size) (T : TxS w o es ep t ss) {Q : Option (Value × Nat) → Shared → Prop} (ho : s.heap.get? S = some o)
    (h : Q ((es[i]?).map fun e => (e.2, slC t (i + 1))) s) : wpAny (model prog w) A (setNext S (slC t i) i ep) Q E s := by
  have hl : t.led = true := by rw [T.led, hb]; rfl
  have pz : t.place.size = es.size := by
    have := T.fit
    simp only [SetTable.fits, Bool.and_eq_true, beq_iff_eq] at this
    exact this.1
  have core : (match es[SetTable.below t.place (slC t i)]?, t.place[SetTable.below t.place (slC t i)]? with | some (_, x), some j => some (x, j + 1) | _, _ => none) = (es[i]?).map fun e => (e.2, slC t (i + 1)) := by
    obtain ⟨es⟩ := es
    obtain ⟨m, pl, du, fi, le, mo, pn⟩ := t
    obtain ⟨pl⟩ := pl
    match es, pl, h1, pz with
    | [], [], _, _ =>
      simp
    | [e], [p], _, _ =>
      have h2 : i = 0 ∨ i = 1 := by simp at hi; omega
      rcases h2 with rfl | rfl
      · simp [slC, SetTable.below, SetTable.below.go]
      · simp [slC, SetTable.below, SetTable.below.go]
  unfold setNext
  refine wpAny_bind (wpAny_setState_of ho T.dat T.fit ?_)
  dsimp only
  refine wpAny_bind (wp_byT ?_)
  rw [hb]
  have nd : ¬ ((!t.plain && decide (es.size > 1)) = true) := by
    rw [decide_eq_false (by omega), Bool.and_false]; decide
  show wpAny _ _ (if (!t.plain && decide (es.size > 1)) = true then _ else _) _ _ _
  rw [if_neg nd]
  show wpAny _ _ ((if (!t.led && !es.isEmpty) = true then unsupported "set:maker-not-led" else pure ()) >>= _) _ _ _
  rw [if_neg (by rw [hl]; simp)]
  refine wpAny_bind (wpAny_pure (wpAny_pure ?_))
  rw [← core] at h
  exact h
end
end L2

set_option Elab.async false
set_option linter.all false
set_option maxRecDepth 100000
set_option maxHeartbeats 4000000
namespace L2
open PySem PySem.Spec
section
variable {prog : Program} {w : World} {A : Around} {E : Value → Shared → Prop} {s : Shared}
theorem sd_item {I S TT : Addr} {i ep p : Nat} {x : Value} {ps : Array Value} {o : Obj} {es : Array (Int × Value)} {t : SetTable} {ss : List Str} {Q : Option Value → Shared → Prop} (hit : SetIt s.heap I (.ref TT) i S es.size ep) (ho : s.heap.get? S = some o) (T : TxS w o es ep t ss) (ht : s.heap.IsTuple TT ps) (hp : ps[i]? = some (.int p 0)) (hx : (es[p]?).map (·.2) = some x)
    (hQ : ∀ h', SetIt h' I (.ref TT) (i + 1) S es.size ep → Heap.SameBut I s.heap h' → Q (some x) { s with heap := h' }) : wpAny (model prog w) A (pyNext (.ref I)) Q E s := by
  obtain ⟨oi, hi, hc, hd⟩ := id hit
  obtain ⟨ot, hot, _, nt, hdt⟩ := ht
  obtain ⟨⟨hs, x'⟩, e1, e2⟩ := Option.map_eq_some_iff.mp hx
  cases e2
  unfold pyNext
  refine wpAny_bind (wpAny_attempt (wpAny_callSpecial?_slot (name := Str.ofString "__next__") ⟨oi, hi, hc⟩ si_next (wpAny_call_entry si_next ⟨oi, hi, hc⟩ si_entry ?_ (si_args _))))
  show wpAny _ _ (fieldsOf (.ref I) >>= _) _ _ s
  refine wpAny_bind (wpAny_fieldsOf hi hd ?_)
  show wpAny _ _ (setEntries S >>= _) _ _ s
  refine wpAny_bind (wpAny_setEntries_of ho T.dat T.fit ?_)
  rw [if_neg (by simp)]
  show wpAny _ _ (seqItems? (.ref TT) >>= _) _ _ s
  refine wpAny_bind (wpAny_seqItems hot hdt ?_)
  dsimp only
  rw [Int.toNat_natCast, hp]
  dsimp only
  refine wpAny_bind ?_
  unfold setNextDrawn
  refine wpAny_bind (wpAny_setState_of ho T.dat T.fit ?_)
  dsimp only
  rw [Int.toNat_natCast, Int.toNat_natCast, e1]
  simp only [bne_self_eq_false, Bool.false_eq_true, ↓reduceIte]
  refine wpAny_pure ?_
  refine wpAny_bind (wpAny_setField hi hd (by simp) ?_)
  exact wpAny_pure ⟨x', rfl, wpAny_pure (hQ _ (si_step (f' := .none) (j := i + 1) hit) (Heap.SameBut.update ..))⟩
theorem sd_end {I S TT : Addr} {i ep : Nat} {ps : Array Value} {o : Obj} {es : Array (Int × Value)} {t : SetTable} {ss : List Str} {Q : Option Value → Shared → Prop} (hh : A.handled = none) (hit : SetIt s.heap I (.ref TT) i S es.size ep) (ho : s.heap.get? S = some o) (T : TxS w o es ep t ss) (ht : s.heap.IsTuple TT ps) (hp : ps[i]? = none)
    (hQ : ∀ h', Heap.ExtBut I s.heap h' → Q none { s with heap := h' }) : wpAny (model prog w) A (pyNext (.ref I)) Q E s := by
  obtain ⟨oi, hi, hc, hd⟩ := id hit
  obtain ⟨ot, hot, _, nt, hdt⟩ := ht
  unfold pyNext
  refine wpAny_bind (wpAny_attempt (wpAny_callSpecial?_slot (name := Str.ofString "__next__") ⟨oi, hi, hc⟩ si_next (wpAny_call_entry si_next ⟨oi, hi, hc⟩ si_entry ?_ (si_args _))))
  show wpAny _ _ (fieldsOf (.ref I) >>= _) _ _ s
  refine wpAny_bind (wpAny_fieldsOf hi hd ?_)
  show wpAny _ _ (setEntries S >>= _) _ _ s
  refine wpAny_bind (wpAny_setEntries_of ho T.dat T.fit ?_)
  rw [if_neg (by simp)]
  show wpAny _ _ (seqItems? (.ref TT) >>= _) _ _ s
  refine wpAny_bind (wpAny_seqItems hot hdt ?_)
  dsimp only
  rw [Int.toNat_natCast, hp]
  dsimp only
  refine wpAny_bind (wpAny_setField hi hd (by simp) ?_)
  obtain ⟨o1, h1, c1, d1⟩ := si_first (f' := rawInt 0) hit
  refine wpAny_bind (wpAny_setField h1 d1 (by simp) ?_)
  show wpAny _ _ (newExc (.type "StopIteration") [] >>= _) _ _ _
  refine wpAny_bind ?_
  simp only [newExc, newTuple]
  refine wpAny_bind (wpAny_newObj_type ?_ (by size_fits))
  refine wpAny_bind (m := firstArgMember _ _) (wpAny_of_eq (a := Value.none) (by first | rfl | (simp only [firstArgMember]; rfl)) ?_)
  refine wpAny_newObj_type ?_ (by size_fits)
  simp only [raiseNew]
  refine wpAny_bind (wpAny_handled ?_)
  first | rw [show A.in1.handled = none from hh] | rw [hh]
  refine wpAny_bind (wpAny_pure (wpAny_throw ?_))
  refine wpAny_bind (wpAny_isInstance (T := "StopIteration") (b := true) ⟨_, Heap.get?_push_size _ rfl, rfl⟩ isSubtype_stop ?_)
  exact wpAny_pure (hQ _ ((((Heap.SameBut.update ..).trans (Heap.SameBut.update ..)).extBut.push _).push _))
end
section
variable {prog : Program} {w : World}
theorem walkA {I S : Addr} {ep : Nat} {o : Obj} {es : Array (Int × Value)} {t : SetTable} {ss : List Str} (hb : byT w = true) (T : TxS w o es ep t ss) (ne : S ≠ I) (A : Around) (hh : A.handled = none) :
    Walks prog w A I [I, S] [I] es.size (fun i v => ((pickOrder (w.params.setOrder S ep) es).toList.map (·.2))[i]? = some v) (fun i h => SetIt h I (.int (0 : Nat) 0) i S es.size ep ∧ h.get? S = some o) where
  sub := fun b hb => by simp at hb; simp [hb]
  frame := fun _ _ _ st hk => ⟨st.1.at fun o e => hk I (by simp) o e, hk S (by simp) _ st.2⟩
  item := fun i s Q E hi st hQ => by
    have sz : (pickOrder (w.params.setOrder S ep) es).size = es.size := by
      have := (pick_perm (w.params.setOrder S ep) es).length_eq
      rwa [Array.length_toList, Array.length_toList] at this
    have hi' : i < (pickOrder (w.params.setOrder S ep) es).size := by omega
    refine si_item st.1 st.2 T (nx := 0) (x := ((pickOrder (w.params.setOrder S ep) es)[i]).2) (fun A E s Q ho q => nx_text hb T ho (by rw [Array.getElem?_eq_getElem hi']; exact q)) fun h' hit' sb => ?_
    refine hQ _ h' s.toks (by rw [List.getElem?_map, Array.getElem?_toList, Array.getElem?_eq_getElem hi']; rfl) ⟨hit', (sb.2 S ne).trans st.2⟩ fun b o hb e => sb.extBut b o (fun h => hb (by simp [h])) e
  done := fun s Q E st hQ => by
    have sz : (pickOrder (w.params.setOrder S ep) es).size = es.size := by
      have := (pick_perm (w.params.setOrder S ep) es).length_eq
      rwa [Array.length_toList, Array.length_toList] at this
    refine si_end hh st.1 st.2 T (fun A E s Q ho q => nx_text hb T ho (by rw [Array.getElem?_eq_none (by omega)]; exact q)) fun h' he => hQ h' s.toks fun b o hb e => he b o (fun h => hb (by simp [h])) e
  self := fun _ _ _ _ st hQ => si_self st.1 hQ
theorem walkC {I S : Addr} {ep : Nat} {o : Obj} {es : Array (Int × Value)} {t : SetTable} {ss : List Str} (hb : byT w = false) (h1 : es.size ≤ 1) (T : TxS w o es ep t ss) (ne : S ≠ I) (A : Around) (hh : A.handled = none) :
    Walks prog w A I [I, S] [I] es.size (fun i v => (es.toList.map (·.2))[i]? = some v) (fun i h => SetIt h I (.int (slC t i) 0) i S es.size ep ∧ h.get? S = some o) where
  sub := fun b hb => by simp at hb; simp [hb]
  frame := fun _ _ _ st hk => ⟨st.1.at fun o e => hk I (by simp) o e, hk S (by simp) _ st.2⟩
  item := fun i s Q E hi st hQ => by
    refine si_item st.1 st.2 T (nx := slC t (i + 1)) (x := (es[i]).2) (fun A E s Q ho q => nx_few hb h1 (Nat.le_of_lt hi) T ho (by rw [Array.getElem?_eq_getElem hi]; exact q)) fun h' hit' sb => ?_
    refine hQ _ h' s.toks (by rw [List.getElem?_map, Array.getElem?_toList, Array.getElem?_eq_getElem hi]; rfl) ⟨hit', (sb.2 S ne).trans st.2⟩ fun b o hb e => sb.extBut b o (fun h => hb (by simp [h])) e
  done := fun s Q E st hQ => si_end hh st.1 st.2 T (fun A E s Q ho q => nx_few hb h1 (Nat.le_refl _) T ho (by rw [Array.getElem?_eq_none (Nat.le_refl _)]; exact q)) fun h' he => hQ h' s.toks fun b o hb e => he b o (fun h => hb (by simp [h])) e
  self := fun _ _ _ _ st hQ => si_self st.1 hQ
def atP (es : Array (Int × Value)) (p : Nat) : Value := ((es[p]?).map (·.2)).getD .none
theorem walkB {I S TT : Addr} {ep : Nat} {ys : List Nat} {o : Obj} {es : Array (Int × Value)} {t : SetTable} {ss : List Str} (hy : ys.Perm (List.range es.size)) (T : TxS w o es ep t ss) (ne : S ≠ I) (nt : TT ≠ I) (A : Around) (hh : A.handled = none) :
    Walks prog w A I [I, S, TT] [I] es.size (fun i v => (ys.map (atP es))[i]? = some v) (fun i h => SetIt h I (.ref TT) i S es.size ep ∧ h.get? S = some o ∧ h.IsTuple TT (ys.map fun (p : Nat) => rawInt p).toArray) where
  sub := fun b hb => by simp at hb; simp [hb]
  frame := fun _ _ _ st hk => ⟨st.1.at fun o e => hk I (by simp) o e, hk S (by simp) _ st.2.1, st.2.2.at fun o e => hk TT (by simp) o e⟩
  item := fun i s Q E hi st hQ => by
    have hl : ys.length = es.size := by have := hy.length_eq; rwa [List.length_range] at this
    have hi' : i < ys.length := by omega
    have hm : ys[i] < es.size := List.mem_range.mp (hy.mem_iff.mp (List.getElem_mem hi'))
    refine sd_item (p := ys[i]) (x := (es[ys[i]]).2) st.1 st.2.1 T st.2.2 (by simp [hi', rawInt]) (by rw [Array.getElem?_eq_getElem hm]; rfl) fun h' hit' sb => ?_
    refine hQ _ h' s.toks ?_ ⟨hit', (sb.2 S ne).trans st.2.1, st.2.2.at fun o e => (sb.2 TT nt).trans e⟩ fun b o hb e => sb.extBut b o (fun h => hb (by simp [h])) e
    rw [List.getElem?_map, List.getElem?_eq_getElem hi']
    unfold atP
    rw [Option.map_some, Array.getElem?_eq_getElem hm]
    rfl
  done := fun s Q E st hQ => by
    have hl : ys.length = es.size := by have := hy.length_eq; rwa [List.length_range] at this
    exact sd_end hh st.1 st.2.1 T st.2.2 (by simp [hl]) fun h' he => hQ h' s.toks fun b o hb e => he b o (fun h => hb (by simp [h])) e
  self := fun _ _ _ _ st hQ => si_self st.1 hQ
end
end L2

set_option Elab.async false
set_option linter.all false
set_option maxRecDepth 100000
set_option maxHeartbeats 4000000
namespace L2
open PySem PySem.Spec
theorem atP_range (es : Array (Int × Value)) : (List.range es.size).map (atP es) = es.toList.map (·.2) := by
  refine List.ext_getElem? fun i => ?_
  rw [List.getElem?_map, List.getElem?_map]
  by_cases z : i < es.size
  · rw [List.getElem?_range z, List.getElem?_eq_getElem (by rw [Array.length_toList]; exact z)]
    unfold atP
    rw [Option.map_some, Array.getElem?_eq_getElem z]
    rfl
  · rw [List.getElem?_eq_none (l := List.range es.size) (by rw [List.length_range]; omega), List.getElem?_eq_none (l := es.toList) (by rw [Array.length_toList]; omega)]; rfl
section
variable {prog : Program} {w : World} {A : Around} {E : Value → Shared → Prop} {s : Shared}
theorem ts_iter {S : Addr} {ep : Nat} {o : Obj} {es : Array (Int × Value)} {t : SetTable} {ss : List Str} {Q : Value → Shared → Prop} (ho : s.heap.get? S = some o) (T : TxS w o es ep t ss) (hl : ss.length < 90)
    (h : ∀ (I : Addr) (fp : List Addr) (L : List Value) (St : Nat → Heap → Prop) (h' : Heap) (d : Drawn), L.Perm (es.toList.map (·.2)) → (∀ A : Around, A.handled = none → Walks prog w A I fp [I] es.size (fun i v => L[i]? = some v) St) → St 0 h' → (∀ b o, s.heap.get? b = some o → h'.get? b = some o) → I ∈ fp → s.heap.objs.size ≤ I → (∀ b ∈ fp, b < h'.objs.size ∧ (b = S ∨ s.heap.objs.size ≤ b)) → Q (.ref I) { s with heap := h', drawn := d }) :
    wpAny (model prog w) A (pyIter (.ref S)) Q E s := by
  have hT : s.TypeIs (.ref S) "set" := ⟨o, ho, T.ex.1⟩
  have hlt := Heap.lt_size ho
  refine wpAny_pyIter_slot hT PySem.F.slot_set_iter (wpAny_call_entry PySem.F.slot_set_iter hT set_ientry ?_ (PySem.F.args_set_iter_1 _))
  have ex := T.len
  have pz : es.size = 0 ∨ t.plain = false := T.pln
  show wpAny _ _ (Builtin.Frozenset.sizeOf S >>= _) _ _ s
  refine wpAny_bind ?_
  unfold Builtin.Frozenset.sizeOf
  refine wpAny_bind (wpAny_setEntries_of ho T.dat T.fit (wpAny_pure ?_))
  refine wpAny_bind ?_
  refine wpAny_bind (wpAny_setState_of ho T.dat T.fit ?_)
  dsimp only
  refine wpAny_bind (wp_byT (wpAny_pure ?_))
  have nf : ∀ (f : Value) (h1 : Heap) (d : Drawn) (g : Heap → Prop), h1.get? S = some o → (SetIt (h1.push { cls := .type "set_iterator", data := .fields #[f, rawInt 0, .ref S, rawInt es.size, rawInt ep] }) h1.objs.size f 0 S es.size ep → (h1.push { cls := .type "set_iterator", data := .fields #[f, rawInt 0, .ref S, rawInt es.size, rawInt ep] }).get? S = some o → Q (.ref h1.objs.size) { s with heap := h1.push { cls := .type "set_iterator", data := .fields #[f, rawInt 0, .ref S, rawInt es.size, rawInt ep] }, drawn := d }) →
      wpAny (model prog w) A.in1 (do
        let e ← setEpoch S
        let v ← newFields "set_iterator" [f, rawInt 0, Value.ref S, rawInt es.size, rawInt e]
        ret v) (fun fin s' => ∃ v, fin = Fin.done (Flow.ret v) ∧ ∃ T' r, s'.TypeIs v T' ∧ typeLookup (Value.type T') (Str.ofString "__next__") = pure (some r) ∧ Q v s') E { s with heap := h1, drawn := d } := fun f h1 d g hS q => by
    refine wpAny_bind (wpAny_setEpoch_of (s := { s with heap := h1, drawn := d }) hS T.dat T.fit ?_)
    refine wpAny_bind (wpAny_newObj_type ?_)
    have e0 : (h1.push { cls := .type "set_iterator", data := .fields #[f, rawInt 0, .ref S, rawInt es.size, rawInt ep] }).get? h1.objs.size = some { cls := .type "set_iterator", data := .fields #[f, rawInt 0, .ref S, rawInt es.size, rawInt ep] } := Heap.get?_push_size _ rfl
    exact wpAny_pure ⟨_, rfl, "set_iterator", _, ⟨_, e0, rfl⟩, si_next.lookup, q ⟨_, e0, rfl, rfl⟩ (Heap.get?_push_of_some _ hS)⟩
  have es0 : s = { s with heap := s.heap, drawn := s.drawn } := by cases s; rfl
  by_cases hb : byT w = true
  · rw [hb]
    show wpAny _ _ (do
      let e ← setEpoch S
      let v ← newFields "set_iterator" [rawInt 0, rawInt 0, Value.ref S, rawInt es.size, rawInt e]
      ret v) _ _ s
    rw [es0]
    refine nf (rawInt 0) s.heap s.drawn (fun _ => True) ho fun it hS => ?_
    refine h s.heap.objs.size [s.heap.objs.size, S] _ _ _ s.drawn ((pick_perm (w.params.setOrder S ep) es).map (·.2)) (fun A hh => walkA hb T (Nat.ne_of_lt hlt) A hh) ⟨it, hS⟩ (fun b o e => Heap.get?_push_of_some _ e) (by simp) (Nat.le_refl _) ?_
    intro b hb'
    rw [Heap.size_push]
    rcases List.mem_cons.mp hb' with rfl | z
    · exact ⟨Nat.lt_succ_self _, .inr (Nat.le_refl _)⟩
    · rw [List.mem_singleton.mp z]
      exact ⟨Nat.lt_succ_of_lt hlt, .inl rfl⟩
  · have hb : byT w = false := by cases z : byT w with | false => rfl | true => exact absurd z hb
    rw [hb]
    by_cases h1 : es.size ≤ 1
    · have nd : ¬ ((!false && (!t.plain && decide (es.size > 1))) = true) := by
        rw [decide_eq_false (by omega), Bool.and_false]; decide
      show wpAny _ _ (if (!false && (!t.plain && decide (es.size > 1))) = true then _ else _) _ _ s
      rw [if_neg nd]
      show wpAny _ _ (do
        let e ← setEpoch S
        let v ← newFields "set_iterator" [rawInt 0, rawInt 0, Value.ref S, rawInt es.size, rawInt e]
        ret v) _ _ s
      rw [es0]
      refine nf (rawInt 0) s.heap s.drawn (fun _ => True) ho fun it hS => ?_
      refine h s.heap.objs.size [s.heap.objs.size, S] _ _ _ s.drawn (List.Perm.refl _) (fun A hh => walkC hb h1 T (Nat.ne_of_lt hlt) A hh) ⟨it, hS⟩ (fun b o e => Heap.get?_push_of_some _ e) (by simp) (Nat.le_refl _) ?_
      intro b hb'
      rw [Heap.size_push]
      rcases List.mem_cons.mp hb' with rfl | z
      · exact ⟨Nat.lt_succ_self _, .inr (Nat.le_refl _)⟩
      · rw [List.mem_singleton.mp z]
        exact ⟨Nat.lt_succ_of_lt hlt, .inl rfl⟩
    · have hp : t.plain = false := by rcases pz with z | z; omega; exact z
      have yd : (!false && (!t.plain && decide (es.size > 1))) = true := by
        rw [hp, decide_eq_true (by omega)]; rfl
      show wpAny _ _ (if (!false && (!t.plain && decide (es.size > 1))) = true then _ else _) _ _ s
      rw [if_pos yd]
      refine wpAny_bind (draw_ok es.size (List.range es.size) s List.length_range.symm fun ys d hy => ?_)
      have yl : ys.length = es.size := by have := hy.length_eq; rwa [List.length_range] at this
      refine wpAny_bind ?_
      unfold newTuple
      refine wpAny_newObj_type ?_ (by show (ys.map fun (i : Nat) => rawInt i).toArray.size ≤ sizeLine; rw [List.size_toArray, List.length_map, sizeLine_eq]; omega)
      show wpAny _ _ (do
        let e ← setEpoch S
        let v ← newFields "set_iterator" [.ref s.heap.objs.size, rawInt 0, Value.ref S, rawInt es.size, rawInt e]
        ret v) _ _ _
      refine nf (.ref s.heap.objs.size) (s.heap.push { cls := .type "tuple", data := .seq (ys.map fun (i : Nat) => rawInt i).toArray }) d (fun _ => True) (Heap.get?_push_of_some _ ho) fun it hS => ?_
      have s1 : (s.heap.push { cls := .type "tuple", data := .seq (ys.map fun (i : Nat) => rawInt i).toArray }).objs.size = s.heap.objs.size + 1 := Heap.size_push ..
      have l1 : S < s.heap.objs.size + 1 := Nat.lt_succ_of_lt hlt
      have l2 : s.heap.objs.size < s.heap.objs.size + 1 := Nat.lt_succ_self _
      refine h _ [(s.heap.push { cls := .type "tuple", data := .seq (ys.map fun (i : Nat) => rawInt i).toArray }).objs.size, S, s.heap.objs.size] (ys.map (atP es)) _ _ d ?_ (fun A hh => walkB (TT := s.heap.objs.size) hy T (by rw [s1]; exact Nat.ne_of_lt l1) (by rw [s1]; exact Nat.ne_of_lt l2) A hh) ⟨it, hS, ?_⟩ (fun b o e => Heap.get?_push_of_some _ (Heap.get?_push_of_some _ e)) (by simp) (by rw [s1]; exact Nat.le_succ _) ?_
      · rw [← atP_range]
        exact hy.map _
      · exact ⟨_, Heap.get?_push_of_some _ (Heap.get?_push_size _ rfl), rfl, _, rfl⟩
      · intro b hb'
        rw [Heap.size_push, s1]
        rcases List.mem_cons.mp hb' with rfl | z
        · exact ⟨by rw [s1]; exact Nat.lt_succ_self _, .inr (by rw [s1]; exact Nat.le_succ _)⟩
        rcases List.mem_cons.mp z with rfl | z
        · exact ⟨Nat.lt_succ_of_lt l1, .inl rfl⟩
        · rw [List.mem_singleton.mp z]
          exact ⟨Nat.lt_succ_of_lt l2, .inr (Nat.le_refl _)⟩
end
end L2

set_option Elab.async false
set_option linter.all false
set_option maxRecDepth 100000
set_option maxHeartbeats 4000000
namespace L2
open PySem PySem.Spec
section
variable {prog : Program} {w : World} {A : Around} {E : Value → Shared → Prop} {s : Shared}
theorem items_eq {L : List Value} {acc : Array Value} {n : Nat} (hn : L.length = n) (h : ItemsOf (fun i v => L[i]? = some v) acc n) : acc.toList = L := by
  obtain ⟨h1, h2⟩ := h
  refine List.ext_getElem? fun i => ?_
  by_cases z : i < acc.size
  · have := h2 i acc[i] (Array.getElem?_eq_getElem z)
    rw [this, Array.getElem?_toList, Array.getElem?_eq_getElem z]
  · rw [List.getElem?_eq_none (by rw [Array.length_toList]; omega), List.getElem?_eq_none (by omega)]
theorem ts_collect {S : Addr} {ep : Nat} {o : Obj} {es : Array (Int × Value)} {t : SetTable} {ss : List Str} {Q : List Value → Shared → Prop} (hh : A.handled = none) (ho : s.heap.get? S = some o) (T : TxS w o es ep t ss) (hl : ss.length < 90)
    (h : ∀ (L : List Value) (h' : Heap) (d : Drawn) (tk : Nat), L.Perm (es.toList.map (·.2)) → (∀ b o, s.heap.get? b = some o → h'.get? b = some o) → s.heap.objs.size < h'.objs.size → Q L { s with heap := h', drawn := d, toks := tk }) :
    wpAny (model prog w) A (collect (.ref S)) Q E s := by
  have hlt := Heap.lt_size ho
  have ne : s.heap.objs.size ≠ S := Nat.ne_of_gt hlt
  unfold collect
  refine wpAny_bind (wpAny_runValue (codeAny_builtin PySem.F.entry_proto_collect ?_))
  rw [Around.under_plainId PySem.F.plain_proto_collect _]
  show wpAny _ A.in1 (newList [] >>= fun l => again (.builtin "list.__iadd__" ⟨[l, .ref S], []⟩)) _ _ s
  refine wpAny_bind (wpAny_newObj_type ?_)
  refine wpAny_pure ⟨plainId_quiet PySem.F.plain_list_iadd _, codeAny_builtin PySem.F.entry_list_iadd ?_⟩
  rw [Around.under_plainId PySem.F.plain_list_iadd _]
  show wpAny _ A.in1 (Builtin.List.listExtendWith (.ref s.heap.objs.size) (.ref S) (.ref s.heap.objs.size)) _ _ _
  have h0 : (s.heap.push { cls := .type "list", data := .seq ([] : List Value).toArray }).get? s.heap.objs.size = some { cls := .type "list", data := .seq ([] : List Value).toArray } := Heap.get?_push_size _ rfl
  have hS0 : (s.heap.push { cls := .type "list", data := .seq ([] : List Value).toArray }).get? S = some o := Heap.get?_push_of_some _ ho
  have k0 : ∀ b o, s.heap.get? b = some o → (s.heap.push { cls := .type "list", data := .seq ([] : List Value).toArray }).get? b = some o := fun b o e => Heap.get?_push_of_some _ e
  have z0 : (s.heap.push { cls := .type "list", data := .seq ([] : List Value).toArray }).objs.size = s.heap.objs.size + 1 := Heap.size_push ..
  generalize s.heap.push { cls := .type "list", data := .seq ([] : List Value).toArray } = hp at h0 hS0 k0 z0 ⊢
  have hT0 : Shared.TypeIs { s with heap := hp } (.ref S) "set" := ⟨o, hS0, T.ex.1⟩
  unfold Builtin.List.listExtendWith
  refine wpAny_bind (wpAny_typeOf hT0 ?_)
  have q1 : Builtin.List.listSameRef (.ref s.heap.objs.size) (.ref S) = false := by simp [Builtin.List.listSameRef, ne]
  have q2 : (Value.type "set" == Value.type "list") = false := by decide
  have q3 : (Value.type "set" == Value.type "tuple") = false := by decide
  simp only [q1, q2, q3, Bool.or_false, Bool.false_eq_true, if_false]
  refine wpAny_bind (ts_iter (s := { s with heap := hp }) hS0 T hl fun I fp L St h' d hL W st hk hI lI hfp => ?_)
  refine wpAny_bind (wpAny_holding ?_)
  have hT1 : Shared.TypeIs { s with heap := h', drawn := d } (.ref S) "set" := ⟨o, hk _ _ hS0, T.ex.1⟩
  unfold Builtin.List.listLengthHint
  refine wpAny_bind (wpAny_specialOf hT1 PySem.F.slot_set_len.lookup ?_)
  generalize hid : ("set.__len__" : String) = id0
  (fail_if_success (clear hid id0))
  wp_delta
  rw [show splitId id0 = some ("set", "__len__") from by subst hid; decide +kernel]
  subst hid
  refine wpAny_bind (wpAny_isInstance (b := true) hT1 (by rw [isSubtype_type]; kernel_rfl) ?_)
  rw [if_neg (by decide)]
  dsimp only
  rw [if_pos (by decide +kernel)]
  refine wpAny_bind (wpAny_typeOf hT1 ?_)
  refine wpAny_pure ?_
  rw [if_pos (by decide +kernel)]
  refine wpAny_bind (wpAny_rule ?_)
  refine wpAny_bind ?_
  show wpAny _ A.in1 (updateSeq s.heap.objs.size (·.push .none) >>= fun _ => updateSeq s.heap.objs.size (·.pop)) _ _ _
  have h1 : h'.get? s.heap.objs.size = some { cls := .type "list", data := .seq ([] : List Value).toArray } := hk _ _ h0
  refine wpAny_bind (wpAny_updateSeq (s := { s with heap := h', drawn := d }) h1 rfl ?_)
  have h2 := Heap.get?_update_self (Obj.mapSeq (·.push Value.none)) h1 rfl
  refine wpAny_updateSeq h2 rfl ?_
  have h3 := Heap.get?_update_self (Obj.mapSeq (·.pop)) h2 rfl
  have oth : ∀ b o, b ≠ s.heap.objs.size → h'.get? b = some o → ((h'.update s.heap.objs.size (Obj.mapSeq (·.push Value.none))).update s.heap.objs.size (Obj.mapSeq (·.pop))).get? b = some o :=
    fun b o hb e => (Heap.get?_update_other _ _ (Ne.symm hb)).trans ((Heap.get?_update_other _ _ (Ne.symm hb)).trans e)
  have nf : s.heap.objs.size ∉ fp := fun z => by
    rcases (hfp _ z).2 with e | e
    · exact ne e
    · have e : hp.objs.size ≤ s.heap.objs.size := e
      rw [z0] at e
      exact absurd e (Nat.not_succ_le_self _)
  have W1 := (W A.in1 (by simp [hh])).toS
  have ln : L.length = es.size := by rw [hL.length_eq, List.length_map, Array.length_toList]
  have el := T.len
  refine wpAny_pure ⟨plainId_quiet PySem.F.plain_extend_loop _, codeAny_extend_loopS (A := A) W1 (by rw [sizeLine_eq]; omega) _ nf _ es.size 0 _ _ _ rfl (Nat.zero_le _) ?hst h3 (ItemsOf.nil _) fun s' acc c m hS' ha => ?_⟩
  case hst => exact (W A.in1 (by simp [hh])).frame 0 _ _ st fun b hb o e => oth b o (fun z => nf (z ▸ hb)) e
  show wpAny _ A (load s.heap.objs.size >>= _) _ _ s'
  refine wpAny_bind (wpAny_load hS' ?_)
  obtain ⟨hq, gq, dq, tq, oq⟩ := s'
  have eg : gq = s.gens := m.gens
  have ed : dq = d := m.drawn
  have eo : oq = s.os := m.os
  subst eg; subst ed; subst eo
  refine wpAny_pure ?_
  have := items_eq ln ha
  show Q acc.toList _
  rw [this]
  refine h L hq dq tq hL (fun b o' e => ?_) (Heap.lt_size hS')
  have hb := Heap.lt_size e
  have nb : b ≠ s.heap.objs.size := Nat.ne_of_lt hb
  refine m.heap b o' (fun z => ?_) (oth b o' nb (hk _ _ (k0 _ _ e)))
  rcases List.mem_cons.mp z with z | z
  · exact nb z
  · have lI : hp.objs.size ≤ I := lI
    rw [z0] at lI
    rw [List.mem_singleton.mp z] at hb
    exact absurd (Nat.lt_of_lt_of_le hb (Nat.le_of_succ_le lI)) (Nat.lt_irrefl _)
end
end L2

set_option Elab.async false
set_option linter.all false
set_option maxRecDepth 100000
set_option maxHeartbeats 4000000
namespace L2
open PySem PySem.Spec
section
variable {prog : Program} {w : World} {A : Around} {E : Value → Shared → Prop} {s : Shared}
open PyProof.Rows in
theorem ts_sorted {S : Addr} {ep : Nat} {o : Obj} {es : Array (Int × Value)} {t : SetTable} {ss : List Str} {Q : Value → Shared → Prop} (hh : A.handled = none) (ho : s.heap.get? S = some o) (T : TxS w o es ep t ss) (hl : ss.length < 60)
    (h : ∀ (out : Array Value) (ss' : List Str) (a : Addr) (h' : Heap) (d : Drawn) (tk e : Nat), StrsAre out.toList ss' → ss'.Perm ss → sortedS ss' = true → s.heap.objs.size ≤ a → h'.get? a = some (seqObj "list" out e) → (∀ b o, s.heap.get? b = some o → h'.get? b = some o) → Q (.ref a) { s with heap := h', drawn := d, toks := tk }) :
    wpAny (model prog w) A (call (.builtin "sorted") [.ref S]) Q E s := by
  refine Calls.call_function_entry kind_sorted plain_sorted entry_sorted (args_sorted1 _) ?_
  unfold Builtin.«sorted»
  refine wpAny_bind (m := checkCount "sorted" 1 1 _) (wpAny_pure ?_)
  refine wpAny_bind (ts_collect (by simp [hh]) ho T (by omega) fun L h1 d tk hL k1 lz => ?_)
  have el := T.len
  have ll : L.length = ss.length := by rw [hL.length_eq, List.length_map, Array.length_toList]; exact el
  have lS : ∀ v ∈ L, ∃ x k, v = .str x k := fun v hv => by
    obtain ⟨e, he, rfl⟩ := List.mem_map.mp (hL.mem_iff.mp hv)
    exact T.str e he
  have hS := strsAre_map L lS
  have pS : (L.map strOf).Perm ss := by
    refine (hL.map strOf).trans ?_
    rw [List.map_map]
    exact T.all
  refine wpAny_bind (wpAny_newList ?_ (by rw [sizeLine_eq]; omega))
  have hoL : (h1.push (seqObj "list" L.toArray 0)).get? h1.objs.size = some (seqObj "list" L.toArray 0) := Heap.get?_push_size _ rfl
  refine wpAny_bind (wpAny_holding (wpAny_call_entry slot_list_sort ⟨_, hoL, rfl⟩ entry_list_sort (list_sort_treeK (s := { s with heap := h1.push (seqObj "list" L.toArray 0), drawn := d, toks := tk }) strKind_oneLt hoL hS.keysOf (fun v₁ v₂ rest e => keyKind_strs (by rw [← e]; exact hS)) (by omega) fun st' a1 a2 => ⟨_, rfl, ?_⟩) (args_list_sort _)))
  obtain ⟨ss', b1, b2, b3⟩ := sorted_out_str hS a1 a2
  obtain ⟨e, he⟩ := sortedHeap_at (out := (arrOf st').map (·.2)) hoL
  refine wpAny_pure ⟨_, rfl, h _ ss' _ _ d tk e b1 (b2.trans pS) b3 (Nat.le_of_lt lz) he fun b o' eb => ?_⟩
  have hb := k1 _ _ eb
  have lb := Heap.lt_size hb
  rw [sortedHeap_old (Nat.ne_of_lt lb) (by rw [size_push']; exact Nat.lt_succ_of_lt lb), Heap.get?_push_ne _ _ _ (Nat.ne_of_lt lb)]
  exact hb
end
section
variable {X : Cx}
theorem Inv.dr {pins : List (Addr × Obj)} {σ : List (Option V)} {H : Hp} {s : Shared} (I : Inv X pins σ H s) (d : Drawn) : Inv X pins σ H { s with drawn := d } :=
  ⟨I.ok, I.os, I.bare, I.base, I.loc, I.cell, I.free, I.freeC, I.pin, I.hok, I.len⟩
/-- a set of unlike texts, tracked by its object -/
def setO (w : World) (a : Addr) (ss : List Str) : HO := .ext fun h => SetX w h a ss
/-- set(t), t a tuple of unlike texts -/
theorem call_setT (hc : X.calm = true) : CallR X (.type "set") (fun xs H Q => ∃ p ss, xs = [.ref p] ∧ SqT X.K H p (ss.map V.str) ∧ ss.Nodup ∧ ss.length < 60 ∧ ∀ a o, o = setO X.w a ss → H a = none → Q (.ref a) (upd H a o)) := by
  intro pins s σ H xs us Q I r h
  obtain ⟨p, ss, rfl, hq, nd, hl, q⟩ := h
  obtain ⟨u, rfl, rx⟩ := vals1 r
  cases rx
  obtain ⟨its, r', pl, hz⟩ := I.tuple hq
  refine ts_call (I.ok.hd hc) pl (by exact strsAre_of r') nd (by omega) fun h' tk hX hk => ?_
  refine ⟨.ref s.heap.objs.size, _, I.laid (t' := tk) hk (Nat.le_refl _) (show ObjOk X.prog X.w _ h' _ (setO X.w _ ss) from ⟨hX, ?_, fun h1 h2 z k => z.at k⟩), rfl, q _ _ rfl (I.hok.fresh (Nat.le_refl _))⟩
  obtain ⟨o, _, _, _, e, _⟩ := hX
  exact ⟨o, e⟩
/-- sorted(s), s a set of texts -/
theorem call_sortSet (hc : X.calm = true) : CallR X (.builtin "sorted") (fun xs H Q => ∃ p ss, xs = [.ref p] ∧ H p = some (setO X.w p ss) ∧ ss.length < 60 ∧ ∀ (ss' : List Str) l, ss'.Perm ss → PyProof.Rows.sortedS ss' = true → H l = none → Q (.ref l) (upd H l (.lst (ss'.map V.str)))) := by
  intro pins s σ H xs us Q I r h
  obtain ⟨p, ss, rfl, hq, hl, q⟩ := h
  obtain ⟨u, rfl, rx⟩ := vals1 r
  cases rx
  obtain ⟨⟨o, es, ep, t, ho, T⟩, _, _⟩ := I.hok _ _ hq
  refine ts_sorted (I.ok.hd hc) ho T hl fun out ss' a h' d tk e b1 b2 b3 le he hk => ?_
  have lz : (ss'.map V.str).length ≤ sizeLine := by rw [List.length_map, b2.length_eq, sizeLine_eq]; omega
  exact ⟨.ref a, _, (I.laid (t' := tk) hk le (show ObjOk X.prog X.w _ h' _ (.lst (ss'.map V.str)) from ⟨lz, out.toList, e, vals_strs b1, he⟩)).dr d, rfl, q ss' _ b2 b3 (I.hok.fresh le)⟩
end
end L2

set_option Elab.async false
set_option linter.all false
set_option maxRecDepth 100000
set_option maxHeartbeats 4000000
namespace L2
open PySem PySem.Spec
section
variable {X : Cx}
/-- x = (texts)[b:] -/
theorem ps_strSl {i : Nat} {x : Str} {e b : Expr} {tb : TE} {p0 p1 p2 p3 : Pos} (l : List Str) (h : strsE e = some l) (hl : l.length ≤ 100000) (hN : X.N.Nodup) (hi : X.N[i]? = some x) (hx : Loc X.env.scope x) (hb : PE X b tb)
    (hf : X.fn x = true ∨ X.env.scope.names.lookup x = some .local := by first | exact .inl rfl | exact .inr rfl | assumption) : PS X (.Assign [.Name x p0] (.Subscript e (.Slice (some b) none none p3) p1) p2) (tAsg (tSl (rSlA X.K) (tStrs l) (tPart tb) tNoPart) (gName i)) :=
  ps_set hN hi hx (pe_slice sl_tupA (pe_strsE l h hl) (po_some hb) po_none) rfl hf
end
end L2

set_option Elab.async false
set_option linter.all false
set_option maxRecDepth 100000
set_option maxHeartbeats 4000000
namespace L2
open PySem PySem.Spec PyProof.Rows
/-! ### what the head hands over, in short -/
structure Tp (K : PySem.W.Frag) (x : Str) (st : Stmt) (f : Addr) (fd : FuncData) : Prop where
  a : PySem.W.nsIn K mainGlobals x = some (some (.ref f))
  fn : Fun K x x st f fd
structure Mp (K : PySem.W.Frag) (C : Addr) (x q : Str) (st : Stmt) (f : Addr) (fd : FuncData) : Prop where
  a : PySem.W.findIn K (.ref C) x = some (some (.ref f))
  i : PySem.W.isFn K (.ref f) = true
  fn : Fun K x q st f fd
structure Cp (K : PySem.W.Frag) (x : Str) (C : Addr) : Prop where
  a : PySem.W.nsIn K mainGlobals x = some (some (.ref C))
  pg : PySem.W.plainGet K C Str.empty = true
  hd : PySem.W.hasDictIn K C = true
  po : PySem.W.plainOver K C = true
  sa : PySem.W.findIn K (.ref C) "__setattr__" = some (some (.builtin "object.__setattr__"))
  mx : PySem.W.makesIn K C = true
  kc : PySem.W.keepIn K (.ref C) = true
section
variable {K : PySem.W.Frag} {x q : Str} {st : Stmt} {f C : Addr} {oc : Value} {od an : Option Addr} {osl : Array (Option Value)} {kV doc pm cdv ct : Value}
theorem tp (a : PySem.W.nsIn K mainGlobals x = some (some (.ref f))) (l : K.lookup f = some ⟨oc, od, .func (PySem.W.fnOf x x (defArgs st) (defBody st) (defScope st) .none kV doc pm an cdv ct), osl⟩) (c : PySem.W.codeIn K cdv x = true) (k : PySem.W.keepIn K (.ref f) = true) :
    Tp K x st f (PySem.W.fnOf x x (defArgs st) (defBody st) (defScope st) .none kV doc pm an cdv ct) := ⟨a, fun_mk l c k⟩
theorem mp (a : PySem.W.findIn K (.ref C) x = some (some (.ref f))) (i : PySem.W.isFn K (.ref f) = true) (l : K.lookup f = some ⟨oc, od, .func (PySem.W.fnOf x q (defArgs st) (defBody st) (defScope st) .none kV doc pm an cdv ct), osl⟩) (c : PySem.W.codeIn K cdv q = true) (k : PySem.W.keepIn K (.ref f) = true) :
    Mp K C x q st f (PySem.W.fnOf x q (defArgs st) (defBody st) (defScope st) .none kV doc pm an cdv ct) := ⟨a, i, fun_mk l c k⟩
end
section
variable {K : PySem.W.Frag} {mg : Str → Option Value} {x q : Str} {st : Stmt} {f : Addr} {fd : FuncData} {h : Heap}
theorem ln1 {us : List Value} (h : us.length = 1) : ∃ a, us = [a] := List.length_eq_one_iff.mp h
theorem ln2 {us : List Value} (h : us.length = 2) : ∃ a b, us = [a, b] := by
  cases us with
  | nil => cases h
  | cons a r => obtain ⟨_, rfl⟩ := ln1 (Nat.succ.inj h); exact ⟨_, _, rfl⟩
theorem ln3 {us : List Value} (h : us.length = 3) : ∃ a b c, us = [a, b, c] := by
  cases us with
  | nil => cases h
  | cons a r => obtain ⟨_, _, rfl⟩ := ln2 (Nat.succ.inj h); exact ⟨_, _, _, rfl⟩
theorem bn1 (a : Str) (F : Fun K x q st f fd) (e : ∀ (kV doc pm : Value) (an : Option Addr) (cdv ct u : Value), bindArgs (PySem.W.fnOf x q (defArgs st) (defBody st) (defScope st) .none kV doc pm an cdv ct) ⟨[u], []⟩ = pure ([a].zip [u]) := by intros; rfl) : Binds K fd [a] [] :=
  F.binds fun _ _ _ _ _ _ us hl => by
  obtain ⟨_, rfl⟩ := ln1 hl
  exact e ..
theorem bn2 (a b : Str) (F : Fun K x q st f fd) (e : ∀ (kV doc pm : Value) (an : Option Addr) (cdv ct u v : Value), bindArgs (PySem.W.fnOf x q (defArgs st) (defBody st) (defScope st) .none kV doc pm an cdv ct) ⟨[u, v], []⟩ = pure ([a, b].zip [u, v]) := by intros; rfl) : Binds K fd [a, b] [] :=
  F.binds fun _ _ _ _ _ _ us hl => by
  obtain ⟨_, _, rfl⟩ := ln2 hl
  exact e ..
theorem bn3 (a b c : Str) (F : Fun K x q st f fd) (e : ∀ (kV doc pm : Value) (an : Option Addr) (cdv ct u v w : Value), bindArgs (PySem.W.fnOf x q (defArgs st) (defBody st) (defScope st) .none kV doc pm an cdv ct) ⟨[u, v, w], []⟩ = pure ([a, b, c].zip [u, v, w]) := by intros; rfl) : Binds K fd [a, b, c] [] :=
  F.binds fun _ _ _ _ _ _ us hl => by
  obtain ⟨_, _, _, rfl⟩ := ln3 hl
  exact e ..
theorem df {ps : List Str} (X : K.In h) (G : h.Ns mainGlobals mg) (T : Tp K x st f fd) (b : Binds K fd ps []) : Def K mg x st ps f fd := ⟨T.fn, b, PySem.W.mg_of X G T.a⟩
theorem Tp.ex {x q : Str} (F : Fun K x q st f fd) : ∃ (kV doc pm : Value) (an : Option Addr) (cdv ct : Value), fd = PySem.W.fnOf x q (defArgs st) (defBody st) (defScope st) .none kV doc pm an cdv ct := by
  obtain ⟨oc, od, kV, doc, pm, an, cdv, ct, osl, e, _⟩ := F.ex
  exact ⟨kV, doc, pm, an, cdv, ct, e⟩
end
end L2

set_option Elab.async false
set_option linter.all false
set_option maxRecDepth 100000
set_option maxHeartbeats 4000000
namespace K06
open PySem L2
def top (i : Nat) : Stmt := PySem.Challenge.pw_manydeeds_k06_kinds_refused.main.body.getD i (.Pass ⟨0, 0, 0, 0⟩)
abbrev s__wall : Stmt := top 0
abbrev s_NoKind___init__ : Stmt := inClass (top 3) 0
abbrev s_Twice___init__ : Stmt := inClass (top 4) 0
abbrev s_NoName___init__ : Stmt := inClass (top 5) 0
abbrev s_Ring___init__ : Stmt := inClass (top 6) 0
abbrev s_NoDeed___init__ : Stmt := inClass (top 7) 0
abbrev s_Same___init__ : Stmt := inClass (top 8) 0
abbrev s_NoText___init__ : Stmt := inClass (top 9) 0
abbrev s_is_word : Stmt := top 23
abbrev s_check_rows : Stmt := top 24
abbrev s_check_ups : Stmt := top 25
abbrev s_first_among : Stmt := top 26
abbrev s_endless : Stmt := top 27
abbrev s_find_ring : Stmt := top 28
abbrev s_all_above : Stmt := top 29
abbrev s_Kinds___init__ : Stmt := inClass (top 30) 0
abbrev s_Kinds_has : Stmt := inClass (top 30) 1
abbrev s_Kinds_check : Stmt := inClass (top 30) 2
abbrev s_Kinds_words : Stmt := inClass (top 30) 3
abbrev s_Kinds_rows : Stmt := inClass (top 30) 4
abbrev s_Kinds_ups : Stmt := inClass (top 30) 5
abbrev s_Kinds_under : Stmt := inClass (top 30) 6
abbrev s_Kinds_beneath : Stmt := inClass (top 30) 7
abbrev s_Kinds_above : Stmt := inClass (top 30) 8
abbrev s_Kinds_below : Stmt := inClass (top 30) 9
abbrev s_Kinds_more : Stmt := inClass (top 30) 10
abbrev s_Kinds_tied : Stmt := inClass (top 30) 11
abbrev s__law_pot : Stmt := top 32
abbrev s__law_take : Stmt := top 33
abbrev s__law_letters : Stmt := top 34
abbrev s__law_word : Stmt := top 35
abbrev s__law_words : Stmt := top 36
abbrev s__law_ups : Stmt := top 37
abbrev s__law_rows : Stmt := top 38
abbrev s__law_alone : Stmt := top 39
abbrev s__law_spoilt : Stmt := top 40
abbrev s__law_rings : Stmt := top 41
abbrev s__law_due : Stmt := top 42
abbrev s__law_said : Stmt := top 43
abbrev s_law : Stmt := top 44
end K06

set_option Elab.async false
set_option linter.all false
set_option maxRecDepth 100000
set_option maxHeartbeats 4000000
namespace K06
open PySem L2 Md
/-! ### the refusals -/
/-- DeedError -/
structure ErrD (K : PySem.W.Frag) (mg : Str → Option Value) (D : Addr) : Prop where
  m : mg "DeedError" = some (.ref D)
  ex : ExC K D
  cl : PySem.W.isClsIn K D = true
  ty : PySem.W.typeIn K (.ref D) = some (.type "type")
/-- the fifteen classes -/
structure Fifteen (K : PySem.W.Frag) (mg : Str → Option Value) (Ds : Nat → Addr) : Prop where
  m0 : mg "NoKind" = some (.ref (Ds 0))
  m1 : mg "Twice" = some (.ref (Ds 1))
  m2 : mg "NoName" = some (.ref (Ds 2))
  m3 : mg "Ring" = some (.ref (Ds 3))
  m4 : mg "NoDeed" = some (.ref (Ds 4))
  m5 : mg "Same" = some (.ref (Ds 5))
  m6 : mg "NoText" = some (.ref (Ds 6))
  m7 : mg "TooMany" = some (.ref (Ds 7))
  m8 : mg "NoBoard" = some (.ref (Ds 8))
  m9 : mg "NoCall" = some (.ref (Ds 9))
  m10 : mg "NoLine" = some (.ref (Ds 10))
  m11 : mg "NoPlace" = some (.ref (Ds 11))
  m12 : mg "NoWeights" = some (.ref (Ds 12))
  m13 : mg "NoTerm" = some (.ref (Ds 13))
  m14 : mg "NoRow" = some (.ref (Ds 14))
  cl : ∀ k, k < 15 → PySem.W.isClsIn K (Ds k) = true
  ty : ∀ k, k < 15 → PySem.W.typeIn K (.ref (Ds k)) = some (.type "type")
/-- a class that is the i-th of them alone -/
structure OneOf (K : PySem.W.Frag) (D : Addr) (Ds : Nat → Addr) (i : Nat) : Prop where
  ex : ExA K (Ds i)
  sub : PySem.W.subIn K (.ref (Ds i)) (.ref D) = some true
  one : ∀ k, k < 15 → PySem.W.subIn K (.ref (Ds i)) (.ref (Ds k)) = some (decide (k = i))
theorem all15 {P : Nat → Prop} (h0 : P 0) (h1 : P 1) (h2 : P 2) (h3 : P 3) (h4 : P 4) (h5 : P 5) (h6 : P 6) (h7 : P 7) (h8 : P 8) (h9 : P 9) (h10 : P 10) (h11 : P 11) (h12 : P 12) (h13 : P 13) (h14 : P 14) : ∀ k, k < 15 → P k := fun k h => by
  rcases k with _ | _ | _ | _ | _ | _ | _ | _ | _ | _ | _ | _ | _ | _ | _ | k
  · exact h0
  · exact h1
  · exact h2
  · exact h3
  · exact h4
  · exact h5
  · exact h6
  · exact h7
  · exact h8
  · exact h9
  · exact h10
  · exact h11
  · exact h12
  · exact h13
  · exact h14
  · omega
def fif (a0 a1 a2 a3 a4 a5 a6 a7 a8 a9 a10 a11 a12 a13 a14 : Addr) : Nat → Addr
  | 0 => a0 | 1 => a1 | 2 => a2 | 3 => a3 | 4 => a4 | 5 => a5 | 6 => a6 | 7 => a7 | 8 => a8 | 9 => a9 | 10 => a10 | 11 => a11 | 12 => a12 | 13 => a13 | _ => a14
abbrev flags (i : Nat) : List Bool := (List.range 15).map fun k => decide (k = i)
theorem flags_one : ∀ i, i < 15 → (flags i).countP (· == true) = 1 := by decide +kernel
theorem flags_at {i p : Nat} (hp : p < 15) : ((flags i).map V.bl)[p]? = some (.bl (decide (p = i))) := by
  rw [List.getElem?_map, List.getElem?_map, List.getElem?_range hp]
  rfl
def spAlone (K : PySem.W.Frag) (D : Addr) (Ds : Nat → Addr) : Sp := fun vs H Q _ => ∃ (e : Addr) (i p : Nat) (dx : Option Addr), vs = [.ref e, .int p] ∧ H e = some (XO e (Ds i) dx) ∧ XDict H dx ∧ OneOf K D Ds i ∧ i < 15 ∧ p < 15 ∧ ∀ H', Same H H' → Q (.bl (decide (p = i))) H'
section
variable {P : Program} {w : World} {K : PySem.W.Frag} {mg : Str → Option Value} {base : Heap}
abbrev nAl : List Str := ["e", "place", "some"]
theorem scAl : FnScope nAl ["e", "place"] (defScope s__law_alone) := ⟨rfl, rfl, rfl, by decide +kernel, rfl, by decide +kernel, by decide +kernel⟩
theorem ok_alone {f D : Addr} {Ds : Nat → Addr} {fd : FuncData} (F : Def K mg "_law_alone" s__law_alone ["e", "place"] f fd) (TD : ErrD K mg D) (TF : Fifteen K mg Ds) (isi : mg "isinstance" = none) (vr : mg "ValueError" = none) : FnOk P w K mg base CX0 1 f fd ["e", "place"] (spAlone K D Ds) := by
  refine F.fn.ok scAl (fun vs H Q E h => ?_) (fun cdv A outer s H vs Q E hr h => ?_)
  · obtain ⟨e, i, p, dx, rfl, _⟩ := h
    rfl
  · obtain ⟨e, i, p, dx, rfl, hx, hd, O, i15, p15, q⟩ := h
    have nd := scAl.nd
    have one : ∀ k, k < 15 → PySem.W.kitOne K (.ref (Ds i)) (.ref (Ds k)) = some (decide (k = i)) := fun k hk => kit_cls1 (TF.cl k hk) (TF.ty k hk) O.ex.toExC (O.one k hk)
    refine' ⟨_, pss_cons (ps_set (i := 2) nd rfl (Or.inl rfl) (pe_lst (pa_cons ?a0 (pa_cons ?a1 (pa_cons ?a2 (pa_cons ?a3 (pa_cons ?a4 (pa_cons ?a5 (pa_cons ?a6 (pa_cons ?a7 (pa_cons ?a8 (pa_cons ?a9 (pa_cons ?a10 (pa_cons ?a11 (pa_cons ?a12 (pa_cons ?a13 (pa_cons ?a14 pa_nil)))))))))))))))))
      (pss_cons (ps_if (PW.pt (pw_or (pt_not (pt_val ?b1)) (pw_or1 (pt_not (pt_val ?b2))))) (pss_one (ps_ret pe_bl)) pss_nil) (pss_one (ps_ret (pe_and ?c1 (pe_one ?c2))))), ?_⟩
    case a0 => exact pe_callB call_isiX (by rfl) isi PyProof.Rows.boot_isinstance (pa_cons (pv 0) (pa_cons (pe_glob (v := .ref (Ds 0)) (by rfl) TF.m0 rfl) pa_nil))
    case a1 => exact pe_callB call_isiX (by rfl) isi PyProof.Rows.boot_isinstance (pa_cons (pv 0) (pa_cons (pe_glob (v := .ref (Ds 1)) (by rfl) TF.m1 rfl) pa_nil))
    case a2 => exact pe_callB call_isiX (by rfl) isi PyProof.Rows.boot_isinstance (pa_cons (pv 0) (pa_cons (pe_glob (v := .ref (Ds 2)) (by rfl) TF.m2 rfl) pa_nil))
    case a3 => exact pe_callB call_isiX (by rfl) isi PyProof.Rows.boot_isinstance (pa_cons (pv 0) (pa_cons (pe_glob (v := .ref (Ds 3)) (by rfl) TF.m3 rfl) pa_nil))
    case a4 => exact pe_callB call_isiX (by rfl) isi PyProof.Rows.boot_isinstance (pa_cons (pv 0) (pa_cons (pe_glob (v := .ref (Ds 4)) (by rfl) TF.m4 rfl) pa_nil))
    case a5 => exact pe_callB call_isiX (by rfl) isi PyProof.Rows.boot_isinstance (pa_cons (pv 0) (pa_cons (pe_glob (v := .ref (Ds 5)) (by rfl) TF.m5 rfl) pa_nil))
    case a6 => exact pe_callB call_isiX (by rfl) isi PyProof.Rows.boot_isinstance (pa_cons (pv 0) (pa_cons (pe_glob (v := .ref (Ds 6)) (by rfl) TF.m6 rfl) pa_nil))
    case a7 => exact pe_callB call_isiX (by rfl) isi PyProof.Rows.boot_isinstance (pa_cons (pv 0) (pa_cons (pe_glob (v := .ref (Ds 7)) (by rfl) TF.m7 rfl) pa_nil))
    case a8 => exact pe_callB call_isiX (by rfl) isi PyProof.Rows.boot_isinstance (pa_cons (pv 0) (pa_cons (pe_glob (v := .ref (Ds 8)) (by rfl) TF.m8 rfl) pa_nil))
    case a9 => exact pe_callB call_isiX (by rfl) isi PyProof.Rows.boot_isinstance (pa_cons (pv 0) (pa_cons (pe_glob (v := .ref (Ds 9)) (by rfl) TF.m9 rfl) pa_nil))
    case a10 => exact pe_callB call_isiX (by rfl) isi PyProof.Rows.boot_isinstance (pa_cons (pv 0) (pa_cons (pe_glob (v := .ref (Ds 10)) (by rfl) TF.m10 rfl) pa_nil))
    case a11 => exact pe_callB call_isiX (by rfl) isi PyProof.Rows.boot_isinstance (pa_cons (pv 0) (pa_cons (pe_glob (v := .ref (Ds 11)) (by rfl) TF.m11 rfl) pa_nil))
    case a12 => exact pe_callB call_isiX (by rfl) isi PyProof.Rows.boot_isinstance (pa_cons (pv 0) (pa_cons (pe_glob (v := .ref (Ds 12)) (by rfl) TF.m12 rfl) pa_nil))
    case a13 => exact pe_callB call_isiX (by rfl) isi PyProof.Rows.boot_isinstance (pa_cons (pv 0) (pa_cons (pe_glob (v := .ref (Ds 13)) (by rfl) TF.m13 rfl) pa_nil))
    case a14 => exact pe_callB call_isiX (by rfl) isi PyProof.Rows.boot_isinstance (pa_cons (pv 0) (pa_cons (pe_glob (v := .ref (Ds 14)) (by rfl) TF.m14 rfl) pa_nil))
    case b1 => exact pe_callB call_isiX (by rfl) isi PyProof.Rows.boot_isinstance (pa_cons (pv 0) (pa_cons (pe_glob (v := .ref D) (by rfl) TD.m rfl) pa_nil))
    case b2 => exact pe_callB call_isiX (by rfl) isi PyProof.Rows.boot_isinstance (pa_cons (pv 0) (pa_cons (pe_bltn (v := .ty "ValueError") (by rfl) vr (by decide +kernel) rfl) pa_nil))
    case c1 => exact pe_cmpR op_eq (pe_bm PySem.F.plainAttrs_list PySem.F.slot_list_count PySem.F.type_list_count mt_countB (pv 2) (pa_cons pe_bl pa_nil)) pe_int (nomark _)
    case c2 => exact pe_ix ix_list (pv 2) (pv 1) (fun _ _ => rfl)
    refine ⟨_, rfl, e, Ds i, dx, _, _, _, rfl, rfl, fun u z => z, hx, hd, O.ex, one 0 (by decide), ?_⟩
    refine ⟨_, rfl, e, Ds i, dx, _, _, _, rfl, rfl, fun u z => z, hx, hd, O.ex, one 1 (by decide), ?_⟩
    refine ⟨_, rfl, e, Ds i, dx, _, _, _, rfl, rfl, fun u z => z, hx, hd, O.ex, one 2 (by decide), ?_⟩
    refine ⟨_, rfl, e, Ds i, dx, _, _, _, rfl, rfl, fun u z => z, hx, hd, O.ex, one 3 (by decide), ?_⟩
    refine ⟨_, rfl, e, Ds i, dx, _, _, _, rfl, rfl, fun u z => z, hx, hd, O.ex, one 4 (by decide), ?_⟩
    refine ⟨_, rfl, e, Ds i, dx, _, _, _, rfl, rfl, fun u z => z, hx, hd, O.ex, one 5 (by decide), ?_⟩
    refine ⟨_, rfl, e, Ds i, dx, _, _, _, rfl, rfl, fun u z => z, hx, hd, O.ex, one 6 (by decide), ?_⟩
    refine ⟨_, rfl, e, Ds i, dx, _, _, _, rfl, rfl, fun u z => z, hx, hd, O.ex, one 7 (by decide), ?_⟩
    refine ⟨_, rfl, e, Ds i, dx, _, _, _, rfl, rfl, fun u z => z, hx, hd, O.ex, one 8 (by decide), ?_⟩
    refine ⟨_, rfl, e, Ds i, dx, _, _, _, rfl, rfl, fun u z => z, hx, hd, O.ex, one 9 (by decide), ?_⟩
    refine ⟨_, rfl, e, Ds i, dx, _, _, _, rfl, rfl, fun u z => z, hx, hd, O.ex, one 10 (by decide), ?_⟩
    refine ⟨_, rfl, e, Ds i, dx, _, _, _, rfl, rfl, fun u z => z, hx, hd, O.ex, one 11 (by decide), ?_⟩
    refine ⟨_, rfl, e, Ds i, dx, _, _, _, rfl, rfl, fun u z => z, hx, hd, O.ex, one 12 (by decide), ?_⟩
    refine ⟨_, rfl, e, Ds i, dx, _, _, _, rfl, rfl, fun u z => z, hx, hd, O.ex, one 13 (by decide), ?_⟩
    refine ⟨_, rfl, e, Ds i, dx, _, _, _, rfl, rfl, fun u z => z, hx, hd, O.ex, one 14 (by decide), ?_⟩
    refine ⟨small_line (by show 15 ≤ 100000; decide), fun l hl => ?_⟩
    have s1 : Same H (upd H l (.lst ((flags i).map V.bl))) := snew hl
    have hx1 := s1 _ _ hx
    have hd1 := Same.xdict hd s1
    refine ⟨_, rfl, e, Ds i, dx, _, _, _, rfl, rfl, fun u z => z, hx1, hd1, O.ex, kit_cls1 TD.cl TD.ty O.ex.toExC O.sub, _, rfl, ?_⟩
    refine iteF ⟨_, rfl, e, Ds i, dx, _, _, _, rfl, rfl, fun u z => z, hx1, hd1, O.ex, kit_value O.ex.toExC, _, rfl, iteF ?_⟩
    refine ⟨_, rfl, .inl ⟨rfl, _, SqL.of upd_same⟩, l, flags i, true, rfl, rfl, upd_same, rfl, _, rfl, ?_⟩
    rw [flags_one i i15]
    exact iteT ⟨_, rfl, _, rfl, l, _, p, .bl (decide (p = i)), rfl, rfl, SqL.of upd_same, atI_nat (flags_at p15), q _ s1⟩
end
end K06

set_option Elab.async false
set_option linter.all false
set_option maxRecDepth 100000
set_option maxHeartbeats 4000000
namespace K06
open PySem L2 Md
/-! ### the law's own draws -/
def spPot (K : PySem.W.Frag) : Sp := fun vs H Q _ => ∃ (a : Addr) (k : Int) (ns : List Int), vs = [.ref a, .int k] ∧ SqL K H a (ns.map V.int) ∧ ns.length ≤ 100 ∧ 0 ≤ k ∧ k ≤ 1000 ∧ ∀ p o, H p = none → PotO o → Q (.ref p) (upd H p o)
def spTake : Sp := fun vs H Q _ => ∃ (p : Addr) (m : Int) (o : HO), vs = [.ref p, .int m] ∧ H p = some o ∧ PotO o ∧ 0 < m ∧ m < 4611686018427387904 ∧ ∀ (v : Int) o', 0 ≤ v → v < m → PotO o' → Q (.int v) (upd H p o')
def spLetters : Sp := fun vs H Q _ => ∃ n : Nat, vs = [.int n] ∧ n < 26 ^ 8 ∧ Q (.str (lettersS n)) H
section
variable {P : Program} {w : World} {K : PySem.W.Frag} {mg : Str → Option Value} {base : Heap}
theorem scPot : FnScope ["script", "k", "cell", "rest"] ["script", "k"] (defScope s__law_pot) := ⟨rfl, rfl, rfl, by decide +kernel, rfl, by decide +kernel, by decide +kernel⟩
theorem big_eq : (10 : Int) ^ (64 : Int).toNat * 10 ^ (64 : Int).toNat * 10 ^ (64 : Int).toNat * 10 ^ (64 : Int).toNat = 10 ^ 256 := by decide +kernel
theorem ok_pot {f : Addr} {fd : FuncData} (F : Def K mg "_law_pot" s__law_pot ["script", "k"] f fd) (len : mg "len" = none) : FnOk P w K mg base CX0 1 f fd ["script", "k"] (spPot K) := by
  refine F.fn.ok scPot (fun vs H Q E h => ?_) (fun cdv A outer s H vs Q E hr h => ?_)
  · obtain ⟨a, k, ns, rfl, _⟩ := h
    rfl
  · obtain ⟨a, k, ns, rfl, hS, hl, hk0, hk1, q⟩ := h
    refine ⟨_, pss_cons (ps_set (i := 2) scPot.nd rfl (Or.inl rfl) pe_int)
      (pss_cut (ps_if (pt_cmpR op_lt (pv 1) (pe_callB call_len (by rfl) len PySem.boot_len (pa_cons (pv 0) pa_nil)) (nomark _))
        (pss_one (ps_set (i := 2) scPot.nd rfl (Or.inl rfl) (pe_op op_mod (pe_ix ix_list (pv 0) (pv 1) (fun _ _ => rfl))
          (pe_op op_mulB (pe_op op_mulB (pe_op op_mulB (pe_op op_pow pe_int pe_int) (pe_op op_pow pe_int pe_int)) (pe_op op_pow pe_int pe_int)) (pe_op op_pow pe_int pe_int))))) pss_nil)
      (pss_cons (ps_set (i := 3) scPot.nd rfl (Or.inl rfl) pe_int)
      (pss_cut (ps_if (pt_cmpR op_ge (pv 2) (pe_op op_pow pe_int pe_int) (nomark _)) (pss_one (ps_set (i := 3) scPot.nd rfl (Or.inl rfl) (pv 2))) pss_nil)
      (pss_one (ps_ret (pe_lst (pa_cons (pv 3) (pa_cons (pe_op op_mod (pe_op op_mul (pe_op op_add (pe_op op_add (pe_op op_mod (pv 2) pe_int) (pe_op op_mul pe_int (pv 1))) pe_int) pe_int) pe_int) pa_nil)))))))), ?_⟩
    refine ⟨fun σ' H' => H' = H ∧ ∃ c : Int, 0 ≤ c ∧ c < 10 ^ 256 ∧ σ' = [some (.ref a), some (.int k), some (.int c), none], ?_, ?_⟩
    · refine ⟨_, rfl, _, rfl, _, _, rfl, .inl ⟨_, hS, rfl⟩, _, _, rfl, rfl, _, rfl, ?_⟩
      refine ite2 (fun h1 => ?_) (fun h1 => ?_)
      · have h1 : k < ((ns.map V.int).length : Int) := of_decide_eq_true h1
        rw [List.length_map] at h1
        have hi : k.toNat < ns.length := by omega
        have hat : atI (ns.map V.int) k = some (V.int ns[k.toNat]) := by
          have e : (ns.map V.int)[k.toNat]? = some (V.int ns[k.toNat]) := by rw [List.getElem?_map, List.getElem?_eq_getElem hi]; rfl
          have := atI_nat e
          rwa [Int.toNat_of_nonneg hk0] at this
        refine ⟨_, rfl, _, rfl, _, _, _, _, rfl, rfl, hS, hat, _, _, rfl, rfl, ⟨by decide, by decide, by decide +kernel⟩, _, _, rfl, rfl, ⟨by decide, by decide, by decide +kernel⟩, _, _, rfl, rfl, ⟨by decide +kernel, by decide +kernel⟩,
          _, _, rfl, rfl, ⟨by decide, by decide, by decide +kernel⟩, _, _, rfl, rfl, ⟨by decide +kernel, by decide +kernel⟩, _, _, rfl, rfl, ⟨by decide, by decide, by decide +kernel⟩, _, _, rfl, rfl, ⟨by decide +kernel, by decide +kernel⟩, _, _, rfl, rfl, ?_, rfl, _, ?_, ?_, rfl⟩
        · show (0 : Int) < _
          rw [big_eq]; decide +kernel
        · rw [big_eq]; exact Int.emod_nonneg _ (by decide +kernel)
        · rw [big_eq]; exact Int.emod_lt_of_pos _ (by decide +kernel)
      · exact ⟨rfl, 0, by decide, by decide +kernel, rfl⟩
    · rintro σ' H' ⟨rfl, c, hc0, hc1, rfl⟩
      refine ⟨fun σ2 H2 => H2 = H' ∧ ∃ r : Int, 0 ≤ r ∧ r < 10 ^ 256 ∧ σ2 = [some (.ref a), some (.int k), some (.int c), some (.int r)], ?_, ?_⟩
      · refine ⟨_, rfl, _, _, rfl, rfl, ⟨by decide, by decide, by decide +kernel⟩, _, _, rfl, rfl, _, rfl, ?_⟩
        refine ite2 (fun h1 => ?_) (fun h1 => ?_)
        · exact ⟨_, rfl, rfl, c, hc0, hc1, rfl⟩
        · exact ⟨rfl, 0, by decide, by decide +kernel, rfl⟩
      · rintro σ2 H2 ⟨rfl, r, hr0, hr1, rfl⟩
        have m0 := Int.emod_nonneg c (b := 2147483629) (by decide)
        have m1 := Int.emod_lt_of_pos c (b := 2147483629) (by decide)
        refine ⟨_, rfl, _, rfl, _, _, rfl, rfl, (by show (0 : Int) < 2147483629; decide), _, rfl, _, _, rfl, rfl, .inl ⟨by decide, by decide⟩, _, _, rfl, rfl, _, _, rfl, rfl, _, _, rfl, rfl, .inr ⟨by decide, by decide⟩, _, _, rfl, rfl, (by show (0 : Int) < 2147483647; decide), small_line (by show 2 ≤ 100000; decide), fun p hp => ?_⟩
        refine q p _ hp ⟨r, _, rfl, hr0, hr1, Int.emod_nonneg _ (by decide), Int.emod_lt_of_pos _ (by decide)⟩
theorem scTake : FnScope ["pot", "many", "found"] ["pot", "many"] (defScope s__law_take) := ⟨rfl, rfl, rfl, by decide +kernel, rfl, by decide +kernel, by decide +kernel⟩
theorem ok_take {f : Addr} {fd : FuncData} (F : Def K mg "_law_take" s__law_take ["pot", "many"] f fd) : FnOk P w K mg base CX0 1 f fd ["pot", "many"] spTake := by
  refine F.fn.ok scTake (fun vs H Q E h => ?_) (fun cdv A outer s H vs Q E hr h => ?_)
  · obtain ⟨p, m, o, rfl, _⟩ := h
    rfl
  · obtain ⟨p, m, o, rfl, hp, ⟨r, b, rfl, hr0, hr1, hb0, hb1⟩, hm0, hm1, q⟩ := h
    refine ⟨_, pss_cons (ps_if (pt_cmpR op_gt (pe_ix ix_list (pv 0) pe_int (fun _ _ => rfl)) pe_int (nomark _))
        (pss_cons (ps_set (i := 2) scTake.nd rfl (Or.inl rfl) (pe_op op_mod (pe_ix ix_list (pv 0) pe_int (fun _ _ => rfl)) (pv 1)))
        (pss_cons (ps_asg (pe_op op_fdivB (pe_ix ix_list (pv 0) pe_int (fun _ _ => rfl)) (pv 1)) (pg_sub (pv 0) pe_int set_list)) (pss_one (ps_ret (pv 2))))) pss_nil)
      (pss_cons (ps_asg (pe_op op_mod (pe_op op_add (pe_op op_mul (pe_ix ix_list (pv 0) pe_int (fun _ _ => rfl)) pe_int) pe_int) pe_int) (pg_sub (pv 0) pe_int set_list))
      (pss_one (ps_ret (pe_op op_mod (pe_op op_fdiv (pe_op op_mod (pe_op op_mul (pe_ix ix_list (pv 0) pe_int (fun _ _ => rfl)) (pe_ix ix_list (pv 0) pe_int (fun _ _ => rfl))) pe_int) pe_int) (pv 1))))), ?_⟩
    refine ⟨_, rfl, p, _, _, _, rfl, rfl, SqL.of hp, rfl, _, _, rfl, rfl, _, rfl, ?_⟩
    refine ite2 (fun h1 => ?_) (fun h1 => ?_)
    · refine ⟨_, rfl, p, _, _, _, rfl, rfl, SqL.of hp, rfl, _, rfl, _, _, rfl, rfl, hm0, ?_⟩
      refine ⟨_, rfl, p, _, _, _, rfl, rfl, SqL.of hp, rfl, _, rfl, _, _, rfl, rfl, ⟨hm0, hm1⟩, ?_⟩
      refine ⟨_, rfl, p, _, _, 0, rfl, rfl, hp, rfl, _, rfl, ?_⟩
      have h1 : 0 < r := of_decide_eq_true h1
      exact q _ _ (Int.emod_nonneg _ (by omega)) (Int.emod_lt_of_pos _ hm0) ⟨r / m, b, rfl, Int.ediv_nonneg hr0 (by omega), Int.lt_of_le_of_lt (Int.ediv_le_self _ hr0) hr1, hb0, hb1⟩
    · refine ⟨_, rfl, p, _, _, _, rfl, rfl, SqL.of hp, rfl, _, _, rfl, rfl, .inr ⟨by decide, by decide⟩, _, _, rfl, rfl, _, _, rfl, rfl, (by show (0 : Int) < 2147483647; decide), ?_⟩
      refine ⟨_, rfl, p, _, _, 1, rfl, rfl, hp, rfl, ?_⟩
      have m0 := Int.emod_nonneg (b * 69621 + 12345) (b := 2147483647) (by decide)
      have m1 := Int.emod_lt_of_pos (b * 69621 + 12345) (b := 2147483647) (by decide)
      refine ⟨_, rfl, p, _, _, _, rfl, rfl, SqL.of upd_same, rfl, _, rfl, p, _, _, _, rfl, rfl, SqL.of upd_same, rfl, _, _, rfl, rfl, .inl ⟨by omega, by omega⟩, _, _, rfl, rfl, (by show (0 : Int) < 2147483629; decide), _, _, rfl, rfl, ⟨by decide, by decide⟩, _, rfl, _, _, rfl, rfl, hm0, ?_⟩
      exact q _ _ (Int.emod_nonneg _ (by omega)) (Int.emod_lt_of_pos _ hm0) ⟨r, _, rfl, hr0, hr1, m0, m1⟩
/-! ### _law_letters -/
theorem scLet : FnScope ["number", "word"] ["number"] (defScope s__law_letters) := ⟨rfl, rfl, rfl, by decide +kernel, rfl, by decide +kernel, by decide +kernel⟩
theorem ok_letters {f : Addr} {fd : FuncData} (F : Def K mg "_law_letters" s__law_letters ["number"] f fd) : FnOk P w K mg base CX0 1 f fd ["number"] spLetters := by
  refine F.fn.ok scLet (fun vs H Q E h => ?_) (fun cdv A outer s H vs Q E hr h => ?_)
  · obtain ⟨n, rfl, _⟩ := h
    rfl
  · obtain ⟨n, rfl, hn, q⟩ := h
    have nd := scLet.nd
    refine ⟨_, pss_cons (ps_set (i := 1) nd rfl (Or.inl rfl) pe_str)
      (pss_cons (ps_while PassesOwn.never (pw_or (pt_cmpR op_eq (pv 1) pe_str (nomark _)) (pw_or1 (pt_cmpR op_gt (pv 0) pe_int (nomark _)))).pt
        (pss_cons (ps_set (i := 1) nd rfl (Or.inl rfl) (pe_op op_add_str (pv 1) (pe_ix ix_str pe_str (pe_op op_mod (pv 0) pe_int) (fun _ _ => rfl))))
        (pss_one (ps_set (i := 0) nd rfl (Or.inl rfl) (pe_op op_fdiv (pv 0) pe_int)))))
      (pss_one (ps_ret (pv 1)))), ?_⟩
    have e0 : ("" : Str).cps.toList = [] := by decide +kernel
    have hlen : (lettersF n).length ≤ 8 := lettersF_len 7 n hn
    refine ⟨fun m σ H2 => H2 = H ∧ ∃ (x : Str) (k : Nat), σ = [some (.int k), some (.str x)] ∧ m = k + (if x.cps.toList = [] then 1 else 0) ∧
      ((x.cps.toList = [] ∧ k = n) ∨ (x.cps.toList ≠ [] ∧ k = 0 ∧ x.cps.toList = lettersF n) ∨ (x.cps.toList ≠ [] ∧ 0 < k ∧ x.cps.toList ++ lettersF k = lettersF n)), ⟨_, rfl, _, n, rfl, rfl, .inl ⟨e0, rfl⟩⟩, ?_⟩
    rintro m σ H2 ⟨rfl, x, k, rfl, rfl, inv⟩
    -- one more sign
    have more : (x.cps.toList = [] ∨ 0 < k) → ∃ N : St → Hp → Prop, (∀ σ' H', N σ' H' → ∃ m', m' < k + (if x.cps.toList = [] then 1 else 0) ∧ (H' = H2 ∧ ∃ (y : Str) (j : Nat), σ' = [some (.int j), some (.str y)] ∧ m' = j + (if y.cps.toList = [] then 1 else 0) ∧
        ((y.cps.toList = [] ∧ j = n) ∨ (y.cps.toList ≠ [] ∧ j = 0 ∧ y.cps.toList = lettersF n) ∨ (y.cps.toList ≠ [] ∧ 0 < j ∧ y.cps.toList ++ lettersF j = lettersF n)))) ∧
        N [some (.int ((k : Int) / 26)), some (.str (x ++ ⟨#[97 + k % 26]⟩))] H2 := fun hk => by
      refine ⟨fun σ' H' => σ' = [some (.int ((k : Int) / 26)), some (.str (x ++ ⟨#[97 + k % 26]⟩))] ∧ H' = H2, ?_, rfl, rfl⟩
      rintro σ' H' ⟨rfl, rfl⟩
      have el : (x ++ ⟨#[97 + k % 26]⟩ : Str).cps.toList = x.cps.toList ++ [97 + k % 26] := app_list _ _
      have ne : (x ++ ⟨#[97 + k % 26]⟩ : Str).cps.toList ≠ [] := by rw [el]; simp
      have kd : ((k : Int) / 26) = ((k / 26 : Nat) : Int) := by omega
      have whole : (x.cps.toList ++ [97 + k % 26]) ++ (if k / 26 = 0 then [] else lettersF (k / 26)) = lettersF n := by
        rw [List.append_assoc, List.singleton_append, ← lettersF_eq]
        rcases inv with ⟨h1, h2⟩ | ⟨h1, h2, _⟩ | ⟨_, _, h3⟩
        · rw [h1, h2]; rfl
        · rcases hk with z | z
          · exact absurd z h1
          · omega
        · exact h3
      refine ⟨k / 26, ?_, rfl, _, k / 26, by rw [kd], by rw [if_neg ne]; rfl, ?_⟩
      · rcases hk with z | z
        · rw [if_pos z]; omega
        · have : k / 26 < k := by omega
          omega
      · right
        rw [el]
        by_cases z : k / 26 = 0
        · rw [if_pos z, List.append_nil] at whole
          exact .inl ⟨by simp, z, whole⟩
        · rw [if_neg z] at whole
          exact .inr ⟨by simp, by omega, whole⟩
    have xlen : x.length ≤ 8 := by
      rw [← str_len]
      rcases inv with ⟨h1, _⟩ | ⟨_, _, h3⟩ | ⟨_, _, h3⟩
      · rw [h1]; simp
      · rw [h3]; exact hlen
      · have := congrArg List.length h3
        rw [List.length_append] at this
        omega
    have at1 : atI letters.cps.toList ((k : Int) % 26) = some (97 + k % 26) := by
      have := atI_nat (letters_at (i := k % 26) (by omega))
      have e : ((k % 26 : Nat) : Int) = (k : Int) % 26 := by omega
      rwa [e] at this
    refine ⟨_, rfl, rfl, _, rfl, ?_⟩
    refine ite2 (fun h1 => ?_) (fun h1 => ?_)
    · have hx : x.cps.toList = [] := by
        have := of_decide_eq_true h1
        injection this with this
        rw [this]; exact e0
      obtain ⟨N, hN, n0⟩ := more (.inl hx)
      refine iteT ⟨N, hN, ?_⟩
      exact ⟨_, rfl, _, rfl, _, _, rfl, rfl, (by show (0 : Int) < 26; decide), _, _, _, rfl, rfl, small_line (by rw [← str_len, letters_eq]; decide), at1, _, _, rfl, rfl, small_line (by rw [len_one]; omega), _, rfl, _, _, rfl, rfl, ⟨by decide, by decide⟩, n0⟩
    · have hx : x.cps.toList ≠ [] := fun z => h1 (decide_eq_true (by rw [str_ext (z.trans e0.symm)]))
      refine ⟨_, rfl, _, _, rfl, rfl, _, rfl, ?_⟩
      refine ite2 (fun h2 => ?_) (fun h2 => ?_)
      · have hk : 0 < k := by have : (0 : Int) < (k : Int) := of_decide_eq_true h2; omega
        obtain ⟨N, hN, n0⟩ := more (.inr hk)
        refine ⟨N, hN, ?_⟩
        exact ⟨_, rfl, _, rfl, _, _, rfl, rfl, (by show (0 : Int) < 26; decide), _, _, _, rfl, rfl, small_line (by rw [← str_len, letters_eq]; decide), at1, _, _, rfl, rfl, small_line (by rw [len_one]; omega), _, rfl, _, _, rfl, rfl, ⟨by decide, by decide⟩, n0⟩
      · have hk : k = 0 := by
          have : ¬ (0 : Int) < (k : Int) := fun z => h2 (decide_eq_true z)
          omega
        have hf : x = lettersS n := by
          refine str_ext ?_
          rw [lettersS_list]
          rcases inv with ⟨h1, _⟩ | ⟨_, _, h3⟩ | ⟨_, h2, _⟩
          · exact absurd h1 hx
          · exact h3
          · omega
        rw [hf]
        exact ⟨_, rfl, q⟩
end
end K06

set_option Elab.async false
set_option linter.all false
set_option maxRecDepth 100000
set_option maxHeartbeats 4000000
namespace K06
open PySem L2 Md
/-! ### words -/
structure WordsOk (ws : List Str) : Prop where
  word : ∀ x ∈ ws, isWord x = true
  nd : ws.Nodup
def spWord : Sp := fun vs H Q _ => ∃ (p a : Addr) (ws : List Str), vs = [.ref p, .ref a] ∧ p ≠ a ∧ (∃ o, H p = some o ∧ PotO o) ∧ H a = some (.lst (ws.map V.str)) ∧ WordsOk ws ∧ ws.length ≤ 24 ∧
  ∀ x H', Drawn p H H' → isWord x = true → x ∉ ws → Q (.str x) H'
def spWords : Sp := fun vs H Q _ => ∃ (p : Addr) (m : Nat), vs = [.ref p, .int m] ∧ (∃ o, H p = some o ∧ PotO o) ∧ m ≤ 24 ∧
  ∀ l (ws : List Str) H', Drawn p H H' → H l = none → H' l = some (.lst (ws.map V.str)) → WordsOk ws → ws.length = m → Q (.ref l) H'
def some13 : List Str := ["kind", "under", "name", "deed", "gives", "with", "none", "clash", "a", "ab", "abc", "abcdefgh", "even"]
theorem some13_ok : some13.all isWord = true := by decide +kernel
theorem at_strs {ws : List Str} {v : Int} (h0 : 0 ≤ v) (h1 : v < ws.length) : ∃ x, x ∈ ws ∧ atI (ws.map V.str) v = some (.str x) := by
  have hi : v.toNat < ws.length := by omega
  have e : (ws.map V.str)[v.toNat]? = some (V.str ws[v.toNat]) := by rw [List.getElem?_map, List.getElem?_eq_getElem hi]; rfl
  have := atI_nat e
  rw [Int.toNat_of_nonneg h0] at this
  exact ⟨_, List.getElem_mem hi, this⟩
theorem ne_nil_dat (ws : List Str) : (!dEq (.list (ws.map PySem.W.Dat.str)) (.list [])) = true ↔ ws ≠ [] := by
  cases ws with
  | nil => simp [dEq_self]
  | cons w r =>
    rw [dEq_neg (by simp)]
    simp
theorem ok_dat {ws : List Str} (h : ∀ x ∈ ws, isWord x = true) : PySem.W.kqdOk 9 (.list (ws.map PySem.W.Dat.str)) = true := by
  show (ws.map PySem.W.Dat.str).all (PySem.W.kqdOk 8) = true
  rw [List.all_eq_true]
  intro d hd
  obtain ⟨x, hx, e⟩ := List.mem_map.mp hd
  rw [← e]
  exact word_ok (h x hx)
section
variable {P : Program} {w : World} {K : PySem.W.Frag} {mg : Str → Option Value} {base : Heap}
theorem scWord : FnScope ["pot", "words", "some", "way", "word", "number"] ["pot", "words"] (defScope s__law_word) := ⟨rfl, rfl, rfl, by decide +kernel, rfl, by decide +kernel, by decide +kernel⟩
theorem prefix_word {x y : Str} {n : Nat} (hn : 1 ≤ n) (h : y.cps.toList = x.cps.toList.take n) (h1 : 1 ≤ x.length) (h8 : x.length ≤ 8 ∨ n ≤ 8) (hl : ∀ c ∈ x.cps.toList, isLow c = true) : isWord y = true := by
  rw [isWord_iff, h, List.length_take, str_len]
  refine ⟨⟨by omega, by omega⟩, fun c hc => hl c (List.mem_of_mem_take hc)⟩
def hdS : List Stmt → Stmt
  | s :: _ => s
  | [] => .Pass ⟨0, 0, 0, 0⟩
def t13 : TE := tTup (fun _ H Q => Q (some13.map V.str) H)
def s13 : Stmt := hdS (defBody s__law_word)
theorem a13 : ∃ es c p0 p1 p2, s13 = .Assign [.Name ("some" : Str) p0] (.Tuple es c p1) p2 ∧ strsOf es = some some13 := ⟨_, _, _, _, _, rfl, by decide +kernel⟩
theorem ps_asgs {X : Cx} {st : Stmt} {i : Nat} {x : Str} {ws : List Str} (h : ∃ es c p0 p1 p2, st = .Assign [.Name x p0] (.Tuple es c p1) p2 ∧ strsOf es = some ws) (hN : X.N.Nodup) (hi : X.N[i]? = some x) (hx : Loc X.env.scope x) (hf : X.fn x = true ∨ X.env.scope.names.lookup x = some .local) : PS X st (tAsg (tTup (fun _ H Q => Q (ws.map V.str) H)) (gName i)) := by
  obtain ⟨es, c, p0, p1, p2, rfl, h⟩ := h
  exact ps_set hN hi hx (pe_tup (pa_strsOf h)) rfl hf
theorem ps_13 {X : Cx} (hN : X.N.Nodup) (hi : X.N[2]? = some ("some" : Str)) (hx : Loc X.env.scope ("some" : Str)) (hf : X.fn ("some" : Str) = true ∨ X.env.scope.names.lookup ("some" : Str) = some NameKind.local) : PS X s13 (tAsg t13 (gName 2)) :=
  @ps_asgs X s13 2 ("some" : Str) some13 a13 hN hi hx hf
def tlS : List Stmt → List Stmt
  | _ :: r => r
  | [] => []
theorem pss_hd {X : Cx} {l : List Stmt} {t u : TS} (h0 : l.isEmpty = false) (h1 : PS X (hdS l) t) (h2 : PSs X (tlS l) u) : PSs X l (tSeq t u) := by
  cases l with
  | nil => cases h0
  | cons a r => exact pss_cons h1 h2
theorem n13 : (defBody s__law_word).isEmpty = false := by decide +kernel
theorem pss_13 {X : Cx} {u : TS} (hN : X.N.Nodup) (hi : X.N[2]? = some ("some" : Str)) (hx : Loc X.env.scope ("some" : Str)) (hf : X.fn ("some" : Str) = true ∨ X.env.scope.names.lookup ("some" : Str) = some NameKind.local) (h2 : PSs X (tlS (defBody s__law_word)) u) : PSs X (defBody s__law_word) (tSeq (tAsg t13 (gName 2)) u) :=
  @pss_hd X (defBody s__law_word) (tAsg t13 (gName 2)) u n13 (@ps_13 X hN hi hx hf) h2
theorem ex_13 {X : Cx} {D : Ends} {σ : St} {H : Hp} (hN : X.N.Nodup) (hi : X.N[2]? = some ("some" : Str)) (hx : Loc X.env.scope ("some" : Str)) (hf : X.fn ("some" : Str) = true ∨ X.env.scope.names.lookup ("some" : Str) = some NameKind.local)
    (h : ∃ u, PSs X (tlS (defBody s__law_word)) u ∧ tSeq (tAsg t13 (gName 2)) u D σ H) : ∃ t, PSs X (defBody s__law_word) t ∧ t D σ H := by
  obtain ⟨u, h1, h2⟩ := h
  exact ⟨tSeq (tAsg t13 (gName 2)) u, @pss_13 X u hN hi hx hf h1, h2⟩
theorem ok_word {f fT fL : Addr} {fd fdT fdL : FuncData} (F : Def K mg "_law_word" s__law_word ["pot", "words"] f fd) (DT : Def K mg "_law_take" s__law_take ["pot", "many"] fT fdT) (DL : Def K mg "_law_letters" s__law_letters ["number"] fL fdL) (len : mg "len" = none) :
    FnOk P w K mg base CX0 2 f fd ["pot", "words"] spWord := by
  have GT : FnOk P w K mg base CX0 1 fT fdT ["pot", "many"] spTake := ok_take DT
  have GL : FnOk P w K mg base CX0 1 fL fdL ["number"] spLetters := ok_letters DL
  refine F.fn.ok scWord (fun vs H Q E h => ?_) (fun cdv A outer s H vs Q E hr h => ?_)
  · obtain ⟨p, a, ws, rfl, _⟩ := h
    rfl
  · obtain ⟨p, a, ws, rfl, hpa, hpot, ha, hw, hl24, q⟩ := h
    have nd := scWord.nd
    have hu := hr.units
    refine @ex_13 _ _ _ _ nd rfl (Or.inl rfl) (Or.inl rfl) ?_
    refine ⟨_, (pss_cons (ps_set (i := 3) nd rfl (Or.inl rfl) (pe_callD DT GT hr (pa_cons (pv 0) (pa_cons pe_int pa_nil))))
      (pss_cons (ps_set (i := 4) nd rfl (Or.inl rfl) (pe_ix ix_tup (pv 2) (pe_callD DT GT hr (pa_cons (pv 0) (pa_cons pe_int pa_nil))) (fun _ _ => rfl)))
      (pss_cut (ps_if (pt_cmpR op_eq (pv 3) pe_int (nomark _)) (pss_one (ps_set (i := 4) nd rfl (Or.inl rfl) (pe_callD DL GL hr (pa_cons (pe_callD DT GT hr (pa_cons (pv 0) (pa_cons (pe_op op_sub (pe_op op_pow pe_int pe_int) pe_int) pa_nil))) pa_nil)))) pss_nil)
      (pss_cut (ps_if (pw_and (pt_cmpR op_eq (pv 3) pe_int (nomark _)) (pw_and1 (pt_cmpR (op_neD hu) (pv 1) (pe_lst pa_nil) (nomark _)))).pt
        (pss_cons (ps_set (i := 4) nd rfl (Or.inl rfl) (pe_ix ix_list (pv 1) (pe_callD DT GT hr (pa_cons (pv 0) (pa_cons (pe_callB call_len (by rfl) len PySem.boot_len (pa_cons (pv 1) pa_nil)) pa_nil))) (fun _ _ => rfl)))
        (pss_one (ps_set (i := 4) nd rfl (Or.inl rfl) (pe_slice sl_str (pe_op op_add_str (pv 4) (pe_callD DL GL hr (pa_cons (pe_callD DT GT hr (pa_cons (pv 0) (pa_cons pe_int pa_nil))) pa_nil))) po_none (po_some pe_int))))) pss_nil)
      (pss_cut (ps_if (pw_and (pt_cmpR op_eq (pv 3) pe_int (nomark _)) (pw_and1 (pt_cmpR (op_neD hu) (pv 1) (pe_lst pa_nil) (nomark _)))).pt
        (pss_cons (ps_set (i := 4) nd rfl (Or.inl rfl) (pe_ix ix_list (pv 1) (pe_callD DT GT hr (pa_cons (pv 0) (pa_cons (pe_callB call_len (by rfl) len PySem.boot_len (pa_cons (pv 1) pa_nil)) pa_nil))) (fun _ _ => rfl)))
        (pss_one (ps_set (i := 4) nd rfl (Or.inl rfl) (pe_slice sl_str (pv 4) po_none (po_some (pe_op op_add pe_int (pe_callD DT GT hr (pa_cons (pv 0) (pa_cons (pe_callB call_len (by rfl) len PySem.boot_len (pa_cons (pv 4) pa_nil)) pa_nil))))))))) pss_nil)
      (pss_cons (ps_set (i := 5) nd rfl (Or.inl rfl) pe_int)
      (pss_cons (ps_while PassesOwn.never (pt_cmpR op_in_seq (pv 4) (pv 1) (by with_unfolding_all rfl))
        (pss_cons (ps_set (i := 4) nd rfl (Or.inl rfl) (pe_callD DL GL hr (pa_cons (pv 5) pa_nil)))
        (pss_one (ps_set (i := 5) nd rfl (Or.inl rfl) (pe_op op_add (pv 5) pe_int)))))
      (pss_one (ps_ret (pv 4)))))))))), ?_⟩
    have hap : a ≠ p := Ne.symm hpa
    obtain ⟨o0, hp0, ho0⟩ := hpot
    have wl : ∀ {H' : Hp}, Drawn p H H' → SqL K H' a (ws.map V.str) := fun d => SqL.of (d.keep _ _ hap ha)
    -- some = (..); way; word = some[..]
    refine ⟨small_line (by show 13 ≤ 100000; decide), fun t ht => ?_⟩
    have d1 : Drawn p H (upd H t (.tup (some13.map V.str))) := (Drawn.refl ⟨o0, hp0, ho0⟩).new ht
    have tp : t ≠ p := fun e => by rw [e, hp0] at ht; cases ht
    refine ⟨_, rfl, p, 4, o0, rfl, (by rw [upd_ne (Ne.symm tp)]; exact hp0), ho0, by decide, by decide, fun way o1 hw0 hw1 ho1 => ?_⟩
    refine ⟨_, rfl, _, rfl, p, 13, o1, rfl, upd_same, ho1, by decide, by decide, fun v o2 hv0 hv1 ho2 => ?_⟩
    obtain ⟨x0, hx0, hat⟩ := at_strs (ws := some13) hv0 (by show v < 13; exact hv1)
    refine ⟨t, some13.map V.str, _, _, rfl, rfl, SqT.of (by rw [upd_ne tp, upd_ne tp]; exact upd_same), hat, ?_⟩
    have w0 : isWord x0 = true := List.all_eq_true.mp some13_ok x0 hx0
    have d3 : Drawn p H (upd (upd (upd H t (.tup (some13.map V.str))) p o1) p o2) := (d1.trans (Drawn.upd ho1)).trans (Drawn.upd ho2)
    -- the three ways
    refine ⟨fun σ' H' => ∃ x : Str, σ' = [some (.ref p), some (.ref a), some (.ref t), some (.int way), some (.str x), none] ∧ isWord x = true ∧ Drawn p H H', ?_, ?_⟩
    · refine ⟨_, rfl, rfl, _, rfl, ?_⟩
      refine ite2 (fun _ => ?_) (fun _ => ?_)
      · obtain ⟨o3, hp3, ho3⟩ := d3.pot
        refine ⟨_, rfl, _, _, rfl, rfl, ⟨by decide, by decide, by decide +kernel⟩, _, _, rfl, rfl, p, _, o3, rfl, hp3, ho3, by decide, by decide, fun v o4 hv0 hv1 ho4 => ?_⟩
        have hv1 : v < 208827064550 := hv1
        refine ⟨v.toNat, by rw [Int.toNat_of_nonneg hv0]; rfl, by omega, _, rfl, lettersS_word (by omega), d3.trans (Drawn.upd ho4)⟩
      · exact ⟨x0, rfl, w0, d3⟩
    · rintro σ' H1 ⟨x1, rfl, w1, d4⟩
      refine ⟨fun σ' H' => ∃ x : Str, σ' = [some (.ref p), some (.ref a), some (.ref t), some (.int way), some (.str x), none] ∧ isWord x = true ∧ Drawn p H H', ?_, ?_⟩
      · refine ⟨_, rfl, rfl, _, rfl, ?_⟩
        refine ite2 (fun _ => ?_) (fun _ => iteF ⟨x1, rfl, w1, d4⟩)
        refine ⟨_, rfl, Nat.zero_le _, fun t2 ht2 => ⟨.list (ws.map PySem.W.Dat.str), .list [], .list ((wl d4).mono_new ht2) (reps_strs ws), .list (SqL.of upd_same) .nil, ok_dat hw.word, rfl, _, rfl, ?_⟩⟩
        have d5 : Drawn p H (upd H1 t2 (.lst [])) := d4.new ht2
        refine ite2 (fun hne => ?_) (fun _ => ⟨x1, rfl, w1, d5⟩)
        have hne : ws ≠ [] := (ne_nil_dat ws).mp hne
        have hpos : 0 < ws.length := List.length_pos_iff.mpr hne
        obtain ⟨o5, hp5, ho5⟩ := d5.pot
        refine ⟨_, rfl, _, rfl, _, rfl, _, _, rfl, .inl ⟨_, wl d5, rfl⟩, p, _, o5, rfl, hp5, ho5, by rw [List.length_map]; omega, by rw [List.length_map]; omega, fun v o6 hv0 hv1 ho6 => ?_⟩
        rw [List.length_map] at hv1
        obtain ⟨x2, hx2, hat2⟩ := at_strs (ws := ws) hv0 hv1
        have d6 : Drawn p H (upd (upd H1 t2 (.lst [])) p o6) := d5.trans (Drawn.upd ho6)
        have w2 : isWord x2 = true := hw.word x2 hx2
        refine ⟨a, ws.map V.str, _, _, rfl, rfl, wl d6, hat2, ?_⟩
        refine ⟨_, rfl, _, rfl, p, 26, o6, rfl, upd_same, ho6, by decide, by decide, fun v o7 hv0 hv1 ho7 => ?_⟩
        refine ⟨v.toNat, by rw [Int.toNat_of_nonneg hv0]; rfl, by omega, ?_⟩
        have wl3 : isWord (lettersS v.toNat) = true := lettersS_word (by omega)
        have l2 := word_len w2
        have l3 := word_len wl3
        refine ⟨_, _, rfl, rfl, small_line (by omega), _, rfl, _, rfl, small_line (by rw [len_app]; omega), ?_⟩
        refine ⟨_, rfl, ?_, d6.trans (Drawn.upd ho7)⟩
        refine prefix_word (x := x2 ++ lettersS v.toNat) (n := 8) (by decide) (slice_take _ 8 (by decide)) (by rw [len_app]; omega) (.inr (Nat.le_refl _)) fun c hc => ?_
        rw [app_list] at hc
        rcases List.mem_append.mp hc with hc | hc
        · exact ((isWord_iff x2).mp w2).2 c hc
        · exact ((isWord_iff _).mp wl3).2 c hc
      · rintro σ' H2 ⟨x2, rfl, w2, d5⟩
        refine ⟨fun σ' H' => ∃ x : Str, σ' = [some (.ref p), some (.ref a), some (.ref t), some (.int way), some (.str x), none] ∧ isWord x = true ∧ Drawn p H H', ?_, ?_⟩
        · refine ⟨_, rfl, rfl, _, rfl, ?_⟩
          refine ite2 (fun _ => ?_) (fun _ => iteF ⟨x2, rfl, w2, d5⟩)
          refine ⟨_, rfl, Nat.zero_le _, fun t2 ht2 => ⟨.list (ws.map PySem.W.Dat.str), .list [], .list ((wl d5).mono_new ht2) (reps_strs ws), .list (SqL.of upd_same) .nil, ok_dat hw.word, rfl, _, rfl, ?_⟩⟩
          have d6 : Drawn p H (upd H2 t2 (.lst [])) := d5.new ht2
          refine ite2 (fun hne => ?_) (fun _ => ⟨x2, rfl, w2, d6⟩)
          have hne : ws ≠ [] := (ne_nil_dat ws).mp hne
          have hpos : 0 < ws.length := List.length_pos_iff.mpr hne
          obtain ⟨o6, hp6, ho6⟩ := d6.pot
          refine ⟨_, rfl, _, rfl, _, rfl, _, _, rfl, .inl ⟨_, wl d6, rfl⟩, p, _, o6, rfl, hp6, ho6, by rw [List.length_map]; omega, by rw [List.length_map]; omega, fun v o7 hv0 hv1 ho7 => ?_⟩
          rw [List.length_map] at hv1
          obtain ⟨x3, hx3, hat3⟩ := at_strs (ws := ws) hv0 hv1
          have d7 : Drawn p H (upd (upd H2 t2 (.lst [])) p o7) := d6.trans (Drawn.upd ho7)
          have w3 : isWord x3 = true := hw.word x3 hx3
          have l3 := word_len w3
          refine ⟨a, ws.map V.str, _, _, rfl, rfl, wl d7, hat3, ?_⟩
          refine ⟨_, rfl, _, rfl, _, rfl, _, _, rfl, ⟨small_line (by omega), rfl⟩, p, _, o7, rfl, upd_same, ho7, by omega, by omega, fun v o8 hv0 hv1 ho8 => ?_⟩
          refine ⟨_, _, rfl, rfl, _, rfl, _, rfl, small_line (by omega), ?_⟩
          refine ⟨_, rfl, ?_, d7.trans (Drawn.upd ho8)⟩
          exact prefix_word (x := x3) (n := (1 + v).toNat) (by omega) (slice_take _ (1 + v) (by omega)) (by omega) (.inl (by omega)) ((isWord_iff x3).mp w3).2
        · rintro σ' H3 ⟨x3, rfl, w3, d6⟩
          -- while word in words
          refine ⟨fun m σ H' => ∃ (x : Str) (n : Nat), σ = [some (.ref p), some (.ref a), some (.ref t), some (.int way), some (.str x), some (.int n)] ∧ isWord x = true ∧ Drawn p H H' ∧ m = ws.length + 1 - n ∧ n ≤ ws.length + 1 ∧
            (n = 0 ∨ x = lettersS (n - 1)) ∧ ∀ j, j + 1 < n → lettersS j ∈ ws, ⟨_, x3, 0, rfl, w3, d6, rfl, by omega, .inl rfl, fun j hj => by omega⟩, ?_⟩
          rintro m σ H4 ⟨x, n, rfl, wx, dx, rfl, hn, hxn, hall⟩
          refine ⟨_, rfl, _, rfl, a, _, rfl, .inl (wl dx), rfl, flat_strs ws, _, rfl, ?_⟩
          show if inV (.str x) (ws.map V.str) = true then _ else _
          rw [in_strs]
          refine ite2 (fun hin => ?_) (fun hin => ?_)
          · have hin : x ∈ ws := of_decide_eq_true hin
            have all : ∀ j, j < n → lettersS j ∈ ws := fun j hj => by
              by_cases z : j + 1 < n
              · exact hall j z
              · rcases hxn with e | e
                · omega
                · have : j = n - 1 := by omega
                  rw [this, ← e]; exact hin
            have hle : n ≤ ws.length := by
              have := Graph.nodup_le (l := (List.range n).map lettersS) (k := ws) ?_ ?_
              · simpa using this
              · rw [List.nodup_iff_pairwise_ne, List.pairwise_map]
                exact (List.nodup_iff_pairwise_ne.mp List.nodup_range).imp fun h e => h (lettersS_inj e)
              · intro y hy
                obtain ⟨j, hj, e⟩ := List.mem_map.mp hy
                rw [← e]
                exact all j (List.mem_range.mp hj)
            refine ⟨fun σ' H' => σ' = [some (.ref p), some (.ref a), some (.ref t), some (.int way), some (.str (lettersS n)), some (.int ((n : Int) + 1))] ∧ H' = H4, ?_, ?_⟩
            · rintro σ' H' ⟨rfl, rfl⟩
              exact ⟨ws.length + 1 - (n + 1), by omega, lettersS n, n + 1, rfl, lettersS_word (by omega), dx, rfl, by omega, .inr rfl, fun j hj => all j (by omega)⟩
            · exact ⟨_, rfl, n, rfl, by omega, _, rfl, _, _, rfl, rfl, rfl, rfl⟩
          · have hin : x ∉ ws := fun z => hin (decide_eq_true z)
            exact ⟨_, rfl, q x H4 dx wx hin⟩
theorem scWords : FnScope ["pot", "many", "words", "k"] ["pot", "many"] (defScope s__law_words) := ⟨rfl, rfl, rfl, by decide +kernel, rfl, by decide +kernel, by decide +kernel⟩
theorem ok_words {f fW fT fL : Addr} {fd fdW fdT fdL : FuncData} (F : Def K mg "_law_words" s__law_words ["pot", "many"] f fd) (DW : Def K mg "_law_word" s__law_word ["pot", "words"] fW fdW) (DT : Def K mg "_law_take" s__law_take ["pot", "many"] fT fdT) (DL : Def K mg "_law_letters" s__law_letters ["number"] fL fdL) (len : mg "len" = none) (range : mg "range" = none) :
    FnOk P w K mg base CX0 3 f fd ["pot", "many"] spWords := by
  have GW : FnOk P w K mg base CX0 2 fW fdW ["pot", "words"] spWord := ok_word DW DT DL len
  refine F.fn.ok scWords (fun vs H Q E h => ?_) (fun cdv A outer s H vs Q E hr h => ?_)
  · obtain ⟨p, m, rfl, _⟩ := h
    rfl
  · obtain ⟨p, m, rfl, ⟨o0, hp0, ho0⟩, hm, q⟩ := h
    have nd := scWords.nd
    refine ⟨_, pss_cons (ps_set (i := 2) nd rfl (Or.inl rfl) (pe_lst pa_nil))
      (pss_cons (ps_for PassesOwn.never rfl (pi_range1 rfl range (pa_cons (pv 1) pa_nil)) (pg_name (i := 3) nd rfl (Or.inl rfl))
        (pss_one (ps_expr (pe_bm PySem.F.plainAttrs_list PySem.F.slot_list_append PySem.F.type_list_append mt_append (pv 2) (pa_cons (pe_callD DW GW hr (pa_cons (pv 0) (pa_cons (pv 2) pa_nil))) pa_nil)))))
      (pss_one (ps_ret (pv 2)))), ?_⟩
    refine ⟨Nat.zero_le _, fun l hl => ?_⟩
    have lp : p ≠ l := ne_of_none hp0 hl
    refine ⟨_, rfl, m, rfl, by omega, by omega, for_runs runs_range (fun i σ H' => ∃ (ws : List Str) (kv : Option V), σ = [some (.ref p), some (.int m), some (.ref l), kv] ∧ Drawn p H H' ∧ H' l = some (.lst (ws.map V.str)) ∧ WordsOk ws ∧ ws.length = i)
      ⟨[], none, rfl, (Drawn.refl ⟨o0, hp0, ho0⟩).new hl, upd_same, ⟨(fun _ h => nomatch h), List.nodup_nil⟩, rfl⟩ (fun _ _ _ _ _ => trivial) ?_ ?_⟩
    · rintro i v σ H' hi ⟨ws, kv, rfl, d, hw, ok, rfl⟩
      obtain ⟨hi, rfl⟩ := rangeV_get hi
      refine ⟨_, rfl, .inl ⟨rfl, _, SqL.of hw⟩, _, rfl, _, rfl, p, l, ws, rfl, lp, d.pot, hw, ok, by omega, fun x H2 d2 wx nx => ?_⟩
      have hw2 : H2 l = some (.lst (ws.map V.str)) := d2.keep _ _ (Ne.symm lp) hw
      refine ⟨l, _, _, rfl, rfl, hw2, small_lt (by rw [List.length_map]; omega), ?_⟩
      refine ⟨ws ++ [x], _, rfl, ?_, by rw [upd_same, List.map_append]; rfl, ⟨fun y hy => ?_, ?_⟩, by simp⟩
      · refine (d.trans d2).sub (q := l) (o' := .lst []) (fun b o hb e => by rw [upd_ne hb]; exact e) hl lp
      · rcases List.mem_append.mp hy with hy | hy
        · exact ok.word y hy
        · rw [List.mem_singleton.mp hy]; exact wx
      · rw [List.nodup_append]
        exact ⟨ok.nd, by simp, fun a ha b hb e => nx (by rw [← List.mem_singleton.mp hb, ← e]; exact ha)⟩
    · rintro σ H' ⟨ws, kv, rfl, d, hw, ok, hlen⟩
      rw [rangeV_len] at hlen
      exact ⟨_, rfl, q l ws H' d hl hw ok (by simpa using hlen)⟩
end
end K06

set_option Elab.async false
set_option linter.all false
set_option maxRecDepth 100000
set_option maxHeartbeats 4000000
namespace K06
open PySem L2 Md
def intsV (js : List Nat) : List V := js.map fun (j : Nat) => V.int (j : Int)
/-- the places of the ups of the kind at place k -/
structure UpsOk (k : Nat) (js : List Nat) : Prop where
  below : ∀ j ∈ js, j < k
  nd : js.Nodup
  few : js.length ≤ 8
def spUps : Sp := fun vs H Q _ => ∃ (p : Addr) (k sh : Nat), vs = [.ref p, .int k, .int sh] ∧ (∃ o, H p = some o ∧ PotO o) ∧ k ≤ 24 ∧
  ∀ l (js : List Nat) H', Drawn p H H' → H' l = some (.lst (intsV js)) → UpsOk k js → Q (.ref l) H'
section
variable {P : Program} {w : World} {K : PySem.W.Frag} {mg : Str → Option Value} {base : Heap}
structure TxtU (mg : Str → Option Value) : Prop where
  range : mg "range" = none
  int : mg "int" = none
theorem scUps : FnScope ["pot", "k", "shape", "one", "other", "bits"] ["pot", "k", "shape"] (defScope s__law_ups) := ⟨rfl, rfl, rfl, by decide +kernel, rfl, by decide +kernel, by decide +kernel⟩
abbrev nUps : List Str := ["pot", "k", "shape", "one", "other", "bits"]
theorem nd_j : (["j"] : List Str).Nodup := by decide +kernel
theorem nd_jb : (["j", "bits"] : List Str).Nodup := by decide +kernel
def okJ (v : V) : Bool := match v with | .int i => decide (0 ≤ i) | _ => false
def eight : List V := [.int 1, .int 2, .int 4, .int 8, .int 16, .int 32, .int 64, .int 128]
def bitV (bits : Int) (v : V) : Bool := match v with
  | .int j => decide (j < 8) && (match atI eight j with | some (.int e) => decide (bits / e % 2 = 1) | _ => false)
  | _ => false
theorem eight_at {j : Int} (h0 : 0 ≤ j) (h1 : j < 8) : ∃ e : Int, atI eight j = some (.int e) ∧ 0 < e ∧ e < 1000 := by
  have : ∀ i : _root_.Fin 8, ∃ e : Int, atI eight (i.1 : Int) = some (.int e) ∧ 0 < e ∧ e < 1000 := by
    intro i
    match i with
    | ⟨0, _⟩ => exact ⟨1, rfl, by decide, by decide⟩
    | ⟨1, _⟩ => exact ⟨2, rfl, by decide, by decide⟩
    | ⟨2, _⟩ => exact ⟨4, rfl, by decide, by decide⟩
    | ⟨3, _⟩ => exact ⟨8, rfl, by decide, by decide⟩
    | ⟨4, _⟩ => exact ⟨16, rfl, by decide, by decide⟩
    | ⟨5, _⟩ => exact ⟨32, rfl, by decide, by decide⟩
    | ⟨6, _⟩ => exact ⟨64, rfl, by decide, by decide⟩
    | ⟨7, _⟩ => exact ⟨128, rfl, by decide, by decide⟩
  have q := this ⟨j.toNat, by omega⟩
  rwa [Int.toNat_of_nonneg h0] at q
theorem filt_range (k : Nat) (p : V → Bool) : ∃ js : List Nat, (rangeV 0 k).filter p = intsV js ∧ (∀ j ∈ js, j < k ∧ p (.int (j : Int)) = true) ∧ js.Nodup := by
  refine ⟨(List.range k).filter fun j => p (.int (j : Int)), ?_, fun j hj => ?_, List.nodup_range.filter _⟩
  · unfold rangeV intsV
    rw [List.filter_map]
    have e : ((fun (j : Nat) => V.int (0 + (j : Int)))) = fun (j : Nat) => V.int (j : Int) := by
      funext j
      rw [Int.zero_add]
    rw [e]
    rfl
  · obtain ⟨h1, h2⟩ := List.mem_filter.mp hj
    exact ⟨List.mem_range.mp h1, h2⟩
theorem paired_self : ∀ {xs ys : List V}, Paired (fun x v => v = x) xs ys → ys = xs
  | _, _, .nil => rfl
  | _, _, .cons h t => by rw [h, paired_self t]
theorem ok_ups {f fT : Addr} {fd fdT : FuncData} (F : Def K mg "_law_ups" s__law_ups ["pot", "k", "shape"] f fd) (DT : Def K mg "_law_take" s__law_take ["pot", "many"] fT fdT) (T : TxtU mg) : FnOk P w K mg base CX0 2 f fd ["pot", "k", "shape"] spUps := by
  have GT : FnOk P w K mg base CX0 1 fT fdT ["pot", "many"] spTake := ok_take DT
  refine F.fn.ok scUps (fun vs H Q E h => ?_) (fun cdv A outer s H vs Q E hr h => ?_)
  · obtain ⟨p, k, sh, rfl, _⟩ := h
    rfl
  · obtain ⟨p, k, sh, rfl, ⟨o0, hp0, ho0⟩, hk, q⟩ := h
    have nd := scUps.nd
    refine ⟨_, pss_cons (ps_if (pt_cmpR op_eq (pv 1) pe_int (nomark _)) (pss_one (ps_ret (pe_lst pa_nil))) pss_nil)
      (pss_cons (ps_set (i := 3) nd rfl (Or.inl rfl) (pe_callD DT GT hr (pa_cons (pv 0) (pa_cons (pv 1) pa_nil))))
      (pss_cons (ps_set (i := 4) nd rfl (Or.inl rfl) (pe_callD DT GT hr (pa_cons (pv 0) (pa_cons (pv 1) pa_nil))))
      (pss_cons (ps_if (pt_cmpR op_eq (pv 2) pe_int (nomark _)) (pss_one (ps_ret (pe_lst (pa_cons (pv 3) pa_nil)))) pss_nil)
      (pss_cons (ps_if (pt_cmpR op_eq (pv 2) pe_int (nomark _)) (pss_one (ps_ret (pe_slice sl_list
          (pe_comp ["j"] [] [] (fun _ => compT_ok (osc := defScope s__law_ups) (on := nUps) (by decide +kernel) rfl rfl rfl) (pi_tup (pe_tup (pa_cons (pv 3) (pa_cons (pv 4) pa_nil)))) (fun C s H fp => pg_name (i := 0) nd_j rfl (Or.inl rfl) (Or.inr rfl)) (fun C s H fp => pts_nil) (fun C s H fp => pv 0))
          po_none (po_some (pe_op op_add pe_int (pe_callTy call_int1 (by rfl) T.int PyProof.Rows.boot_int (pa_cons (pe_cmpR op_ne (pv 3) (pv 4) (nomark _)) pa_nil))))))) pss_nil)
      (pss_cons (ps_if (pt_cmpR op_eq (pv 2) pe_int (nomark _)) (pss_one (ps_ret
          (pe_comp ["j"] [] [] (fun _ => compT_ok (osc := defScope s__law_ups) (on := nUps) (by decide +kernel) rfl rfl rfl) (pi_tup (pe_tup (pa_cons (pe_op op_sub (pe_op op_sub (pv 1) pe_int) (pe_op op_mod (pv 1) pe_int)) (pa_cons (pe_op op_sub (pe_op op_sub (pv 1) pe_int) (pe_op op_mod (pv 1) pe_int)) pa_nil)))) (fun C s H fp => pg_name (i := 0) nd_j rfl (Or.inl rfl) (Or.inr rfl))
            (fun C s H fp => pts_one (pt_cmpR op_ge (pv 0) pe_int (nomark _))) (fun C s H fp => pv 0)))) pss_nil)
      (pss_cons (ps_if (pt_cmpR op_eq (pv 2) pe_int (nomark _)) (pss_one (ps_ret (pe_lst (pa_cons (pe_op op_sub (pv 1) pe_int) pa_nil)))) pss_nil)
      (pss_cons (ps_set (i := 5) nd rfl (Or.inr rfl) (pe_callD DT GT hr (pa_cons (pv 0) (pa_cons pe_int pa_nil))))
      (pss_one (ps_ret (pe_comp ["j"] ["bits"] [5] (fun _ => compT_ok (osc := defScope s__law_ups) (on := nUps) (by decide +kernel) rfl rfl rfl) (pi_range1 rfl T.range (pa_cons (pv 1) pa_nil)) (fun C s H fp => pg_name (i := 0) nd_jb rfl (Or.inl rfl) (Or.inr rfl))
        (fun C s H fp => pts_one (PW.pt (pw_and (pt_cmpR op_lt (pv 0) pe_int (nomark _)) (pw_and1 (pt_cmpR op_eq (pe_op op_mod (pe_op op_fdiv (pv 1) (pe_ix (r := rIxT K) ix_tup (pe_tup (pa_cons pe_int (pa_cons pe_int (pa_cons pe_int (pa_cons pe_int (pa_cons pe_int (pa_cons pe_int (pa_cons pe_int (pa_cons pe_int pa_nil))))))))) (pv 0) (fun _ _ => rfl))) pe_int) pe_int (nomark _)))))) (fun C s H fp => pv 0))))))))))), ?_⟩
    have dr : Drawn p H H := Drawn.refl ⟨o0, hp0, ho0⟩
    refine ⟨_, rfl, rfl, _, rfl, ?_⟩
    refine ite2 (fun h0 => ?_) (fun h0 => ?_)
    · exact ⟨Nat.zero_le _, fun l hl => q l [] _ (dr.new hl) upd_same ⟨(fun _ h => nomatch h), List.nodup_nil, Nat.zero_le _⟩⟩
    have hk0 : 0 < k := by
      refine Nat.pos_of_ne_zero fun z => h0 (decide_eq_true ?_)
      rw [z]
      rfl
    refine ⟨_, rfl, _, rfl, p, k, o0, rfl, hp0, ho0, by omega, by omega, fun one o1 h10 h11 ho1 => ?_⟩
    refine ⟨_, rfl, _, rfl, p, k, o1, rfl, upd_same, ho1, by omega, by omega, fun oth o2 h20 h21 ho2 => ?_⟩
    rw [upd_upd]
    have d2 : Drawn p H (upd H p o2) := Drawn.upd ho2
    refine ⟨_, rfl, rfl, _, rfl, ?_⟩
    refine ite2 (fun _ => ?_) (fun _ => ?_)
    · refine ⟨_, rfl, small_line (by show 1 ≤ 100000; decide), fun l hl => q l [one.toNat] _ (d2.new hl) ?_ ⟨fun j hj => ?_, by simp, by simp⟩⟩
      · rw [upd_same]
        show some (HO.lst [V.int one]) = some (HO.lst [V.int ((one.toNat : Nat) : Int)])
        rw [Int.toNat_of_nonneg h10]
      · rw [List.mem_singleton.mp hj]; omega
    refine ⟨_, rfl, rfl, _, rfl, ?_⟩
    refine ite2 (fun _ => ?_) (fun _ => ?_)
    · -- [j for j in (one, other)][:1 + int(one != other)]
      refine ⟨_, rfl, _, rfl, small_line (by show 2 ≤ 100000; decide), fun t ht => ⟨t, rfl, ⟨_, SqT.of upd_same⟩, comp_pure (runs_tup (xs := [V.int one, V.int oth])) (small_line (by show 2 ≤ 100000; decide)) (fun _ => true) (fun v => v) (fun D ys hD => SqT.of (by rw [upd_ne (ne_of_none upd_same hD)]; exact upd_same)) ?_ ?_ ?_⟩⟩
      · intro D ys x R _ _ hR
        exact hR
      · intro D ys x R _ _ _ hR
        exact ⟨_, rfl, hR⟩
      · intro D hD
        have e2 : ([V.int one, V.int oth].filter fun _ => true).map (fun v => v) = [V.int one, V.int oth] := rfl
        rw [e2]
        have d4 : Drawn p H (upd (upd (upd H p o2) t (.tup [V.int one, V.int oth])) D (.lst [V.int one, V.int oth])) := (d2.new ht).new hD
        refine ⟨_, rfl, _, rfl, rfl, .inr ⟨_, rfl, _, _, rfl, rfl, _, rfl, D, _, rfl, SqL.of upd_same, fun l hl => ?_⟩⟩
        by_cases he : one = oth
        · have e3 : (!decide (V.int one = V.int oth)) = false := by rw [he]; simp
          rw [e3]
          refine q l [one.toNat] _ (d4.new hl) ?_ ⟨fun j hj => by rw [List.mem_singleton.mp hj]; omega, by simp, by simp⟩
          rw [upd_same]
          show some (HO.lst [V.int one]) = some (HO.lst [V.int ((one.toNat : Nat) : Int)])
          rw [Int.toNat_of_nonneg h10]
        · have e3 : (!decide (V.int one = V.int oth)) = true := by
            rw [decide_eq_false (fun z => he (by injection z))]
            rfl
          rw [e3]
          refine q l [one.toNat, oth.toNat] _ (d4.new hl) ?_ ⟨fun j hj => ?_, ?_, by simp⟩
          · rw [upd_same]
            show some (HO.lst [V.int one, V.int oth]) = some (HO.lst [V.int ((one.toNat : Nat) : Int), V.int ((oth.toNat : Nat) : Int)])
            rw [Int.toNat_of_nonneg h10, Int.toNat_of_nonneg h20]
          · rcases List.mem_cons.mp hj with e | e
            · rw [e]; omega
            · rw [List.mem_singleton.mp e]; omega
          · refine List.nodup_cons.mpr ⟨fun z => he ?_, by simp⟩
            have := List.mem_singleton.mp z
            omega
    refine ⟨_, rfl, rfl, _, rfl, ?_⟩
    refine ite2 (fun _ => ?_) (fun _ => ?_)
    · -- diamonds
      have hm0 := Int.emod_nonneg (k : Int) (b := 2) (by decide)
      have hm1 := Int.emod_lt_of_pos (k : Int) (b := 2) (by decide)
      refine ⟨_, rfl, _, _, rfl, rfl, _, rfl, _, _, rfl, rfl, (by show (0 : Int) < 2; decide), _, _, rfl, rfl, _, rfl, _, _, rfl, rfl, _, rfl, _, _, rfl, rfl, (by show (0 : Int) < 2; decide), _, _, rfl, rfl, small_line (by show 2 ≤ 100000; decide), fun t ht => ⟨t, rfl, ⟨_, SqT.of upd_same⟩,
        comp_pure (runs_tup (xs := [V.int ((k : Int) - 2 - (k : Int) % 2), V.int ((k : Int) - 1 - (k : Int) % 2)])) (small_line (by show 2 ≤ 100000; decide)) okJ (fun v => v) (fun D ys hD => SqT.of (by rw [upd_ne (ne_of_none upd_same hD)]; exact upd_same)) ?_ ?_ ?_⟩⟩
      · intro D ys x R _ hx hR
        obtain ⟨i, rfl⟩ : ∃ i, x = V.int i := by
          rcases List.mem_cons.mp hx with e | e
          · exact ⟨_, e⟩
          · exact ⟨_, List.mem_singleton.mp e⟩
        exact ⟨_, rfl, _, _, rfl, rfl, _, rfl, hR⟩
      · intro D ys x R _ _ _ hR
        exact ⟨_, rfl, hR⟩
      · intro D hD
        have d4 := (d2.new (o := .tup [V.int ((k : Int) - 2 - (k : Int) % 2), V.int ((k : Int) - 1 - (k : Int) % 2)]) ht).new (o := .lst (([V.int ((k : Int) - 2 - (k : Int) % 2), V.int ((k : Int) - 1 - (k : Int) % 2)].filter okJ).map fun v => v)) hD
        by_cases h2 : 2 ≤ (k : Int) - (k : Int) % 2
        · refine q D [((k : Int) - 2 - (k : Int) % 2).toNat, ((k : Int) - 1 - (k : Int) % 2).toNat] _ d4 ?_ ⟨fun j hj => ?_, ?_, by simp⟩
          · rw [upd_same]
            have a1 : okJ (V.int ((k : Int) - 2 - (k : Int) % 2)) = true := decide_eq_true (by omega)
            have a2 : okJ (V.int ((k : Int) - 1 - (k : Int) % 2)) = true := decide_eq_true (by omega)
            rw [List.filter_cons, a1, if_pos rfl, List.filter_cons, a2, if_pos rfl]
            show some (HO.lst [V.int _, V.int _]) = some (HO.lst [V.int ((Int.toNat _ : Nat) : Int), V.int ((Int.toNat _ : Nat) : Int)])
            rw [Int.toNat_of_nonneg (by omega), Int.toNat_of_nonneg (by omega)]
          · rcases List.mem_cons.mp hj with e | e
            · rw [e]; omega
            · rw [List.mem_singleton.mp e]; omega
          · refine List.nodup_cons.mpr ⟨fun z => ?_, by simp⟩
            have := List.mem_singleton.mp z
            omega
        · refine q D [] _ d4 ?_ ⟨(fun _ h => nomatch h), List.nodup_nil, Nat.zero_le _⟩
          rw [upd_same]
          have a1 : okJ (V.int ((k : Int) - 2 - (k : Int) % 2)) = false := decide_eq_false (by omega)
          have a2 : okJ (V.int ((k : Int) - 1 - (k : Int) % 2)) = false := decide_eq_false (by omega)
          rw [List.filter_cons, a1, if_neg Bool.false_ne_true, List.filter_cons, a2, if_neg Bool.false_ne_true]
          rfl
    refine ⟨_, rfl, rfl, _, rfl, ?_⟩
    refine ite2 (fun _ => ?_) (fun _ => ?_)
    · refine ⟨_, rfl, _, _, rfl, rfl, small_line (by show 1 ≤ 100000; decide), fun l hl => q l [k - 1] _ (d2.new hl) ?_ ⟨fun j hj => ?_, by simp, by simp⟩⟩
      · rw [upd_same]
        show some (HO.lst [V.int ((k : Int) - 1)]) = some (HO.lst [V.int ((k - 1 : Nat) : Int)])
        have : ((k - 1 : Nat) : Int) = (k : Int) - 1 := by omega
        rw [this]
      · rw [List.mem_singleton.mp hj]; omega
    -- bits
    refine ⟨_, rfl, p, 256, o2, rfl, upd_same, ho2, by decide, by decide, fun bits o3 hb0 hb1 ho3 => ?_⟩
    rw [upd_upd]
    have d3 : Drawn p H (upd H p o3) := Drawn.upd ho3
    refine ⟨_, rfl, (k : Int), rfl, by omega, by omega, ?_⟩
    rw [show ((k : Int)).toNat = k from rfl]
    refine comp_rel runs_range (small_line (by rw [rangeV_len]; omega)) (bitV bits) (fun _ x v _ => v = x) (fun _ _ _ _ _ _ h => h) (fun _ _ => trivial) ?_ ?_ ?_
    · intro x H2 R hs hx hR
      obtain ⟨i, hi⟩ := List.mem_iff_getElem?.mp hx
      obtain ⟨hik, rfl⟩ := rangeV_get hi
      refine ⟨_, rfl, _, _, rfl, rfl, _, rfl, ?_⟩
      refine ite2 (fun h8 => ?_) (fun h8 => ?_)
      · have h8 : (0 : Int) + (i : Int) < 8 := of_decide_eq_true h8
        obtain ⟨e, he, he0, he1⟩ := eight_at (j := (0 : Int) + (i : Int)) (by omega) h8
        refine ⟨_, rfl, small_line (by show 8 ≤ 100000; decide), fun t ht => ⟨_, rfl, t, eight, _, _, rfl, rfl, SqT.of upd_same, he, _, _, rfl, rfl, ⟨he0, by omega⟩, _, _, rfl, rfl, (by show (0 : Int) < 2; decide), rfl, _, rfl, ?_⟩⟩
        have e1 : bitV bits (V.int (0 + (i : Int))) = decide (V.int (bits / e % 2) = V.int 1) := by
          show (decide ((0 : Int) + (i : Int) < 8) && (match atI eight (0 + (i : Int)) with | some (.int e) => decide (bits / e % 2 = 1) | _ => false)) = _
          rw [he, decide_eq_true h8, Bool.true_and]
          show decide (bits / e % 2 = 1) = _
          rw [decide_eq_decide]
          constructor
          · intro z; rw [z]
          · intro z; injection z
        have := hR (upd H2 t (.tup eight)) fun b o e => by rw [upd_ne (ne_of_none e ht)]; exact e
        rw [e1] at this
        exact this
      · have h8 : ¬ ((0 : Int) + (i : Int) < 8) := fun z => h8 (decide_eq_true z)
        have e1 : bitV bits (V.int (0 + (i : Int))) = false := by
          show (decide ((0 : Int) + (i : Int) < 8) && _) = false
          rw [decide_eq_false h8, Bool.false_and]
        have := hR H2 (Same.refl _)
        rw [e1] at this
        exact this
    · intro D x H2 R hs _ _ hx _ hR
      exact ⟨_, rfl, hR x H2 (Same.refl _) rfl⟩
    · intro D H2 ys hD hs hl hp
      have e := paired_self hp
      subst e
      obtain ⟨js, e, hj, hnd⟩ := filt_range k (bitV bits)
      refine q D js H2 (d3.same hs) (by rw [hl, e]) ⟨fun j h => (hj j h).1, hnd, ?_⟩
      have := Graph.nodup_le (l := js) (k := List.range 8) hnd fun j h => by
        have h2 : (decide ((j : Int) < 8) && _) = true := (hj j h).2
        have h3 := (Bool.and_eq_true _ _ ▸ h2 : _ ∧ _).1
        have h4 : (j : Int) < 8 := of_decide_eq_true h3
        exact List.mem_range.mpr (by omega)
      simpa using this
end
end K06

set_option Elab.async false
set_option linter.all false
set_option maxRecDepth 100000
set_option maxHeartbeats 4000000
namespace K06
open PySem L2 Md
def spRows : Sp := fun vs H Q _ => ∃ (p : Addr) (m : Nat), vs = [.ref p, .int m] ∧ (∃ o, H p = some o ∧ PotO o) ∧ 1 ≤ m ∧ m ≤ 24 ∧
  ∀ l (rows : List (Str × List Str)) H', Drawn p H H' → H l = none → RowsAt H' l rows → Good rows → Q (.ref l) H'
/-- the same, and how many there are at most -/
def spRowsL : Sp := fun vs H Q _ => ∃ (p : Addr) (m : Nat), vs = [.ref p, .int m] ∧ (∃ o, H p = some o ∧ PotO o) ∧ 1 ≤ m ∧ m ≤ 24 ∧
  ∀ l (rows : List (Str × List Str)) H', Drawn p H H' → H l = none → RowsAt H' l rows → Good rows → rows.length ≤ m → Q (.ref l) H'
def wAt (ws : List Str) : V → V
  | .int j => .str (ws.getD j.toNat "")
  | _ => .non
theorem wAt_ints (ws : List Str) (js : List Nat) : (intsV js).map (wAt ws) = (js.map fun i => ws.getD i "").map V.str := by
  unfold intsV
  rw [List.map_map, List.map_map]
  rfl
theorem at_word {ws : List Str} {j : Nat} (h : j < ws.length) : atI (ws.map V.str) (j : Int) = some (.str (ws.getD j "")) := by
  have e : (ws.map V.str)[j]? = some (V.str (ws.getD j "")) := by
    rw [List.getElem?_map, List.getD_eq_getElem?_getD, List.getElem?_eq_getElem h]
    rfl
  exact atI_nat e
theorem intsV_range (m : Nat) : rangeV 0 m = intsV (List.range m) := by
  unfold rangeV intsV
  refine List.map_congr_left fun j _ => ?_
  rw [Int.zero_add]
theorem all_true {α : Type} (l : List α) : l.filter (fun _ => true) = l := List.filter_eq_self.mpr fun _ _ => rfl
def UpV (ws : List Str) (H : Hp) (js : List Nat) (v : V) : Prop := ∃ t, v = .ref t ∧ H t = some (.tup ((js.map fun i => ws.getD i "").map V.str))
theorem UpV.mono {ws : List Str} {H H' : Hp} {js : List Nat} {v : V} (h : UpV ws H js v) (k : ∀ b xs, H b = some (.tup xs) → H' b = some (.tup xs)) : UpV ws H' js v := by
  obtain ⟨t, e, h⟩ := h
  exact ⟨t, e, k _ _ h⟩
theorem paired_get {α β : Type} {F : α → β → Prop} : ∀ {l : List α} {k : List β}, Paired F l k → ∀ {i : Nat} {a : α}, l[i]? = some a → ∃ b, k[i]? = some b ∧ F a b
  | _, _, .nil, i, a, h => by simp at h
  | _, _, .cons r t, 0, a, h => by simp at h; subst h; exact ⟨_, rfl, r⟩
  | _, _, .cons r t, i + 1, a, h => by
    obtain ⟨b, h1, h2⟩ := paired_get t (i := i) (a := a) (by simpa using h)
    exact ⟨b, by simpa using h1, h2⟩
theorem keepD_of {H : Hp} {D b : Addr} {o u : HO} (hD : H D = none) (e : H b = some o) : (upd H D u) b = some o := by rw [upd_ne (ne_of_none e hD)]; exact e
theorem paired_rows {ws : List Str} {uf : List (List Nat)} {D : Addr} {H : Hp} : ∀ {os : List Nat} {ys : List V},
    Paired (fun x v => ∃ (j : Nat) (t u : Addr), x = V.int (j : Int) ∧ v = .ref t ∧ t ≠ D ∧ u ≠ D ∧ H t = some (.tup [.str (ws.getD j ""), .ref u]) ∧ H u = some (.tup (((uf.getD j []).map fun i => ws.getD i "").map V.str))) (intsV os) ys → Paired (RowV H) (rowsOf ws uf os) ys
  | [], _, h => by cases h; exact .nil
  | j :: os, _, h => by
    cases h with
    | cons r t =>
      obtain ⟨i, a, u, e, rfl, _, _, h3, h4⟩ := r
      have e' : (j : Int) = (i : Int) := by injection e
      have e'' : j = i := by omega
      subst e''
      exact .cons ⟨a, u, rfl, h3, h4⟩ (paired_rows t)
/-- behind i turns -/
structure Grown (p lw lo lu : Addr) (ws : List Str) (H H' : Hp) (i : Nat) (os : List Nat) (uf : List (List Nat)) (us : List V) : Prop where
  d : Drawn p H H'
  w : H' lw = some (.lst (ws.map V.str))
  o : H' lo = some (.lst (intsV os))
  u : H' lu = some (.lst us)
  pu : Paired (UpV ws H') uf us
  ul : uf.length = i
  uok : ∀ (k : Nat) (js : List Nat), uf[k]? = some js → UpsOk k js
  on : os.Nodup
  om : ∀ j, j ∈ os ↔ j < i
  ol : os.length = i
theorem nd_jw : (["j", "words"] : List Str).Nodup := by decide +kernel
theorem nd_kwu : (["k", "words", "ups"] : List Str).Nodup := by decide +kernel
structure TxtR (mg : Str → Option Value) : Prop where
  range : mg "range" = none
  int : mg "int" = none
  len : mg "len" = none
  tuple : mg "tuple" = none
  list : mg "list" = none
section
variable {P : Program} {w : World} {K : PySem.W.Frag} {mg : Str → Option Value} {base : Heap}
abbrev nRows : List Str := ["pot", "most", "many", "words", "shape", "order", "ups", "k"]
theorem scRows : FnScope nRows ["pot", "most"] (defScope s__law_rows) := ⟨rfl, rfl, rfl, by decide +kernel, rfl, by decide +kernel, by decide +kernel⟩
theorem ok_rowsL {f fT fU fWs fW fL : Addr} {fd fdT fdU fdWs fdW fdL : FuncData} (F : Def K mg "_law_rows" s__law_rows ["pot", "most"] f fd) (DT : Def K mg "_law_take" s__law_take ["pot", "many"] fT fdT) (DU : Def K mg "_law_ups" s__law_ups ["pot", "k", "shape"] fU fdU)
    (DWs : Def K mg "_law_words" s__law_words ["pot", "many"] fWs fdWs) (DW : Def K mg "_law_word" s__law_word ["pot", "words"] fW fdW) (DL : Def K mg "_law_letters" s__law_letters ["number"] fL fdL) (T : TxtR mg) : FnOk P w K mg base CX0 4 f fd ["pot", "most"] spRowsL := by
  have GT : FnOk P w K mg base CX0 1 fT fdT ["pot", "many"] spTake := ok_take DT
  have GU : FnOk P w K mg base CX0 2 fU fdU ["pot", "k", "shape"] spUps := ok_ups DU DT ⟨T.range, T.int⟩
  have GW : FnOk P w K mg base CX0 3 fWs fdWs ["pot", "many"] spWords := ok_words DWs DW DT DL T.len T.range
  refine F.fn.ok scRows (fun vs H Q E h => ?_) (fun cdv A outer s H vs Q E hr h => ?_)
  · obtain ⟨p, m, rfl, _⟩ := h
    rfl
  · obtain ⟨p, most, rfl, ⟨o0, hp0, ho0⟩, hm1, hm24, q⟩ := h
    have nd := scRows.nd
    have hr1 : Room 1 _ := hr.mono (by decide)
    have hr2 : Room 2 _ := hr.mono (by decide)
    refine ⟨_, pss_cons (ps_set (i := 2) nd rfl (Or.inl rfl) (pe_op op_add pe_int (pe_callD DT GT hr1 (pa_cons (pv 0) (pa_cons (pv 1) pa_nil)))))
      (pss_cons (ps_set (i := 3) nd rfl (Or.inr rfl) (pe_callD DWs GW hr (pa_cons (pv 0) (pa_cons (pv 2) pa_nil))))
      (pss_cons (ps_set (i := 4) nd rfl (Or.inl rfl) (pe_callD DT GT hr1 (pa_cons (pv 0) (pa_cons pe_int pa_nil))))
      (pss_cons (ps_set (i := 5) nd rfl (Or.inl rfl) (pe_lst pa_nil))
      (pss_cons (ps_set (i := 6) nd rfl (Or.inr rfl) (pe_lst pa_nil))
      (pss_cons (ps_for PassesOwn.never rfl (pi_range1 (by rfl) T.range (pa_cons (pv 2) pa_nil)) (pg_name (i := 7) nd rfl (Or.inl rfl))
        (pss_cons (ps_expr (pe_bm PySem.F.plainAttrs_list PySem.F.slot_list_append PySem.F.type_list_append mt_append (pv 6) (pa_cons (pe_callTy call_tuple_of (by rfl) T.tuple PyProof.Rows.boot_tuple (pa_cons
          (pe_comp ["j"] ["words"] [3] (fun _ => compT_ok (osc := defScope s__law_rows) (on := nRows) (by decide +kernel) rfl rfl rfl) (pi_list (pe_callD DU GU hr2 (pa_cons (pv 0) (pa_cons (pv 7) (pa_cons (pv 4) pa_nil))))) (fun C s H fp => pg_name (i := 0) nd_jw rfl (Or.inl rfl) (Or.inr rfl)) (fun C s H fp => pts_nil)
            (fun C s H fp => pe_ix (r := rIxL K) ix_list (pv 1) (pv 0) (fun _ _ => rfl))) pa_nil)) pa_nil)))
        (pss_one (ps_expr (pe_bm PySem.F.plainAttrs_list PySem.F.slot_list_insert PySem.F.type_list_insert mt_insert (pv 5) (pa_cons (pe_callD DT GT hr1 (pa_cons (pv 0) (pa_cons (pe_op op_add (pv 7) pe_int) pa_nil))) (pa_cons (pv 7) pa_nil)))))))
      (pss_cut (ps_if (pt_cmpR op_eq (pe_callD DT GT hr1 (pa_cons (pv 0) (pa_cons pe_int pa_nil))) pe_int (nomark _)) (pss_one (ps_set (i := 5) nd rfl (Or.inl rfl) (pe_listRange rfl (pv 2) (by rfl) T.list (by rfl) T.range))) pss_nil)
      (pss_one (ps_ret (pe_comp ["k"] ["words", "ups"] [3, 6] (fun _ => compT_ok (osc := defScope s__law_rows) (on := nRows) (by decide +kernel) rfl rfl rfl) (pi_list (pv 5)) (fun C s H fp => pg_name (i := 0) nd_kwu rfl (Or.inl rfl) (Or.inr rfl)) (fun C s H fp => pts_nil)
        (fun C s H fp => pe_tup (pa_cons (pe_ix (r := rIxL K) ix_list (pv 1) (pv 0) (fun _ _ => rfl)) (pa_cons (pe_ix (r := rIxL K) ix_list (pv 2) (pv 0) (fun _ _ => rfl)) pa_nil)))))))))))), ?_⟩
    -- many, words, shape
    refine ⟨_, rfl, _, rfl, p, most, o0, rfl, hp0, ho0, by omega, by omega, fun v o1 hv0 hv1 ho1 => ⟨_, _, rfl, rfl, ?_⟩⟩
    have hv : (1 : Int) + v = ((1 + v.toNat : Nat) : Int) := by omega
    have d1 : Drawn p H (upd H p o1) := Drawn.upd ho1
    refine ⟨_, rfl, _, rfl, p, 1 + v.toNat, (by show [V.ref p, V.int (1 + v)] = [V.ref p, V.int ((1 + v.toNat : Nat) : Int)]; rw [← hv]), d1.pot, by omega, fun lw ws H2 d2 hlw hw ok hwl => ?_⟩
    have hlw0 : H lw = none := by
      cases e : H lw with
      | none => rfl
      | some o =>
        by_cases z : lw = p
        · rw [z] at hlw
          rw [upd_same] at hlw
          cases hlw
        · rw [d1.keep lw o z e] at hlw
          cases hlw
    have d12 := d1.trans d2
    obtain ⟨o2, hp2, ho2⟩ := d2.pot
    have pw : p ≠ lw := ne_of hp2 hw (by
      obtain ⟨r, b, e, _⟩ := ho2
      rw [e]
      intro z
      injection z with z
      have z2 := congrArg (fun l => l[0]?) z
      cases ws with
      | nil => simp at z2
      | cons x r => simp at z2)
    refine ⟨_, rfl, p, 5, o2, rfl, hp2, ho2, by decide, by decide, fun sh o3 hs0 hs1 ho3 => ?_⟩
    have d3 : Drawn p H (upd H2 p o3) := d12.trans (Drawn.upd ho3)
    -- order, ups
    refine ⟨Nat.zero_le _, fun lo hlo => ⟨Nat.zero_le _, fun lu hlu => ?_⟩⟩
    have d5 : Drawn p H (upd (upd (upd H2 p o3) lo (.lst [])) lu (.lst [])) := (d3.new hlo).new hlu
    have w5 : (upd (upd (upd H2 p o3) lo (.lst [])) lu (.lst [])) lw = some (.lst (ws.map V.str)) := by
      have a1 : (upd H2 p o3) lw = some (.lst (ws.map V.str)) := by rw [upd_ne (Ne.symm pw)]; exact hw
      have a2 : (upd (upd H2 p o3) lo (.lst [])) lw = some (.lst (ws.map V.str)) := by rw [upd_ne (ne_of_none a1 hlo)]; exact a1
      rw [upd_ne (ne_of_none a2 hlu)]; exact a2
    have o5 : (upd (upd (upd H2 p o3) lo (.lst [])) lu (.lst [])) lo = some (.lst (intsV [])) := by
      rw [upd_ne (ne_of_none upd_same hlu)]; exact upd_same
    have plo : p ≠ lo := ne_of_none (show (upd H2 p o3) p = some o3 from upd_same) hlo
    have plu : p ≠ lu := ne_of_none (show (upd (upd H2 p o3) lo (.lst [])) p = some o3 by rw [upd_ne plo]; exact upd_same) hlu
    have lou : lo ≠ lu := ne_of_none upd_same hlu
    have lwo : lw ≠ lo := fun z => by
      have a1 : (upd H2 p o3) lw = some (.lst (ws.map V.str)) := by rw [upd_ne (Ne.symm pw)]; exact hw
      rw [z, hlo] at a1; cases a1
    have lwu : lw ≠ lu := fun z => by
      have a1 : (upd H2 p o3) lw = some (.lst (ws.map V.str)) := by rw [upd_ne (Ne.symm pw)]; exact hw
      have a2 : (upd (upd H2 p o3) lo (.lst [])) lw = some (.lst (ws.map V.str)) := by rw [upd_ne lwo]; exact a1
      rw [z, hlu] at a2; cases a2
    have hloH : H lo = none := by
      cases e : H lo with
      | none => rfl
      | some o => rw [d3.keep lo o (Ne.symm plo) e] at hlo; cases hlo
    have hluH : H lu = none := by
      cases e : H lu with
      | none => rfl
      | some o => rw [(d3.new (o := .lst []) hlo).keep lu o (Ne.symm plu) e] at hlu; cases hlu
    refine ⟨_, rfl, (1 : Int) + v, rfl, by omega, by omega, ?_⟩
    have hmn : ((1 : Int) + v).toNat = ws.length := by omega
    rw [hmn]
    refine for_runs runs_range (fun i σ H' => ∃ (os : List Nat) (uf : List (List Nat)) (us : List V) (kv : Option V), σ = [some (.ref p), some (.int most), some (.int (1 + v)), some (.ref lw), some (.int sh), some (.ref lo), some (.ref lu), kv] ∧ Grown p lw lo lu ws H H' i os uf us)
      ⟨[], [], [], none, rfl, d5, w5, o5, upd_same, .nil, rfl, fun k js h => by simp at h, List.nodup_nil, fun j => by simp, rfl⟩ (fun _ _ _ _ _ => trivial) ?_ ?_
    · rintro i x σ H' hi ⟨os, uf, us, kv, rfl, g⟩
      obtain ⟨hi, rfl⟩ := rangeV_get hi
      have hul : us.length = i := by rw [← g.pu.length]; exact g.ul
      -- ups.append(tuple([..]))
      refine ⟨_, rfl, .inl ⟨rfl, _, SqL.of g.u⟩, _, rfl, _, rfl, _, rfl, p, i, sh.toNat, by rw [Int.zero_add, Int.toNat_of_nonneg hs0]; rfl, g.d.pot, by omega, fun l js H6 d6 hl uok => ⟨l, rfl, ⟨_, SqL.of hl⟩, ?_⟩⟩
      have w6 : H6 lw = some (.lst (ws.map V.str)) := d6.keep _ _ (Ne.symm pw) g.w
      refine comp_pure (runs_list (xs := intsV js)) (small_line (by unfold intsV; rw [List.length_map]; have := uok.few; omega)) (fun _ => true) (wAt ws) (fun D ys hD => SqL.of (by rw [upd_ne (ne_of_none hl hD)]; exact hl)) ?_ ?_ ?_
      · intro D ys y R _ _ hR
        exact hR
      · intro D ys y R hD hy _ hR
        obtain ⟨j, hj, rfl⟩ := List.mem_map.mp hy
        have hjl : j < ws.length := by have := uok.below j hj; omega
        exact ⟨_, rfl, _, rfl, lw, _, _, _, rfl, rfl, SqL.of (by rw [upd_ne (ne_of_none w6 hD)]; exact w6), at_word hjl, hR⟩
      · intro D hD
        rw [all_true, wAt_ints]
        refine ⟨D, _, rfl, .inl ⟨SqL.of upd_same, fun t ht => ?_⟩⟩
        have keepDt : ∀ b o, H6 b = some o → (upd (upd H6 D (.lst ((js.map fun i => ws.getD i "").map V.str))) t (.tup ((js.map fun i => ws.getD i "").map V.str))) b = some o := fun b o e => by
          have e1 : (upd H6 D (.lst ((js.map fun i => ws.getD i "").map V.str))) b = some o := by rw [upd_ne (ne_of_none e hD)]; exact e
          rw [upd_ne (ne_of_none e1 ht)]; exact e1
        have u6 : H6 lu = some (.lst us) := d6.keep _ _ (Ne.symm plu) g.u
        have o6 : H6 lo = some (.lst (intsV os)) := d6.keep _ _ (Ne.symm plo) g.o
        refine ⟨lu, us, _, rfl, rfl, keepDt _ _ u6, small_lt (by omega), ?_⟩
        obtain ⟨o7, hp7, ho7⟩ := d6.pot
        -- order.insert(.., k)
        refine ⟨_, rfl, .inl ⟨rfl, _, SqL.of (by rw [upd_ne lou]; exact keepDt _ _ o6)⟩, _, rfl, _, rfl, _, _, rfl, rfl, p, _, o7, rfl, (by rw [upd_ne plu]; exact keepDt _ _ hp7), ho7, by omega, by omega, fun at_ o8 ha0 ha1 ho8 => ?_⟩
        refine ⟨_, rfl, lo, intsV os, at_, _, rfl, rfl, (by rw [upd_ne (Ne.symm plo), upd_ne lou]; exact keepDt _ _ o6), ha0, (by unfold intsV; rw [List.length_map, g.ol]; omega), small_lt (by unfold intsV; rw [List.length_map, g.ol]; omega), ?_⟩
        -- the invariant again
        have tlu : t ≠ lu := fun z => by rw [z] at ht; rw [keepD_of hD u6] at ht; cases ht
        have tlo : t ≠ lo := fun z => by rw [z] at ht; rw [keepD_of hD o6] at ht; cases ht
        have tp : t ≠ p := fun z => by rw [z] at ht; rw [keepD_of hD hp7] at ht; cases ht
        have all : ∀ b o, b ≠ p → b ≠ lu → b ≠ lo → H6 b = some o → (upd (upd (upd (upd (upd H6 D (.lst ((js.map fun i => ws.getD i "").map V.str))) t (.tup ((js.map fun i => ws.getD i "").map V.str))) lu (.lst (us ++ [.ref t]))) p o8) lo (.lst ((intsV os).take at_.toNat ++ V.int (0 + (i : Int)) :: (intsV os).drop at_.toNat))) b = some o := fun b o h1 h2 h3 e => by
          rw [upd_ne h3, upd_ne h1, upd_ne h2]; exact keepDt _ _ e
        have tt : (upd (upd (upd (upd (upd H6 D (.lst ((js.map fun i => ws.getD i "").map V.str))) t (.tup ((js.map fun i => ws.getD i "").map V.str))) lu (.lst (us ++ [.ref t]))) p o8) lo (.lst ((intsV os).take at_.toNat ++ V.int (0 + (i : Int)) :: (intsV os).drop at_.toNat))) t = some (.tup ((js.map fun i => ws.getD i "").map V.str)) := by
          rw [upd_ne tlo, upd_ne tp, upd_ne tlu]; exact upd_same
        have tups : ∀ b xs, H' b = some (.tup xs) → (upd (upd (upd (upd (upd H6 D (.lst ((js.map fun i => ws.getD i "").map V.str))) t (.tup ((js.map fun i => ws.getD i "").map V.str))) lu (.lst (us ++ [.ref t]))) p o8) lo (.lst ((intsV os).take at_.toNat ++ V.int (0 + (i : Int)) :: (intsV os).drop at_.toNat))) b = some (.tup xs) := fun b xs e => by
          obtain ⟨oP, hP, r, b', eP, _⟩ := g.d.pot
          have bp : b ≠ p := fun z => by rw [z, hP, eP] at e; cases e
          have bu : b ≠ lu := fun z => by rw [z, g.u] at e; cases e
          have bo : b ≠ lo := fun z => by rw [z, g.o] at e; cases e
          exact all b _ bp bu bo (d6.keep b _ bp e)
        refine ⟨os.take at_.toNat ++ i :: os.drop at_.toNat, uf ++ [js], us ++ [.ref t], _, rfl, ?_⟩
        refine ⟨⟨fun b o hb e => ?_, ?_⟩, ?_, ?_, ?_, ?_, by rw [List.length_append, g.ul]; rfl, ?_, ?_, ?_, ?_⟩
        · have e6 := (g.d.trans d6).keep b o hb e
          exact all b o hb (fun z => by rw [z, hluH] at e; cases e) (fun z => by rw [z, hloH] at e; cases e) e6
        · exact ⟨o8, by rw [upd_ne plo]; exact upd_same, ho8⟩
        · exact all lw _ (Ne.symm pw) lwu lwo w6
        · rw [upd_same]
          unfold intsV
          rw [List.map_append, List.map_cons, List.map_take, List.map_drop, Int.zero_add]
        · rw [upd_ne (Ne.symm lou), upd_ne (Ne.symm plu)]; exact upd_same
        · exact Paired.snoc (Paired.mapP g.pu fun a b z => z.mono tups) ⟨t, rfl, tt⟩
        · intro k js' hk
          by_cases hki : k < uf.length
          · rw [List.getElem?_append_left hki] at hk
            exact g.uok k js' hk
          · rw [List.getElem?_append_right (by omega)] at hk
            have hk0 : k - uf.length = 0 := by
              have := (List.getElem?_eq_some_iff.mp hk).1
              simp at this
              omega
            rw [hk0] at hk
            have e : js = js' := by simpa using hk
            have e2 : k = i := by have := g.ul; omega
            rw [← e, e2]
            exact uok
        · have hperm : (os.take at_.toNat ++ i :: os.drop at_.toNat).Perm (i :: os) := by
            refine List.perm_middle.trans ?_
            rw [List.take_append_drop]
          exact hperm.nodup_iff.mpr (List.nodup_cons.mpr ⟨fun z => by have := (g.om i).mp z; omega, g.on⟩)
        · intro j
          have hperm : (os.take at_.toNat ++ i :: os.drop at_.toNat).Perm (i :: os) := by
            refine List.perm_middle.trans ?_
            rw [List.take_append_drop]
          rw [hperm.mem_iff, List.mem_cons, g.om]
          omega
        · have hperm : (os.take at_.toNat ++ i :: os.drop at_.toNat).Perm (i :: os) := by
            refine List.perm_middle.trans ?_
            rw [List.take_append_drop]
          rw [hperm.length_eq, List.length_cons, g.ol]
    · rintro σ H' ⟨os, uf, us, kv, rfl, g⟩
      rw [rangeV_len] at g
      -- order = list(range(many))
      refine ⟨fun σ' H2 => ∃ (lo' : Addr) (os' : List Nat) (kv : Option V), σ' = [some (.ref p), some (.int most), some (.int (1 + v)), some (.ref lw), some (.int sh), some (.ref lo'), some (.ref lu), kv] ∧ Drawn p H H2 ∧ H2 lw = some (.lst (ws.map V.str)) ∧ H2 lo' = some (.lst (intsV os')) ∧
        H2 lu = some (.lst us) ∧ Paired (UpV ws H2) uf us ∧ os'.Nodup ∧ (∀ j, j ∈ os' ↔ j < ws.length) ∧ os'.length = ws.length, ?_, ?_⟩
      · obtain ⟨oP, hP, hoP⟩ := g.d.pot
        refine ⟨_, rfl, p, 3, oP, rfl, hP, hoP, by decide, by decide, fun v3 o9 _ _ ho9 => ⟨rfl, _, rfl, ?_⟩⟩
        have d9 : Drawn p H (upd H' p o9) := g.d.trans (Drawn.upd ho9)
        have t9 : ∀ b xs, H' b = some (.tup xs) → (upd H' p o9) b = some (.tup xs) := fun b xs e => by
          obtain ⟨r, b', eP, _⟩ := hoP
          rw [upd_ne (fun z => by rw [z, hP, eP] at e; cases e)]; exact e
        refine ite2 (fun _ => ?_) (fun _ => ?_)
        · refine ⟨_, rfl, (1 : Int) + v, rfl, by omega, by omega, fun l hl => ?_⟩
          rw [hmn, intsV_range]
          have nn : ∀ {b : Addr} {o : HO}, (upd H' p o9) b = some o → (upd (upd H' p o9) l (.lst (intsV (List.range ws.length)))) b = some o := fun {b o} e => by rw [upd_ne (ne_of_none e hl)]; exact e
          exact ⟨l, List.range ws.length, _, rfl, d9.new hl, nn (by rw [upd_ne (Ne.symm pw)]; exact g.w), upd_same, nn (by rw [upd_ne (Ne.symm plu)]; exact g.u), Paired.mapP g.pu fun a b z => (z.mono t9).mono fun b xs e => nn e, List.nodup_range, fun j => List.mem_range, by simp⟩
        · exact ⟨lo, os, _, rfl, d9, by rw [upd_ne (Ne.symm pw)]; exact g.w, by rw [upd_ne (Ne.symm plo)]; exact g.o, by rw [upd_ne (Ne.symm plu)]; exact g.u, Paired.mapP g.pu fun a b z => z.mono t9, g.on, g.om, g.ol⟩
      · rintro σ' H2 ⟨lo', os', kv', rfl, dE, wE, oE, uE, pE, on, om, ol⟩
        -- return [(words[k], ups[k]) for k in order]
        refine ⟨_, rfl, lo', rfl, ⟨_, SqL.of oE⟩, ?_⟩
        refine comp_rel (runs_list (xs := intsV os')) (small_line (by unfold intsV; rw [List.length_map]; omega)) (fun _ => true)
          (fun D x v H => ∃ (j : Nat) (t u : Addr), x = .int (j : Int) ∧ v = .ref t ∧ t ≠ D ∧ u ≠ D ∧ H t = some (.tup [.str (ws.getD j ""), .ref u]) ∧ H u = some (.tup (((uf.getD j []).map fun i => ws.getD i "").map V.str))) ?_ ?_ ?_ ?_ ?_
        · rintro D x v H H'' hk ⟨j, t, u, e1, e2, h1, h2, h3, h4⟩
          exact ⟨j, t, u, e1, e2, h1, h2, hk _ _ h1 h3, hk _ _ h2 h4⟩
        · intro H3 hs
          exact hs.seq (SqL.of oE)
        · intro x H3 R hs hx hR
          exact hR H3 (Same.refl _)
        · intro D x H3 R hs ⟨ys, hD⟩ hD0 hx _ hR
          obtain ⟨j, hj, rfl⟩ := List.mem_map.mp hx
          have hjl : j < ws.length := (om j).mp hj
          have huj : uf[j]? = some (uf.getD j []) := by
            have : j < uf.length := by rw [g.ul]; exact hjl
            rw [List.getD_eq_getElem?_getD, List.getElem?_eq_getElem this]
            rfl
          obtain ⟨uv, hu1, t, rfl, hu2⟩ := paired_get pE huj
          have hu3 := hs _ _ hu2
          refine ⟨_, rfl, _, rfl, lw, _, _, _, rfl, rfl, SqL.of (hs _ _ wE), at_word hjl, _, rfl, _, rfl, lu, _, _, _, rfl, rfl, SqL.of (hs _ _ uE), atI_nat hu1, small_line (by show 2 ≤ 100000; decide), fun tn htn => ?_⟩
          have tD : tn ≠ D := fun z => by rw [z, hD] at htn; cases htn
          have uD : t ≠ D := fun z => by rw [z, hD] at hu3; cases hu3
          exact hR _ _ (fun b o e => by rw [upd_ne (ne_of_none e htn)]; exact e) ⟨j, tn, t, rfl, rfl, tD, uD, upd_same, by rw [upd_ne (ne_of_none hu3 htn)]; exact hu3⟩
        · intro D H3 ys hD hs hl hp
          rw [all_true] at hp
          have hDH : H D = none := by
            cases e : H D with
            | none => rfl
            | some o =>
              by_cases z : D = p
              · obtain ⟨oP, hP, _⟩ := dE.pot
                rw [z, hP] at hD; cases hD
              · rw [dE.keep D o z e] at hD; cases hD
          refine q D (rowsOf ws uf os') H3 (dE.same hs) hDH ⟨ys, hl, ?_⟩ (good_of (m := ws.length) (by omega) (by omega) ok.word ok.nd rfl (fun k js h => ⟨(g.uok k js h).below, (g.uok k js h).nd, (g.uok k js h).few⟩) g.ul on om ol) (by unfold rowsOf; rw [List.length_map]; omega)
          exact paired_rows hp
end
end K06

set_option Elab.async false
set_option linter.all false
set_option maxRecDepth 100000
set_option maxHeartbeats 4000000
namespace K06
open PySem L2 Md
def spIsWord : Sp := fun vs H Q _ => ∃ x : Str, vs = [.str x] ∧ x.length ≤ 1000 ∧ ∀ H', Same H H' → Q (.bl (isWord x)) H'
def spCheckRows (K : PySem.W.Frag) : Sp := fun vs H Q _ => ∃ (l : Addr) (rows : List (Str × List Str)), vs = [.ref l] ∧ RowsG K H l rows ∧ Good rows ∧ ∀ H', Same H H' → Q .non H'
/-- the frozen dict of the ups at d -/
structure BookD (H : Hp) (d : Addr) (o : Obj) (rows : List (Str × List Str)) (kvs : List (Key × V)) : Prop where
  at_ : H d = some (.frz o (.dK kvs))
  ups : UpsD H rows kvs
theorem BookD.mono {H H' : Hp} {d : Addr} {o : Obj} {rows : List (Str × List Str)} {kvs : List (Key × V)} (b : BookD H d o rows kvs) (s : Same H H') : BookD H' d o rows kvs := ⟨s _ _ b.at_, b.ups.mono fun _ _ e => s _ _ e⟩
def spCheckUps : Sp := fun vs H Q _ => ∃ (d : Addr) (o : Obj) (rows : List (Str × List Str)) (kvs : List (Key × V)), vs = [.ref d] ∧ BookD H d o rows kvs ∧ Good rows ∧ ∀ H', Same H H' → Q .non H'
def foundV (us left : List Str) : V := match us.find? (fun x => decide (x ∈ left)) with | some x => .str x | none => .non
def spFirst (K : PySem.W.Frag) : Sp := fun vs H Q _ => ∃ (a b : Addr) (us left : List Str), vs = [.ref a, .ref b] ∧ SqT K H a (us.map V.str) ∧ SqL K H b (left.map V.str) ∧ Q (foundV us left) H
def spEndless : Sp := fun vs H Q _ => ∃ (d : Addr) (o : Obj) (rows : List (Str × List Str)) (kvs : List (Key × V)), vs = [.ref d] ∧ BookD H d o rows kvs ∧ Good rows ∧ ∀ l H', Same H H' → H' l = some (.lst []) → Q (.ref l) H'
def spRing : Sp := fun vs H Q _ => ∃ (d : Addr) (o : Obj) (rows : List (Str × List Str)) (kvs : List (Key × V)), vs = [.ref d] ∧ BookD H d o rows kvs ∧ Good rows ∧ ∀ H', Same H H' → Q .non H'
structure TxtK (mg : Str → Option Value) : Prop where
  letters : ∃ t, mg "LETTERS" = some (.str letters t)
  most : ∃ t, mg "MOST_LETTERS" = some (.int 8 t)
  kinds : ∃ t, mg "MOST_KINDS" = some (.int 24 t)
  ups : ∃ t, mg "MOST_UPS" = some (.int 8 t)
  len : mg "len" = none
  all : mg "all" = none
  list : mg "list" = none
  tuple : mg "tuple" = none
section
variable {P : Program} {w : World} {K : PySem.W.Frag} {mg : Str → Option Value} {base : Heap}
theorem scW : FnScope ["text"] ["text"] (defScope s_is_word) := ⟨rfl, rfl, rfl, by decide +kernel, rfl, by decide +kernel, by decide +kernel⟩
theorem nd_sign : (["sign"] : List Str).Nodup := by decide +kernel
theorem ok_isword {f : Addr} {fd : FuncData} (F : Def K mg "is_word" s_is_word ["text"] f fd) (T : TxtK mg) : FnOk P w K mg base CX0 1 f fd ["text"] spIsWord := by
  refine F.fn.ok scW (fun vs H Q E h => ?_) (fun cdv A outer s H vs Q E hr h => ?_)
  · obtain ⟨x, rfl, _⟩ := h
    rfl
  · obtain ⟨x, rfl, hx, k⟩ := h
    obtain ⟨t1, hl⟩ := T.letters
    obtain ⟨t2, hm⟩ := T.most
    refine ⟨_, pss_cons (ps_if (pt_not (pt_chain op_le op_le pe_int (pe_callB call_len (by rfl) T.len PySem.boot_len (pa_cons (pv 0) pa_nil)) (pe_glob (v := .int 8) (by rfl) hm ⟨_, rfl⟩))) (pss_one (ps_ret pe_bl)) pss_nil)
      (pss_one (ps_ret (pe_callB (call_all rfl) (by rfl) T.all PyProof.Rows.boot_all (pa_cons
        (pe_comp ["sign"] [] [] (fun _ => compT_ok (osc := defScope s_is_word) (on := ["text"]) (by decide +kernel) rfl rfl rfl) (pi_str (pv 0)) (fun C s H fp => pg_name (i := 0) nd_sign rfl (Or.inl rfl) (Or.inr rfl)) (fun C s H fp => pts_nil)
          (fun C s H fp => pe_cmpR op_in_str (pv 0) (pe_glob (v := .str letters) (by rfl) hl ⟨_, rfl⟩) (by with_unfolding_all rfl))) pa_nil)))), ?_⟩
    refine ⟨_, rfl, _, _, rfl, ⟨small_line (by omega), rfl⟩, _, _, rfl, rfl, _, rfl, ?_⟩
    have no : ¬ (1 ≤ x.length ∧ x.length ≤ 8) → isWord x = false := fun h => by unfold isWord; rw [decide_eq_false h]; rfl
    have same : Same H H := Same.refl H
    refine ite2 (fun h1 => ?_) (fun h1 => ?_)
    · have h1 : (1 : Int) ≤ (x.length : Int) := of_decide_eq_true h1
      refine ⟨_, _, rfl, rfl, _, rfl, ?_⟩
      refine ite2 (fun h2 => ?_) (fun h2 => ?_)
      · have h2 : ¬ ((x.length : Int) ≤ 8) := by simpa using h2
        have q := k H same
        rw [no (by omega)] at q
        exact q
      · have h2 : ((x.length : Int) ≤ 8) := by simpa using h2
        refine ⟨_, rfl, _, rfl, comp_pure runs_str (by unfold signsV; rw [List.length_map, str_len]; exact small_line (by omega)) (fun _ => true) inLet (fun _ _ _ => trivial) ?_ ?_ ?_⟩
        · intro D ys v R _ _ hR
          exact hR
        · intro D ys v R _ hv _ hR
          obtain ⟨c, _, e⟩ := List.mem_map.mp hv
          subst e
          exact ⟨_, rfl, _, _, rfl, rfl, hR⟩
        · intro D hD
          refine ⟨D, x.cps.toList.map isLow, rfl, SqL.of (by rw [← signs_low]; exact upd_same), ?_⟩
          have e : (x.cps.toList.map isLow).all id = isWord x := by
            unfold isWord
            rw [decide_eq_true (by omega), Bool.true_and, List.all_map]
            rfl
          have q := k (upd H D (.lst (((signsV x).filter fun _ => true).map inLet))) fun b o hb => by rw [upd_ne (ne_of_none hb hD)]; exact hb
          rw [← e] at q
          exact q
    · have h1 : ¬ ((1 : Int) ≤ (x.length : Int)) := fun z => h1 (decide_eq_true z)
      refine ⟨_, rfl, ?_⟩
      refine iteT ?_
      have q := k H same
      rw [no (by omega)] at q
      exact q
theorem len_seq {b : Bool} {H : Hp} {a : Addr} {xs : List V} (h : SqB K b H a xs) : LenV K (.ref a) H xs.length := by
  cases b with
  | true => exact .inl ⟨xs, h, rfl⟩
  | false => exact .inr ⟨xs, h, rfl⟩
theorem scCR : FnScope ["rows", "seen", "word", "ups"] ["rows"] (defScope s_check_rows) := ⟨rfl, rfl, rfl, by decide +kernel, rfl, by decide +kernel, by decide +kernel⟩
theorem ok_check_rows {f fW : Addr} {fd fdW : FuncData} (F : Def K mg "check_rows" s_check_rows ["rows"] f fd) (DW : Def K mg "is_word" s_is_word ["text"] fW fdW) (T : TxtK mg) : FnOk P w K mg base CX0 2 f fd ["rows"] (spCheckRows K) := by
  have GW : FnOk P w K mg base CX0 1 fW fdW ["text"] spIsWord := ok_isword DW T
  refine F.fn.ok scCR (fun vs H Q E h => ?_) (fun cdv A outer s H vs Q E hr h => ?_)
  · obtain ⟨l, rows, rfl, _⟩ := h
    rfl
  · obtain ⟨l, rows, rfl, ⟨b, vs, hl, hp⟩, g, q⟩ := h
    obtain ⟨t1, hK⟩ := T.kinds
    obtain ⟨t2, hU⟩ := T.ups
    have nd := scCR.nd
    have hu := hu_of hr
    refine ⟨_, pss_cons (ps_if (pt_not (pt_chain op_le op_le pe_int (pe_callB call_len (by rfl) T.len PySem.boot_len (pa_cons (pv 0) pa_nil)) (pe_glob (v := .int 24) (by rfl) hK ⟨_, rfl⟩))) pss_never pss_nil)
      (pss_cons (ps_set (i := 1) nd rfl (Or.inl rfl) pe_dnewK)
      (pss_one (ps_for PassesOwn.never rfl (pi_seq (pv 0)) (pg_tup rfl (pgs_cons (pg_name (i := 2) nd rfl (Or.inl rfl)) (pgs_cons (pg_name (i := 3) nd rfl (Or.inl rfl)) pgs_nil)))
        (pss_cons (ps_if (pt_not (pt_val (pe_callD DW GW hr (pa_cons (pv 2) pa_nil)))) pss_never pss_nil)
        (pss_cons (ps_if (pt_cmp (pc_din hu (pv 2) (pv 1))) pss_never pss_nil)
        (pss_cons (ps_if (pt_cmpR op_gt (pe_callB call_len (by rfl) T.len PySem.boot_len (pa_cons (pv 3) pa_nil)) (pe_glob (v := .int 8) (by rfl) hU ⟨_, rfl⟩) (nomark _)) pss_never pss_nil)
        (pss_one (ps_dput hu (pv 1) (pv 2) pe_bl rfl)))))))), ?_⟩
    have hvl := hp.length
    have g1 := g.ne
    have g2 := g.le
    refine ⟨_, rfl, _, _, rfl, len_seq hl, _, _, rfl, rfl, _, rfl, ?_⟩
    rw [show decide ((1 : Int) ≤ (vs.length : Int)) = true from decide_eq_true (by omega)]
    refine iteT ⟨_, _, rfl, rfl, _, rfl, ?_⟩
    rw [show (decide ((vs.length : Int) ≤ 24)) = true from decide_eq_true (by omega)]
    refine iteF ?_
    intro d hd
    have s0 : Same H (upd H d (.dK [])) := fun b o e => by rw [upd_ne (ne_of_none e hd)]; exact e
    refine ⟨_, rfl, b, l, vs, rfl, hl.mono s0, for_runs runs_seq (fun i σ H' => ∃ (kvs : List (Key × V)) (a c : Option V), σ = [some (.ref l), some (.ref d), a, c] ∧ Same H H' ∧ H' d = some (.dK kvs) ∧ kvs.map (·.1) = (rows.take i).map fun r => (Sum.inr r.1 : Key))
      ⟨[], none, none, rfl, s0, upd_same, by simp⟩ (fun i σ H' _ ⟨_, _, _, _, s, _⟩ => hl.mono s) ?_ ?_⟩
    · rintro i v σ H' hi ⟨kvs, a, c, rfl, s, hdk, hk⟩
      obtain ⟨r, hr', t, u, rfl, ht, hug⟩ := paired_at hp hi
      obtain ⟨b', hu'⟩ := hug.sq
      have hmem : r ∈ rows := List.mem_of_getElem? hr'
      have hw := g.word r hmem
      have hwl := word_len hw
      refine ⟨t, _, rfl, s.tup ht, rfl, _, _, rfl, _, _, rfl, rfl, ?_⟩
      refine ⟨_, rfl, r.1, rfl, by omega, fun H2 s2 => ⟨_, rfl, ?_⟩⟩
      rw [hw]
      refine iteF ?_
      have hd2 : H2 d = some (.dK kvs) := s2 _ _ hdk
      refine ⟨_, rfl, _, rfl, d, _, rfl, DGet.k (k := Sum.inr r.1) hd2, _, rfl, ?_⟩
      have hnew : (Sum.inr r.1 : Key) ∉ kvs.map (·.1) := by rw [hk]; exact taken_not g.nd hr'
      rw [valV_none hnew]
      refine iteF ?_
      refine ⟨_, rfl, _, _, rfl, len_seq (hu'.mono (s.trans s2)), _, _, rfl, rfl, _, rfl, ?_⟩
      rw [show decide ((8 : Int) < ((r.2.map V.str).length : Int)) = false from decide_eq_false (by rw [List.length_map]; have := g.few r hmem; omega)]
      refine iteF ?_
      have hkl : kvs.length = (rows.take i).length := by have := congrArg List.length hk; simpa using this
      have hil : (rows.take i).length ≤ 24 := by rw [List.length_take]; omega
      refine ⟨_, rfl, _, rfl, d, _, rfl, DPut.k (k := Sum.inr r.1) hd2 (small_lt (by omega)), ?_⟩
      refine ⟨_, _, _, rfl, fun b o e => ?_, upd_same, ?_⟩
      · rw [upd_ne (ne_of_none e hd)]; exact s2 _ _ (s _ _ e)
      · rw [putK_keys hnew, hk, List.take_add_one, hr', List.map_append]
        rfl
    · rintro σ H' ⟨kvs, a, c, rfl, s, hdk, hk⟩
      exact q H' s
theorem scCU : FnScope ["ups_of", "ups", "seen", "up"] ["ups_of"] (defScope s_check_ups) := ⟨rfl, rfl, rfl, by decide +kernel, rfl, by decide +kernel, by decide +kernel⟩
theorem strs_at {us : List Str} {i : Nat} {v : V} (h : (us.map V.str)[i]? = some v) : ∃ x, us[i]? = some x ∧ v = .str x := by
  rw [List.getElem?_map] at h
  obtain ⟨x, hx, e⟩ := Option.map_eq_some_iff.mp h
  exact ⟨x, hx, e.symm⟩
theorem taken_str {us : List Str} {i : Nat} {x : Str} (nd : us.Nodup) (h : us[i]? = some x) : (Sum.inr x : Key) ∉ (us.take i).map fun y => (Sum.inr y : Key) := by
  intro m
  obtain ⟨y, hy, e⟩ := List.mem_map.mp m
  have e : y = x := by injection e
  subst e
  obtain ⟨j, hj, ej⟩ := List.mem_iff_getElem.mp hy
  rw [List.length_take] at hj
  rw [List.getElem_take] at ej
  have a : us[j]? = some y := by rw [List.getElem?_eq_getElem (by omega), ej]
  have := nodup_ix nd a h
  omega
theorem ok_check_ups {f : Addr} {fd : FuncData} (F : Def K mg "check_ups" s_check_ups ["ups_of"] f fd) : FnOk P w K mg base CX0 1 f fd ["ups_of"] spCheckUps := by
  refine F.fn.ok scCU (fun vs H Q E h => ?_) (fun cdv A outer s H vs Q E hr h => ?_)
  · obtain ⟨d, o, rows, kvs, rfl, _⟩ := h
    rfl
  · obtain ⟨d, o, rows, kvs, rfl, bk, g, q⟩ := h
    have nd := scCU.nd
    have hu := hu_of hr
    refine ⟨_, pss_one (ps_for PassesOwn.never rfl (pi_vals (pv 0)) (pg_name (i := 1) nd rfl (Or.inl rfl))
        (pss_cons (ps_set (i := 2) nd rfl (Or.inl rfl) pe_dnewK)
        (pss_one (ps_for PassesOwn.never rfl (pi_tup (pv 1)) (pg_name (i := 3) nd rfl (Or.inl rfl))
          (pss_cons (ps_if (pt_cmp (pc_dnotin hu (pv 3) (pv 0))) pss_never pss_nil)
          (pss_cons (ps_if (pt_cmp (pc_din hu (pv 3) (pv 2))) pss_never pss_nil)
          (pss_one (ps_dput hu (pv 2) (pv 3) pe_bl rfl)))))))), ?_⟩
    refine ⟨_, rfl, d, o, kvs, rfl, bk.at_, for_runs runs_vals (fun i σ H' => ∃ (a b c : Option V), σ = [some (.ref d), a, b, c] ∧ Same H H') ⟨none, none, none, rfl, Same.refl H⟩ (fun i σ H' _ ⟨_, _, _, _, s⟩ => s _ _ bk.at_) ?_ ?_⟩
    · rintro i v σ H' hi ⟨a, b, c, rfl, s⟩
      rw [List.getElem?_map] at hi
      obtain ⟨p, hp, e⟩ := Option.map_eq_some_iff.mp hi
      obtain ⟨r, hr', hk, t, ht, htup⟩ := paired_at bk.ups hp
      have hmem : r ∈ rows := List.mem_of_getElem? hr'
      subst e
      show gName 1 p.2 _ _ _
      rw [ht]
      intro sd hsd
      have s1 : Same H (upd H' sd (.dK [])) := fun b o e => by rw [upd_ne (ne_of_none (s _ _ e) hsd)]; exact s _ _ e
      have t1 : (upd H' sd (.dK [])) t = some (.tup (r.2.map V.str)) := s1 _ _ htup
      refine ⟨_, rfl, t, rfl, ⟨_, SqT.of t1⟩, for_runs (runs_tup (xs := r.2.map V.str)) (fun j σ H2 => ∃ (kvs' : List (Key × V)) (c : Option V), σ = [some (.ref d), some (.ref t), some (.ref sd), c] ∧ Same H H2 ∧ H2 sd = some (.dK kvs') ∧ kvs'.map (·.1) = (r.2.take j).map fun y => (Sum.inr y : Key))
        ⟨[], _, rfl, s1, upd_same, by simp⟩ (fun j σ H2 _ ⟨_, _, _, s, _⟩ => SqT.of (s _ _ htup)) ?_ ?_⟩
      · rintro j v σ H2 hj ⟨kvs', c, rfl, s2, hsd2, hk'⟩
        obtain ⟨x, hx, rfl⟩ := strs_at hj
        have xm : x ∈ r.2 := List.mem_of_getElem? hx
        have known := g.known r hmem x xm
        refine ⟨_, rfl, _, rfl, d, _, rfl, DGet.f (k := Sum.inr x) (s2 _ _ bk.at_), _, rfl, ?_⟩
        obtain ⟨r2, hr2, er2⟩ := List.mem_map.mp known
        obtain ⟨t2, hv2, _⟩ := bk.ups.val g.nd hr2
        rw [← er2, hv2, er2]
        refine iteF ?_
        have hnew : (Sum.inr x : Key) ∉ kvs'.map (·.1) := by rw [hk']; exact taken_str (g.upnd r hmem) hx
        refine ⟨_, rfl, _, rfl, sd, _, rfl, DGet.k (k := Sum.inr x) hsd2, _, rfl, ?_⟩
        rw [valV_none hnew]
        refine iteF ?_
        have hkl : kvs'.length = (r.2.take j).length := by have := congrArg List.length hk'; simpa using this
        have hjl : (r.2.take j).length ≤ 8 := by rw [List.length_take]; have := g.few r hmem; omega
        have hsH : H sd = none := s.free hsd
        refine ⟨_, rfl, _, rfl, sd, _, rfl, DPut.k (k := Sum.inr x) hsd2 (small_lt (by omega)), _, _, rfl, fun b o e => ?_, upd_same, ?_⟩
        · rw [upd_ne (ne_of_none e hsH)]; exact s2 _ _ e
        · rw [putK_keys hnew, hk', List.take_add_one, hx, List.map_append]
          rfl
      · rintro σ H2 ⟨kvs', c, rfl, s2, hsd2, hk'⟩
        exact ⟨_, _, _, rfl, s2⟩
    · rintro σ H' ⟨a, b, c, rfl, s⟩
      exact q H' s
theorem scFA : FnScope ["words", "others", "word"] ["words", "others"] (defScope s_first_among) := ⟨rfl, rfl, rfl, by decide +kernel, rfl, by decide +kernel, by decide +kernel⟩
theorem ok_first {f : Addr} {fd : FuncData} (F : Def K mg "first_among" s_first_among ["words", "others"] f fd) : FnOk P w K mg base CX0 1 f fd ["words", "others"] (spFirst K) := by
  refine F.fn.ok scFA (fun vs H Q E h => ?_) (fun cdv A outer s H vs Q E hr h => ?_)
  · obtain ⟨a, b, us, left, rfl, _⟩ := h
    rfl
  · obtain ⟨a, b, us, left, rfl, ha, hb, q⟩ := h
    have nd := scFA.nd
    refine ⟨_, pss_cons (ps_for PassesOwn.never rfl (pi_tup (pv 0)) (pg_name (i := 2) nd rfl (Or.inl rfl)) (pss_one (ps_if (pt_cmpR op_in_seq (pv 2) (pv 1) (by with_unfolding_all rfl)) (pss_one (ps_ret (pv 2))) pss_nil)))
      (pss_one (ps_ret pe_non)), ?_⟩
    refine ⟨_, rfl, a, rfl, ⟨_, ha⟩, for_runs (runs_tup (xs := us.map V.str)) (fun i σ H' => H' = H ∧ (∃ c : Option V, σ = [some (.ref a), some (.ref b), c]) ∧ (us.take i).find? (fun x => decide (x ∈ left)) = none) ⟨rfl, ⟨none, rfl⟩, by simp⟩ (fun i σ H' _ ⟨e, _⟩ => by rw [e]; exact ha) ?_ ?_⟩
    · rintro i v σ H' hi ⟨rfl, ⟨c, rfl⟩, hf⟩
      obtain ⟨x, hx, rfl⟩ := strs_at hi
      refine ⟨_, rfl, _, rfl, b, _, rfl, .inl hb, rfl, flat_strs left, _, rfl, ?_⟩
      show if inV (.str x) (left.map V.str) = true then _ else _
      rw [in_strs]
      have split : us = us.take i ++ x :: us.drop (i + 1) := by
        have hlt := (List.getElem?_eq_some_iff.mp hx).1
        have e : us[i] = x := (List.getElem?_eq_some_iff.mp hx).2
        rw [← e, List.getElem_cons_drop hlt, List.take_append_drop]
      refine ite2 (fun h => ?_) (fun h => ?_)
      · have fv : foundV us left = .str x := by
          unfold foundV
          rw [split, List.find?_append, hf, List.find?_cons]
          simp only [h]
          rfl
        rw [fv] at q
        exact ⟨_, rfl, q⟩
      · refine ⟨rfl, ⟨_, rfl⟩, ?_⟩
        rw [List.take_add_one, hx, List.find?_append, hf]
        have h' : decide (x ∈ left) = false := by simpa using h
        simp [h']
    · rintro σ H' ⟨rfl, ⟨c, rfl⟩, hf⟩
      rw [List.length_map, List.take_length] at hf
      have fv : foundV us left = .non := by unfold foundV; rw [hf]
      rw [fv] at q
      exact q
end
end K06

set_option Elab.async false
set_option linter.all false
set_option maxRecDepth 100000
set_option maxHeartbeats 4000000
namespace K06
open PySem L2 Md
def keptV (rows : List (Str × List Str)) (ls : List Str) : V → Bool
  | .str x => (upsOf rows x).any fun u => decide (u ∈ ls)
  | _ => false
theorem kept_map (rows : List (Str × List Str)) (ls : List Str) : ((ls.map V.str).filter (keptV rows ls)).map (fun v => v) = (Graph.kept (upsOf rows) ls).map V.str := by
  rw [List.map_id', List.filter_map]
  rfl
theorem found_is (us ls : List Str) : (!decide (foundV us ls = V.non)) = us.any fun u => decide (u ∈ ls) := by
  unfold foundV
  cases e : us.find? fun x => decide (x ∈ ls) with
  | none =>
    have : ∀ x ∈ us, ¬ decide (x ∈ ls) = true := List.find?_eq_none.mp e
    rw [Bool.eq_iff_iff]
    constructor
    · intro h; simp at h
    · intro h
      obtain ⟨x, hx, h1⟩ := List.any_eq_true.mp h
      exact absurd h1 (this x hx)
  | some x =>
    have h1 := List.find?_some e
    have h2 := List.mem_of_find?_eq_some e
    rw [Bool.eq_iff_iff]
    constructor
    · intro _; exact List.any_eq_true.mpr ⟨x, h2, h1⟩
    · intro _; rfl
section
variable {P : Program} {w : World} {K : PySem.W.Frag} {mg : Str → Option Value} {base : Heap}
abbrev nEnd : List Str := ["ups_of", "left", "kept"]
theorem scE : FnScope nEnd ["ups_of"] (defScope s_endless) := ⟨rfl, rfl, rfl, by decide +kernel, rfl, by decide +kernel, by decide +kernel⟩
theorem nd_wul : (["word", "ups_of", "left"] : List Str).Nodup := by decide +kernel
theorem word_row {rows : List (Str × List Str)} {x : Str} (h : x ∈ rows.map (·.1)) : ∃ r ∈ rows, r.1 = x := by
  obtain ⟨r, hr, e⟩ := List.mem_map.mp h
  exact ⟨r, hr, e⟩
theorem ok_endless {f fF : Addr} {fd fdF : FuncData} (F : Def K mg "endless" s_endless ["ups_of"] f fd) (DF : Def K mg "first_among" s_first_among ["words", "others"] fF fdF) (T : TxtK mg) : FnOk P w K mg base CX0 2 f fd ["ups_of"] spEndless := by
  have GF : FnOk P w K mg base CX0 1 fF fdF ["words", "others"] (spFirst K) := ok_first DF
  refine F.fn.ok scE (fun vs H Q E h => ?_) (fun cdv A outer s H vs Q E hr h => ?_)
  · obtain ⟨d, o, rows, kvs, rfl, _⟩ := h
    rfl
  · obtain ⟨d, o, rows, kvs, rfl, bk, g, q⟩ := h
    have nd := scE.nd
    have hu := hu_of hr
    refine ⟨_, pss_cons (ps_set (i := 1) nd rfl (Or.inr rfl) (pe_callTy (call_list_keys rfl) (by rfl) T.list PyProof.Rows.boot_list (pa_cons (pv 0) pa_nil)))
      (pss_one (ps_while PassesOwn.never (pt_val pe_bl)
        (pss_cons (ps_setComp (k := 2) ["word"] ["ups_of", "left"] [0, 1] nd rfl rfl (fun _ => compT_ok (osc := defScope s_endless) (on := nEnd) (by decide +kernel) rfl rfl rfl) (pi_list (pv 1)) (fun C s H fp => pg_name (i := 0) nd_wul rfl (Or.inl rfl) (Or.inr rfl))
          (fun C s H fp => pts_one (pt_cmp (pc_notN (pe_callD DF GF hr (pa_cons (pe_dget hu (pv 1) (pv 0) (fun _ _ => rfl)) (pa_cons (pv 2) pa_nil)))))) (fun C s H fp => pv 0))
        (pss_cons (ps_if (pt_cmpR op_eq (pe_callB call_len (by rfl) T.len PySem.boot_len (pa_cons (pv 2) pa_nil)) (pe_callB call_len (by rfl) T.len PySem.boot_len (pa_cons (pv 1) pa_nil)) (nomark _)) (pss_one (ps_ret (pv 2))) pss_nil)
        (pss_one (ps_set (i := 1) nd rfl (Or.inr rfl) (pv 2))))))), ?_⟩
    have wl : (rows.map (·.1)).length ≤ 24 := by rw [List.length_map]; exact g.le
    refine ⟨_, rfl, d, kvs, rfl, .inr ⟨o, bk.at_⟩, fun l0 hl0 => ?_⟩
    refine ⟨fun m σ H' => ∃ (ll : Addr) (ls : List Str) (c : Option V), σ = [some (.ref d), some (.ref ll), c] ∧ Same H H' ∧ H' ll = some (.lst (ls.map V.str)) ∧ (∀ x ∈ ls, x ∈ rows.map (·.1)) ∧ ls.length ≤ 24 ∧ m = ls.length,
      ⟨_, l0, rows.map (·.1), none, rfl, fun b o e => by rw [upd_ne (ne_of_none e hl0)]; exact e, by rw [upd_same, keysV bk.ups], fun x h => h, wl, rfl⟩, ?_⟩
    rintro m σ H' ⟨ll, ls, c, rfl, s1, hll, hsub, h24, rfl⟩
    refine ⟨true, rfl, ?_⟩
    refine iteT ⟨fun σ' H2 => ∃ m', m' < ls.length ∧ ∃ (ll : Addr) (ls : List Str) (c : Option V), σ' = [some (.ref d), some (.ref ll), c] ∧ Same H H2 ∧ H2 ll = some (.lst (ls.map V.str)) ∧ (∀ x ∈ ls, x ∈ rows.map (·.1)) ∧ ls.length ≤ 24 ∧ m' = ls.length, fun _ _ h => h, ?_⟩
    refine ⟨_, rfl, ll, rfl, ⟨_, SqL.of hll⟩, comp_pure (runs_list (xs := ls.map V.str)) (small_line (by rw [List.length_map]; omega)) (keptV rows ls) (fun v => v) (fun D ys hD => SqL.of (by rw [upd_ne (ne_of_none hll hD)]; exact hll)) ?_ ?_ ?_⟩
    · intro D ys v R hD hv hR
      obtain ⟨x, hx, rfl⟩ := List.mem_map.mp hv
      obtain ⟨r, hr', rfl⟩ := word_row (hsub x hx)
      obtain ⟨t, hvt, ht⟩ := bk.ups.val g.nd hr'
      have kp : ∀ b o, H b = some o → (upd H' D (.lst ys)) b = some o := fun b o e => by rw [upd_ne (ne_of_none (s1 _ _ e) hD)]; exact s1 _ _ e
      refine ⟨_, rfl, _, rfl, d, _, rfl, (by rw [← hvt]; exact DGet.f (k := Sum.inr r.1) (kp _ _ bk.at_)), _, rfl, t, ll, r.2, ls, rfl, SqT.of (kp _ _ ht), SqL.of (by rw [upd_ne (ne_of_none hll hD)]; exact hll), _, rfl, ?_⟩
      have e : (!decide (foundV r.2 ls = V.non)) = keptV rows ls (V.str r.1) := by
        rw [found_is]
        show _ = (upsOf rows r.1).any _
        rw [upsOf_at g.nd hr']
      rw [e]
      exact hR
    · intro D ys v R hD hv _ hR
      exact ⟨_, rfl, hR⟩
    · intro D hD
      rw [kept_map]
      have hDl : (upd H' D (.lst ((Graph.kept (upsOf rows) ls).map V.str))) ll = some (.lst (ls.map V.str)) := by rw [upd_ne (ne_of_none hll hD)]; exact hll
      have s2 : Same H (upd H' D (.lst ((Graph.kept (upsOf rows) ls).map V.str))) := fun b o e => by rw [upd_ne (ne_of_none (s1 _ _ e) hD)]; exact s1 _ _ e
      refine ⟨_, rfl, _, _, rfl, .inl ⟨_, SqL.of upd_same, rfl⟩, _, rfl, _, _, rfl, .inl ⟨_, SqL.of hDl, rfl⟩, rfl, _, rfl, ?_⟩
      have kle := Graph.kept_le (upsOf rows) ls
      refine ite2 (fun h => ?_) (fun h => ?_)
      · have h : (Graph.kept (upsOf rows) ls).length = ls.length := by
          have := of_decide_eq_true h
          injection this with this
          rw [List.length_map, List.length_map] at this
          omega
        obtain ⟨rk, hrk⟩ := g.rank
        have nil : ls = [] := Graph.kept_nil (rk := rk) (fun a ha b hb => by
          obtain ⟨r, hr', rfl⟩ := word_row (hsub a ha)
          rw [upsOf_at g.nd hr'] at hb
          exact hrk r hr' b hb) h
        have kn : Graph.kept (upsOf rows) ls = [] := by rw [nil]; rfl
        refine ⟨_, rfl, q D _ s2 ?_⟩
        rw [upd_same, kn]
        rfl
      · have h : (Graph.kept (upsOf rows) ls).length ≠ ls.length := fun z => h (decide_eq_true (by rw [List.length_map, List.length_map, z]))
        exact ⟨_, rfl, _, by omega, D, _, _, rfl, s2, upd_same, fun x hx => hsub x (Graph.kept_sub hx), by omega, rfl⟩
theorem scR : FnScope ["ups_of", "left", "way", "here"] ["ups_of"] (defScope s_find_ring) := ⟨rfl, rfl, rfl, by decide +kernel, rfl, by decide +kernel, by decide +kernel⟩
theorem ok_ring {f fE fF : Addr} {fd fdE fdF : FuncData} (F : Def K mg "find_ring" s_find_ring ["ups_of"] f fd) (DE : Def K mg "endless" s_endless ["ups_of"] fE fdE) (DF : Def K mg "first_among" s_first_among ["words", "others"] fF fdF) (T : TxtK mg) : FnOk P w K mg base CX0 3 f fd ["ups_of"] spRing := by
  have GE : FnOk P w K mg base CX0 2 fE fdE ["ups_of"] spEndless := ok_endless DE DF T
  refine F.fn.ok scR (fun vs H Q E h => ?_) (fun cdv A outer s H vs Q E hr h => ?_)
  · obtain ⟨d, o, rows, kvs, rfl, _⟩ := h
    rfl
  · obtain ⟨d, o, rows, kvs, rfl, bk, g, q⟩ := h
    have nd := scR.nd
    refine ⟨_, pss_cons (ps_set (i := 1) nd rfl (Or.inl rfl) (pe_callD DE GE hr (pa_cons (pv 0) pa_nil)))
      (pss_cons (ps_if (pt_not (pt_truth (pv 1) (fun _ => rfl))) (pss_one (ps_ret pe_non)) pss_nil) pss_never), ?_⟩
    refine ⟨_, rfl, d, o, rows, kvs, rfl, bk, g, fun l H' s1 hl => ?_⟩
    exact ⟨_, rfl, false, .inl ⟨[], SqL.of hl, rfl⟩, iteT (q H' s1)⟩
/-! ### all_above -/
def inK (x : Str) : Key := Sum.inr x
def spAbove : Sp := fun vs H Q _ => ∃ (d : Addr) (o : Obj) (rows : List (Str × List Str)) (kvs : List (Key × V)) (x : Str), vs = [.ref d, .str x] ∧ BookD H d o rows kvs ∧ Good rows ∧ x ∈ rows.map (·.1) ∧
  ∀ a o' fk H', H a = none → Same H H' → H' a = some (.frz o' (.dK fk)) → (∀ y, (Sum.inr y : Key) ∈ fk.map (·.1) ↔ Graph.Reach (upsOf rows) x y) → Q (.ref a) H'
/-- what holds between two turns -/
structure Going (rows : List (Str × List Str)) (x : Str) (fs ws : List Str) : Prop where
  start : x ∈ fs
  sub : ∀ y ∈ ws, y ∈ fs
  known : ∀ y ∈ fs, y ∈ rows.map (·.1)
  nd : fs.Nodup
  reach : ∀ y ∈ fs, Graph.Reach (upsOf rows) x y
  closed : ∀ y ∈ fs, y ∉ ws → ∀ u ∈ upsOf rows y, u ∈ fs
  few : ws.length ≤ fs.length
theorem scA : FnScope ["ups_of", "word", "found", "waiting", "here", "up"] ["ups_of", "word"] (defScope s_all_above) := ⟨rfl, rfl, rfl, by decide +kernel, rfl, by decide +kernel, by decide +kernel⟩
theorem keys_strs {fk : List (Key × V)} {fs : List Str} (h : fk.map (·.1) = fs.map inK) (y : Str) : (Sum.inr y : Key) ∈ fk.map (·.1) ↔ y ∈ fs := by
  rw [h]
  constructor
  · intro m
    obtain ⟨z, hz, e⟩ := List.mem_map.mp m
    have e : z = y := by
      unfold inK at e
      injection e
    rw [← e]; exact hz
  · intro m
    exact List.mem_map.mpr ⟨y, m, rfl⟩
theorem some_of_key {fk : List (Key × V)} {k : Key} (h : k ∈ fk.map (·.1)) : (valV fk k).isSome = true := by
  cases e : valV fk k with
  | none => exact absurd h (valV_not e)
  | some v => rfl
theorem ok_above {f : Addr} {fd : FuncData} (F : Def K mg "all_above" s_all_above ["ups_of", "word"] f fd) : FnOk P w K mg base CX0 1 f fd ["ups_of", "word"] spAbove := by
  refine F.fn.ok scA (fun vs H Q E h => ?_) (fun cdv A outer s H vs Q E hr h => ?_)
  · obtain ⟨d, o, rows, kvs, x, rfl, _⟩ := h
    rfl
  · obtain ⟨d, o, rows, kvs, x, rfl, bk, g, hx, q⟩ := h
    have nd := scA.nd
    have hu := hu_of hr
    refine ⟨_, pss_cons (ps_set (i := 2) nd rfl (Or.inl rfl) (pe_disp (pps_cons (pv 1) pe_bl pps_nil) rfl rfl (by simp) (by show 1 ≤ 15; decide)))
      (pss_cons (ps_set (i := 3) nd rfl (Or.inl rfl) (pe_lst (pa_cons (pv 1) pa_nil)))
      (pss_cons (ps_while PassesOwn.never (pt_truth (pv 3) (fun _ => rfl))
        (pss_cons (ps_set (i := 4) nd rfl (Or.inl rfl) (pe_bm0 PySem.F.plainAttrs_list PySem.F.slot_list_pop PySem.F.type_list_pop mt_pop (pv 3)))
        (pss_one (ps_for PassesOwn.never rfl (pi_tup (pe_dget hu (pv 0) (pv 4) (fun _ _ => rfl))) (pg_name (i := 5) nd rfl (Or.inl rfl))
          (pss_one (ps_if (pt_cmp (pc_dnotin hu (pv 5) (pv 2))) (pss_cons (ps_dput hu (pv 2) (pv 5) pe_bl rfl)
            (pss_one (ps_expr (pe_bm PySem.F.plainAttrs_list PySem.F.slot_list_append PySem.F.type_list_append mt_append (pv 3) (pa_cons (pv 5) pa_nil))))) pss_nil))))))
      (pss_frz (pss_one (ps_ret (pv 2)))))), ?_⟩
    intro fa hfa
    refine ⟨_, rfl, upd_same, [(Sum.inr x, .bl true)], rfl, (by show 1 ≤ 15; decide), ?_⟩
    rw [upd_upd]
    refine ⟨_, rfl, small_line (by show 1 ≤ 100000; decide), fun wa hwa => ?_⟩
    have fw : fa ≠ wa := ne_of_none upd_same hwa
    have hwaH : H wa = none := by
      cases e : H wa with
      | none => rfl
      | some u => rw [upd_ne (Ne.symm fw), e] at hwa; cases hwa
    have bound : ∀ {fs ws : List Str}, Going rows x fs ws → fs.length ≤ rows.length := fun {fs ws} h => by
      have := Graph.nodup_le h.nd h.known
      rwa [List.length_map] at this
    have gle := g.le
    refine ⟨fun m σ H' => ∃ (fs ws : List Str) (fk : List (Key × V)) (a b : Option V), σ = [some (.ref d), some (.str x), some (.ref fa), some (.ref wa), a, b] ∧ Same H H' ∧ H' fa = some (.dK fk) ∧ fk.map (·.1) = fs.map inK ∧ H' wa = some (.lst (ws.map V.str)) ∧ Going rows x fs ws ∧ m + 2 * fs.length = 2 * rows.length + ws.length,
      ⟨2 * rows.length - 1, [x], [x], [(Sum.inr x, .bl true)], none, none, rfl, fun b o e => by rw [upd_ne (ne_of_none e hwaH), upd_ne (ne_of_none e hfa)]; exact e, by rw [upd_ne fw]; exact upd_same, rfl, upd_same,
        ⟨by simp, fun y h => h, fun y h => by rw [List.mem_singleton.mp h]; exact hx, by simp, fun y h => by rw [List.mem_singleton.mp h]; exact .refl x, fun y h n => absurd h n, Nat.le_refl _⟩, by have := g.ne; simp; omega⟩, ?_⟩
    rintro m σ H' ⟨fs, ws, fk, a, b, rfl, s1, hf, hk, hw, go, hm⟩
    have flen := bound go
    refine ⟨_, rfl, _, .inl ⟨_, SqL.of hw, rfl⟩, ?_⟩
    refine ite2 (fun hne => ?_) (fun hne => ?_)
    · -- here = waiting.pop()
      have wne : ws ≠ [] := by
        intro z
        rw [z] at hne
        cases hne
      have hpos : 0 < ws.length := List.length_pos_iff.mpr wne
      have split : ws = ws.dropLast ++ [ws.getLast wne] := (List.dropLast_concat_getLast wne).symm
      generalize hhere : ws.getLast wne = here at split
      have hmem : here ∈ ws := by rw [split]; simp
      have hfs : here ∈ fs := go.sub here hmem
      obtain ⟨r, hr', er⟩ := word_row (go.known here hfs)
      obtain ⟨t, hvt, ht⟩ := bk.ups.val g.nd hr'
      have last : (ws.map V.str)[(ws.map V.str).length - 1]? = some (V.str here) := by
        rw [List.getElem?_map, List.length_map]
        have : ws[ws.length - 1]? = some here := by
          rw [← hhere, List.getLast_eq_getElem, List.getElem?_eq_getElem (by omega)]
        rw [this]
        rfl
      refine ⟨fun σ' H2 => ∃ m', m' < m ∧ ∃ (fs ws : List Str) (fk : List (Key × V)) (a b : Option V), σ' = [some (.ref d), some (.str x), some (.ref fa), some (.ref wa), a, b] ∧ Same H H2 ∧ H2 fa = some (.dK fk) ∧ fk.map (·.1) = fs.map inK ∧ H2 wa = some (.lst (ws.map V.str)) ∧ Going rows x fs ws ∧ m' + 2 * fs.length = 2 * rows.length + ws.length, fun _ _ h => h, ?_⟩
      refine ⟨_, rfl, .inl ⟨rfl, _, SqL.of hw⟩, wa, _, _, rfl, rfl, hw, last, ?_⟩
      have s2 : Same H (upd H' wa (.lst (ws.map V.str).dropLast)) := fun b o e => by rw [upd_ne (ne_of_none e hwaH)]; exact s1 _ _ e
      refine ⟨_, rfl, _, rfl, d, _, rfl, (by rw [← hvt, er]; exact DGet.f (k := Sum.inr here) (s2 _ _ bk.at_)), t, rfl, ⟨_, SqT.of (s2 _ _ ht)⟩, ?_⟩
      have uo : upsOf rows here = r.2 := by rw [← er]; exact upsOf_at g.nd hr'
      refine for_runs (runs_tup (xs := r.2.map V.str)) (fun j σ H2 => ∃ (fs' ws' : List Str) (fk' : List (Key × V)) (b : Option V), σ = [some (.ref d), some (.str x), some (.ref fa), some (.ref wa), some (.str here), b] ∧ Same H H2 ∧ H2 fa = some (.dK fk') ∧ fk'.map (·.1) = fs'.map inK ∧ H2 wa = some (.lst (ws'.map V.str)) ∧
        (∀ y ∈ fs, y ∈ fs') ∧ (∀ y ∈ ws.dropLast, y ∈ ws') ∧ (∀ y ∈ ws', y ∈ fs') ∧ (∀ y ∈ fs', y ∈ rows.map (·.1)) ∧ fs'.Nodup ∧ (∀ y ∈ fs', Graph.Reach (upsOf rows) x y) ∧ (∀ y ∈ fs', y ∈ fs ∨ y ∈ ws') ∧ (∀ u ∈ r.2.take j, u ∈ fs') ∧ ws'.length + 2 * fs.length + fs'.length ≤ ws.dropLast.length + 2 * fs'.length + fs.length)
        ⟨fs, ws.dropLast, fk, _, rfl, s2, by rw [upd_ne fw]; exact hf, hk, by rw [upd_same, List.map_dropLast], fun y h => h, fun y h => h, fun y h => go.sub y ((List.dropLast_sublist ws).subset h), go.known, go.nd, go.reach, fun y h => .inl h, fun u h => by simp at h, by omega⟩ (fun j σ H2 _ ⟨_, _, _, _, _, s, _⟩ => SqT.of (s _ _ ht)) ?_ ?_
      · rintro j v σ H2 hj ⟨fs', ws', fk', b, rfl, s3, hf3, hk3, hw3, c1, c2, c3, c4, c5, c6, c7, c8, c9⟩
        obtain ⟨u, hu', rfl⟩ := strs_at hj
        have um : u ∈ r.2 := List.mem_of_getElem? hu'
        have fl3 : fs'.length ≤ rows.length := by
          have := Graph.nodup_le c5 c4
          rwa [List.length_map] at this
        have kl : fk'.length = fs'.length := by have := congrArg List.length hk3; simpa using this
        refine ⟨_, rfl, _, rfl, fa, _, rfl, DGet.k (k := Sum.inr u) hf3, _, rfl, ?_⟩
        have dl : ws.dropLast.length = ws.length - 1 := List.length_dropLast
        have gf := go.few
        by_cases nin : u ∉ fs'
        · have nk : (Sum.inr u : Key) ∉ fk'.map (·.1) := fun z => nin ((keys_strs hk3 u).mp z)
          have wl3 : ws'.length ≤ rows.length * 3 := by omega
          rw [valV_none nk]
          refine iteT ?_
          refine ⟨_, rfl, _, rfl, fa, _, rfl, DPut.k (k := Sum.inr u) hf3 (small_lt (by omega)), ?_⟩
          have hw4 : (upd H2 fa (.dK (putK fk' (Sum.inr u) (.bl true)))) wa = some (.lst (ws'.map V.str)) := by rw [upd_ne (Ne.symm fw)]; exact hw3
          refine ⟨_, rfl, .inl ⟨rfl, _, SqL.of hw4⟩, _, rfl, wa, _, _, rfl, rfl, hw4, small_lt (by rw [List.length_map]; omega), ?_⟩
          refine ⟨fs' ++ [u], ws' ++ [u], putK fk' (Sum.inr u) (.bl true), _, rfl, fun b o e => by rw [upd_ne (ne_of_none e hwaH), upd_ne (ne_of_none e hfa)]; exact s3 _ _ e, by rw [upd_ne fw]; exact upd_same, ?_, by rw [upd_same, List.map_append]; rfl, fun y h => List.mem_append_left _ (c1 y h), fun y h => List.mem_append_left _ (c2 y h), fun y h => ?_, fun y h => ?_, ?_, fun y h => ?_, fun y h => ?_, fun y h => ?_, ?_⟩
          · rw [putK_keys nk, hk3, List.map_append]
            rfl
          · rcases List.mem_append.mp h with h | h
            · exact List.mem_append_left _ (c3 y h)
            · exact List.mem_append_right _ h
          · rcases List.mem_append.mp h with h | h
            · exact c4 y h
            · rw [List.mem_singleton.mp h]; exact g.known r hr' u um
          · rw [List.nodup_append]
            exact ⟨c5, by simp, fun a ha b hb e => nin (by rw [← List.mem_singleton.mp hb, ← e]; exact ha)⟩
          · rcases List.mem_append.mp h with h | h
            · exact c6 y h
            · rw [List.mem_singleton.mp h]; exact (go.reach here hfs).snoc (by rw [uo]; exact um)
          · rcases List.mem_append.mp h with h | h
            · rcases c7 y h with h | h
              · exact .inl h
              · exact .inr (List.mem_append_left _ h)
            · exact .inr (List.mem_append_right _ h)
          · rw [List.take_add_one, hu'] at h
            rcases List.mem_append.mp h with h | h
            · exact List.mem_append_left _ (c8 y h)
            · have : y = u := by simpa using h
              rw [this]; exact List.mem_append_right _ (by simp)
          · rw [List.length_append, List.length_append]
            simp only [List.length_singleton]
            omega
        · have yin : u ∈ fs' := Classical.byContradiction nin
          rw [some_of_key ((keys_strs hk3 u).mpr yin)]
          refine iteF ?_
          refine ⟨fs', ws', fk', _, rfl, s3, hf3, hk3, hw3, c1, c2, c3, c4, c5, c6, c7, fun y h => ?_, c9⟩
          rw [List.take_add_one, hu'] at h
          rcases List.mem_append.mp h with h | h
          · exact c8 y h
          · have : y = u := by simpa using h
            rw [this]; exact yin
      · rintro σ H2 ⟨fs', ws', fk', b, rfl, s3, hf3, hk3, hw3, c1, c2, c3, c4, c5, c6, c7, c8, c9⟩
        rw [List.length_map, List.take_length] at c8
        have fl3 : fs'.length ≤ rows.length := by
          have := Graph.nodup_le c5 c4
          rwa [List.length_map] at this
        have dl : ws.dropLast.length = ws.length - 1 := List.length_dropLast
        have fle : fs.length ≤ fs'.length := Graph.nodup_le go.nd c1
        have gf := go.few
        refine ⟨2 * rows.length + ws'.length - 2 * fs'.length, by omega, fs', ws', fk', _, _, rfl, s3, hf3, hk3, hw3, ⟨c1 x go.start, c3, c4, c5, c6, fun y hy hn u hu' => ?_, by omega⟩, by omega⟩
        rcases c7 y hy with hy' | hy'
        · by_cases yh : y = here
          · rw [yh, uo] at hu'
            exact c8 u hu'
          · have nw : y ∉ ws := fun z => by
              rw [split] at z
              rcases List.mem_append.mp z with z | z
              · exact hn (c2 y z)
              · exact yh (List.mem_singleton.mp z)
            exact c1 u (go.closed y hy' nw u hu')
        · exact absurd hy' hn
    · have wnil : ws = [] := by
        cases ws with
        | nil => rfl
        | cons y r => exact absurd rfl hne
      refine ⟨fa, fk, hf, fun o' => ⟨_, rfl, q fa o' fk _ hfa (fun b o e => by rw [upd_ne (ne_of_none e hfa)]; exact s1 _ _ e) upd_same fun y => ?_⟩⟩
      rw [keys_strs hk y]
      constructor
      · exact fun h => go.reach y h
      · intro h
        refine Graph.closed_reach (S := fun y => y ∈ fs) (fun y hy u hu' => go.closed y hy (by rw [wnil]; simp) u hu') h go.start
end
end K06

set_option Elab.async false
set_option linter.all false
set_option maxRecDepth 100000
set_option maxHeartbeats 4000000
namespace K06
open PySem L2 Md
/-! ### a book of kinds -/
def flds (d a : Addr) : List (Str × V) := putF "above_of" (.ref a) (putF "ups_of" (.ref d) [])
def AboveD (H : Hp) (all rows : List (Str × List Str)) (avs : List (Key × V)) : Prop :=
  Paired (fun r (p : Key × V) => p.1 = Sum.inr r.1 ∧ ∃ t o' fk, p.2 = .ref t ∧ H t = some (.frz o' (.dK fk)) ∧ ∀ y, (Sum.inr y : Key) ∈ fk.map (·.1) ↔ Graph.Reach (upsOf all) r.1 y) rows avs
theorem AboveD.mono {H H' : Hp} {all rows : List (Str × List Str)} {avs : List (Key × V)} (h : AboveD H all rows avs) (s : ∀ b o' fk, H b = some (.frz o' (.dK fk)) → H' b = some (.frz o' (.dK fk))) : AboveD H' all rows avs :=
  Paired.mapP h fun _ _ z => ⟨z.1, let ⟨t, o', fk, e, x, y⟩ := z.2; ⟨t, o', fk, e, s _ _ _ x, y⟩⟩
theorem AboveD.keys : ∀ {H : Hp} {all rows : List (Str × List Str)} {kvs : List (Key × V)}, AboveD H all rows kvs → kvs.map (·.1) = rows.map fun r => (Sum.inr r.1 : Key)
  | _, _, _, _, .nil => rfl
  | _, _, _, _, .cons r t => by rw [List.map_cons, List.map_cons, r.1, AboveD.keys t]
structure KindsAt (C : Addr) (H : Hp) (p : Addr) (rows : List (Str × List Str)) : Prop where
  ex : ∃ (dx d a : Addr) (o oa : Obj) (kvs avs : List (Key × V)), H p = some (.ins C dx (flds d a)) ∧ BookD H d o rows kvs ∧ H a = some (.frz oa (.dK avs)) ∧ AboveD H rows rows avs
structure TxtC (K : PySem.W.Frag) (C : Addr) : Prop where
  cl : Cls K C
  nU : NoAttr K C "ups_of"
  nA : NoAttr K C "above_of"
/-- a method of the class -/
structure MDef (K : PySem.W.Frag) (C : Addr) (m qual : Str) (st : Stmt) (ps : List Str) (f : Addr) (fd : FuncData) : Prop where
  fn : Fun K m qual st f fd
  b : Binds K fd ps []
  me : Meth K C m f
def spInit (K : PySem.W.Frag) (C : Addr) : Sp := fun vs H Q _ => ∃ (p dx l : Addr) (rows : List (Str × List Str)), vs = [.ref p, .ref l] ∧ H p = some (.ins C dx []) ∧ RowsG K H l rows ∧ Good rows ∧
  ∀ H', KindsAt C H' p rows → (∀ b o, b ≠ p → H b = some o → H' b = some o) → Q .non H'
def spCheck (C : Addr) : Sp := fun vs H Q _ => ∃ (p : Addr) (rows : List (Str × List Str)) (x : Str), vs = [.ref p, .str x] ∧ KindsAt C H p rows ∧ Good rows ∧ x ∈ rows.map (·.1) ∧ Q .non H
def spHas (C : Addr) : Sp := fun vs H Q _ => ∃ (p : Addr) (rows : List (Str × List Str)) (x : Str), vs = [.ref p, .str x] ∧ KindsAt C H p rows ∧ Good rows ∧ Q (.bl (decide (x ∈ rows.map (·.1)))) H
def spWordsOf (C : Addr) : Sp := fun vs H Q _ => ∃ (p : Addr) (rows : List (Str × List Str)), vs = [.ref p] ∧ KindsAt C H p rows ∧ Good rows ∧ ∀ l, H l = none → Q (.ref l) (upd H l (.lst ((rows.map (·.1)).map V.str)))
def spUpsOf (C : Addr) : Sp := fun vs H Q _ => ∃ (p : Addr) (rows : List (Str × List Str)) (x : Str), vs = [.ref p, .str x] ∧ KindsAt C H p rows ∧ Good rows ∧ x ∈ rows.map (·.1) ∧ ∀ l, H l = none → Q (.ref l) (upd H l (.lst ((upsOf rows x).map V.str)))
noncomputable def reachB (rows : List (Str × List Str)) (x y : Str) : Bool := @decide (Graph.Reach (upsOf rows) x y) (Classical.propDecidable _)
noncomputable def spUnder (C : Addr) : Sp := fun vs H Q _ => ∃ (p : Addr) (rows : List (Str × List Str)) (x y : Str), vs = [.ref p, .str x, .str y] ∧ KindsAt C H p rows ∧ Good rows ∧ x ∈ rows.map (·.1) ∧ y ∈ rows.map (·.1) ∧ Q (.bl (reachB rows x y)) H
section
variable {P : Program} {w : World} {K : PySem.W.Frag} {mg : Str → Option Value} {base : Heap}
theorem scI : FnScope ["self", "rows", "ups_of", "word", "ups", "ring", "above_of"] ["self", "rows"] (defScope s_Kinds___init__) := ⟨rfl, rfl, rfl, by decide +kernel, rfl, by decide +kernel, by decide +kernel⟩
theorem ok_init {f C f1 f2 f3 f4 f5 f6 f7 : Addr} {fd d1 d2 d3 d4 d5 d6 d7 : FuncData} (F : Fun K "__init__" "Kinds.__init__" s_Kinds___init__ f fd) (T : TxtK mg) (TC : TxtC K C) (D1 : Def K mg "check_rows" s_check_rows ["rows"] f1 d1) (D2 : Def K mg "is_word" s_is_word ["text"] f2 d2)
    (D3 : Def K mg "check_ups" s_check_ups ["ups_of"] f3 d3) (D4 : Def K mg "find_ring" s_find_ring ["ups_of"] f4 d4) (D5 : Def K mg "endless" s_endless ["ups_of"] f5 d5) (D6 : Def K mg "first_among" s_first_among ["words", "others"] f6 d6) (D7 : Def K mg "all_above" s_all_above ["ups_of", "word"] f7 d7) :
    FnOk P w K mg base CX0 4 f fd ["self", "rows"] (spInit K C) := by
  have G1 : FnOk P w K mg base CX0 2 f1 d1 ["rows"] (spCheckRows K) := ok_check_rows D1 D2 T
  have G3 : FnOk P w K mg base CX0 1 f3 d3 ["ups_of"] spCheckUps := ok_check_ups D3
  have G4 : FnOk P w K mg base CX0 3 f4 d4 ["ups_of"] spRing := ok_ring D4 D5 D6 T
  have G7 : FnOk P w K mg base CX0 1 f7 d7 ["ups_of", "word"] spAbove := ok_above D7
  refine F.ok scI (fun vs H Q E h => ?_) (fun cdv A outer s H vs Q E hr h => ?_)
  · obtain ⟨p, dx, l, rows, rfl, _⟩ := h
    rfl
  · obtain ⟨p, dx, l, rows, rfl, hp, hR, g, q⟩ := h
    have nd := scI.nd
    have hu := hu_of hr
    have hr1 : Room 1 _ := hr.mono (by decide)
    have hr2 : Room 2 _ := hr.mono (by decide)
    refine ⟨_, pss_cons (ps_expr (pe_callD D1 G1 hr2 (pa_cons (pv 1) pa_nil)))
      (pss_cons (ps_set (i := 2) nd rfl (Or.inl rfl) pe_dnewK)
      (pss_cons (ps_for PassesOwn.never rfl (pi_seq (pv 1)) (pg_tup rfl (pgs_cons (pg_name (i := 3) nd rfl (Or.inl rfl)) (pgs_cons (pg_name (i := 4) nd rfl (Or.inl rfl)) pgs_nil)))
        (pss_one (ps_dput hu (pv 2) (pv 3) (pe_callTy call_tuple_of (by rfl) T.tuple PyProof.Rows.boot_tuple (pa_cons (pv 4) pa_nil)) rfl)))
      (pss_frz (pss_cons (ps_expr (pe_callD D3 G3 hr1 (pa_cons (pv 2) pa_nil)))
      (pss_cons (ps_set (i := 5) nd rfl (Or.inl rfl) (pe_callD D4 G4 hr (pa_cons (pv 2) pa_nil)))
      (pss_cons (ps_if (pt_cmp (pc_notN (pv 5))) pss_never pss_nil)
      (pss_cons (ps_set (i := 6) nd rfl (Or.inl rfl) pe_dnewK)
      (pss_cons (ps_for PassesOwn.never rfl (pi_keys (pv 2)) (pg_name (i := 3) nd rfl (Or.inl rfl)) (pss_one (ps_dput hu (pv 6) (pv 3) (pe_callD D7 G7 hr1 (pa_cons (pv 2) (pa_cons (pv 3) pa_nil))) rfl)))
      (pss_frz (pss_cons (ps_fld (pv 0) (pv 2) rfl) (pss_one (ps_fld (pv 0) (pv 6) rfl)))))))))))), ?_⟩
    refine ⟨_, rfl, l, rows, rfl, hR, g, fun H1 s1 => ?_⟩
    intro d hd
    have s2 : Same H (upd H1 d (.dK [])) := fun b o e => by rw [upd_ne (ne_of_none (s1 _ _ e) hd)]; exact s1 _ _ e
    obtain ⟨b, vs, hl, hpr⟩ := hR
    refine ⟨_, rfl, b, l, vs, rfl, hl.mono s2, for_runs runs_seq (fun i σ H' => ∃ (kvs : List (Key × V)) (a c : Option V), σ = [some (.ref p), some (.ref l), some (.ref d), a, c, none, none] ∧ Same H H' ∧ H' d = some (.dK kvs) ∧ UpsD H' (rows.take i) kvs)
      ⟨[], none, none, rfl, s2, upd_same, by rw [List.take_zero]; exact .nil⟩ (fun i σ H' _ ⟨_, _, _, _, s, _⟩ => hl.mono s) ?_ ?_⟩
    · rintro i v σ H' hi ⟨kvs, a, c, rfl, s3, hdk, hU⟩
      obtain ⟨r, hr', t, u, rfl, ht, hug⟩ := paired_at hpr hi
      have dH : H d = none := s1.free hd
      refine ⟨t, _, rfl, s3.tup ht, rfl, _, _, rfl, _, _, rfl, rfl, ?_⟩
      have hnew : (Sum.inr r.1 : Key) ∉ kvs.map (·.1) := by rw [hU.keys]; exact taken_not g.nd hr'
      have hil : (rows.take i).length ≤ 24 := by rw [List.length_take]; have := g.le; omega
      have hkl : kvs.length = (rows.take i).length := (Paired.length hU).symm
      have fin : ∀ (t2 : Addr) (H2 : Hp), Same H' H2 → H2 t2 = some (.tup (r.2.map V.str)) → ∃ (kvs' : List (Key × V)) (a c : Option V), [some (V.ref p), some (V.ref l), some (V.ref d), some (V.str r.1), some (V.ref u), none, none] = [some (V.ref p), some (V.ref l), some (V.ref d), a, c, none, none] ∧ Same H (upd H2 d (.dK (putK kvs (Sum.inr r.1) (.ref t2)))) ∧
          (upd H2 d (.dK (putK kvs (Sum.inr r.1) (.ref t2)))) d = some (.dK kvs') ∧ UpsD (upd H2 d (.dK (putK kvs (Sum.inr r.1) (.ref t2)))) (rows.take (i + 1)) kvs' := fun t2 H2 s4 ht2 => by
        have d2 := s4 _ _ hdk
        have tk : ∀ b xs, H2 b = some (.tup xs) → (upd H2 d (.dK (putK kvs (Sum.inr r.1) (.ref t2)))) b = some (.tup xs) := fun b xs e => by
          rw [upd_ne (fun z => by rw [z, d2] at e; cases e)]; exact e
        refine ⟨_, _, _, rfl, fun b o e => by rw [upd_ne (ne_of_none e dH)]; exact s4 _ _ (s3 _ _ e), upd_same, ?_⟩
        have sn : UpsD (upd H2 d (.dK (putK kvs (Sum.inr r.1) (.ref t2)))) (rows.take i ++ [r]) (kvs ++ [(Sum.inr r.1, V.ref t2)]) := Paired.snoc ((hU.mono fun b xs e => s4 _ _ e).mono tk) ⟨rfl, t2, rfl, tk t2 _ ht2⟩
        rw [← putK_new _ (valV_none hnew)] at sn
        rw [List.take_add_one, hr']
        exact sn
      rcases hug with hug | hug
      · refine ⟨_, rfl, u, _, rfl, .inr ⟨SqT.of (s3 _ _ hug), _, rfl, _, rfl, d, _, rfl, DPut.k (k := Sum.inr r.1) hdk (small_lt (by omega)), fin u H' (Same.refl _) (s3 _ _ hug)⟩⟩
      · refine ⟨_, rfl, u, _, rfl, .inl ⟨s3.seq hug, fun t2 ht2 => ?_⟩⟩
        have s4 : Same H' (upd H' t2 (.tup (r.2.map V.str))) := fun b o e => by rw [upd_ne (ne_of_none e ht2)]; exact e
        exact ⟨_, rfl, _, rfl, d, _, rfl, DPut.k (k := Sum.inr r.1) (s4 _ _ hdk) (small_lt (by omega)), fin t2 _ s4 upd_same⟩
    · rintro σ H2 ⟨kvs, a, c, rfl, s3, hdk, hU⟩
      have hvl := hpr.length
      rw [← hvl, List.take_length] at hU
      -- the dict is written no more
      refine ⟨d, kvs, hdk, fun o => ?_⟩
      have dH : H d = none := s1.free hd
      have s4 : Same H (upd H2 d (.frz o (.dK kvs))) := fun b u e => by rw [upd_ne (ne_of_none e dH)]; exact s3 _ _ e
      have bk : BookD (upd H2 d (.frz o (.dK kvs))) d o rows kvs := ⟨upd_same, hU.mono fun b xs e => by rw [upd_ne (fun z => by rw [z, hdk] at e; cases e)]; exact e⟩
      refine ⟨_, rfl, d, o, rows, kvs, rfl, bk, g, fun H5 s5 => ?_⟩
      refine ⟨_, rfl, d, o, rows, kvs, rfl, bk.mono s5, g, fun H6 s6 => ?_⟩
      refine ⟨_, rfl, _, rfl, iteF ?_⟩
      have s56 := s5.trans s6
      have bk6 := bk.mono s56
      have s7 : Same H H6 := s4.trans s56
      intro aa haa
      have s8 : Same H (upd H6 aa (.dK [])) := fun b u e => by rw [upd_ne (ne_of_none (s7 _ _ e) haa)]; exact s7 _ _ e
      have s68 : Same H6 (upd H6 aa (.dK [])) := fun b u e => by rw [upd_ne (ne_of_none e haa)]; exact e
      refine ⟨_, rfl, d, o, kvs, rfl, (bk6.mono s68).at_, for_runs runs_keys (fun i σ H' => ∃ (avs : List (Key × V)) (a b c : Option V), σ = [some (.ref p), some (.ref l), some (.ref d), a, b, c, some (.ref aa)] ∧ Same H H' ∧ BookD H' d o rows kvs ∧ H' aa = some (.dK avs) ∧ AboveD H' rows (rows.take i) avs)
        ⟨[], _, _, _, rfl, s8, bk6.mono s68, upd_same, by rw [List.take_zero]; exact .nil⟩ (fun i σ H' _ ⟨_, _, _, _, _, _, b, _⟩ => b.at_) ?_ ?_⟩
      · rintro i v σ H' hi ⟨avs, a, b, c, rfl, s9, bk9, haa9, hA⟩
        rw [List.getElem?_map] at hi
        obtain ⟨pr, hpr', e⟩ := Option.map_eq_some_iff.mp hi
        obtain ⟨r, hr', hk, _⟩ := paired_at bk9.ups hpr'
        have hmem : r ∈ rows := List.mem_of_getElem? hr'
        have ev : v = .str r.1 := by rw [← e, hk]; rfl
        subst ev
        have aaH : H aa = none := s7.free haa
        refine ⟨_, rfl, _, rfl, d, o, rows, kvs, r.1, rfl, bk9, g, List.mem_map.mpr ⟨r, hmem, rfl⟩, fun x o' fk H10 hx s10 hxk hreach => ?_⟩
        have hnew : (Sum.inr r.1 : Key) ∉ avs.map (·.1) := by rw [hA.keys]; exact taken_not g.nd hr'
        have hil : (rows.take i).length ≤ 24 := by rw [List.length_take]; have := g.le; omega
        have hkl : avs.length = (rows.take i).length := (Paired.length hA).symm
        have aa10 := s10 _ _ haa9
        refine ⟨_, rfl, _, rfl, aa, _, rfl, DPut.k (k := Sum.inr r.1) aa10 (small_lt (by omega)), ?_⟩
        have kp : ∀ b u, b ≠ aa → H10 b = some u → (upd H10 aa (.dK (putK avs (Sum.inr r.1) (.ref x)))) b = some u := fun b u hb e => by rw [upd_ne hb]; exact e
        refine ⟨_, _, _, _, rfl, fun b u e => kp b u (ne_of_none e aaH) (s10 _ _ (s9 _ _ e)), ⟨kp _ _ (fun z => ?_) (s10 _ _ bk9.at_), (bk9.ups.mono fun b xs e => s10 _ _ e).mono fun b xs e => kp _ _ (fun z => by rw [z, aa10] at e; cases e) e⟩, upd_same, ?_⟩
        · have := bk9.at_
          rw [z, haa9] at this
          cases this
        · rw [putK_new _ (valV_none hnew), List.take_add_one, hr']
          have fz : ∀ b o'' fk', H10 b = some (.frz o'' (.dK fk')) → (upd H10 aa (.dK (avs ++ [(Sum.inr r.1, V.ref x)]))) b = some (.frz o'' (.dK fk')) := fun b o'' fk' e => by rw [upd_ne (fun z => by rw [z, aa10] at e; cases e)]; exact e
          exact Paired.snoc ((hA.mono fun b o'' fk' e => s10 _ _ e).mono fz) ⟨rfl, x, o', fk, rfl, fz _ _ _ hxk, hreach⟩
      · rintro σ H' ⟨avs, a, b, c, rfl, s9, bk9, haa9, hA⟩
        have hkv : kvs.length = rows.length := (Paired.length bk9.ups).symm
        rw [List.length_map, hkv, List.take_length] at hA
        have aaH : H aa = none := s7.free haa
        refine ⟨aa, avs, haa9, fun oa => ?_⟩
        have hp9 : H' p = some (.ins C dx []) := s9 _ _ hp
        have pa : p ≠ aa := ne_of_none hp aaH
        have pd : p ≠ d := ne_of_none hp dH
        have da : d ≠ aa := fun z => by have := bk9.at_; rw [z, haa9] at this; cases this
        refine ⟨_, rfl, _, rfl, p, C, dx, [], rfl, (by rw [upd_ne pa]; exact hp9), TC.cl, TC.nU, (by show 0 < 1000; decide), _, rfl, _, rfl, p, C, dx, _, rfl, upd_same, TC.cl, TC.nA, (by show 1 < 1000; decide), ?_⟩
        rw [upd_upd]
        have kp : ∀ b u, b ≠ p → b ≠ aa → H' b = some u → (upd (upd H' aa (.frz oa (.dK avs))) p (.ins C dx (flds d aa))) b = some u := fun b u h1 h2 e => by rw [upd_ne h1, upd_ne h2]; exact e
        refine q _ ⟨dx, d, aa, o, oa, kvs, avs, upd_same, ⟨kp _ _ (Ne.symm pd) da bk9.at_, bk9.ups.mono fun b xs e => kp _ _ (fun z => by rw [z, hp9] at e; cases e) (fun z => by rw [z, haa9] at e; cases e) e⟩, by rw [upd_ne (Ne.symm pa)]; exact upd_same, hA.mono fun b o'' fk' e => kp _ _ (fun z => by rw [z, hp9] at e; cases e) (fun z => by rw [z, haa9] at e; cases e) e⟩ fun b u hb e => kp _ _ hb (ne_of_none e aaH) (s9 _ _ e)
abbrev MHas (K : PySem.W.Frag) (C fH : Addr) (fdH : FuncData) : Prop := MDef K C "has" "Kinds.has" s_Kinds_has ["self", "word"] fH fdH
end
end K06

set_option Elab.async false
set_option linter.all false
set_option maxRecDepth 100000
set_option maxHeartbeats 4000000
namespace K06
open PySem L2 Md
noncomputable def spBeneath (C : Addr) : Sp := fun vs H Q _ => ∃ (p : Addr) (rows : List (Str × List Str)) (x y : Str), vs = [.ref p, .str x, .str y] ∧ KindsAt C H p rows ∧ Good rows ∧ x ∈ rows.map (·.1) ∧ y ∈ rows.map (·.1) ∧ Q (.bl (reachB rows x y && !decide (x = y))) H
noncomputable def highs (rows : List (Str × List Str)) (x : Str) : List Str := (rows.map (·.1)).filter fun y => reachB rows x y
noncomputable def lows (rows : List (Str × List Str)) (x : Str) : List Str := (rows.map (·.1)).filter fun y => reachB rows y x
noncomputable def spAboveOf (C : Addr) : Sp := fun vs H Q _ => ∃ (p : Addr) (rows : List (Str × List Str)) (x : Str), vs = [.ref p, .str x] ∧ KindsAt C H p rows ∧ Good rows ∧ x ∈ rows.map (·.1) ∧ ∀ l, H l = none → Q (.ref l) (upd H l (.lst ((highs rows x).map V.str)))
noncomputable def spBelowOf (C : Addr) : Sp := fun vs H Q _ => ∃ (p : Addr) (rows : List (Str × List Str)) (x : Str), vs = [.ref p, .str x] ∧ KindsAt C H p rows ∧ Good rows ∧ x ∈ rows.map (·.1) ∧ ∀ l, H l = none → Q (.ref l) (upd H l (.lst ((lows rows x).map V.str)))
noncomputable def upV (rows : List (Str × List Str)) (x : Str) : V → Bool
  | .str y => reachB rows x y
  | _ => false
noncomputable def downV (rows : List (Str × List Str)) (x : Str) : V → Bool
  | .str y => reachB rows y x
  | _ => false
section
variable {P : Program} {w : World} {K : PySem.W.Frag} {mg : Str → Option Value} {base : Heap}
abbrev MCheck (K : PySem.W.Frag) (C fC : Addr) (fdC : FuncData) : Prop := MDef K C "check" "Kinds.check" s_Kinds_check ["self", "word"] fC fdC
abbrev MUnder (K : PySem.W.Frag) (C fU : Addr) (fdU : FuncData) : Prop := MDef K C "under" "Kinds.under" s_Kinds_under ["self", "one", "other"] fU fdU
end
end K06

set_option Elab.async false
set_option linter.all false
set_option maxRecDepth 100000
set_option maxHeartbeats 4000000
namespace K06
open PySem L2 Md
/-! ### kinds refused -/
structure ErrP (K : PySem.W.Frag) (mg : Str → Option Value) (x : Str) (C : Addr) : Prop where
  m : mg x = some (.ref C)
  ex : ExC K C
  ini : PySem.W.findIn K (.ref C) "__init__" = some (some (.builtin "ValueError.__init__"))
structure ErrI (P : Program) (w : World) (K : PySem.W.Frag) (mg : Str → Option Value) (base : Heap) (x : Str) (C : Addr) (a : Str) (sp : Sp) (f : Addr) (fd : FuncData) : Prop where
  m : mg x = some (.ref C)
  ex : ExC K C
  ini : PySem.W.findIn K (.ref C) "__init__" = some (some (.ref f))
  ty : PySem.W.typeIn K (.ref f) = some (.type "function")
  b : Binds K fd ["self", a] []
  go : FnOk P w K mg base CX0 1 f fd ["self", a] sp
def okS : V → Hp → Prop := fun v _ => ∃ x : Str, v = .str x ∧ Shows x
theorem isword_shows {x : Str} (h : isWord x = true) : Shows x := by
  unfold isWord at h
  rw [Bool.and_eq_true, List.all_eq_true] at h
  have l := of_decide_eq_true h.1
  refine ⟨by omega, fun c hc => ?_⟩
  have := h.2 c hc
  unfold isLow at this
  simp only [Bool.and_eq_true, decide_eq_true_eq] at this
  have e : (16 : Nat) ^ 8 = 4294967296 := by decide
  omega
inductive KErr
  | many
  | noK (w : Str)
  | twice (w : Str)
  | ring
def IsRing (rows : List (Str × List Str)) (ys : List Str) : Prop := ys ≠ [] ∧ ys.Nodup ∧ (∀ y ∈ ys, y ∈ rows.map (·.1)) ∧ (∀ (i : Nat) (a b : Str), ys[i]? = some a → ys[i + 1]? = some b → b ∈ upsOf rows a) ∧ ∀ a b, ys.getLast? = some a → ys.head? = some b → b ∈ upsOf rows a
def Cyc (rows : List (Str × List Str)) : Prop := ∃ x ∈ rows.map (·.1), ∃ u ∈ upsOf rows x, Graph.Reach (upsOf rows) u x
structure RFine (rows : List (Str × List Str)) : Prop where
  ne : 1 ≤ rows.length
  le : rows.length ≤ 24
  word : ∀ r ∈ rows, isWord r.1 = true
  nd : (rows.map (·.1)).Nodup
  few : ∀ r ∈ rows, r.2.length ≤ 8
structure UFine (rows : List (Str × List Str)) : Prop where
  known : ∀ r ∈ rows, ∀ u ∈ r.2, u ∈ rows.map (·.1)
  upnd : ∀ r ∈ rows, r.2.Nodup
/-- what is wrong first of the rows -/
structure RBad (rows : List (Str × List Str)) (k : Nat) (e : KErr) : Prop where
  ex : ∃ r, rows[k]? = some r ∧ ((isWord r.1 = false ∧ e = .noK r.1) ∨ (isWord r.1 = true ∧ r.1 ∈ (rows.take k).map (·.1) ∧ e = .twice r.1) ∨ (isWord r.1 = true ∧ r.1 ∉ (rows.take k).map (·.1) ∧ 8 < r.2.length ∧ e = .many))
  ahead : ∀ r ∈ rows.take k, isWord r.1 = true ∧ r.2.length ≤ 8
  nd : ((rows.take k).map (·.1)).Nodup
inductive RDue (rows : List (Str × List Str)) : Option KErr → Prop
  | size (h : ¬ (1 ≤ rows.length ∧ rows.length ≤ 24)) : RDue rows (some .many)
  | bad {e : KErr} (k : Nat) (h1 : 1 ≤ rows.length) (h2 : rows.length ≤ 24) (h : RBad rows k e) : RDue rows (some e)
  | fine (f : RFine rows) : RDue rows none
/-- what is wrong first of the ups -/
structure UBad (rows : List (Str × List Str)) (k j : Nat) (e : KErr) : Prop where
  ex : ∃ r u, rows[k]? = some r ∧ r.2[j]? = some u ∧ (∀ v ∈ r.2.take j, v ∈ rows.map (·.1)) ∧ (r.2.take j).Nodup ∧ ((u ∉ rows.map (·.1) ∧ e = .noK u) ∨ (u ∈ rows.map (·.1) ∧ u ∈ r.2.take j ∧ e = .twice u))
  ahead : ∀ r ∈ rows.take k, (∀ v ∈ r.2, v ∈ rows.map (·.1)) ∧ r.2.Nodup
inductive UDue (rows : List (Str × List Str)) : Option KErr → Prop
  | bad {e : KErr} (k j : Nat) (h : UBad rows k j e) : UDue rows (some e)
  | fine (f : UFine rows) : UDue rows none
inductive KDue (rows : List (Str × List Str)) : Option KErr → Prop
  | rows {e : KErr} (h : RDue rows (some e)) : KDue rows (some e)
  | ups {e : KErr} (f : RFine rows) (h : UDue rows (some e)) : KDue rows (some e)
  | ring (f : RFine rows) (u : UFine rows) (c : Cyc rows) : KDue rows (some .ring)
  | good (g : Good rows) : KDue rows none
structure RefK (Ds : Nat → Addr) (rows : List (Str × List Str)) (E : XK) (H : Hp) (e : KErr) : Prop where
  many : e = .many → ∀ H', Same H H' → E (.ref (Ds 7)) none H'
  noK : ∀ w, e = .noK w → ∀ dx H', Same H H' → H' dx = some (.xd [("word", .str w)]) → E (.ref (Ds 0)) (some dx) H'
  twice : ∀ w, e = .twice w → ∀ dx H', Same H H' → H' dx = some (.xd [("word", .str w)]) → E (.ref (Ds 1)) (some dx) H'
  ring : e = .ring → ∀ dx l ys H', Same H H' → H' dx = some (.xd [("ring", .ref l)]) → H l = none → H' l = some (.lst (ys.map V.str)) → IsRing rows ys → E (.ref (Ds 3)) (some dx) H'
theorem RefK.mono {Ds : Nat → Addr} {rows : List (Str × List Str)} {E : XK} {H H' : Hp} {e : KErr} (r : RefK Ds rows E H e) (s : Same H H') : RefK Ds rows E H' e :=
  ⟨fun z H'' s' => r.many z H'' (s.trans s'), fun w z dx H'' s' h => r.noK w z dx H'' (s.trans s') h, fun w z dx H'' s' h => r.twice w z dx H'' (s.trans s') h, fun z dx l ys H'' s' h1 h2 h3 h4 => r.ring z dx l ys H'' (s.trans s') h1 (s.free h2) h3 h4⟩
theorem count_lt {α : Type} {p q : α → Bool} : ∀ {l : List α}, (∀ x ∈ l, p x = true → q x = true) → (∃ x ∈ l, q x = true ∧ p x = false) → l.countP p < l.countP q
  | [], _, ⟨_, h, _⟩ => nomatch h
  | a :: r, h, hx => by
    have le : r.countP p ≤ r.countP q := List.countP_mono_left fun x hx' => h x (by simp [hx'])
    rw [List.countP_cons, List.countP_cons]
    by_cases z : ∃ x ∈ r, q x = true ∧ p x = false
    · have := count_lt (p := p) (q := q) (l := r) (fun x hx' => h x (by simp [hx'])) z
      have ha := h a (by simp)
      cases hp : p a with
      | true => rw [ha hp]; simp; omega
      | false => simp; omega
    · obtain ⟨x, hm, h1, h2⟩ := hx
      rcases List.mem_cons.mp hm with e | e
      · rw [← e, h1, h2]; simp; omega
      · exact absurd ⟨x, e, h1, h2⟩ z
theorem rB_iff {rows : List (Str × List Str)} {x y : Str} : reachB rows x y = true ↔ Graph.Reach (upsOf rows) x y := by
  unfold reachB
  exact @decide_eq_true_iff _ (Classical.propDecidable _)
theorem good_of {rows : List (Str × List Str)} (f : RFine rows) (u : UFine rows) (c : ¬ Cyc rows) : Good rows := by
  refine ⟨f.ne, f.le, f.word, f.nd, f.few, u.known, u.upnd, ⟨fun x => (rows.map (·.1)).countP (reachB rows x), fun r hr v hv => ?_⟩⟩
  have hm : r.1 ∈ rows.map (·.1) := List.mem_map.mpr ⟨r, hr, rfl⟩
  have hv' : v ∈ upsOf rows r.1 := by rw [upsOf_at f.nd hr]; exact hv
  refine count_lt (fun x _ h => ?_) ⟨r.1, hm, ?_, ?_⟩
  · rw [rB_iff] at h ⊢
    exact .step hv' h
  · exact rB_iff.mpr (.refl _)
  · cases z : reachB rows v r.1 with
    | false => rfl
    | true => exact absurd ⟨r.1, hm, v, hv', rB_iff.mp z⟩ c
theorem memK {kvs : List (Key × V)} {k : Key} (h : k ∈ kvs.map (·.1)) : ∃ v, valV kvs k = some v := by
  cases e : valV kvs k with
  | none => exact absurd h (valV_not e)
  | some v => exact ⟨v, rfl⟩
theorem snewK {H : Hp} {l : Addr} {o : HO} (hl : H l = none) : Same H (upd H l o) := fun b o' e => by rw [upd_ne (ne_of_none e hl)]; exact e
def spCheckRowsT (K : PySem.W.Frag) (Ds : Nat → Addr) : Sp := fun vs H Q E => ∃ (l : Addr) (rows : List (Str × List Str)) (r : Option KErr), vs = [.ref l] ∧ RowsG K H l rows ∧ (∀ q ∈ rows, Shows q.1) ∧ RDue rows r ∧ (r = none → ∀ H', Same H H' → Q .non H') ∧ ∀ e, r = some e → RefK Ds rows E H e
def spCheckUpsT (Ds : Nat → Addr) : Sp := fun vs H Q E => ∃ (d : Addr) (o : Obj) (rows : List (Str × List Str)) (kvs : List (Key × V)) (r : Option KErr), vs = [.ref d] ∧ BookD H d o rows kvs ∧ RFine rows ∧ (∀ q ∈ rows, ∀ u ∈ q.2, Shows u) ∧ UDue rows r ∧ (r = none → ∀ H', Same H H' → Q .non H') ∧ ∀ e, r = some e → RefK Ds rows E H e
section
variable {P : Program} {w : World} {K : PySem.W.Frag} {mg : Str → Option Value} {base : Heap}
theorem scXN : FnScope ["self", "word"] ["self", "word"] (defScope s_NoKind___init__) := ⟨rfl, rfl, rfl, by decide +kernel, rfl, by decide +kernel, by decide +kernel⟩
theorem ok_xnk {f C D : Addr} {fd : FuncData} (F : Fun K "__init__" "NoKind.__init__" s_NoKind___init__ f fd) (I : ExI K C D "word") (dd : DIn K D) (mD : mg "DeedError" = some (.ref D)) : FnOk P w K mg base CX0 1 f fd ["self", "word"] (spXI C "word" okS) := by
  refine F.ok scXN (fun vs H Q E h => ?_) (fun cdv A outer s H vs Q E hr h => ?_)
  · obtain ⟨x, y, rfl, _⟩ := h
    rfl
  · obtain ⟨x, y, rfl, ⟨z, rfl, hz⟩, hx, q⟩ := h
    refine ⟨_, pss_cons (ps_expr (pe_dinit dd (by rfl) mD (pa_cons (pv 0) (pa_cons (pe_fstr (pfs_cons (pf_repS (pv 1)) (pfs_cons pf_con pfs_nil))) pa_nil)))) (pss_one (ps_xfld (D := D) (pv 0) (pv 1))), ?_⟩
    refine ⟨_, rfl, _, rfl, z, rfl, by have := hz.1; omega, hz.2, by decide +kernel, fun t => ⟨x, C, [.str t], rfl, by show 1 ≤ 100; decide, I.toExA.toExC, hx, ?_⟩⟩
    exact ⟨_, rfl, _, rfl, x, C, rfl, hx, I, fun dx hdx => q dx hdx⟩
theorem scXT : FnScope ["self", "word"] ["self", "word"] (defScope s_Twice___init__) := ⟨rfl, rfl, rfl, by decide +kernel, rfl, by decide +kernel, by decide +kernel⟩
theorem ok_xtw {f C D : Addr} {fd : FuncData} (F : Fun K "__init__" "Twice.__init__" s_Twice___init__ f fd) (I : ExI K C D "word") (dd : DIn K D) (mD : mg "DeedError" = some (.ref D)) : FnOk P w K mg base CX0 1 f fd ["self", "word"] (spXI C "word" okS) := by
  refine F.ok scXT (fun vs H Q E h => ?_) (fun cdv A outer s H vs Q E hr h => ?_)
  · obtain ⟨x, y, rfl, _⟩ := h
    rfl
  · obtain ⟨x, y, rfl, ⟨z, rfl, hz⟩, hx, q⟩ := h
    refine ⟨_, pss_cons (ps_expr (pe_dinit dd (by rfl) mD (pa_cons (pv 0) (pa_cons (pe_fstr (pfs_cons (pf_repS (pv 1)) (pfs_cons pf_con pfs_nil))) pa_nil)))) (pss_one (ps_xfld (D := D) (pv 0) (pv 1))), ?_⟩
    refine ⟨_, rfl, _, rfl, z, rfl, by have := hz.1; omega, hz.2, by decide +kernel, fun t => ⟨x, C, [.str t], rfl, by show 1 ≤ 100; decide, I.toExA.toExC, hx, ?_⟩⟩
    exact ⟨_, rfl, _, rfl, x, C, rfl, hx, I, fun dx hdx => q dx hdx⟩
theorem scXR : FnScope ["self", "ring"] ["self", "ring"] (defScope s_Ring___init__) := ⟨rfl, rfl, rfl, by decide +kernel, rfl, by decide +kernel, by decide +kernel⟩
theorem ok_xri {f C D : Addr} {fd : FuncData} (F : Fun K "__init__" "Ring.__init__" s_Ring___init__ f fd) (list : mg "list" = none) (I : ExI K C D "ring") (dd : DIn K D) (mD : mg "DeedError" = some (.ref D)) : FnOk P w K mg base CX0 1 f fd ["self", "ring"] (spXL C "ring") := by
  refine F.ok scXR (fun vs H Q E h => ?_) (fun cdv A outer s H vs Q E hr h => ?_)
  · obtain ⟨x, r, ys, rfl, _⟩ := h
    rfl
  · obtain ⟨x, r, ys, rfl, hr0, hl, hs, hx, q⟩ := h
    refine ⟨_, pss_cons (ps_expr (pe_dinit dd (by rfl) mD (pa_cons (pv 0) (pa_cons (pe_fstr (pfs_cons pf_con (pfs_cons (pf_repT hr (pv 1)) pfs_nil))) pa_nil)))) (pss_one (ps_xfld (D := D) (pv 0) (pe_callTy call_list_of (by rfl) list PyProof.Rows.boot_list (pa_cons (pv 1) pa_nil)))), ?_⟩
    refine ⟨_, rfl, by decide +kernel, _, rfl, r, ys, rfl, .inr (SqL.of hr0), hl, hs, fun t => ⟨x, C, [.str t], rfl, by show 1 ≤ 100; decide, I.toExA.toExC, hx, ?_⟩⟩
    refine ⟨_, rfl, r, _, rfl, .inl (SqL.of hr0), fun l hl' => ⟨_, rfl, x, C, rfl, ?_, I, fun dx hdx => q l dx hl' hdx⟩⟩
    rw [upd_ne (ne_of_none hx hl')]
    exact hx
theorem ok_check_rowsT {f fW f0 f1 : Addr} {Ds : Nat → Addr} {fd fdW fd0 fd1 : FuncData} (F : Def K mg "check_rows" s_check_rows ["rows"] f fd) (DW : Def K mg "is_word" s_is_word ["text"] fW fdW) (T : TxtK mg) (E0 : ErrI P w K mg base "NoKind" (Ds 0) "word" (spXI (Ds 0) "word" okS) f0 fd0) (E1 : ErrI P w K mg base "Twice" (Ds 1) "word" (spXI (Ds 1) "word" okS) f1 fd1) (T7 : ErrP K mg "TooMany" (Ds 7)) : FnOk P w K mg base (CX1 P w) 3 f fd ["rows"] (spCheckRowsT K Ds) := by
  have GW : FnOk P w K mg base (CX1 P w) 1 fW fdW ["text"] spIsWord := (ok_isword DW T).any
  refine F.fn.ok1 scCR (fun vs H Q E h => ?_) (fun cdv A outer s H vs Q E hr h => ?_)
  · obtain ⟨l, rows, r, rfl, _⟩ := h
    rfl
  · obtain ⟨l, rows, r, rfl, ⟨b, vs, hl, hp⟩, sh, due, q, re⟩ := h
    obtain ⟨t1, hK⟩ := T.kinds
    obtain ⟨t2, hU⟩ := T.ups
    have nd := scCR.nd
    have hu := hu_of hr
    have hr1 : Room 1 _ := hr.mono (by decide)
    refine' ⟨_, pss_cons (ps_if (pt_not (pt_chain op_le op_le pe_int (pe_callB call_len (by rfl) T.len PySem.boot_len (pa_cons (pv 0) pa_nil)) (pe_glob (v := .int 24) (by rfl) hK ⟨_, rfl⟩))) (pss_one (ps_raise (C := Ds 7) Fns.of hr.hd T7.ex T7.ini (by rfl) T7.m (pa_cons (pe_fstr ?fs1) pa_nil))) pss_nil)
      (pss_cons (ps_set (i := 1) nd rfl (Or.inl rfl) pe_dnewK)
      (pss_one (ps_for PassesOwn.leaving rfl (pi_seq (pv 0)) (pg_tup rfl (pgs_cons (pg_name (i := 2) nd rfl (Or.inl rfl)) (pgs_cons (pg_name (i := 3) nd rfl (Or.inl rfl)) pgs_nil)))
        (pss_cons (ps_if (pt_not (pt_val (pe_call GW hr1 (by rfl) DW.m DW.fn.kp DW.b .nil (pass1 Fns.of) (pa_cons (pv 2) pa_nil)))) (pss_one (ps_raiseI (C := Ds 0) Fns.of hr.hd E0.ex E0.ini E0.ty E0.go hr E0.b (by rfl) E0.m (pa_cons (pv 2) pa_nil))) pss_nil)
        (pss_cons (ps_if (pt_cmp (pc_din hu (pv 2) (pv 1))) (pss_one (ps_raiseI (C := Ds 1) Fns.of hr.hd E1.ex E1.ini E1.ty E1.go hr E1.b (by rfl) E1.m (pa_cons (pv 2) pa_nil))) pss_nil)
        (pss_cons (ps_if (pt_cmpR op_gt (pe_callB call_len (by rfl) T.len PySem.boot_len (pa_cons (pv 3) pa_nil)) (pe_glob (v := .int 8) (by rfl) hU ⟨_, rfl⟩) (nomark _)) (pss_one (ps_raise (C := Ds 7) Fns.of hr.hd T7.ex T7.ini (by rfl) T7.m (pa_cons (pe_fstr ?fs2) pa_nil))) pss_nil)
        (pss_one (ps_dput hu (pv 1) (pv 2) pe_bl rfl)))))))), ?_⟩
    case fs1 => exact pfs_cons pf_con (pfs_cons (pf_int (pe_glob (v := .int 24) (by rfl) hK ⟨_, rfl⟩)) (pfs_cons pf_con pfs_nil))
    case fs2 => exact pfs_cons pf_con (pfs_cons (pf_int (pe_glob (v := .int 8) (by rfl) hU ⟨_, rfl⟩)) (pfs_cons pf_con pfs_nil))
    have hvl := hp.length
    refine ⟨_, rfl, _, _, rfl, len_seq hl, _, _, rfl, rfl, _, rfl, ?_⟩
    by_cases g1 : ¬ 1 ≤ rows.length
    · rw [show decide ((1 : Int) ≤ (vs.length : Int)) = false from decide_eq_false (by omega)]
      have er : r = some .many := by
        cases due with
        | size _ => rfl
        | bad k h1 _ _ => exact absurd h1 g1
        | fine f => exact absurd f.ne g1
      exact iteF ⟨_, rfl, iteT ⟨by decide +kernel, 24, rfl, by decide, by decide +kernel, fun x => ⟨small_line (by show 1 ≤ 100000; decide), (re _ er).many rfl H (Same.refl _)⟩⟩⟩
    have g1 := Decidable.not_not.mp g1
    rw [show decide ((1 : Int) ≤ (vs.length : Int)) = true from decide_eq_true (by omega)]
    refine iteT ⟨_, _, rfl, rfl, _, rfl, ?_⟩
    by_cases g2 : ¬ rows.length ≤ 24
    · rw [show (decide ((vs.length : Int) ≤ 24)) = false from decide_eq_false (by omega)]
      have er : r = some .many := by
        cases due with
        | size _ => rfl
        | bad k _ h2 _ => exact absurd h2 g2
        | fine f => exact absurd f.le g2
      exact iteT ⟨by decide +kernel, 24, rfl, by decide, by decide +kernel, fun x => ⟨small_line (by show 1 ≤ 100000; decide), (re _ er).many rfl H (Same.refl _)⟩⟩
    have g2 := Decidable.not_not.mp g2
    rw [show (decide ((vs.length : Int) ≤ 24)) = true from decide_eq_true (by omega)]
    refine iteF ?_
    obtain ⟨lim, l1, l2, l3⟩ : ∃ lim, (∀ q ∈ rows.take lim, isWord q.1 = true ∧ q.2.length ≤ 8) ∧ ((rows.take lim).map (·.1)).Nodup ∧ ((r = none ∧ lim = rows.length) ∨ ∃ e, r = some e ∧ RBad rows lim e) := by
      cases due with
      | size h => exact absurd ⟨g1, g2⟩ h
      | bad k _ _ h => exact ⟨k, h.ahead, h.nd, .inr ⟨_, rfl, h⟩⟩
      | fine f => exact ⟨rows.length, (by rw [List.take_length]; exact fun q hq => ⟨f.word q hq, f.few q hq⟩), (by rw [List.take_length]; exact f.nd), .inl ⟨rfl, rfl⟩⟩
    intro d hd
    have s0 : Same H (upd H d (.dK [])) := fun b o e => by rw [upd_ne (ne_of_none e hd)]; exact e
    refine ⟨_, rfl, b, l, vs, rfl, hl.mono s0, for_runs runs_seq (fun i σ H' => ∃ (kvs : List (Key × V)) (a c : Option V), i ≤ lim ∧ σ = [some (.ref l), some (.ref d), a, c] ∧ Same H H' ∧ H' d = some (.dK kvs) ∧ kvs.map (·.1) = (rows.take i).map fun r => (Sum.inr r.1 : Key))
      ⟨[], none, none, Nat.zero_le _, rfl, s0, upd_same, by simp⟩ (fun i σ H' _ ⟨_, _, _, _, _, s, _⟩ => hl.mono s) ?_ ?_⟩
    · rintro i v σ H' hi ⟨kvs, a, c, il, rfl, s, hdk, hk⟩
      obtain ⟨q', hr', t, u, rfl, ht, hug⟩ := paired_at hp hi
      obtain ⟨b', hu'⟩ := hug.sq
      have hmem : q' ∈ rows := List.mem_of_getElem? hr'
      have hsh := sh q' hmem
      have ilt : i < rows.length := (List.getElem?_eq_some_iff.mp hr').1
      refine ⟨t, _, rfl, s.tup ht, rfl, _, _, rfl, _, _, rfl, rfl, ?_⟩
      refine ⟨_, rfl, q'.1, rfl, by have := hsh.1; omega, fun H2 s2 => ⟨_, rfl, ?_⟩⟩
      have s02 := s.trans s2
      have hd2 : H2 d = some (.dK kvs) := s2 _ _ hdk
      have inK' : (Sum.inr q'.1 : Key) ∈ kvs.map (·.1) ↔ q'.1 ∈ (rows.take i).map (·.1) := by
        rw [hk]
        constructor
        · intro m
          obtain ⟨z, hz, e⟩ := List.mem_map.mp m
          have e : z.1 = q'.1 := by injection e
          exact List.mem_map.mpr ⟨z, hz, e⟩
        · intro m
          obtain ⟨z, hz, e⟩ := List.mem_map.mp m
          exact List.mem_map.mpr ⟨z, hz, by rw [e]⟩
      have okx : ∀ x, H2 x = none → ∀ o, okS (V.str q'.1) (upd H2 x o) := fun x _ o => ⟨q'.1, rfl, hsh⟩
      by_cases ie : i = lim
      · rcases l3 with ⟨_, z⟩ | ⟨e, er, hb⟩
        · omega
        obtain ⟨q2, hq2, hor⟩ := hb.ex
        rw [← ie, hr'] at hq2
        cases hq2
        rcases hor with ⟨h1, e1⟩ | ⟨h1, h2, e1⟩ | ⟨h1, h2, h3, e1⟩
        · rw [h1]
          exact iteT ⟨_, rfl, _, rfl, fun x hx => okx x hx _, fun dx hdx => (re _ er).noK _ e1 dx _ (s02.trans (snewK hdx)) upd_same⟩
        · rw [h1]
          refine iteF ⟨_, rfl, _, rfl, d, _, rfl, DGet.k (k := Sum.inr q'.1) hd2, _, rfl, ?_⟩
          obtain ⟨v, hv⟩ := memK (inK'.mpr (by rw [ie]; exact h2))
          rw [hv]
          exact iteT ⟨_, rfl, _, rfl, fun x hx => okx x hx _, fun dx hdx => (re _ er).twice _ e1 dx _ (s02.trans (snewK hdx)) upd_same⟩
        · rw [h1]
          refine iteF ⟨_, rfl, _, rfl, d, _, rfl, DGet.k (k := Sum.inr q'.1) hd2, _, rfl, ?_⟩
          rw [valV_none (fun z => h2 (by rw [← ie]; exact inK'.mp z))]
          refine iteF ⟨_, rfl, _, _, rfl, len_seq (hu'.mono s02), _, _, rfl, rfl, _, rfl, ?_⟩
          rw [show decide ((8 : Int) < ((q'.2.map V.str).length : Int)) = true from decide_eq_true (by rw [List.length_map]; omega)]
          exact iteT ⟨by decide +kernel, 8, rfl, by decide, by decide +kernel, fun x => ⟨small_line (by show 1 ≤ 100000; decide), (re _ er).many e1 H2 s02⟩⟩
      · have ilt' : i < lim := by omega
        have hin : (rows.take lim)[i]? = some q' := by rw [List.getElem?_take, if_pos ilt']; exact hr'
        obtain ⟨hw, hf⟩ := l1 q' (List.mem_of_getElem? hin)
        rw [hw]
        refine iteF ⟨_, rfl, _, rfl, d, _, rfl, DGet.k (k := Sum.inr q'.1) hd2, _, rfl, ?_⟩
        have hnew : (Sum.inr q'.1 : Key) ∉ kvs.map (·.1) := by
          rw [hk]
          have := taken_not l2 hin
          rw [List.take_take, Nat.min_eq_left (Nat.le_of_lt ilt')] at this
          exact this
        rw [valV_none hnew]
        refine iteF ?_
        refine ⟨_, rfl, _, _, rfl, len_seq (hu'.mono s02), _, _, rfl, rfl, _, rfl, ?_⟩
        rw [show decide ((8 : Int) < ((q'.2.map V.str).length : Int)) = false from decide_eq_false (by rw [List.length_map]; omega)]
        refine iteF ?_
        have hkl : kvs.length = (rows.take i).length := by have := congrArg List.length hk; simpa using this
        have hil : (rows.take i).length ≤ 24 := by rw [List.length_take]; omega
        refine ⟨_, rfl, _, rfl, d, _, rfl, DPut.k (k := Sum.inr q'.1) hd2 (small_lt (by omega)), ?_⟩
        refine ⟨_, _, _, ilt', rfl, fun b o e => ?_, upd_same, ?_⟩
        · rw [upd_ne (ne_of_none e hd)]; exact s02 _ _ e
        · rw [putK_keys hnew, hk, List.take_add_one, hr', List.map_append]
          rfl
    · rintro σ H' ⟨kvs, a, c, il, rfl, s, hdk, hk⟩
      rcases l3 with ⟨er, _⟩ | ⟨e, er, hb⟩
      · exact q er H' s
      · obtain ⟨q2, hq2, _⟩ := hb.ex
        have := (List.getElem?_eq_some_iff.mp hq2).1
        omega
end
end K06

set_option Elab.async false
set_option linter.all false
set_option maxRecDepth 100000
set_option maxHeartbeats 4000000
namespace K06
open PySem L2 Md
/-! ### rings -/
theorem ups_knownF {rows : List (Str × List Str)} (f : RFine rows) (u : UFine rows) {x y : Str} (hx : x ∈ rows.map (·.1)) (hy : y ∈ upsOf rows x) : y ∈ rows.map (·.1) := by
  obtain ⟨r, hr, rfl⟩ := word_row hx
  rw [upsOf_at f.nd hr] at hy
  exact u.known r hr y hy
def OnCyc (rows : List (Str × List Str)) (x y : Str) : Prop := Graph.Reach (upsOf rows) x y ∧ Graph.Reach (upsOf rows) y x
theorem cyc_step {rows : List (Str × List Str)} {x u y : Str} (hu : u ∈ upsOf rows x) (hr : Graph.Reach (upsOf rows) u x) (h : OnCyc rows x y) : ∃ z ∈ upsOf rows y, OnCyc rows x z := by
  obtain ⟨h1, h2⟩ := h
  cases h2 with
  | refl => exact ⟨u, hu, .one hu, hr⟩
  | step m t => exact ⟨_, m, h1.snoc m, t⟩
theorem found_some {us ls : List Str} (h : ∃ u ∈ us, u ∈ ls) : ∃ x, foundV us ls = .str x ∧ x ∈ us ∧ x ∈ ls := by
  unfold foundV
  cases e : us.find? fun x => decide (x ∈ ls) with
  | none =>
    obtain ⟨u, h1, h2⟩ := h
    exact absurd (decide_eq_true h2) (List.find?_eq_none.mp e u h1)
  | some x => exact ⟨x, rfl, List.mem_of_find?_eq_some e, of_decide_eq_true (List.find?_some (p := fun x => decide (x ∈ ls)) e)⟩
def Cons2 (rows : List (Str × List Str)) (W : List Str) : Prop := ∀ (i : Nat) (a b : Str), W[i]? = some a → W[i + 1]? = some b → b ∈ upsOf rows a
theorem cons2_snoc {rows : List (Str × List Str)} {W : List Str} {h n : Str} (c : Cons2 rows (W ++ [h])) (hn : n ∈ upsOf rows h) : Cons2 rows (W ++ [h] ++ [n]) := by
  intro i a b ha hb
  by_cases z : i + 1 < (W ++ [h]).length
  · rw [List.getElem?_append_left z] at hb
    rw [List.getElem?_append_left (by omega)] at ha
    exact c i a b ha hb
  · have l := (List.getElem?_eq_some_iff.mp hb).1
    rw [List.length_append, List.length_singleton] at l
    have e : i + 1 = (W ++ [h]).length := by omega
    rw [e, List.getElem?_append_right (Nat.le_refl _), Nat.sub_self] at hb
    have hb : n = b := by simpa using hb
    have el : (W ++ [h]).length = W.length + 1 := by rw [List.length_append]; rfl
    have ei : i = W.length := by omega
    rw [List.getElem?_append_left (by omega), ei, List.getElem?_append_right (Nat.le_refl _), Nat.sub_self] at ha
    have ha : h = a := by simpa using ha
    rw [← hb, ← ha]
    exact hn
theorem ring_of {rows : List (Str × List Str)} {W : List Str} {h : Str} (c : Cons2 rows (W ++ [h])) (nd : W.Nodup) (kn : ∀ y ∈ W, y ∈ rows.map (·.1)) (hm : h ∈ W) : IsRing rows (W.drop (W.idxOf h)) := by
  have il := List.idxOf_lt_length_of_mem hm
  have at_ : W[W.idxOf h]? = some h := by rw [List.getElem?_eq_getElem il, List.getElem_idxOf il]
  refine ⟨fun z => ?_, nd.sublist (List.drop_sublist _ _), fun y hy => kn y (List.mem_of_mem_drop hy), fun i a b ha hb => ?_, fun a b ha hb => ?_⟩
  · have := congrArg List.length z
    rw [List.length_drop] at this
    simp at this
    omega
  · rw [List.getElem?_drop] at ha hb
    have lb := (List.getElem?_eq_some_iff.mp hb).1
    refine c (W.idxOf h + i) a b (by rw [List.getElem?_append_left (by omega)]; exact ha) ?_
    rw [show W.idxOf h + i + 1 = W.idxOf h + (i + 1) by omega, List.getElem?_append_left lb]
    exact hb
  · rw [List.head?_drop, at_] at hb
    have hb : h = b := by simpa using hb
    have la : W.getLast? = some a := by
      rw [List.getLast?_drop] at ha
      split at ha
      · cases ha
      · exact ha
    rw [List.getLast?_eq_getElem?] at la
    have ll := (List.getElem?_eq_some_iff.mp la).1
    refine c (W.length - 1) a b (by rw [List.getElem?_append_left ll]; exact la) ?_
    rw [show W.length - 1 + 1 = W.length by omega, List.getElem?_append_right (Nat.le_refl _), Nat.sub_self, ← hb]
    rfl
theorem cut_drop (xs : List V) (k : Nat) (h : k ≤ xs.length) : cutV xs (some (k : Int)) none = xs.drop k := by
  unfold cutV
  rw [HT.sIx_none, HT.sIx_nat, Nat.min_eq_left h]
  refine List.take_of_length_le ?_
  rw [List.length_drop]
  exact Nat.le_refl _
def spEndlessX : Sp := fun vs H Q _ => ∃ (d : Addr) (o : Obj) (rows : List (Str × List Str)) (kvs : List (Key × V)), vs = [.ref d] ∧ BookD H d o rows kvs ∧ RFine rows ∧ UFine rows ∧ Cyc rows ∧
  ∀ l ls H', Same H H' → H' l = some (.lst (ls.map V.str)) → ls ≠ [] → ls.length ≤ 24 → (∀ x ∈ ls, x ∈ rows.map (·.1)) → (∀ x ∈ ls, ∃ u ∈ upsOf rows x, u ∈ ls) → Q (.ref l) H'
def spRingX : Sp := fun vs H Q _ => ∃ (d : Addr) (o : Obj) (rows : List (Str × List Str)) (kvs : List (Key × V)), vs = [.ref d] ∧ BookD H d o rows kvs ∧ RFine rows ∧ UFine rows ∧ Cyc rows ∧
  ∀ l ys H', Same H H' → H l = none → H' l = some (.lst (ys.map V.str)) → ys.length ≤ 24 → IsRing rows ys → Q (.ref l) H'
def spInitX (K : PySem.W.Frag) (Ds : Nat → Addr) : Sp := fun vs H _ E => ∃ (p l : Addr) (rows : List (Str × List Str)) (e : KErr), vs = [.ref p, .ref l] ∧ RowsG K H l rows ∧ (∀ q ∈ rows, Shows q.1 ∧ ∀ u ∈ q.2, Shows u) ∧ KDue rows (some e) ∧ RefK Ds rows E H e
section
variable {P : Program} {w : World} {K : PySem.W.Frag} {mg : Str → Option Value} {base : Heap}
theorem ok_check_upsT {f f0 f1 : Addr} {Ds : Nat → Addr} {fd fd0 fd1 : FuncData} (F : Def K mg "check_ups" s_check_ups ["ups_of"] f fd) (E0 : ErrI P w K mg base "NoKind" (Ds 0) "word" (spXI (Ds 0) "word" okS) f0 fd0) (E1 : ErrI P w K mg base "Twice" (Ds 1) "word" (spXI (Ds 1) "word" okS) f1 fd1) : FnOk P w K mg base (CX1 P w) 3 f fd ["ups_of"] (spCheckUpsT Ds) := by
  refine F.fn.ok1 scCU (fun vs H Q E h => ?_) (fun cdv A outer s H vs Q E hr h => ?_)
  · obtain ⟨d, o, rows, kvs, r, rfl, _⟩ := h
    rfl
  · obtain ⟨d, o, rows, kvs, r, rfl, bk, fi, sh, due, q, re⟩ := h
    have nd := scCU.nd
    have hu := hu_of hr
    refine ⟨_, pss_one (ps_for PassesOwn.leaving rfl (pi_vals (pv 0)) (pg_name (i := 1) nd rfl (Or.inl rfl))
        (pss_cons (ps_set (i := 2) nd rfl (Or.inl rfl) pe_dnewK)
        (pss_one (ps_for PassesOwn.leaving rfl (pi_tup (pv 1)) (pg_name (i := 3) nd rfl (Or.inl rfl))
          (pss_cons (ps_if (pt_cmp (pc_dnotin hu (pv 3) (pv 0))) (pss_one (ps_raiseI (C := Ds 0) Fns.of hr.hd E0.ex E0.ini E0.ty E0.go hr E0.b (by rfl) E0.m (pa_cons (pv 3) pa_nil))) pss_nil)
          (pss_cons (ps_if (pt_cmp (pc_din hu (pv 3) (pv 2))) (pss_one (ps_raiseI (C := Ds 1) Fns.of hr.hd E1.ex E1.ini E1.ty E1.go hr E1.b (by rfl) E1.m (pa_cons (pv 3) pa_nil))) pss_nil)
          (pss_one (ps_dput hu (pv 2) (pv 3) pe_bl rfl)))))))), ?_⟩
    obtain ⟨lim, l1, l3⟩ : ∃ lim, (∀ q ∈ rows.take lim, (∀ v ∈ q.2, v ∈ rows.map (·.1)) ∧ q.2.Nodup) ∧ ((r = none ∧ lim = rows.length) ∨ ∃ e j, r = some e ∧ UBad rows lim j e) := by
      cases due with
      | bad k j h => exact ⟨k, h.ahead, .inr ⟨_, j, rfl, h⟩⟩
      | fine f => exact ⟨rows.length, (by rw [List.take_length]; exact fun q hq => ⟨f.known q hq, f.upnd q hq⟩), .inl ⟨rfl, rfl⟩⟩
    have kl : kvs.length = rows.length := (Paired.length bk.ups).symm
    refine ⟨_, rfl, d, o, kvs, rfl, bk.at_, for_runs runs_vals (fun i σ H' => ∃ (a b c : Option V), i ≤ lim ∧ σ = [some (.ref d), a, b, c] ∧ Same H H') ⟨none, none, none, Nat.zero_le _, rfl, Same.refl H⟩ (fun i σ H' _ ⟨_, _, _, _, _, s⟩ => s _ _ bk.at_) ?_ ?_⟩
    · rintro i v σ H' hi ⟨a, b, c, il, rfl, s⟩
      rw [List.getElem?_map] at hi
      obtain ⟨p, hp, e⟩ := Option.map_eq_some_iff.mp hi
      obtain ⟨q', hr', hk, t, ht, htup⟩ := paired_at bk.ups hp
      have hmem : q' ∈ rows := List.mem_of_getElem? hr'
      have ilt : i < rows.length := (List.getElem?_eq_some_iff.mp hr').1
      subst e
      show gName 1 p.2 _ _ _
      rw [ht]
      -- how far this row is well
      obtain ⟨lj, j1, j2, j3⟩ : ∃ lj, (∀ v ∈ q'.2.take lj, v ∈ rows.map (·.1)) ∧ (q'.2.take lj).Nodup ∧ ((i < lim ∧ lj = q'.2.length) ∨ ∃ e u, r = some e ∧ q'.2[lj]? = some u ∧ ((u ∉ rows.map (·.1) ∧ e = .noK u) ∨ (u ∈ rows.map (·.1) ∧ u ∈ q'.2.take lj ∧ e = .twice u))) := by
        by_cases ie : i = lim
        · rcases l3 with ⟨_, z⟩ | ⟨e, j, er, hb⟩
          · omega
          obtain ⟨q2, u, hq2, hu2, h1, h2, h3⟩ := hb.ex
          rw [← ie, hr'] at hq2
          cases hq2
          exact ⟨j, h1, h2, .inr ⟨e, u, er, hu2, h3⟩⟩
        · have hin : (rows.take lim)[i]? = some q' := by rw [List.getElem?_take, if_pos (by omega)]; exact hr'
          obtain ⟨h1, h2⟩ := l1 q' (List.mem_of_getElem? hin)
          exact ⟨q'.2.length, (by rw [List.take_length]; exact h1), (by rw [List.take_length]; exact h2), .inl ⟨by omega, rfl⟩⟩
      intro sd hsd
      have s1 : Same H (upd H' sd (.dK [])) := fun b o e => by rw [upd_ne (ne_of_none (s _ _ e) hsd)]; exact s _ _ e
      have t1 : (upd H' sd (.dK [])) t = some (.tup (q'.2.map V.str)) := s1 _ _ htup
      have hsH : H sd = none := s.free hsd
      refine ⟨_, rfl, t, rfl, ⟨_, SqT.of t1⟩, for_runs (runs_tup (xs := q'.2.map V.str)) (fun j σ H2 => ∃ (kvs' : List (Key × V)) (c : Option V), j ≤ lj ∧ σ = [some (.ref d), some (.ref t), some (.ref sd), c] ∧ Same H H2 ∧ H2 sd = some (.dK kvs') ∧ kvs'.map (·.1) = (q'.2.take j).map fun y => (Sum.inr y : Key))
        ⟨[], _, Nat.zero_le _, rfl, s1, upd_same, by simp⟩ (fun j σ H2 _ ⟨_, _, _, _, s, _⟩ => SqT.of (s _ _ htup)) ?_ ?_⟩
      · rintro j v σ H2 hj ⟨kvs', c, jl, rfl, s2, hsd2, hk'⟩
        obtain ⟨x, hx, rfl⟩ := strs_at hj
        have xm : x ∈ q'.2 := List.mem_of_getElem? hx
        have hsx := sh q' hmem x xm
        have jlt : j < q'.2.length := (List.getElem?_eq_some_iff.mp hx).1
        have okx : ∀ y, H2 y = none → ∀ o, okS (V.str x) (upd H2 y o) := fun y _ o => ⟨x, rfl, hsx⟩
        have known : x ∈ rows.map (·.1) → ∃ t2, valV kvs (Sum.inr x) = some (.ref t2) := fun h => by
          obtain ⟨r2, hr2, er2⟩ := List.mem_map.mp h
          obtain ⟨t2, hv2, _⟩ := bk.ups.val fi.nd hr2
          rw [er2] at hv2
          exact ⟨t2, hv2⟩
        refine ⟨_, rfl, _, rfl, d, _, rfl, DGet.f (k := Sum.inr x) (s2 _ _ bk.at_), _, rfl, ?_⟩
        have inU : (Sum.inr x : Key) ∈ kvs'.map (·.1) ↔ x ∈ q'.2.take j := by
          rw [hk']
          constructor
          · intro m
            obtain ⟨z, hz, e⟩ := List.mem_map.mp m
            have e : z = x := by injection e
            rw [← e]; exact hz
          · intro m
            exact List.mem_map.mpr ⟨x, m, rfl⟩
        by_cases je : j = lj
        · rcases j3 with ⟨_, z⟩ | ⟨e, u, er, hu2, hor⟩
          · omega
          rw [← je, hx] at hu2
          cases hu2
          rcases hor with ⟨h1, e1⟩ | ⟨h1, h2, e1⟩
          · have : valV kvs (Sum.inr x) = none := by
              refine valV_none fun z => h1 ?_
              rw [bk.ups.keys] at z
              obtain ⟨r2, hr2, e⟩ := List.mem_map.mp z
              have e : r2.1 = x := by injection e
              exact List.mem_map.mpr ⟨r2, hr2, e⟩
            rw [this]
            exact iteT ⟨_, rfl, _, rfl, fun y hy => okx y hy _, fun dx hdx => (re _ er).noK _ e1 dx _ (s2.trans (snewK hdx)) upd_same⟩
          · obtain ⟨t2, hv2⟩ := known h1
            rw [hv2]
            refine iteF ⟨_, rfl, _, rfl, sd, _, rfl, DGet.k (k := Sum.inr x) hsd2, _, rfl, ?_⟩
            obtain ⟨v, hv⟩ := memK (inU.mpr (by rw [je]; exact h2))
            rw [hv]
            exact iteT ⟨_, rfl, _, rfl, fun y hy => okx y hy _, fun dx hdx => (re _ er).twice _ e1 dx _ (s2.trans (snewK hdx)) upd_same⟩
        · have jlt' : j < lj := by omega
          have hin : (q'.2.take lj)[j]? = some x := by rw [List.getElem?_take, if_pos jlt']; exact hx
          obtain ⟨t2, hv2⟩ := known (j1 x (List.mem_of_getElem? hin))
          rw [hv2]
          refine iteF ⟨_, rfl, _, rfl, sd, _, rfl, DGet.k (k := Sum.inr x) hsd2, _, rfl, ?_⟩
          have hnew : (Sum.inr x : Key) ∉ kvs'.map (·.1) := by
            rw [hk']
            have := taken_str j2 hin
            rw [List.take_take, Nat.min_eq_left (Nat.le_of_lt jlt')] at this
            exact this
          rw [valV_none hnew]
          refine iteF ?_
          have hkl : kvs'.length = (q'.2.take j).length := by have := congrArg List.length hk'; simpa using this
          have hjl : (q'.2.take j).length ≤ 8 := by rw [List.length_take]; have := fi.few q' hmem; omega
          refine ⟨_, rfl, _, rfl, sd, _, rfl, DPut.k (k := Sum.inr x) hsd2 (small_lt (by omega)), _, _, jlt', rfl, fun b o e => ?_, upd_same, ?_⟩
          · rw [upd_ne (ne_of_none e hsH)]; exact s2 _ _ e
          · rw [putK_keys hnew, hk', List.take_add_one, hx, List.map_append]
            rfl
      · rintro σ H2 ⟨kvs', c, jl, rfl, s2, hsd2, hk'⟩
        rw [List.length_map] at jl
        rcases j3 with ⟨z, _⟩ | ⟨e, u, er, hu2, _⟩
        · exact ⟨_, _, _, z, rfl, s2⟩
        · have := (List.getElem?_eq_some_iff.mp hu2).1
          omega
    · rintro σ H' ⟨a, b, c, il, rfl, s⟩
      rw [List.length_map, kl] at il
      rcases l3 with ⟨er, _⟩ | ⟨e, j, er, hb⟩
      · exact q er H' s
      · obtain ⟨q2, u, hq2, _⟩ := hb.ex
        have := (List.getElem?_eq_some_iff.mp hq2).1
        omega
theorem ok_endlessX {f fF : Addr} {fd fdF : FuncData} (F : Def K mg "endless" s_endless ["ups_of"] f fd) (DF : Def K mg "first_among" s_first_among ["words", "others"] fF fdF) (T : TxtK mg) : FnOk P w K mg base CX0 2 f fd ["ups_of"] spEndlessX := by
  have GF : FnOk P w K mg base CX0 1 fF fdF ["words", "others"] (spFirst K) := ok_first DF
  refine F.fn.ok scE (fun vs H Q E h => ?_) (fun cdv A outer s H vs Q E hr h => ?_)
  · obtain ⟨d, o, rows, kvs, rfl, _⟩ := h
    rfl
  · obtain ⟨d, o, rows, kvs, rfl, bk, g, uf, ⟨x0, hx0, u0, hu0, hr0⟩, q⟩ := h
    have nd := scE.nd
    have hu := hu_of hr
    refine ⟨_, pss_cons (ps_set (i := 1) nd rfl (Or.inr rfl) (pe_callTy (call_list_keys rfl) (by rfl) T.list PyProof.Rows.boot_list (pa_cons (pv 0) pa_nil)))
      (pss_one (ps_while PassesOwn.never (pt_val pe_bl)
        (pss_cons (ps_setComp (k := 2) ["word"] ["ups_of", "left"] [0, 1] nd rfl rfl (fun _ => compT_ok (osc := defScope s_endless) (on := nEnd) (by decide +kernel) rfl rfl rfl) (pi_list (pv 1)) (fun C s H fp => pg_name (i := 0) nd_wul rfl (Or.inl rfl) (Or.inr rfl))
          (fun C s H fp => pts_one (pt_cmp (pc_notN (pe_callD DF GF hr (pa_cons (pe_dget hu (pv 1) (pv 0) (fun _ _ => rfl)) (pa_cons (pv 2) pa_nil)))))) (fun C s H fp => pv 0))
        (pss_cons (ps_if (pt_cmpR op_eq (pe_callB call_len (by rfl) T.len PySem.boot_len (pa_cons (pv 2) pa_nil)) (pe_callB call_len (by rfl) T.len PySem.boot_len (pa_cons (pv 1) pa_nil)) (nomark _)) (pss_one (ps_ret (pv 2))) pss_nil)
        (pss_one (ps_set (i := 1) nd rfl (Or.inr rfl) (pv 2))))))), ?_⟩
    have wl : (rows.map (·.1)).length ≤ 24 := by rw [List.length_map]; exact g.le
    refine ⟨_, rfl, d, kvs, rfl, .inr ⟨o, bk.at_⟩, fun l0 hl0 => ?_⟩
    refine ⟨fun m σ H' => ∃ (ll : Addr) (ls : List Str) (c : Option V), σ = [some (.ref d), some (.ref ll), c] ∧ Same H H' ∧ H' ll = some (.lst (ls.map V.str)) ∧ (∀ x ∈ ls, x ∈ rows.map (·.1)) ∧ (∀ y, OnCyc rows x0 y → y ∈ ls) ∧ ls.length ≤ 24 ∧ m = ls.length,
      ⟨_, l0, rows.map (·.1), none, rfl, fun b o e => by rw [upd_ne (ne_of_none e hl0)]; exact e, by rw [upd_same, keysV bk.ups], fun x h => h, (fun y hy => Graph.closed_reach (S := fun z => z ∈ rows.map (·.1)) (fun a ha b hb => ups_knownF g uf ha hb) hy.1 hx0), wl, rfl⟩, ?_⟩
    rintro m σ H' ⟨ll, ls, c, rfl, s1, hll, hsub, hcy, h24, rfl⟩
    refine ⟨true, rfl, ?_⟩
    refine iteT ⟨fun σ' H2 => ∃ m', m' < ls.length ∧ ∃ (ll : Addr) (ls : List Str) (c : Option V), σ' = [some (.ref d), some (.ref ll), c] ∧ Same H H2 ∧ H2 ll = some (.lst (ls.map V.str)) ∧ (∀ x ∈ ls, x ∈ rows.map (·.1)) ∧ (∀ y, OnCyc rows x0 y → y ∈ ls) ∧ ls.length ≤ 24 ∧ m' = ls.length, fun _ _ h => h, ?_⟩
    refine ⟨_, rfl, ll, rfl, ⟨_, SqL.of hll⟩, comp_pure (runs_list (xs := ls.map V.str)) (small_line (by rw [List.length_map]; omega)) (keptV rows ls) (fun v => v) (fun D ys hD => SqL.of (by rw [upd_ne (ne_of_none hll hD)]; exact hll)) ?_ ?_ ?_⟩
    · intro D ys v R hD hv hR
      obtain ⟨x, hx, rfl⟩ := List.mem_map.mp hv
      obtain ⟨r, hr', rfl⟩ := word_row (hsub x hx)
      obtain ⟨t, hvt, ht⟩ := bk.ups.val g.nd hr'
      have kp : ∀ b o, H b = some o → (upd H' D (.lst ys)) b = some o := fun b o e => by rw [upd_ne (ne_of_none (s1 _ _ e) hD)]; exact s1 _ _ e
      refine ⟨_, rfl, _, rfl, d, _, rfl, (by rw [← hvt]; exact DGet.f (k := Sum.inr r.1) (kp _ _ bk.at_)), _, rfl, t, ll, r.2, ls, rfl, SqT.of (kp _ _ ht), SqL.of (by rw [upd_ne (ne_of_none hll hD)]; exact hll), _, rfl, ?_⟩
      have e : (!decide (foundV r.2 ls = V.non)) = keptV rows ls (V.str r.1) := by
        rw [found_is]
        show _ = (upsOf rows r.1).any _
        rw [upsOf_at g.nd hr']
      rw [e]
      exact hR
    · intro D ys v R hD hv _ hR
      exact ⟨_, rfl, hR⟩
    · intro D hD
      rw [kept_map]
      have hDl : (upd H' D (.lst ((Graph.kept (upsOf rows) ls).map V.str))) ll = some (.lst (ls.map V.str)) := by rw [upd_ne (ne_of_none hll hD)]; exact hll
      have s2 : Same H (upd H' D (.lst ((Graph.kept (upsOf rows) ls).map V.str))) := fun b o e => by rw [upd_ne (ne_of_none (s1 _ _ e) hD)]; exact s1 _ _ e
      refine ⟨_, rfl, _, _, rfl, .inl ⟨_, SqL.of upd_same, rfl⟩, _, rfl, _, _, rfl, .inl ⟨_, SqL.of hDl, rfl⟩, rfl, _, rfl, ?_⟩
      have kle := Graph.kept_le (upsOf rows) ls
      refine ite2 (fun h => ?_) (fun h => ?_)
      · have h : (Graph.kept (upsOf rows) ls).length = ls.length := by
          have := of_decide_eq_true h
          injection this with this
          rw [List.length_map, List.length_map] at this
          omega
        have ke : Graph.kept (upsOf rows) ls = ls := Graph.filter_all h
        rw [ke] at s2 ⊢
        refine ⟨_, rfl, q D ls _ s2 upd_same (fun z => ?_) h24 hsub fun x hx => ?_⟩
        · have := hcy x0 ⟨.refl _, .refl _⟩
          rw [z] at this
          cases this
        · rw [← ke] at hx
          obtain ⟨u, h1, h2⟩ := List.any_eq_true.mp (List.mem_filter.mp hx).2
          exact ⟨u, h1, of_decide_eq_true h2⟩
      · have h : (Graph.kept (upsOf rows) ls).length ≠ ls.length := fun z => h (decide_eq_true (by rw [List.length_map, List.length_map, z]))
        exact ⟨_, rfl, _, by omega, D, _, _, rfl, s2, upd_same, fun x hx => hsub x (Graph.kept_sub hx), (fun y hy => by
          obtain ⟨z, hz, hzc⟩ := cyc_step hu0 hr0 hy
          exact List.mem_filter.mpr ⟨hcy y hy, List.any_eq_true.mpr ⟨z, hz, decide_eq_true (hcy z hzc)⟩⟩), by omega, rfl⟩
theorem ok_ringX {f fE fF : Addr} {fd fdE fdF : FuncData} (F : Def K mg "find_ring" s_find_ring ["ups_of"] f fd) (DE : Def K mg "endless" s_endless ["ups_of"] fE fdE) (DF : Def K mg "first_among" s_first_among ["words", "others"] fF fdF) (T : TxtK mg) : FnOk P w K mg base CX0 3 f fd ["ups_of"] spRingX := by
  have GE : FnOk P w K mg base CX0 2 fE fdE ["ups_of"] spEndlessX := ok_endlessX DE DF T
  have GF : FnOk P w K mg base CX0 1 fF fdF ["words", "others"] (spFirst K) := ok_first DF
  refine F.fn.ok scR (fun vs H Q E h => ?_) (fun cdv A outer s H vs Q E hr h => ?_)
  · obtain ⟨d, o, rows, kvs, rfl, _⟩ := h
    rfl
  · obtain ⟨d, o, rows, kvs, rfl, bk, g, uf, cy, q⟩ := h
    have nd := scR.nd
    have hu := hu_of hr
    have hr1 : Room 1 _ := hr.mono (by decide)
    refine ⟨_, pss_cons (ps_set (i := 1) nd rfl (Or.inl rfl) (pe_callD DE GE hr (pa_cons (pv 0) pa_nil)))
      (pss_cons (ps_if (pt_not (pt_truth (pv 1) (fun _ => rfl))) (pss_one (ps_ret pe_non)) pss_nil)
      (pss_cons (ps_set (i := 2) nd rfl (Or.inl rfl) (pe_lst pa_nil))
      (pss_cons (ps_set (i := 3) nd rfl (Or.inl rfl) (pe_ix (r := rIxL K) ix_list (pv 1) pe_int (fun _ _ => rfl)))
      (pss_cons (ps_while PassesOwn.never (pt_cmpR (r := rIn K true) op_notIn_seq (pv 3) (pv 2) (by with_unfolding_all rfl))
        (pss_cons (ps_expr (pe_bm PySem.F.plainAttrs_list PySem.F.slot_list_append PySem.F.type_list_append mt_append (pv 2) (pa_cons (pv 3) pa_nil)))
        (pss_one (ps_set (i := 3) nd rfl (Or.inl rfl) (pe_callD DF GF hr1 (pa_cons (pe_dget hu (pv 0) (pv 3) (fun _ _ => rfl)) (pa_cons (pv 1) pa_nil)))))))
      (pss_one (ps_ret (pe_slice (r := rSlL K) sl_list (pv 2) (po_some (pe_bm PySem.F.plainAttrs_list PySem.F.slot_list_index PySem.F.type_list_index (mt_indexD (hu65 hr)) (pv 2) (pa_cons (pv 3) pa_nil))) po_none))))))), ?_⟩
    refine ⟨_, rfl, d, o, rows, kvs, rfl, bk, g, uf, cy, fun l ls H1 s1 hl lne l24 sub up => ?_⟩
    refine ⟨_, rfl, true, .inl ⟨_, SqL.of hl, ?_⟩, iteF ?_⟩
    · cases ls with
      | nil => exact absurd rfl lne
      | cons a r => rfl
    refine ⟨Nat.zero_le _, fun wa hwa => ?_⟩
    have s2 : Same H1 (upd H1 wa (.lst [])) := snewK hwa
    have hw2 : (upd H1 wa (.lst [])) wa = some (.lst []) := upd_same
    generalize upd H1 wa (.lst []) = H2 at s2 hw2
    have s02 := s1.trans s2
    obtain ⟨x0, hx0⟩ : ∃ x0, ls[0]? = some x0 := by
      cases ls with
      | nil => exact absurd rfl lne
      | cons a r => exact ⟨a, rfl⟩
    refine ⟨_, rfl, l, _, _, _, rfl, rfl, SqL.of (s2 _ _ hl), atI_nat (j := 0) (v := .str x0) (by rw [List.getElem?_map, hx0]; rfl), ?_⟩
    have wH : H wa = none := s1.free hwa
    refine ⟨fun m σ H' => ∃ (W : List Str) (h : Str), σ = [some (.ref d), some (.ref l), some (.ref wa), some (.str h)] ∧ Same H H' ∧ H' l = some (.lst (ls.map V.str)) ∧ H' wa = some (.lst (W.map V.str)) ∧ W.Nodup ∧ (∀ y ∈ W, y ∈ ls) ∧ h ∈ ls ∧ Cons2 rows (W ++ [h]) ∧ m + W.length = ls.length,
      ⟨ls.length, [], x0, rfl, s02, s2 _ _ hl, hw2, .nil, (fun y hy => nomatch hy), List.mem_of_getElem? hx0, (fun i a b _ hb => by simp at hb), rfl⟩, ?_⟩
    rintro m σ H3 ⟨W, h, rfl, s3, hl3, hw3, wn, ws, hm, c2, em⟩
    have wl := Graph.nodup_le wn ws
    refine ⟨_, rfl, _, rfl, wa, _, rfl, .inl (SqL.of hw3), rfl, flat_strs W, _, rfl, ?_⟩
    rw [if_pos rfl, in_strs]
    have hk := sub h hm
    refine ite2 (fun hn => ?_) (fun hn => ?_)
    · have hn : h ∉ W := by simpa using hn
      refine ⟨fun σ' H' => ∃ m', m' < m ∧ ∃ (W : List Str) (h : Str), σ' = [some (.ref d), some (.ref l), some (.ref wa), some (.str h)] ∧ Same H H' ∧ H' l = some (.lst (ls.map V.str)) ∧ H' wa = some (.lst (W.map V.str)) ∧ W.Nodup ∧ (∀ y ∈ W, y ∈ ls) ∧ h ∈ ls ∧ Cons2 rows (W ++ [h]) ∧ m' + W.length = ls.length, fun _ _ z => z, ?_⟩
      have wn' : (W ++ [h]).Nodup := by
        rw [List.nodup_append]
        exact ⟨wn, by simp, fun a ha b hb e => hn (by rw [← List.mem_singleton.mp hb, ← e]; exact ha)⟩
      have ws' : ∀ y ∈ W ++ [h], y ∈ ls := fun y hy => by
        rcases List.mem_append.mp hy with z | z
        · exact ws y z
        · rw [List.mem_singleton.mp z]; exact hm
      have wl' := Graph.nodup_le wn' ws'
      rw [List.length_append, List.length_singleton] at wl'
      refine ⟨_, rfl, .inl ⟨rfl, _, SqL.of hw3⟩, _, rfl, wa, _, _, rfl, rfl, hw3, small_lt (by rw [List.length_map]; omega), ?_⟩
      have s4 : Same H (upd H3 wa (.lst (W.map V.str ++ [.str h]))) := fun b o' e => by rw [upd_ne (ne_of_none e wH)]; exact s3 _ _ e
      have lw : l ≠ wa := ne_of_none hl hwa
      have hl4 : (upd H3 wa (.lst (W.map V.str ++ [.str h]))) l = some (.lst (ls.map V.str)) := by rw [upd_ne lw]; exact hl3
      have hw4 : (upd H3 wa (.lst (W.map V.str ++ [.str h]))) wa = some (.lst ((W ++ [h]).map V.str)) := by rw [upd_same, List.map_append]; rfl
      generalize upd H3 wa (.lst (W.map V.str ++ [.str h])) = H4 at s4 hl4 hw4
      obtain ⟨r, hr', er⟩ := word_row hk
      obtain ⟨t, hvt, ht⟩ := bk.ups.val g.nd hr'
      have uo : upsOf rows h = r.2 := by rw [← er]; exact upsOf_at g.nd hr'
      obtain ⟨n, en, n1, n2⟩ := found_some (us := r.2) (ls := ls) (by rw [← uo]; exact up h hm)
      refine ⟨_, rfl, _, rfl, d, _, rfl, (by rw [← hvt, er]; exact DGet.f (k := Sum.inr h) (s4 _ _ bk.at_)), _, rfl, t, l, r.2, ls, rfl, SqT.of (s4 _ _ ht), SqL.of hl4, ?_⟩
      rw [en]
      exact ⟨m - 1, by omega, W ++ [h], n, rfl, s4, hl4, hw4, wn', ws', n2, cons2_snoc c2 (by rw [uo]; exact n1), by rw [List.length_append, List.length_singleton]; omega⟩
    · have hn : h ∈ W := by simpa using hn
      have il := List.idxOf_lt_length_of_mem hn
      have hat : W[W.idxOf h]? = some h := by rw [List.getElem?_eq_getElem il, List.getElem_idxOf il]
      have wkn : ∀ y ∈ W, isWord y = true := fun y hy => by
        obtain ⟨r, hr', er⟩ := word_row (sub y (ws y hy))
        rw [← er]; exact g.word r hr'
      refine ⟨_, rfl, _, rfl, .inl ⟨rfl, _, SqL.of hw3⟩, _, rfl, .str h, .str h, W.map PySem.W.Dat.str, W.idxOf h, .str h, rfl, .list (SqL.of hw3) (reps_strs W), .str h, ?_, word_ok (wkn h hn), by rw [List.length_map]; omega, by rw [List.getElem?_map, hat]; rfl, dEq_self _, fun m' e' hm' he' => ?_, _, rfl, ?_⟩
      · rw [List.all_eq_true]
        intro z hz
        obtain ⟨y, hy, rfl⟩ := List.mem_map.mp hz
        exact word_ok (wkn y hy)
      · rw [List.getElem?_map] at he'
        obtain ⟨y, hy, rfl⟩ := Option.map_eq_some_iff.mp he'
        refine dEq_neg fun z => ?_
        injection z with z
        rw [z] at hy
        have := nodup_ix wn hy hat
        omega
      dsimp only [tNoPart]
      refine ⟨wa, _, rfl, SqL.of hw3, fun p hp => ?_⟩
      rw [cut_drop _ _ (by rw [List.length_map]; omega), ← List.map_drop]
      refine q p _ _ (s3.trans (snewK hp)) (s3.free hp) upd_same (by rw [List.length_drop]; omega) (ring_of c2 wn (fun y hy => sub y (ws y hy)) hn)
theorem ok_initX {f C f1 f2 f3 f4 f5 f6 f0 fa fb : Addr} {Ds : Nat → Addr} {fd d1 d2 d3 d4 d5 d6 d0 da db : FuncData} (F : Fun K "__init__" "Kinds.__init__" s_Kinds___init__ f fd) (T : TxtK mg) (D1 : Def K mg "check_rows" s_check_rows ["rows"] f1 d1) (D2 : Def K mg "is_word" s_is_word ["text"] f2 d2)
    (D3 : Def K mg "check_ups" s_check_ups ["ups_of"] f3 d3) (D4 : Def K mg "find_ring" s_find_ring ["ups_of"] f4 d4) (D5 : Def K mg "endless" s_endless ["ups_of"] f5 d5) (D6 : Def K mg "first_among" s_first_among ["words", "others"] f6 d6)
    (E0 : ErrI P w K mg base "NoKind" (Ds 0) "word" (spXI (Ds 0) "word" okS) f0 d0) (E1 : ErrI P w K mg base "Twice" (Ds 1) "word" (spXI (Ds 1) "word" okS) fa da) (E3 : ErrI P w K mg base "Ring" (Ds 3) "ring" (spXL (Ds 3) "ring") fb db) (T7 : ErrP K mg "TooMany" (Ds 7)) :
    FnOk P w K mg base (CX1 P w) 4 f fd ["self", "rows"] (spInitX K Ds) := by
  have G1 : FnOk P w K mg base (CX1 P w) 3 f1 d1 ["rows"] (spCheckRowsT K Ds) := ok_check_rowsT D1 D2 T E0 E1 T7
  have G3 : FnOk P w K mg base (CX1 P w) 3 f3 d3 ["ups_of"] (spCheckUpsT Ds) := ok_check_upsT D3 E0 E1
  have G4 : FnOk P w K mg base (CX1 P w) 3 f4 d4 ["ups_of"] spRingX := (ok_ringX D4 D5 D6 T).any
  refine F.ok1 scI (fun vs H Q E h => ?_) (fun cdv A outer s H vs Q E hr h => ?_)
  · obtain ⟨p, l, rows, e, rfl, _⟩ := h
    rfl
  · obtain ⟨p, l, rows, e, rfl, hR, sh, due, re⟩ := h
    have nd := scI.nd
    have hu := hu_of hr
    have hr2 : Room 2 _ := hr.mono (by decide)
    refine ⟨_, pss_cons (ps_expr (pe_call G1 hr (by rfl) D1.m D1.fn.kp D1.b .nil (pass1 Fns.of) (pa_cons (pv 1) pa_nil)))
      (pss_cons (ps_set (i := 2) nd rfl (Or.inl rfl) pe_dnewK)
      (pss_cons (ps_for PassesOwn.leaving rfl (pi_seq (pv 1)) (pg_tup rfl (pgs_cons (pg_name (i := 3) nd rfl (Or.inl rfl)) (pgs_cons (pg_name (i := 4) nd rfl (Or.inl rfl)) pgs_nil)))
        (pss_one (ps_dput hu (pv 2) (pv 3) (pe_callTy call_tuple_of (by rfl) T.tuple PyProof.Rows.boot_tuple (pa_cons (pv 4) pa_nil)) rfl)))
      (pss_frz (pss_cons (ps_expr (pe_call G3 hr (by rfl) D3.m D3.fn.kp D3.b .nil (pass1 Fns.of) (pa_cons (pv 2) pa_nil)))
      (pss_cons (ps_set (i := 5) nd rfl (Or.inl rfl) (pe_call G4 hr (by rfl) D4.m D4.fn.kp D4.b .nil (pass1 Fns.of) (pa_cons (pv 2) pa_nil)))
      (pss_cons (ps_if (pt_cmp (pc_notN (pv 5))) (pss_one (ps_raiseL (C := Ds 3) Fns.of hr.hd E3.ex E3.ini E3.ty E3.go hr2 E3.b (by rfl) E3.m (pa_cons (pv 5) pa_nil))) pss_nil) pss_never)))))), ?_⟩
    -- the rows
    have fine : ∀ r, RDue rows r → (r = none → RFine rows) := fun r h e => by
      cases h with
      | size _ => cases e
      | bad _ _ _ _ => cases e
      | fine f => exact f
    obtain ⟨r1, due1, no1⟩ : ∃ r1, RDue rows r1 ∧ ((r1 = some e) ∨ (r1 = none ∧ ((∃ h : UDue rows (some e), True) ∨ (e = .ring ∧ UFine rows ∧ Cyc rows)))) := by
      cases due with
      | rows h => exact ⟨_, h, .inl rfl⟩
      | ups f h => exact ⟨none, .fine f, .inr ⟨rfl, .inl ⟨h, trivial⟩⟩⟩
      | ring f u c => exact ⟨none, .fine f, .inr ⟨rfl, .inr ⟨rfl, u, c⟩⟩⟩
    refine ⟨_, rfl, l, rows, r1, rfl, hR, fun q hq => (sh q hq).1, due1, fun er1 H1 s1 => ?_, fun e' er1 => ?_⟩
    rotate_left
    · rcases no1 with z | ⟨z, _⟩
      · rw [er1] at z
        cases z
        exact re
      · rw [er1] at z; cases z
    have fi := fine r1 due1 er1
    have no2 : (∃ h : UDue rows (some e), True) ∨ (e = .ring ∧ UFine rows ∧ Cyc rows) := by
      rcases no1 with z | ⟨_, z⟩
      · rw [er1] at z; cases z
      · exact z
    intro d hd
    have s2 : Same H (upd H1 d (.dK [])) := fun b o e => by rw [upd_ne (ne_of_none (s1 _ _ e) hd)]; exact s1 _ _ e
    obtain ⟨b, vs, hl, hpr⟩ := id hR
    refine ⟨_, rfl, b, l, vs, rfl, hl.mono s2, for_runs runs_seq (fun i σ H' => ∃ (kvs : List (Key × V)) (a c : Option V), σ = [some (.ref p), some (.ref l), some (.ref d), a, c, none, none] ∧ Same H H' ∧ H' d = some (.dK kvs) ∧ UpsD H' (rows.take i) kvs)
      ⟨[], none, none, rfl, s2, upd_same, by rw [List.take_zero]; exact .nil⟩ (fun i σ H' _ ⟨_, _, _, _, s, _⟩ => hl.mono s) ?_ ?_⟩
    · rintro i v σ H' hi ⟨kvs, a, c, rfl, s3, hdk, hU⟩
      obtain ⟨r, hr', t, u, rfl, ht, hug⟩ := paired_at hpr hi
      have dH : H d = none := s1.free hd
      refine ⟨t, _, rfl, s3.tup ht, rfl, _, _, rfl, _, _, rfl, rfl, ?_⟩
      have hnew : (Sum.inr r.1 : Key) ∉ kvs.map (·.1) := by rw [hU.keys]; exact taken_not fi.nd hr'
      have hil : (rows.take i).length ≤ 24 := by rw [List.length_take]; have := fi.le; omega
      have hkl : kvs.length = (rows.take i).length := (Paired.length hU).symm
      have fin : ∀ (t2 : Addr) (H2 : Hp), Same H' H2 → H2 t2 = some (.tup (r.2.map V.str)) → ∃ (kvs' : List (Key × V)) (a c : Option V), [some (V.ref p), some (V.ref l), some (V.ref d), some (V.str r.1), some (V.ref u), none, none] = [some (V.ref p), some (V.ref l), some (V.ref d), a, c, none, none] ∧ Same H (upd H2 d (.dK (putK kvs (Sum.inr r.1) (.ref t2)))) ∧
          (upd H2 d (.dK (putK kvs (Sum.inr r.1) (.ref t2)))) d = some (.dK kvs') ∧ UpsD (upd H2 d (.dK (putK kvs (Sum.inr r.1) (.ref t2)))) (rows.take (i + 1)) kvs' := fun t2 H2 s4 ht2 => by
        have d2 := s4 _ _ hdk
        have tk : ∀ b xs, H2 b = some (.tup xs) → (upd H2 d (.dK (putK kvs (Sum.inr r.1) (.ref t2)))) b = some (.tup xs) := fun b xs e => by
          rw [upd_ne (fun z => by rw [z, d2] at e; cases e)]; exact e
        refine ⟨_, _, _, rfl, fun b o e => by rw [upd_ne (ne_of_none e dH)]; exact s4 _ _ (s3 _ _ e), upd_same, ?_⟩
        have sn : UpsD (upd H2 d (.dK (putK kvs (Sum.inr r.1) (.ref t2)))) (rows.take i ++ [r]) (kvs ++ [(Sum.inr r.1, V.ref t2)]) := Paired.snoc ((hU.mono fun b xs e => s4 _ _ e).mono tk) ⟨rfl, t2, rfl, tk t2 _ ht2⟩
        rw [← putK_new _ (valV_none hnew)] at sn
        rw [List.take_add_one, hr']
        exact sn
      rcases hug with hug | hug
      · refine ⟨_, rfl, u, _, rfl, .inr ⟨SqT.of (s3 _ _ hug), _, rfl, _, rfl, d, _, rfl, DPut.k (k := Sum.inr r.1) hdk (small_lt (by omega)), fin u H' (Same.refl _) (s3 _ _ hug)⟩⟩
      · refine ⟨_, rfl, u, _, rfl, .inl ⟨s3.seq hug, fun t2 ht2 => ?_⟩⟩
        have s4 : Same H' (upd H' t2 (.tup (r.2.map V.str))) := fun b o e => by rw [upd_ne (ne_of_none e ht2)]; exact e
        exact ⟨_, rfl, _, rfl, d, _, rfl, DPut.k (k := Sum.inr r.1) (s4 _ _ hdk) (small_lt (by omega)), fin t2 _ s4 upd_same⟩
    · rintro σ H2 ⟨kvs, a, c, rfl, s3, hdk, hU⟩
      have hvl := hpr.length
      rw [← hvl, List.take_length] at hU
      -- the dict is written no more
      refine ⟨d, kvs, hdk, fun o => ?_⟩
      have dH : H d = none := s1.free hd
      have s4 : Same H (upd H2 d (.frz o (.dK kvs))) := fun b u e => by rw [upd_ne (ne_of_none e dH)]; exact s3 _ _ e
      have bk : BookD (upd H2 d (.frz o (.dK kvs))) d o rows kvs := ⟨upd_same, hU.mono fun b xs e => by rw [upd_ne (fun z => by rw [z, hdk] at e; cases e)]; exact e⟩
      have sh2 : ∀ q ∈ rows, ∀ u ∈ q.2, Shows u := fun q hq => (sh q hq).2
      rcases no2 with ⟨hU2, _⟩ | ⟨rfl, uf, cy⟩
      · exact ⟨_, rfl, d, o, rows, kvs, some e, rfl, bk, fi, sh2, hU2, (fun z => nomatch z), fun e' er => by
          cases er
          exact re.mono s4⟩
      · refine ⟨_, rfl, d, o, rows, kvs, none, rfl, bk, fi, sh2, .fine uf, fun _ H5 s5 => ?_, fun e' er => nomatch er⟩
        refine ⟨_, rfl, d, o, rows, kvs, rfl, bk.mono s5, fi, uf, cy, fun lr ys H6 s6 nlr hlr yl isr => ?_⟩
        refine ⟨_, rfl, _, rfl, iteT ⟨_, rfl, lr, ys, rfl, hlr, by omega, fun y hy => ?_, fun l2 dx nl2 ndx ne => ?_⟩⟩
        · obtain ⟨r, hr', er⟩ := word_row (isr.2.2.1 y hy)
          rw [← er]; exact (sh r hr').1
        · have sA : Same H6 (upd (upd H6 l2 (.lst (ys.map V.str))) dx (.xd [("ring", .ref l2)])) := fun b o' e => by rw [upd_ne (ne_of_none e ndx), upd_ne (ne_of_none e nl2)]; exact e
          have s46 := s4.trans (s5.trans s6)
          exact re.ring rfl dx l2 ys _ (s46.trans sA) upd_same (s46.free nl2) (by rw [upd_ne ne]; exact upd_same) isr
end
end K06

set_option Elab.async false
set_option linter.all false
set_option maxRecDepth 100000
set_option maxHeartbeats 4000000
namespace K06
open PySem L2 Md
/-! ### whether some kind comes back to itself -/
theorem rowsAt_mono {H H' : Hp} {l : Addr} {rows : List (Str × List Str)} (h : RowsAt H l rows) (s : Same H H') : RowsAt H' l rows := by
  obtain ⟨vs, a, p⟩ := h
  exact ⟨vs, s _ _ a, Paired.mapP p fun r v ⟨t, u, e, h1, h2⟩ => ⟨t, u, e, s _ _ h1, s _ _ h2⟩⟩
/-- found, with its first k gone through: by one step and more from x -/
structure GoR (rows : List (Str × List Str)) (x : Str) (fs : List Str) (k : Nat) : Prop where
  start : ∀ u ∈ upsOf rows x, u ∈ fs
  known : ∀ y ∈ fs, y ∈ rows.map (·.1)
  nd : fs.Nodup
  reach : ∀ y ∈ fs, ∃ u ∈ upsOf rows x, Graph.Reach (upsOf rows) u y
  closed : ∀ y ∈ fs.take k, ∀ u ∈ upsOf rows y, u ∈ fs
theorem GoR.le {rows : List (Str × List Str)} {x : Str} {fs : List Str} {k : Nat} (h : GoR rows x fs k) : fs.length ≤ rows.length := by
  have := Graph.nodup_le h.nd h.known
  rwa [List.length_map] at this
theorem GoR.all {rows : List (Str × List Str)} {x : Str} {fs : List Str} {k : Nat} (h : GoR rows x fs k) (hk : fs.length ≤ k) (y : Str) : y ∈ fs ↔ ∃ u ∈ upsOf rows x, Graph.Reach (upsOf rows) u y :=
  ⟨h.reach y, fun ⟨u, hu, r⟩ => Graph.closed_reach (S := fun y => y ∈ fs) (fun z hz v hv => h.closed z (by rw [List.take_of_length_le hk]; exact hz) v hv) r (h.start u hu)⟩
def newB (fs : List Str) : V → Bool
  | .str z => !decide (z ∈ fs)
  | _ => false
theorem filter_new (fs : List Str) : ∀ l : List Str, ((l.map V.str).filter (newB fs)).map (fun v => v) = (l.filter fun z => !decide (z ∈ fs)).map V.str
  | [] => rfl
  | z :: r => by
    rw [List.map_id']
    have ih := filter_new fs r
    rw [List.map_id'] at ih
    rw [List.map_cons, List.filter_cons, List.filter_cons, ih]
    show (if (!decide (z ∈ fs)) = true then _ else _) = _
    split <;> rfl
def spRings : Sp := fun vs H Q _ => ∃ (l : Addr) (rows : List (Str × List Str)), vs = [.ref l] ∧ RowsAt H l rows ∧ RFine rows ∧ UFine rows ∧ ∀ b H', Same H H' → (b = true ↔ Cyc rows) → Q (.bl b) H'
structure TxtRi (mg : Str → Option Value) : Prop where
  len : mg "len" = none
  list : mg "list" = none
  set : mg "set" = none
  srt : mg "sorted" = none
abbrev nRi : List Str := ["rows", "ups", "word", "some", "found", "at"]
theorem scRi : FnScope nRi ["rows"] (defScope s__law_rings) := ⟨rfl, rfl, rfl, by decide +kernel, rfl, by decide +kernel, by decide +kernel⟩
theorem nd_uf : (["up", "found"] : List Str).Nodup := by decide +kernel
section
variable {P : Program} {w : World} {K : PySem.W.Frag} {mg : Str → Option Value} {base : Heap}
theorem ok_rings {f : Addr} {fd : FuncData} (F : Def K mg "_law_rings" s__law_rings ["rows"] f fd) (T : TxtRi mg) : FnOk P w K mg base CX0 1 f fd ["rows"] spRings := by
  refine F.fn.ok scRi (fun vs H Q E h => ?_) (fun cdv A outer s H vs Q E hr h => ?_)
  · obtain ⟨l, rows, rfl, _⟩ := h
    rfl
  · obtain ⟨l, rows, rfl, hR, f, uf, q⟩ := h
    have nd := scRi.nd
    have hu := hu_of hr
    refine' ⟨_, pss_cons (ps_set (i := 1) nd rfl (Or.inl rfl) pe_dnewK)
      (pss_cons (ps_for PassesOwn.never rfl (pi_list (pv 0)) (pg_tup rfl (pgs_cons (pg_name (i := 2) nd rfl (Or.inl rfl)) (pgs_cons (pg_name (i := 3) nd rfl (Or.inl rfl)) pgs_nil)))
        (pss_one (ps_dput hu (pv 1) (pv 2) (pv 3) rfl)))
      (pss_frz (pss_cons (ps_for PassesOwn.never rfl (pi_keys (pv 1)) (pg_name (i := 2) nd rfl (Or.inl rfl))
          (pss_cons (ps_set (i := 4) nd rfl (Or.inr rfl) (pe_callTy call_list_of (by rfl) T.list PyProof.Rows.boot_list (pa_cons (pe_dget hu (pv 1) (pv 2) (fun _ _ => rfl)) pa_nil)))
      (pss_cons (ps_set (i := 5) nd rfl (Or.inl rfl) pe_int)
      (pss_cons (ps_while PassesOwn.never (pt_cmpR op_lt (pv 5) (pe_callB call_len (by rfl) T.len PySem.boot_len (pa_cons (pv 4) pa_nil)) (nomark _))
            (pss_cons (ps_expr (pe_bm PySem.F.plainAttrs_list PySem.F.slot_list_extend PySem.F.type_list_extend mt_extend (pv 4) (pa_cons ?ea pa_nil)))
      (pss_one (ps_set (i := 5) nd rfl (Or.inl rfl) (pe_op op_add (pv 5) pe_int)))))
      (pss_one (ps_if (pt_cmpR (r := rIn K false) op_in_seq (pv 2) (pv 4) (by with_unfolding_all rfl)) (pss_one (ps_ret pe_bl)) pss_nil))))))
      (pss_one (ps_ret pe_bl))))), ?_⟩
    case ea => exact (pe_comp ["up"] ["found"] [4] (fun _ => compT_ok (osc := defScope s__law_rings) (on := nRi) (by decide +kernel) rfl rfl rfl) (pi_list (pe_callB (call_sortSet rfl) (by rfl) T.srt PyProof.Rows.boot_sorted (pa_cons (pe_callTy (call_setT rfl) (by rfl) T.set PyProof.Rows.boot_set (pa_cons (pe_dget hu (pv 1) (pe_ix ix_list (pv 4) (pv 5) (fun _ _ => rfl)) (fun _ _ => rfl)) pa_nil)) pa_nil))) (fun C s H fp => pg_name (i := 0) nd_uf rfl (Or.inl rfl) (Or.inr rfl)) (fun C s H fp => pts_one (pt_cmpR (r := rIn K true) op_notIn_seq (pv 0) (pv 1) (by with_unfolding_all rfl))) (fun C s H fp => pv 0))
    have fle := f.le
    obtain ⟨vs, hvs, hpr⟩ := id hR
    have vl : rows.length = vs.length := Paired.length hpr
    intro d hd
    have s1 : Same H (upd H d (.dK [])) := snewK hd
    refine ⟨_, rfl, l, rfl, ⟨_, SqL.of (s1 _ _ hvs)⟩, for_runs (runs_list (xs := vs)) (fun i σ H' => ∃ (kvs : List (Key × V)) (b c : Option V), σ = [some (.ref l), some (.ref d), b, c, none, none] ∧ Same H H' ∧ H' d = some (.dK kvs) ∧ UpsD H (rows.take i) kvs)
      ⟨[], none, none, rfl, s1, upd_same, by rw [List.take_zero]; exact .nil⟩ (fun i σ H' _ ⟨_, _, _, _, s, _⟩ => SqL.of (s _ _ hvs)) ?_ ?_⟩
    · rintro i v σ H' hi ⟨kvs, b, c, rfl, s3, hdk, hU⟩
      obtain ⟨r, hr', t, u, rfl, ht, hug⟩ := paired_at hpr hi
      refine ⟨t, _, rfl, SqT.of (s3 _ _ ht), rfl, _, _, rfl, _, _, rfl, rfl, ?_⟩
      have hnew : (Sum.inr r.1 : Key) ∉ kvs.map (·.1) := by rw [hU.keys]; exact taken_not f.nd hr'
      have hil : (rows.take i).length ≤ 24 := by rw [List.length_take]; omega
      have hkl : kvs.length = (rows.take i).length := (Paired.length hU).symm
      refine ⟨_, rfl, _, rfl, _, rfl, d, _, rfl, DPut.k (k := Sum.inr r.1) hdk (small_lt (by omega)), ?_⟩
      refine ⟨_, _, _, rfl, fun b o e => by rw [upd_ne (ne_of_none e hd)]; exact s3 _ _ e, upd_same, ?_⟩
      have sn' : UpsD H (rows.take i ++ [r]) (kvs ++ [(Sum.inr r.1, V.ref u)]) := Paired.snoc hU ⟨rfl, u, rfl, hug⟩
      rw [← putK_new _ (valV_none hnew)] at sn'
      rw [List.take_add_one, hr']
      exact sn'
    rintro σ H3 ⟨kvs, x2, x3, rfl, s3, hdk, hU⟩
    rw [← vl, List.take_length] at hU
    refine ⟨d, kvs, hdk, fun od => ?_⟩
    have s4 : Same H (upd H3 d (.frz od (.dK kvs))) := fun b u e => by rw [upd_ne (ne_of_none e hd)]; exact s3 _ _ e
    have hd4 : (upd H3 d (.frz od (.dK kvs))) d = some (.frz od (.dK kvs)) := upd_same
    generalize upd H3 d (.frz od (.dK kvs)) = H4 at s4 hd4
    clear s3 hdk s1
    have ek := keysV hU
    have kl : kvs.length = rows.length := (Paired.length hU).symm
    have hU4 : UpsD H4 rows kvs := hU.mono fun b xs e => s4 _ _ e
    refine ⟨_, rfl, d, od, kvs, rfl, hd4, for_runs runs_keys (fun i σ H' => ∃ a c e : Option V, σ = [some (.ref l), some (.ref d), a, x3, c, e] ∧ Same H4 H' ∧ ∀ r ∈ rows.take i, ∀ u ∈ r.2, ¬ Graph.Reach (upsOf rows) u r.1)
      ⟨_, _, _, rfl, Same.refl _, (fun r hr => by rw [List.take_zero] at hr; cases hr)⟩ (fun i σ H' _ ⟨_, _, _, _, s, _⟩ => s _ _ hd4) ?_ ?_⟩
    · rintro i v σ H5 hi ⟨xa, xc, xe, rfl, s5, ah⟩
      rw [ek, List.getElem?_map, List.getElem?_map] at hi
      obtain ⟨z, hz, rfl⟩ := Option.map_eq_some_iff.mp hi
      obtain ⟨r, hr', rfl⟩ := Option.map_eq_some_iff.mp hz
      have hm := List.mem_of_getElem? hr'
      obtain ⟨t1, hv1, ht1⟩ := (hU4.mono fun b xs e => s5 b _ e).val f.nd hm
      have uo : upsOf rows r.1 = r.2 := upsOf_at f.nd hm
      have few := f.few r hm
      refine ⟨_, rfl, _, rfl, d, _, rfl, (hv1 ▸ DGet.f (k := Sum.inr r.1) (s5 _ _ hd4) : DGet H5 d (V.str r.1) (some (.ref t1))), t1, _, rfl, .inr (SqT.of ht1), fun fa hfa => ?_⟩
      have s6 : Same H5 (upd H5 fa (.lst (r.2.map V.str))) := snewK hfa
      have h6 : (upd H5 fa (.lst (r.2.map V.str))) fa = some (.lst (r.2.map V.str)) := upd_same
      generalize upd H5 fa (.lst (r.2.map V.str)) = H6 at s6 h6
      have fH : H4 fa = none := s5.free hfa
      refine ⟨fun m σ H7 => ∃ (fs : List Str) (k : Nat), σ = [some (.ref l), some (.ref d), some (.str r.1), x3, some (.ref fa), some (.int (k : Int))] ∧ Same H5 H7 ∧ H7 fa = some (.lst (fs.map V.str)) ∧ GoR rows r.1 fs k ∧ k ≤ fs.length ∧ m + k = rows.length,
        ⟨rows.length, r.2, 0, rfl, s6, h6, ⟨fun u hu' => by rw [uo] at hu'; exact hu', fun y hy => uf.known r hm y hy, uf.upnd r hm, fun y hy => ⟨y, by rw [uo]; exact hy, .refl _⟩, fun y hy => by rw [List.take_zero] at hy; cases hy⟩, Nat.zero_le _, rfl⟩, ?_⟩
      rintro m σ H7 ⟨fs, k, rfl, s7, h7, go, hk, hmk⟩
      have flen := go.le
      refine ⟨_, rfl, _, rfl, _, _, rfl, .inl ⟨_, SqL.of h7, rfl⟩, _, _, rfl, rfl, _, rfl, ?_⟩
      rw [List.length_map]
      refine ite2 (fun hlt => ?_) (fun hlt => ?_)
      · have hlt : k < fs.length := by have := of_decide_eq_true hlt; omega
        refine ⟨fun σ' H8 => ∃ m', m' < m ∧ ∃ (fs : List Str) (k : Nat), σ' = [some (.ref l), some (.ref d), some (.str r.1), x3, some (.ref fa), some (.int (k : Int))] ∧ Same H5 H8 ∧ H8 fa = some (.lst (fs.map V.str)) ∧ GoR rows r.1 fs k ∧ k ≤ fs.length ∧ m' + k = rows.length, fun _ _ h => h, ?_⟩
        have hat : fs[k]? = some fs[k] := List.getElem?_eq_getElem hlt
        generalize hhere : fs[k] = here at hat
        have hin : here ∈ fs := List.mem_of_getElem? hat
        obtain ⟨r2, hr2, er⟩ := word_row (go.known here hin)
        have s57 := s5.trans s7
        obtain ⟨t2, hv2, ht2⟩ := (hU4.mono fun b xs e => s57 b _ e).val f.nd hr2
        rw [er] at hv2
        have uo2 : upsOf rows here = r2.2 := by rw [← er]; exact upsOf_at f.nd hr2
        have few2 := f.few r2 hr2
        have hix : atI (fs.map V.str) (k : Int) = some (V.str here) := atI_nat (by rw [List.getElem?_map, hat]; rfl)
        refine ⟨_, rfl, .inl ⟨rfl, _, SqL.of h7⟩, _, rfl, _, rfl, _, rfl, fa, _, _, _, rfl, rfl, SqL.of h7, hix, d, _, rfl, (hv2 ▸ DGet.f (k := Sum.inr here) (s57 _ _ hd4) : DGet H7 d (V.str here) (some (.ref t2))), t2, r2.2, rfl, SqT.of ht2, uf.upnd r2 hr2, by omega, fun sa so eso hsa => ?_⟩
        have s8 : Same H7 (upd H7 sa so) := snewK hsa
        refine ⟨sa, r2.2, rfl, by rw [upd_same, eso], by omega, fun ss' ls hp _ hls => ?_⟩
        have s9 : Same (upd H7 sa so) (upd (upd H7 sa so) ls (.lst (ss'.map V.str))) := snewK hls
        have h9 : (upd (upd H7 sa so) ls (.lst (ss'.map V.str))) ls = some (.lst (ss'.map V.str)) := upd_same
        have s79 := s8.trans s9
        generalize upd (upd H7 sa so) ls (.lst (ss'.map V.str)) = H9 at s79 h9
        clear s8 s9 hls
        have sl : ss'.length ≤ 8 := by rw [hp.length_eq]; exact few2
        refine ⟨ls, rfl, ⟨_, SqL.of h9⟩, comp_val (runs_list (xs := ss'.map V.str)) (small_line (by rw [List.length_map]; omega)) (newB fs) (fun v => v) (fun H' s' => s'.seq (SqL.of h9)) ?_ ?_ ?_⟩
        · intro v H' R s' hv hR'
          obtain ⟨z, hz, rfl⟩ := List.mem_map.mp hv
          refine ⟨_, rfl, _, rfl, fa, _, rfl, .inl (SqL.of (s' _ _ (s79 _ _ h7))), rfl, flat_strs _, _, rfl, ?_⟩
          rw [show (if true = true then !inV (V.str z) (fs.map V.str) else inV (V.str z) (fs.map V.str)) = !decide (z ∈ fs) from by rw [if_pos rfl, in_strs]]
          exact hR' H' (Same.refl _)
        · intro v H' R s' _ _ hR'
          exact ⟨_, rfl, hR' H' (Same.refl _)⟩
        intro lb H10 hlb s10 hl10
        rw [filter_new] at hl10
        have h10 := s10 _ _ (s79 _ _ h7)
        have xl : (ss'.filter fun z => !decide (z ∈ fs)).length ≤ 8 := Nat.le_trans (List.length_filter_le _ _) sl
        refine ⟨fa, lb, _, _, rfl, rfl, h10, hl10, small_line (by rw [List.length_map, List.length_map]; omega), ?_⟩
        have mem : ∀ y, y ∈ fs ++ (ss'.filter fun z => !decide (z ∈ fs)) ↔ y ∈ fs ∨ y ∈ r2.2 := fun y => by
          rw [List.mem_append, List.mem_filter, hp.mem_iff]
          constructor
          · rintro (z | z)
            · exact .inl z
            · exact .inr z.1
          · rintro (z | z)
            · exact .inl z
            · by_cases c : y ∈ fs
              · exact .inl c
              · exact .inr ⟨z, by rw [decide_eq_false c]; rfl⟩
        refine ⟨_, rfl, _, _, rfl, rfl, m - 1, by omega, fs ++ (ss'.filter fun z => !decide (z ∈ fs)), k + 1, rfl, fun b o e => ?_, ?_, ⟨fun u hu1 => (mem u).mpr (.inl (go.start u hu1)), fun y hy => ?_, ?_, fun y hy => ?_, fun y hy u hu1 => ?_⟩, ?_, by omega⟩
        · rw [upd_ne (ne_of_none e hfa)]
          exact s10 _ _ (s79 _ _ (s7 _ _ e))
        · rw [upd_same, List.map_append]
        · rcases (mem y).mp hy with z | z
          · exact go.known y z
          · exact uf.known r2 hr2 y z
        · refine List.nodup_append.mpr ⟨go.nd, (hp.symm.nodup (uf.upnd r2 hr2)).sublist List.filter_sublist, fun a ha b hb e => ?_⟩
          have := (List.mem_filter.mp hb).2
          rw [← e, decide_eq_true ha] at this
          cases this
        · rcases (mem y).mp hy with z | z
          · exact go.reach y z
          · obtain ⟨u, hu1, hu2⟩ := go.reach here hin
            exact ⟨u, hu1, hu2.snoc (by rw [uo2]; exact z)⟩
        · rw [List.take_append_of_le_length (by omega), List.take_add_one, hat] at hy
          rcases List.mem_append.mp hy with z | z
          · exact (mem u).mpr (.inl (go.closed y z u hu1))
          · have : y = here := by simpa using z
            rw [this, uo2] at hu1
            exact (mem u).mpr (.inr hu1)
        · rw [List.length_append]
          omega
      · have hlt : ¬ k < fs.length := fun z => hlt (decide_eq_true (by omega))
        refine ⟨_, rfl, _, rfl, fa, _, rfl, .inl (SqL.of h7), rfl, flat_strs _, _, rfl, ?_⟩
        have hall := go.all (by omega)
        rw [show (if false = true then !inV (V.str r.1) (fs.map V.str) else inV (V.str r.1) (fs.map V.str)) = decide (r.1 ∈ fs) from by rw [if_neg (by decide), in_strs]]
        refine ite2 (fun hy => ?_) (fun hn => ?_)
        · have hy := (hall r.1).mp (of_decide_eq_true hy)
          obtain ⟨u, hu1, hu2⟩ := hy
          exact q true _ (s4.trans (s5.trans s7)) ⟨fun _ => ⟨r.1, List.mem_map.mpr ⟨r, hm, rfl⟩, u, hu1, hu2⟩, fun _ => rfl⟩
        · have hn : r.1 ∉ fs := fun z => hn (decide_eq_true z)
          refine ⟨_, _, _, rfl, s5.trans s7, fun r3 hr3 => ?_⟩
          rw [List.take_add_one, hr'] at hr3
          rcases List.mem_append.mp hr3 with z | z
          · exact ah r3 z
          · have : r3 = r := by simpa using z
            rw [this]
            intro u hu1 hu2
            exact hn ((hall r.1).mpr ⟨u, by rw [uo]; exact hu1, hu2⟩)
    · rintro σ H5 ⟨xa, xc, xe, rfl, s5, ah⟩
      have el : (kvs.map fun p => kV p.1).length = rows.length := by rw [List.length_map]; exact kl
      rw [el, List.take_length] at ah
      refine q false _ (s4.trans s5) ⟨fun z => (by cases z), fun ⟨x, hx, u, hu1, hu2⟩ => ?_⟩
      obtain ⟨r, hr', er⟩ := word_row hx
      rw [← er, upsOf_at f.nd hr'] at hu1
      rw [← er] at hu2
      exact absurd hu2 (ah r hr' u hu1)
end
end K06

set_option Elab.async false
set_option linter.all false
set_option maxRecDepth 100000
set_option maxHeartbeats 4000000
namespace K06
open PySem L2 Md
/-! ### what the law calls due -/
structure WOk (x : Str) : Prop where
  sh : Shows x
  ok : PyData.strOk x = true
theorem wok_word {x : Str} (h : isWord x = true) : WOk x := ⟨isword_shows h, word_ok h⟩
def RWOk (rows : List (Str × List Str)) : Prop := ∀ q ∈ rows, WOk q.1 ∧ (∀ u ∈ q.2, WOk u) ∧ q.2.length ≤ 1000
def numE : KErr → Nat
  | .many => 7
  | .noK _ => 0
  | .twice _ => 1
  | .ring => 3
def wordE : KErr → Str
  | .noK w => w
  | .twice w => w
  | _ => ""
def DueV (H : Hp) (r : Option KErr) (v : V) : Prop := (r = none ∧ v = .non) ∨ ∃ e t, r = some e ∧ v = .ref t ∧ H t = some (.tup [.int (numE e), .str (wordE e)])
def spLDue : Sp := fun vs H Q _ => ∃ (l : Addr) (rows : List (Str × List Str)), vs = [.ref l] ∧ RowsAt H l rows ∧ RWOk rows ∧ rows.length ≤ 100 ∧ ∀ r v H', Same H H' → KDue rows r → DueV H' r v → Q v H'
theorem le_a (c : Nat) : (!(decide ((⟨#[c]⟩ : Str).cps.toList < ("a" : Str).cps.toList))) = decide (97 ≤ c) := by
  show (!(decide ([c] < [97]))) = _
  by_cases h : 97 ≤ c
  · rw [decide_eq_true h, decide_eq_false (fun z => by
      cases z with
      | rel h => omega
      | cons h => cases h)]; rfl
  · rw [decide_eq_false h, decide_eq_true (show ([c] : List Nat) < [97] from List.Lex.rel (by omega))]; rfl
theorem le_z (c : Nat) : (!(decide (("z" : Str).cps.toList < (⟨#[c]⟩ : Str).cps.toList))) = decide (c ≤ 122) := by
  show (!(decide ([122] < [c]))) = _
  by_cases h : c ≤ 122
  · rw [decide_eq_true h, decide_eq_false (fun z => by
      cases z with
      | rel h => omega
      | cons h => cases h)]; rfl
  · rw [decide_eq_false h, decide_eq_true (show ([122] : List Nat) < [c] from List.Lex.rel (by omega))]; rfl
def badC : V → Bool
  | .str x => !(x.cps.toList.all isLow)
  | _ => false
def badS (x : Str) : List Str := (x.cps.toList.filter fun c => !isLow c).map fun c => ⟨#[c]⟩
theorem signs_map (x : Str) : signsV x = (x.cps.toList.map fun c => (⟨#[c]⟩ : Str)).map V.str := by
  unfold signsV
  rw [List.map_map]
  rfl
theorem bad_map (x : Str) : ((signsV x).filter badC).map (fun v => v) = (badS x).map V.str := by
  rw [List.map_id', signs_map]
  unfold badS
  have : ∀ l : List Nat, (((l.map fun c => (⟨#[c]⟩ : Str)).map V.str).filter badC) = ((l.filter fun c => !isLow c).map fun c => (⟨#[c]⟩ : Str)).map V.str := fun l => by
    induction l with
    | nil => rfl
    | cons c r ih =>
      rw [List.map_cons, List.map_cons, List.filter_cons, List.filter_cons, ih]
      have e : badC (V.str ⟨#[c]⟩) = !isLow c := by
        show (!([c].all isLow)) = _
        rw [List.all_cons, List.all_nil, Bool.and_true]
      rw [e]
      split <;> rfl
  exact this _
theorem bad_nil {x : Str} : badS x = [] ↔ ∀ c ∈ x.cps.toList, isLow c = true := by
  unfold badS
  rw [List.map_eq_nil_iff, List.filter_eq_nil_iff]
  constructor
  · intro h c hc
    have := h c hc
    simpa using this
  · intro h c hc
    rw [h c hc]; decide
theorem bad_ok {x : Str} (h : PyData.strOk x = true) : ∀ z ∈ badS x, PyData.strOk z = true := fun z hz => by
  unfold badS at hz
  obtain ⟨c, hc, rfl⟩ := List.mem_map.mp hz
  have hc := (List.mem_filter.mp hc).1
  unfold PyData.strOk at h ⊢
  rw [Array.all_eq_true'] at h
  have := h c (by simpa using hc)
  simpa using this
theorem ok_strsL {l : List Str} (h : ∀ z ∈ l, PyData.strOk z = true) : PySem.W.kqdOk 9 (.list (l.map PySem.W.Dat.str)) = true := by
  show (l.map PySem.W.Dat.str).all (PySem.W.kqdOk 8) = true
  rw [List.all_eq_true]
  intro d hd
  obtain ⟨x, hx, rfl⟩ := List.mem_map.mp hd
  exact h x hx
theorem cut_take (xs : List V) (k : Nat) : cutV xs none (some (k : Int)) = xs.take k := by
  unfold cutV
  rw [HT.sIx_none, HT.sIx_nat, List.drop_zero, Nat.sub_zero]
  rcases Nat.le_total k xs.length with h | h
  · rw [Nat.min_eq_left h]
  · rw [Nat.min_eq_right h, List.take_of_length_le (Nat.le_refl _), List.take_of_length_le h]
structure TxtD (mg : Str → Option Value) : Prop where
  len : mg "len" = none
  range : mg "range" = none
abbrev nDu : List Str := ["rows", "seen", "word", "ups", "k"]
theorem scDu : FnScope nDu ["rows"] (defScope s__law_due) := ⟨rfl, rfl, rfl, by decide +kernel, rfl, by decide +kernel, by decide +kernel⟩
theorem nd_sg : (["sign"] : List Str).Nodup := by decide +kernel
section
variable {P : Program} {w : World} {K : PySem.W.Frag} {mg : Str → Option Value} {base : Heap}
theorem ok_ldue {f fA : Addr} {fd fdA : FuncData} (F : Def K mg "_law_due" s__law_due ["rows"] f fd) (T : TxtD mg) (DA : Def K mg "_law_rings" s__law_rings ["rows"] fA fdA) (GA : FnOk P w K mg base CX0 1 fA fdA ["rows"] spRings) : FnOk P w K mg base CX0 2 f fd ["rows"] spLDue := by
  refine F.fn.ok scDu (fun vs H Q E h => ?_) (fun cdv A outer s H vs Q E hr h => ?_)
  · obtain ⟨l, rows, rfl, _⟩ := h
    rfl
  · obtain ⟨l, rows, rfl, hR, rok, le, q⟩ := h
    have nd := scDu.nd
    have hu := hr.units
    have hu' := hu_of hr
    refine' ⟨_, (pss_cons (ps_if (PW.pt (pw_or (pt_cmpR op_eq (pe_callB call_len_seq (by rfl) T.len PySem.boot_len (pa_cons (pv 0) pa_nil)) pe_int (nomark _)) (pw_or1 (pt_cmpR op_gt (pe_callB call_len_seq (by rfl) T.len PySem.boot_len (pa_cons (pv 0) pa_nil)) pe_int (nomark _))))) (pss_one (ps_ret (pe_tup (pa_cons pe_int (pa_cons pe_str pa_nil))))) pss_nil)
      (pss_cons (ps_set (i := 1) nd rfl (Or.inl rfl) (pe_lst pa_nil))
      (pss_cons (ps_for PassesOwn.never rfl (pi_list (pv 0)) (pg_tup rfl (pgs_cons (pg_name (i := 2) nd rfl (Or.inl rfl)) (pgs_cons (pg_name (i := 3) nd rfl (Or.inl rfl)) pgs_nil)))
        (pss_cons (ps_if (PW.pt (pw_or (pt_not (pt_chain op_le op_le pe_int (pe_callB call_len (by rfl) T.len PySem.boot_len (pa_cons (pv 2) pa_nil)) pe_int)) (pw_or1 (pt_cmpR (op_neD hu) ?e1 (pe_lst pa_nil) (nomark _))))) (pss_one (ps_ret (pe_tup (pa_cons pe_int (pa_cons (pv 2) pa_nil))))) pss_nil)
      (pss_cons (ps_if (pt_cmpR (r := rIn K false) op_in_seq (pv 2) (pv 1) (by with_unfolding_all rfl)) (pss_one (ps_ret (pe_tup (pa_cons pe_int (pa_cons (pv 2) pa_nil))))) pss_nil)
      (pss_cons (ps_if (pt_cmpR op_gt (pe_callB call_len_seq (by rfl) T.len PySem.boot_len (pa_cons (pv 3) pa_nil)) pe_int (nomark _)) (pss_one (ps_ret (pe_tup (pa_cons pe_int (pa_cons pe_str pa_nil))))) pss_nil)
      (pss_one (ps_expr (pe_bm PySem.F.plainAttrs_list PySem.F.slot_list_append PySem.F.type_list_append mt_append (pv 1) (pa_cons (pv 2) pa_nil))))))))
      (pss_cons (ps_for PassesOwn.never rfl (pi_list (pv 0)) (pg_tup rfl (pgs_cons (pg_name (i := 2) nd rfl (Or.inl rfl)) (pgs_cons (pg_name (i := 3) nd rfl (Or.inl rfl)) pgs_nil)))
        (pss_one (ps_for PassesOwn.never rfl (pi_range1 (by rfl) T.range (pa_cons (pe_callB call_len_seq (by rfl) T.len PySem.boot_len (pa_cons (pv 3) pa_nil)) pa_nil)) (pg_name (i := 4) nd rfl (Or.inl rfl))
          (pss_cons (ps_if (pt_cmpR (r := rIn K true) op_notIn_seq (pe_ix (r := rIxT K) ix_tup (pv 3) (pv 4) (fun _ _ => rfl)) (pv 1) (by with_unfolding_all rfl)) (pss_one (ps_ret (pe_tup (pa_cons pe_int (pa_cons (pe_ix (r := rIxT K) ix_tup (pv 3) (pv 4) (fun _ _ => rfl)) pa_nil))))) pss_nil)
      (pss_one (ps_if (pt_cmpR (r := rIn K false) op_in_seq (pe_ix (r := rIxT K) ix_tup (pv 3) (pv 4) (fun _ _ => rfl)) (pe_slice (r := rSlA K) sl_tupA (pv 3) po_none (po_some (pv 4))) (by with_unfolding_all rfl)) (pss_one (ps_ret (pe_tup (pa_cons pe_int (pa_cons (pe_ix (r := rIxT K) ix_tup (pv 3) (pv 4) (fun _ _ => rfl)) pa_nil))))) pss_nil))))))
      (pss_cons (ps_if (pt_val (pe_callD DA GA hr (pa_cons (pv 0) pa_nil))) (pss_one (ps_ret (pe_tup (pa_cons pe_int (pa_cons pe_str pa_nil))))) pss_nil)
      (pss_one (ps_ret pe_non))))))), ?_⟩
    case e1 => exact (pe_comp ["sign"] [] [] (fun _ => compT_ok (osc := defScope s__law_due) (on := nDu) (by decide +kernel) rfl rfl rfl) (pi_str (pv 2)) (fun C s H fp => pg_name (i := 0) nd_sg rfl (Or.inl rfl) (Or.inr rfl)) (fun C s H fp => pts_one (pt_not (pt_chain op_le_str op_le_str pe_str (pv 0) pe_str))) (fun C s H fp => pv 0))
    obtain ⟨vs, hvs, hpr⟩ := id hR
    have vl : rows.length = vs.length := Paired.length hpr
    have ret : ∀ (z : ¬ (1 ≤ rows.length ∧ rows.length ≤ 24)), ∀ t, H t = none → Q (.ref t) (upd H t (.tup [.int 7, .str ""])) := fun z t ht => q (some .many) _ _ (snewK ht) (.rows (.size z)) (.inr ⟨.many, t, rfl, rfl, upd_same⟩)
    refine ⟨_, rfl, l, _, rfl, .inl (SqL.of hvs), rfl, _, rfl, ite2 (fun zero => ?_) (fun pos => ?_)⟩
    · have zero : V.int (vs.length : Int) = V.int 0 := of_decide_eq_true zero
      injection zero with zero
      exact ⟨small_line (by show 2 ≤ 100000; decide), fun t ht => ret (by omega) t ht⟩
    have ne : 1 ≤ rows.length := by
      have : ¬ ((vs.length : Int) = 0) := fun z => pos (decide_eq_true (congrArg V.int z))
      omega
    refine ⟨_, rfl, l, _, rfl, .inl (SqL.of hvs), _, _, rfl, rfl, _, rfl, ite2 (fun big => ?_) (fun small => ?_)⟩
    · have big : (vs.length : Int) > 24 := of_decide_eq_true big
      exact ⟨small_line (by show 2 ≤ 100000; decide), fun t ht => ret (by omega) t ht⟩
    have small : rows.length ≤ 24 := by
      have : ¬ ((vs.length : Int) > 24) := fun z => small (decide_eq_true z)
      omega
    refine ⟨Nat.zero_le _, fun ls hls => ?_⟩
    have s1 : Same H (upd H ls (.lst [])) := snewK hls
    refine ⟨_, rfl, l, rfl, ⟨_, SqL.of (s1 _ _ hvs)⟩, for_runs (runs_list (xs := vs)) (fun i σ H' => ∃ x2 x3 : Option V, σ = [some (.ref l), some (.ref ls), x2, x3, none] ∧ Same H H' ∧ H' ls = some (.lst (((rows.take i).map (·.1)).map V.str)) ∧ (∀ r ∈ rows.take i, isWord r.1 = true ∧ r.2.length ≤ 8) ∧ ((rows.take i).map (·.1)).Nodup)
      ⟨none, none, rfl, s1, (by rw [List.take_zero]; exact upd_same), (fun r hr => by rw [List.take_zero] at hr; cases hr), (by rw [List.take_zero]; exact .nil)⟩ (fun i σ H' _ ⟨_, _, _, s, _⟩ => SqL.of (s _ _ hvs)) ?_ ?_⟩
    · rintro i v σ H2 hi ⟨x2, x3, rfl, s2, hl2, ah, ndp⟩
      obtain ⟨r, hr', t, u, rfl, ht, hut⟩ := paired_at hpr hi
      have hm := List.mem_of_getElem? hr'
      obtain ⟨wk, uk, ul⟩ := rok r hm
      refine ⟨t, _, rfl, SqT.of (s2 _ _ ht), rfl, _, _, rfl, _, _, rfl, rfl, ?_⟩
      have bad : ∀ (e : KErr) (t2 : Addr) (H' H3 : Hp), Same H H' → H' t2 = none → H3 = upd H' t2 (.tup [.int (numE e), .str (wordE e)]) → ((isWord r.1 = false ∧ e = .noK r.1) ∨ (isWord r.1 = true ∧ r.1 ∈ (rows.take i).map (·.1) ∧ e = .twice r.1) ∨ (isWord r.1 = true ∧ r.1 ∉ (rows.take i).map (·.1) ∧ 8 < r.2.length ∧ e = .many)) → Q (.ref t2) H3 := fun e t2 H' H3 sH ht2 eH h => by
        subst eH
        exact q (some e) _ _ (sH.trans (snewK ht2)) (.rows (.bad i ne small ⟨⟨r, hr', h⟩, ah, ndp⟩)) (.inr ⟨e, t2, rfl, rfl, upd_same⟩)
      have noW : isWord r.1 = false → ∀ t2, H2 t2 = none → Q (.ref t2) (upd H2 t2 (.tup [.int 0, .str r.1])) := fun h t2 ht2 => bad (.noK r.1) t2 H2 _ s2 ht2 rfl (.inl ⟨h, rfl⟩)
      have no : ¬ (1 ≤ r.1.length ∧ r.1.length ≤ 8) → isWord r.1 = false := fun h => by unfold isWord; rw [decide_eq_false h]; rfl
      have rl := wk.sh.1
      refine ⟨_, rfl, _, _, rfl, ⟨small_line (by omega), rfl⟩, _, _, rfl, rfl, _, rfl, ite2 (fun h1 => ?_) (fun h1 => ?_)⟩
      · have h1 : (1 : Int) ≤ (r.1.length : Int) := of_decide_eq_true h1
        refine ⟨_, _, rfl, rfl, _, rfl, ?_⟩
        refine ite2 (fun h2 => ?_) (fun h2 => ?_)
        · have h2 : ¬ ((r.1.length : Int) ≤ 8) := by simpa using h2
          exact ⟨_, rfl, small_line (by show 2 ≤ 100000; decide), fun t2 ht2 => noW (no (by omega)) t2 ht2⟩
        · have h2 : ((r.1.length : Int) ≤ 8) := by simpa using h2
          refine ⟨_, rfl, _, rfl, comp_val runs_str (by unfold signsV; rw [List.length_map, str_len]; exact small_line (by omega)) badC (fun v => v) (fun _ _ => trivial) ?_ ?_ ?_⟩
          · intro v H' R s' hv hR'
            obtain ⟨c, _, rfl⟩ := List.mem_map.mp hv
            have z := hR' H' (Same.refl _)
            refine ⟨_, rfl, _, _, rfl, rfl, _, rfl, ?_⟩
            rw [le_a]
            have eb : badC (V.str ⟨#[c]⟩) = !isLow c := by
              show (!([c].all isLow)) = _
              rw [List.all_cons, List.all_nil, Bool.and_true]
            rw [eb] at z
            unfold isLow at z
            refine ite2 (fun h => ?_) (fun h => ?_)
            · refine ⟨_, _, rfl, rfl, _, rfl, ?_⟩
              rw [le_z]
              have h := of_decide_eq_true h
              rw [show decide (97 ≤ c ∧ c ≤ 122) = decide (c ≤ 122) from decide_eq_decide.mpr ⟨fun z => z.2, fun z => ⟨h, z⟩⟩] at z
              exact z
            · have h : ¬ 97 ≤ c := fun z => h (decide_eq_true z)
              rw [decide_eq_false (fun z => h z.1)] at z
              exact ⟨_, rfl, z⟩
          · intro v H' R s' _ _ hR'
            exact ⟨_, rfl, hR' H' (Same.refl _)⟩
          intro lb H3 hlb s3 hl3
          rw [bad_map] at hl3
          refine ⟨Nat.zero_le _, fun l0 hl0 => ?_⟩
          have s4 : Same H3 (upd H3 l0 (.lst [])) := snewK hl0
          have h04 : (upd H3 l0 (.lst [])) l0 = some (.lst []) := upd_same
          generalize upd H3 l0 (.lst []) = H4 at s4 h04
          have s24 := s3.trans s4
          have s04 := s2.trans s24
          refine ⟨.list ((badS r.1).map PySem.W.Dat.str), .list [], .list (SqL.of (s4 _ _ hl3)) (reps_strs _), .list (SqL.of h04) .nil, ok_strsL (bad_ok wk.ok), rfl, _, rfl, ?_⟩
          by_cases hb : badS r.1 = []
          · have hw : isWord r.1 = true := (isWord_iff r.1).mpr ⟨by rw [str_len]; omega, bad_nil.mp hb⟩
            rw [hb]
            rw [show (!dEq (.list (([] : List Str).map PySem.W.Dat.str)) (.list [])) = false from by rw [show dEq (.list (([] : List Str).map PySem.W.Dat.str)) (.list []) = true from dEq_self _]; rfl]
            refine iteF ?_
            have hl4 := s24 _ _ hl2
            refine ⟨_, rfl, _, rfl, ls, _, rfl, .inl (SqL.of hl4), rfl, flat_strs _, _, rfl, ?_⟩
            rw [show (if false = true then !inV (V.str r.1) (((rows.take i).map (·.1)).map V.str) else inV (V.str r.1) (((rows.take i).map (·.1)).map V.str)) = decide (r.1 ∈ (rows.take i).map (·.1)) from by rw [if_neg (by decide), in_strs]]
            refine ite2 (fun hs => ?_) (fun hs => ?_)
            · have hs := of_decide_eq_true hs
              exact ⟨_, rfl, small_line (by show 2 ≤ 100000; decide), fun t2 ht2 => bad (.twice r.1) t2 H4 _ s04 ht2 rfl (.inr (.inl ⟨hw, hs, rfl⟩))⟩
            · have hs : r.1 ∉ (rows.take i).map (·.1) := fun z => hs (decide_eq_true z)
              refine ⟨_, rfl, u, _, rfl, .inr (SqT.of (s04 _ _ hut)), _, _, rfl, rfl, _, rfl, ?_⟩
              rw [List.length_map]
              refine ite2 (fun hg => ?_) (fun hg => ?_)
              · have hg : 8 < r.2.length := by have := of_decide_eq_true hg; omega
                exact ⟨small_line (by show 2 ≤ 100000; decide), fun t2 ht2 => bad .many t2 H4 _ s04 ht2 rfl (.inr (.inr ⟨hw, hs, hg, rfl⟩))⟩
              · have hg : r.2.length ≤ 8 := by
                  have : ¬ ((r.2.length : Int) > 8) := fun z => hg (decide_eq_true z)
                  omega
                have tl : (rows.take i).length ≤ 24 := by rw [List.length_take]; omega
                refine ⟨_, rfl, .inl ⟨rfl, _, SqL.of hl4⟩, _, rfl, ls, _, _, rfl, rfl, hl4, small_lt (by rw [List.length_map, List.length_map]; omega), ?_⟩
                have e1 : rows.take (i + 1) = rows.take i ++ [r] := by rw [List.take_add_one, hr']; rfl
                refine ⟨_, _, rfl, fun b o eb => by rw [upd_ne (ne_of_none eb hls)]; exact s04 _ _ eb, ?_, ?_, ?_⟩
                · rw [upd_same, e1, List.map_append, List.map_append]; rfl
                · intro r2 hr2
                  rw [e1] at hr2
                  rcases List.mem_append.mp hr2 with z | z
                  · exact ah r2 z
                  · rw [List.mem_singleton.mp z]; exact ⟨hw, hg⟩
                · rw [e1, List.map_append]
                  refine List.nodup_append.mpr ⟨ndp, by simp, fun a ha b hb e => ?_⟩
                  have : b = r.1 := by simpa using hb
                  rw [e, this] at ha
                  exact hs ha
          · have hw : isWord r.1 = false := by
              cases z : isWord r.1 with
              | false => rfl
              | true => exact absurd (bad_nil.mpr ((isWord_iff r.1).mp z).2) hb
            rw [show (!dEq (.list ((badS r.1).map PySem.W.Dat.str)) (.list [])) = true from by rw [dEq_neg (fun z => by injection z with z; exact hb (List.map_eq_nil_iff.mp z))]; rfl]
            exact iteT ⟨_, rfl, small_line (by show 2 ≤ 100000; decide), fun t2 ht2 => bad (.noK r.1) t2 H4 _ s04 ht2 rfl (.inl ⟨hw, rfl⟩)⟩
      · have h1 : ¬ ((1 : Int) ≤ (r.1.length : Int)) := fun z => h1 (decide_eq_true z)
        exact ⟨_, rfl, iteT ⟨_, rfl, small_line (by show 2 ≤ 100000; decide), fun t2 ht2 => noW (no (by omega)) t2 ht2⟩⟩
    rintro σ H2 ⟨x2, x3, rfl, s2, hl2, ah, ndp⟩
    rw [← vl, List.take_length] at hl2 ah ndp
    have f : RFine rows := ⟨ne, small, fun r hr => (ah r hr).1, ndp, fun r hr => (ah r hr).2⟩
    -- the ups
    refine ⟨_, rfl, l, rfl, ⟨_, SqL.of (s2 _ _ hvs)⟩, for_runs (runs_list (xs := vs)) (fun i σ H' => ∃ x2 x3 x4 : Option V, σ = [some (.ref l), some (.ref ls), x2, x3, x4] ∧ Same H2 H' ∧ ∀ r ∈ rows.take i, (∀ v ∈ r.2, v ∈ rows.map (·.1)) ∧ r.2.Nodup)
      ⟨_, _, _, rfl, Same.refl _, (fun r hr => by rw [List.take_zero] at hr; cases hr)⟩ (fun i σ H' _ ⟨_, _, _, _, s, _⟩ => SqL.of (s _ _ (s2 _ _ hvs))) ?_ ?_⟩
    · rintro i v σ H3 hi ⟨x2, x3, x4, rfl, s3, ahu⟩
      obtain ⟨r, hr', t, u, rfl, ht, hut⟩ := paired_at hpr hi
      have hm := List.mem_of_getElem? hr'
      have s03 := s2.trans s3
      have few := f.few r hm
      refine ⟨t, _, rfl, SqT.of (s03 _ _ ht), rfl, _, _, rfl, _, _, rfl, rfl, ?_⟩
      refine ⟨_, rfl, u, _, rfl, .inr (SqT.of (s03 _ _ hut)), _, rfl, by omega, by rw [List.length_map]; omega, for_runs runs_range (fun j σ H' => ∃ x4 : Option V, σ = [some (.ref l), some (.ref ls), some (.str r.1), some (.ref u), x4] ∧ Same H2 H' ∧ (∀ v ∈ r.2.take j, v ∈ rows.map (·.1)) ∧ (r.2.take j).Nodup)
        ⟨_, rfl, s3, (fun v hv => by rw [List.take_zero] at hv; cases hv), by rw [List.take_zero]; exact .nil⟩ (fun _ _ _ _ _ => trivial) ?_ ?_⟩
      · rintro j v σ H4 hj ⟨x4, rfl, s4, kn, ndu⟩
        obtain ⟨hj2, rfl⟩ := rangeV_get hj
        rw [List.length_map] at hj2
        have hj3 : j < r.2.length := by omega
        have hy : r.2[j]? = some r.2[j] := List.getElem?_eq_getElem hj3
        generalize r.2[j] = y at hy
        have hat : atI (r.2.map V.str) (0 + (j : Int)) = some (.str y) := by
          rw [Int.zero_add]
          exact atI_nat (by rw [List.getElem?_map, hy]; rfl)
        have s04 := s2.trans s4
        have hu4 := s04 _ _ hut
        have hl4 := s4 _ _ hl2
        have bad : ∀ (e : KErr) (t2 : Addr) (H' : Hp), Same H H' → H' t2 = none → ((y ∉ rows.map (·.1) ∧ e = .noK y) ∨ (y ∈ rows.map (·.1) ∧ y ∈ r.2.take j ∧ e = .twice y)) → Q (.ref t2) (upd H' t2 (.tup [.int (numE e), .str (wordE e)])) := fun e t2 H' sH ht2 h =>
          q (some e) _ _ (sH.trans (snewK ht2)) (.ups f (.bad i j ⟨⟨r, y, hr', hy, kn, ndu, h⟩, ahu⟩)) (.inr ⟨e, t2, rfl, rfl, upd_same⟩)
        refine ⟨_, rfl, _, rfl, u, _, _, _, rfl, rfl, SqT.of hu4, hat, _, rfl, ls, _, rfl, .inl (SqL.of hl4), rfl, flat_strs _, _, rfl, ?_⟩
        rw [show (if true = true then !inV (V.str y) ((rows.map (·.1)).map V.str) else inV (V.str y) ((rows.map (·.1)).map V.str)) = !decide (y ∈ rows.map (·.1)) from by rw [if_pos rfl, in_strs]]
        refine ite2 (fun hn => ?_) (fun hn => ?_)
        · have hn : y ∉ rows.map (·.1) := fun z => by rw [decide_eq_true z] at hn; cases hn
          exact ⟨_, rfl, _, rfl, u, _, _, _, rfl, rfl, SqT.of hu4, hat, small_line (by show 2 ≤ 100000; decide), fun t2 ht2 => bad (.noK y) t2 H4 s04 ht2 (.inl ⟨hn, rfl⟩)⟩
        · have hn : y ∈ rows.map (·.1) := Classical.byContradiction fun c => hn (by rw [decide_eq_false c]; rfl)
          refine ⟨_, rfl, _, rfl, u, _, _, _, rfl, rfl, SqT.of hu4, hat, _, rfl, _, rfl, _, rfl, rSlA_of hu4 fun uc H5 s5 h5 => ?_⟩
          rw [show cutV (r.2.map V.str) none (some (0 + (j : Int))) = (r.2.take j).map V.str from by rw [Int.zero_add, cut_take, List.map_take]] at h5
          have s05 := s04.trans s5
          refine ⟨uc, _, rfl, .inr (SqT.of h5), rfl, flat_strs _, _, rfl, ?_⟩
          rw [show (if false = true then !inV (V.str y) ((r.2.take j).map V.str) else inV (V.str y) ((r.2.take j).map V.str)) = decide (y ∈ r.2.take j) from by rw [if_neg (by decide), in_strs]]
          refine ite2 (fun hs => ?_) (fun hs => ?_)
          · have hs := of_decide_eq_true hs
            exact ⟨_, rfl, _, rfl, u, _, _, _, rfl, rfl, SqT.of (s5 _ _ hu4), hat, small_line (by show 2 ≤ 100000; decide), fun t2 ht2 => bad (.twice y) t2 H5 s05 ht2 (.inr ⟨hn, hs, rfl⟩)⟩
          · have hs : y ∉ r.2.take j := fun z => hs (decide_eq_true z)
            have e1 : r.2.take (j + 1) = r.2.take j ++ [y] := by rw [List.take_add_one, hy]; rfl
            refine ⟨_, rfl, s4.trans s5, ?_, ?_⟩
            · intro v hv
              rw [e1] at hv
              rcases List.mem_append.mp hv with z | z
              · exact kn v z
              · rw [List.mem_singleton.mp z]; exact hn
            · rw [e1]
              refine List.nodup_append.mpr ⟨ndu, by simp, fun a ha b hb e => ?_⟩
              rw [e, List.mem_singleton.mp hb] at ha
              exact hs ha
      · rintro σ H4 ⟨x4, rfl, s4, kn, ndu⟩
        have ej : r.2.take (rangeV 0 ((r.2.map V.str).length : Int).toNat).length = r.2 := by
          rw [rangeV_len, List.length_map]
          exact List.take_of_length_le (by omega)
        rw [ej] at kn ndu
        refine ⟨_, _, _, rfl, s4, fun r2 hr2 => ?_⟩
        rw [List.take_add_one, hr'] at hr2
        rcases List.mem_append.mp hr2 with z | z
        · exact ahu r2 z
        · have : r2 = r := by simpa using z
          rw [this]; exact ⟨kn, ndu⟩
    clear hl2
    rintro σ H3 ⟨x2, x3, x4, rfl, s3, ahu⟩
    rw [← vl, List.take_length] at ahu
    have uf : UFine rows := ⟨fun r hr => (ahu r hr).1, fun r hr => (ahu r hr).2⟩
    have s03 := s2.trans s3
    -- the rings
    refine ⟨_, rfl, l, rows, rfl, rowsAt_mono hR s03, f, uf, fun b H4 s4 hb => ⟨_, rfl, ?_⟩⟩
    have s04 := s03.trans s4
    cases b with
    | true => exact iteT ⟨small_line (by show 2 ≤ 100000; decide), fun t2 ht2 => q (some .ring) _ _ (s04.trans (snewK ht2)) (.ring f uf (hb.mp rfl)) (.inr ⟨.ring, t2, rfl, rfl, upd_same⟩)⟩
    | false => exact iteF (q none _ _ s04 (.good (good_of f uf fun c => by cases hb.mpr c)) (.inl ⟨rfl, rfl⟩))
end
end K06

set_option Elab.async false
set_option linter.all false
set_option maxRecDepth 100000
set_option maxHeartbeats 4000000
namespace K06
open PySem L2 Md
/-! ### rows spoilt -/
theorem Drawn.tup {p : Addr} {H H' : Hp} (d : Drawn p H H') {o : HO} (h : H p = some o) (ho : PotO o) {t : Addr} {xs : List V} (e : H t = some (.tup xs)) : H' t = some (.tup xs) :=
  d.keep _ _ (fun z => by rw [z, h] at e; obtain ⟨_, _, q, _⟩ := ho; rw [q] at e; cases e) e
theorem rowsAt_drawn {p : Addr} {H H' : Hp} {o : HO} {l : Addr} {rows : List (Str × List Str)} (h : RowsAt H l rows) (hp : H p = some o) (ho : PotO o) (lp : l ≠ p) (d : Drawn p H H') : RowsAt H' l rows := by
  obtain ⟨vs, a, q⟩ := h
  exact ⟨vs, d.keep _ _ lp a, Paired.mapP q fun r v ⟨t, u, e, h1, h2⟩ => ⟨t, u, e, Drawn.tup d hp ho h1, Drawn.tup d hp ho h2⟩⟩
theorem Paired.takeD {α β : Type} {F : α → β → Prop} : ∀ {l : List α} {m : List β} (k : Nat), Paired F l m → Paired F (l.take k) (m.take k)
  | _, _, 0, _ => by rw [List.take_zero, List.take_zero]; exact .nil
  | _, _, _ + 1, .nil => by rw [List.take_nil, List.take_nil]; exact .nil
  | _, _, k + 1, .cons h t => .cons h (Paired.takeD k t)
theorem Paired.dropD {α β : Type} {F : α → β → Prop} : ∀ {l : List α} {m : List β} (k : Nat), Paired F l m → Paired F (l.drop k) (m.drop k)
  | _, _, 0, h => h
  | _, _, _ + 1, .nil => by rw [List.drop_nil, List.drop_nil]; exact .nil
  | _, _, k + 1, .cons _ t => Paired.dropD k t
theorem Paired.appD {α β : Type} {F : α → β → Prop} : ∀ {l l' : List α} {m m' : List β}, Paired F l m → Paired F l' m' → Paired F (l ++ l') (m ++ m')
  | _, _, _, _, .nil, h => h
  | _, _, _, _, .cons h t, h' => .cons h (Paired.appD t h')
def withUp (rows : List (Str × List Str)) (k : Nat) (q : Str × List Str) : List (Str × List Str) := rows.take k ++ [q] ++ rows.drop (k + 1)
theorem withUp_mem {rows : List (Str × List Str)} {k : Nat} {q x : Str × List Str} (h : x ∈ withUp rows k q) : x ∈ rows ∨ x = q := by
  unfold withUp at h
  rcases List.mem_append.mp h with h | h
  · rcases List.mem_append.mp h with h | h
    · exact .inl (List.mem_of_mem_take h)
    · exact .inr (List.mem_singleton.mp h)
  · exact .inl (List.mem_of_mem_drop h)
theorem drawn_item {ws : List Str} {v : Int} (h0 : 0 ≤ v) (h1 : v < (ws.map V.str).length) : ∃ x ∈ ws, atI (ws.map V.str) v = some (.str x) := by
  have hl : v.toNat < ws.length := by rw [List.length_map] at h1; omega
  refine ⟨ws[v.toNat], List.getElem_mem hl, ?_⟩
  have e : ((v.toNat : Nat) : Int) = v := by omega
  have := atI_nat (xs := ws.map V.str) (j := v.toNat) (v := .str ws[v.toNat]) (by rw [List.getElem?_map, List.getElem?_eq_getElem hl]; rfl)
  rw [e] at this
  exact this
def bad8 : List Str := ["", "abcdefghi", "Dog", "do g", "d0g", "dog_", "a-b", "~"]
def many9 : List Str := ["a", "b", "c", "d", "e", "f", "g", "h", "i"]
def odd4 : List Str := ["nokind", "", "Dog", "thing"]
theorem wok_dec {x : Str} (h : (decide (x.length ≤ 50) && x.cps.toList.all fun c => decide (c < 50000)) = true) : WOk x := by
  rw [Bool.and_eq_true, List.all_eq_true] at h
  refine ⟨⟨of_decide_eq_true h.1, fun c hc => ?_⟩, ?_⟩
  · have := of_decide_eq_true (h.2 c hc)
    have e : (16 : Nat) ^ 8 = 4294967296 := by decide
    omega
  · unfold PyData.strOk
    rw [Array.all_eq_true']
    intro c hc
    have := of_decide_eq_true (h.2 c (by simpa using hc))
    simp
    omega
def wokB (x : Str) : Bool := decide (x.length ≤ 50) && x.cps.toList.all fun c => decide (c < 50000)
theorem wok_all {l : List Str} (h : l.all wokB = true) {x : Str} (hx : x ∈ l) : WOk x := wok_dec (List.all_eq_true.mp h x hx)
def kRowD (r : Str × List Str) : PySem.W.Dat := .tuple [.str r.1, .tuple (r.2.map PySem.W.Dat.str)]
theorem reps_krows {K : PySem.W.Frag} {H : Hp} : ∀ {rows : List (Str × List Str)} {vs : List V}, Paired (RowV H) rows vs → Reps K H vs (rows.map kRowD)
  | _, _, .nil => .nil
  | _, _, .cons h t => by
    obtain ⟨a, u, rfl, h1, h2⟩ := h
    exact .cons (.tuple (SqT.of h1) (.cons (.str _) (.cons (.tuple (SqT.of h2) (reps_strs _)) .nil))) (reps_krows t)
theorem ok_strsT {l : List Str} (h : ∀ z ∈ l, PyData.strOk z = true) (n : Nat) : (l.map PySem.W.Dat.str).all (PySem.W.kqdOk n) = true := by
  rw [List.all_eq_true]
  intro d hd
  obtain ⟨x, hx, rfl⟩ := List.mem_map.mp hd
  cases n <;> exact h x hx
theorem ok_krows {rows : List (Str × List Str)} (g : ∀ q ∈ rows, WOk q.1 ∧ ∀ u ∈ q.2, WOk u) : PySem.W.kqdOk 9 (.list (rows.map kRowD)) = true := by
  show (rows.map kRowD).all (PySem.W.kqdOk 8) = true
  rw [List.all_eq_true]
  intro d hd
  obtain ⟨r, hr, rfl⟩ := List.mem_map.mp hd
  show ([PySem.W.Dat.str r.1, .tuple (r.2.map PySem.W.Dat.str)].all (PySem.W.kqdOk 7)) = true
  rw [List.all_cons, List.all_cons, List.all_nil, Bool.and_true, Bool.and_eq_true]
  exact ⟨(g r hr).1.ok, ok_strsT (fun u hu => ((g r hr).2 u hu).ok) 6⟩
theorem new_rows {H : Hp} : ∀ {xs vs : List V}, Paired (fun _ v => ∃ y, WOk y ∧ RowV H (y, []) v) xs vs → ∃ rs : List (Str × List Str), Paired (RowV H) rs vs ∧ (∀ q ∈ rs, WOk q.1 ∧ q.2 = []) ∧ rs.length = xs.length
  | _, _, .nil => ⟨[], .nil, (fun _ z => nomatch z), rfl⟩
  | _, _, .cons ⟨y, wy, hv⟩ t => by
    obtain ⟨rs, h1, h2, h3⟩ := new_rows t
    refine ⟨(y, []) :: rs, .cons hv h1, fun q hq => ?_, by rw [List.length_cons, List.length_cons, h3]⟩
    rcases List.mem_cons.mp hq with rfl | z
    · exact ⟨wy, rfl⟩
    · exact h2 q z
theorem lets_at {i : Nat} (h : i < 26) : ∃ c, atI ("abcdefghijklmnopqrstuvwxyz" : Str).cps.toList (i : Int) = some c ∧ c < 123 := by
  have hl : ("abcdefghijklmnopqrstuvwxyz" : Str).cps.toList.length = 26 := by decide +kernel
  have hi : i < ("abcdefghijklmnopqrstuvwxyz" : Str).cps.toList.length := by rw [hl]; exact h
  refine ⟨_, atI_nat (List.getElem?_eq_getElem hi), ?_⟩
  have : (("abcdefghijklmnopqrstuvwxyz" : Str).cps.toList.all fun c => decide (c < 123)) = true := by decide +kernel
  exact of_decide_eq_true (List.all_eq_true.mp this _ (List.getElem_mem hi))
theorem wok_zq {c : Nat} (h : c < 123) : WOk (("zq" : Str) ++ ⟨#[c]⟩) := by
  have e : (("zq" : Str) ++ ⟨#[c]⟩ : Str).cps.toList = [122, 113, c] := by rw [app_list]; rfl
  refine wok_dec ?_
  rw [e, show (("zq" : Str) ++ ⟨#[c]⟩ : Str).length = 3 from by rw [← str_len, e]; rfl]
  simp
  omega
structure SRows (rows : List (Str × List Str)) : Prop where
  wk : ∀ q ∈ rows, WOk q.1 ∧ (∀ u ∈ q.2, WOk u) ∧ q.2.length ≤ 9
  le : rows.length ≤ 25
theorem SRows.rw {rows : List (Str × List Str)} (h : SRows rows) : RWOk rows := fun q hq => let ⟨a, b, c⟩ := h.wk q hq; ⟨a, b, Nat.le_trans c (by decide)⟩
def spSpoilt : Sp := fun vs H Q _ => ∃ (p l : Addr) (rows : List (Str × List Str)), vs = [.ref p, .ref l] ∧ (∃ o, H p = some o ∧ PotO o) ∧ RowsAt H l rows ∧ SRows rows ∧ l ≠ p ∧ ∀ l' rows' H', Drawn p H H' → l' ≠ p → RowsAt H' l' rows' → SRows rows' → Q (.ref l') H'
structure TxtSp (mg : Str → Option Value) : Prop where
  len : mg "len" = none
  range : mg "range" = none
abbrev nSp : List Str := ["pot", "rows", "way", "at", "other", "word", "ups", "bad", "many", "letters"]
theorem scSp : FnScope nSp ["pot", "rows"] (defScope s__law_spoilt) := ⟨rfl, rfl, rfl, by decide +kernel, rfl, by decide +kernel, by decide +kernel⟩
theorem nd_kl : (["k", "letters"] : List Str).Nodup := by decide +kernel
section
variable {P : Program} {w : World} {K : PySem.W.Frag} {mg : Str → Option Value} {base : Heap}
theorem ok_spoilt {f fT : Addr} {fd fdT : FuncData} (F : Def K mg "_law_spoilt" s__law_spoilt ["pot", "rows"] f fd) (T : TxtSp mg) (DT : Def K mg "_law_take" s__law_take ["pot", "many"] fT fdT) (GT : FnOk P w K mg base CX0 1 fT fdT ["pot", "many"] spTake) :
    FnOk P w K mg base CX0 2 f fd ["pot", "rows"] spSpoilt := by
  refine F.fn.ok scSp (fun vs H Q E h => ?_) (fun cdv A outer s H vs Q E hr h => ?_)
  · obtain ⟨p, l, rows, rfl, _⟩ := h
    rfl
  · obtain ⟨p, l, rows, rfl, ⟨o, hp, ho⟩, hR, sr, lp, q⟩ := h
    have nd := scSp.nd
    have hu := hr.units
    refine' ⟨_, (pss_cons (ps_set (i := 2) nd rfl (Or.inl rfl) (pe_callD DT GT hr (pa_cons (pv 0) (pa_cons pe_int pa_nil))))
      (pss_cons (ps_if (PW.pt (pw_or (pt_cmpR (op_eqD hu) (pv 1) (pe_lst pa_nil) (nomark _)) (pw_or1 (pt_cmpR op_eq (pv 2) pe_int (nomark _))))) (pss_one (ps_ret (pv 1))) pss_nil)
      (pss_cons (ps_set (i := 3) nd rfl (Or.inl rfl) (pe_callD DT GT hr (pa_cons (pv 0) (pa_cons (pe_callB call_len_seq (by rfl) T.len PySem.boot_len (pa_cons (pv 1) pa_nil)) pa_nil))))
      (pss_cons (ps_set (i := 4) nd rfl (Or.inl rfl) (pe_callD DT GT hr (pa_cons (pv 0) (pa_cons (pe_callB call_len_seq (by rfl) T.len PySem.boot_len (pa_cons (pv 1) pa_nil)) pa_nil))))
      (pss_cons (ps_asg (pe_ix (r := rIxL K) ix_list (pv 1) (pv 3) (fun _ _ => rfl)) (pg_tup rfl (pgs_cons (pg_name (i := 5) nd rfl (Or.inl rfl)) (pgs_cons (pg_name (i := 6) nd rfl (Or.inl rfl)) pgs_nil))))
      (pss_cons (@ps_if _ _ _ _ _ _ _ _ (pt_cmpR op_eq (pv 2) pe_int (nomark _)) (@pss_cons _ _ _ _ _ (@ps_strAt _ 7 _ _ _ _ _ _ _ bad8 (by decide +kernel) (by decide) nd rfl (Or.inl rfl) (pe_callD DT GT hr (pa_cons (pv 0) (pa_cons pe_int pa_nil))) (fun _ _ => rfl) (Or.inl rfl)) (@pss_one _ _ _ (ps_ret (pe_op op_cat (pe_op op_cat (pe_slice (r := rSlL K) sl_list (pv 1) po_none (po_some (pv 3))) (pe_lst (pa_cons (pe_tup (pa_cons (pv 7) (pa_cons (pv 6) pa_nil))) pa_nil))) (pe_slice (r := rSlL K) sl_list (pv 1) (po_some (pe_op op_add (pv 3) pe_int)) po_none))))) pss_nil)
      (pss_cons (ps_if (pt_cmpR op_eq (pv 2) pe_int (nomark _)) (pss_one (ps_ret (pe_op op_cat (pe_op op_cat (pe_slice (r := rSlL K) sl_list (pv 1) po_none (po_some (pv 3))) (pe_lst (pa_cons (pe_tup (pa_cons (pe_ix (r := rIxT K) ix_tup (pe_ix (r := rIxL K) ix_list (pv 1) (pv 4) (fun _ _ => rfl)) (pe_int) (fun _ _ => rfl)) (pa_cons (pv 6) pa_nil))) pa_nil))) (pe_slice (r := rSlL K) sl_list (pv 1) (po_some (pe_op op_add (pv 3) pe_int)) po_none)))) pss_nil)
      (pss_cons (@ps_if _ _ _ _ _ _ _ _ (pt_cmpR op_eq (pv 2) pe_int (nomark _)) (@pss_cons _ _ _ _ _ (@ps_strSl _ 8 _ _ _ _ _ _ _ _ many9 (by decide +kernel) (by decide) nd rfl (Or.inl rfl) (pe_callD DT GT hr (pa_cons (pv 0) (pa_cons pe_int pa_nil))) (Or.inl rfl)) (@pss_one _ _ _ (ps_ret (pe_op op_cat (pe_op op_cat (pe_slice (r := rSlL K) sl_list (pv 1) po_none (po_some (pv 3))) (pe_lst (pa_cons (pe_tup (pa_cons (pv 5) (pa_cons (pv 8) pa_nil))) pa_nil))) (pe_slice (r := rSlL K) sl_list (pv 1) (po_some (pe_op op_add (pv 3) pe_int)) po_none))))) pss_nil)
      (pss_cons (ps_if (pt_cmpR op_eq (pv 2) pe_int (nomark _)) (pss_one (ps_ret (pe_op op_cat (pe_op op_cat (pe_slice (r := rSlL K) sl_list (pv 1) po_none (po_some (pv 3))) (pe_lst (pa_cons (pe_tup (pa_cons (pv 5) (pa_cons (pe_op (r := rCatA K) op_catA (pe_slice (r := rSlA K) sl_tupA (pv 6) po_none (po_some pe_int)) (pe_tup (pa_cons (pe_ix (r := rIxT K) ix_tup (?w3) (pe_callD DT GT hr (pa_cons (pv 0) (pa_cons pe_int pa_nil))) (fun _ _ => rfl)) pa_nil))) pa_nil))) pa_nil))) (pe_slice (r := rSlL K) sl_list (pv 1) (po_some (pe_op op_add (pv 3) pe_int)) po_none)))) pss_nil)
      (pss_cut (ps_if (PW.pt (pw_and (pt_cmpR op_eq (pv 2) pe_int (nomark _)) (pw_and1 (pt_cmpR (op_neD hu) (pv 6) (pe_tup pa_nil) (nomark _))))) (pss_one (ps_ret (pe_op op_cat (pe_op op_cat (pe_slice (r := rSlL K) sl_list (pv 1) po_none (po_some (pv 3))) (pe_lst (pa_cons (pe_tup (pa_cons (pv 5) (pa_cons (pe_op (r := rCatA K) op_catA (pe_slice (r := rSlA K) sl_tupA (pv 6) po_none (po_some pe_int)) (pe_tup (pa_cons (pe_ix (r := rIxT K) ix_tup (pv 6) (pe_callD DT GT hr (pa_cons (pv 0) (pa_cons (pe_callB call_len_seq (by rfl) T.len PySem.boot_len (pa_cons (pe_slice (r := rSlA K) sl_tupA (pv 6) po_none (po_some pe_int)) pa_nil)) pa_nil))) (fun _ _ => rfl)) pa_nil))) pa_nil))) pa_nil))) (pe_slice (r := rSlL K) sl_list (pv 1) (po_some (pe_op op_add (pv 3) pe_int)) po_none)))) pss_nil)
      (pss_cons (ps_if (PW.pt (pw_and (pt_cmpR op_eq (pv 2) pe_int (nomark _)) (pw_and1 (pt_cmpR op_lt (pe_callB call_len_seq (by rfl) T.len PySem.boot_len (pa_cons (pv 1) pa_nil)) pe_int (nomark _))))) (pss_cons (ps_set (i := 9) nd rfl (Or.inr rfl) pe_str)
      (pss_one (ps_ret (pe_op op_cat (pv 1) ?ec)))) pss_nil)
      (pss_cons (ps_if (PW.pt (pw_and (pt_cmpR op_eq (pv 2) pe_int (nomark _)) (pw_and1 (pt_cmpR op_eq (pe_callD DT GT hr (pa_cons (pv 0) (pa_cons pe_int pa_nil))) pe_int (nomark _))))) (pss_one (ps_ret (pe_lst pa_nil))) pss_nil)
      (pss_one (ps_ret (pv 1))))))))))))))), ?_⟩
    case w3 => exact pe_strsE odd4 (by decide +kernel) (by decide)
    case ec => exact (pe_comp ["k"] ["letters"] [9] (fun _ => compT_ok (osc := defScope s__law_spoilt) (on := nSp) (by decide +kernel) rfl rfl rfl) (pi_range1 (by rfl) T.range (pa_cons (pe_op op_sub (pe_op op_add pe_int (pe_callD DT GT hr (pa_cons (pv 0) (pa_cons pe_int pa_nil)))) (pe_callB call_len_seq (by rfl) T.len PySem.boot_len (pa_cons (pv 1) pa_nil))) pa_nil)) (fun C s H fp => pg_name (i := 0) nd_kl rfl (Or.inl rfl) (Or.inr rfl)) (fun C s H fp => pts_nil) (fun C s H fp => pe_tup (pa_cons (pe_op op_add_str pe_str (pe_ix ix_str (pv 1) (pv 0) (fun _ _ => rfl))) (pa_cons (pe_tup pa_nil) pa_nil))))
    obtain ⟨vs, hvs, hpr⟩ := id hR
    have vl : rows.length = vs.length := Paired.length hpr
    have sle := sr.le
    refine ⟨_, rfl, p, 9, o, rfl, hp, ho, by decide, by decide, fun way o1 w0 w1 ho1 => ?_⟩
    have d1 : Drawn p H (upd H p o1) := Drawn.upd ho1
    have hp1 : (upd H p o1) p = some o1 := upd_same
    generalize upd H p o1 = H1 at d1 hp1
    have hR1 := rowsAt_drawn hR hp ho lp d1
    have hvs1 := d1.keep _ _ lp hvs
    obtain ⟨vs1, hv1, pr1⟩ := id hR1
    rw [hvs1] at hv1
    injection hv1 with hv1
    injection hv1 with hv1
    subst hv1
    have rok := sr.wk
    refine ⟨_, rfl, Nat.zero_le _, fun l0 hl0 => ?_⟩
    have s1 : Same H1 (upd H1 l0 (.lst [])) := snewK hl0
    have h0 : (upd H1 l0 (.lst [])) l0 = some (.lst []) := upd_same
    generalize upd H1 l0 (.lst []) = H2 at s1 h0
    have d2 := d1.same s1
    have hp2 := s1 _ _ hp1
    have hvs2 := s1 _ _ hvs1
    have pr2 : Paired (RowV H2) rows vs := Paired.mapP pr1 fun r v ⟨t, u, e, z1, z2⟩ => ⟨t, u, e, s1 _ _ z1, s1 _ _ z2⟩
    have stay : ∀ H', Drawn p H H' → Q (.ref l) H' := fun H' d => q l rows H' d lp (rowsAt_drawn hR hp ho lp d) sr
    refine ⟨.list (rows.map kRowD), .list [], .list (SqL.of hvs2) (reps_krows pr2), .list (SqL.of h0) .nil, ok_krows (fun q hq => ⟨(rok q hq).1, (rok q hq).2.1⟩), rfl, _, rfl, ?_⟩
    refine ite2 (fun _ => ⟨_, rfl, stay _ d2⟩) (fun hne => ?_)
    have rne : rows ≠ [] := fun z => hne (by rw [z]; exact dEq_self _)
    refine ⟨_, rfl, rfl, _, rfl, ite2 (fun _ => ⟨_, rfl, stay _ d2⟩) (fun _ => ?_)⟩
    have rpos : 0 < rows.length := List.length_pos_iff.mpr rne
    -- at, other
    refine ⟨_, rfl, _, rfl, l, _, rfl, .inl (SqL.of hvs2), p, _, o1, rfl, hp2, ho1, by omega, by omega, fun v1 o3 v10 v11 ho3 => ?_⟩
    have d23 : Drawn p H2 (upd H2 p o3) := Drawn.upd ho3
    have hp3 : (upd H2 p o3) p = some o3 := upd_same
    generalize upd H2 p o3 = H3 at d23 hp3
    have d3 := d2.trans d23
    have hvs3 := d3.keep _ _ lp hvs
    refine ⟨_, rfl, _, rfl, l, _, rfl, .inl (SqL.of hvs3), p, _, o3, rfl, hp3, ho3, by omega, by omega, fun v2 o4 v20 v21 ho4 => ?_⟩
    have d34 : Drawn p H3 (upd H3 p o4) := Drawn.upd ho4
    have hp4 : (upd H3 p o4) p = some o4 := upd_same
    generalize upd H3 p o4 = H4 at d34 hp4
    have d4 := d3.trans d34
    have hvs4 := d4.keep _ _ lp hvs
    clear d1 hp1 hR1 hvs1 pr1 s1 h0 d2 hp2 hvs2 pr2 hne d23 hp3 d3 hvs3 d34 hl0
    obtain ⟨k, rfl⟩ : ∃ k : Nat, v1 = (k : Int) := ⟨v1.toNat, by omega⟩
    obtain ⟨j, rfl⟩ : ∃ j : Nat, v2 = (j : Int) := ⟨v2.toNat, by omega⟩
    have hk : k < vs.length := by omega
    have hj : j < vs.length := by omega
    have hvk : vs[k]? = some vs[k] := List.getElem?_eq_getElem hk
    have hvj : vs[j]? = some vs[j] := List.getElem?_eq_getElem hj
    obtain ⟨r, hrk, t, u, eu, ht, hut⟩ := paired_at hpr hvk
    obtain ⟨r2, hrj, tj, uj, euj, htj, _⟩ := paired_at hpr hvj
    have hm := List.mem_of_getElem? hrk
    have hmj := List.mem_of_getElem? hrj
    obtain ⟨wr, wu, wl⟩ := rok r hm
    rw [eu] at hvk
    rw [euj] at hvj
    refine ⟨_, rfl, _, rfl, l, _, _, _, rfl, rfl, SqL.of hvs4, atI_nat hvk, t, _, rfl, SqT.of (Drawn.tup d4 hp ho ht), rfl, _, _, rfl, _, _, rfl, rfl, ?_⟩
    have set : ∀ (x : Str) (ys : List Str), WOk x → (∀ y ∈ ys, WOk y) → ys.length ≤ 9 → SRows (withUp rows k (x, ys)) := fun x ys hx hy hl => by
      have kl : k < rows.length := by omega
      refine ⟨fun z hz => ?_, ?_⟩
      · rcases withUp_mem hz with h | rfl
        · exact rok z h
        · exact ⟨hx, hy, hl⟩
      · unfold withUp
        rw [List.length_append, List.length_append, List.length_take, List.length_drop]
        show _ + 1 + _ ≤ 25
        omega
    have fin : ∀ (σ : St) (l7 ty : Addr) (x : Str) (ys : List Str) (H10 : Hp), σ[1]? = some (some (V.ref l)) → σ[3]? = some (some (V.int (k : Int))) → Drawn p H H10 → H10 l7 = some (.lst (vs.take k)) → H10 ty = some (.tup (ys.map V.str)) → SRows (withUp rows k (x, ys)) →
        [V.str x, V.ref ty].length ≤ sizeLine ∧ ∀ p1, H10 p1 = none → ([V.ref p1].length ≤ sizeLine ∧ ∀ p2, (upd H10 p1 (.tup [V.str x, V.ref ty])) p2 = none → rCat (V.ref l7) (V.ref p2) (upd (upd H10 p1 (.tup [V.str x, V.ref ty])) p2 (.lst [V.ref p1])) fun x H1 => tSl (rSlL K) (tVar 1) (tPart (tOp (rI0 fun i j => V.int (i + j)) (tVar 3) (tC (V.int 1)))) tNoPart σ H1 fun y H2 => rCat x y H2 Q) := by
      intro σ l7 ty x ys H10 e1 e3 d10 h77 h10 sr'
      refine ⟨small_line (by show 2 ≤ 100000; decide), fun t11 ht11 => ⟨small_line (by show 1 ≤ 100000; decide), fun l12 hl12 => ?_⟩⟩
      have s11 : Same H10 (upd H10 t11 (.tup [.str x, .ref ty])) := snewK ht11
      have h11 : (upd H10 t11 (.tup [.str x, .ref ty])) t11 = some (.tup [.str x, .ref ty]) := upd_same
      generalize upd H10 t11 (.tup [.str x, .ref ty]) = H11 at s11 h11 hl12
      have s12' : Same H11 (upd H11 l12 (.lst [.ref t11])) := snewK hl12
      have h12 : (upd H11 l12 (.lst [.ref t11])) l12 = some (.lst [.ref t11]) := upd_same
      generalize upd H11 l12 (.lst [.ref t11]) = H12 at s12' h12
      have s1012 := s11.trans s12'
      refine ⟨l7, l12, _, _, rfl, rfl, s1012 _ _ h77, h12, small_line (by rw [List.length_take]; show _ + 1 ≤ 100000; omega), fun l13 hl13 => ?_⟩
      have s13 : Same H12 (upd H12 l13 (.lst (vs.take k ++ [.ref t11]))) := snewK hl13
      have h13 : (upd H12 l13 (.lst (vs.take k ++ [.ref t11]))) l13 = some (.lst (vs.take k ++ [.ref t11])) := upd_same
      generalize upd H12 l13 (.lst (vs.take k ++ [.ref t11])) = H13 at s13 h13
      have s1013 := s1012.trans s13
      have hl10 := d10.keep _ _ lp hvs
      refine ⟨_, e1, _, e3, _, _, rfl, rfl, _, rfl, l, vs, rfl, SqL.of (s1013 _ _ hl10), fun l14 hl14 => ?_⟩
      dsimp only
      rw [show cutV vs (some ((k : Int) + 1)) none = vs.drop (k + 1) from cut_drop vs (k + 1) (by omega)]
      have s14 : Same H13 (upd H13 l14 (.lst (vs.drop (k + 1)))) := snewK hl14
      have h14 : (upd H13 l14 (.lst (vs.drop (k + 1)))) l14 = some (.lst (vs.drop (k + 1))) := upd_same
      generalize upd H13 l14 (.lst (vs.drop (k + 1))) = H14 at s14 h14
      refine ⟨l13, l14, _, _, rfl, rfl, s14 _ _ h13, h14, small_line (by rw [List.length_append, List.length_take, List.length_drop]; show _ + 1 + _ ≤ 100000; omega), fun l15 hl15 => ?_⟩
      have s15 : Same H14 (upd H14 l15 (.lst (vs.take k ++ [.ref t11] ++ vs.drop (k + 1)))) := snewK hl15
      have h15 : (upd H14 l15 (.lst (vs.take k ++ [.ref t11] ++ vs.drop (k + 1)))) l15 = some (.lst (vs.take k ++ [.ref t11] ++ vs.drop (k + 1))) := upd_same
      generalize upd H14 l15 (.lst (vs.take k ++ [.ref t11] ++ vs.drop (k + 1))) = H15 at s15 h15
      have s1015 := s1013.trans (s14.trans s15)
      have s1115 := s12'.trans (s13.trans (s14.trans s15))
      obtain ⟨o10, hp10, _⟩ := d10.pot
      refine q l15 (withUp rows k (x, ys)) _ (d10.same s1015) (fun z => by
        have := (s1013.trans s14) _ _ hp10
        rw [← z, hl15] at this; cases this) ⟨_, h15, ?_⟩ sr'
      obtain ⟨vs6, hv6, pr6⟩ := rowsAt_drawn hR hp ho lp d10
      rw [hl10] at hv6
      injection hv6 with hv6
      injection hv6 with hv6
      subst hv6
      have pr15 : Paired (RowV H15) rows vs := Paired.mapP pr6 fun r v ⟨t, u, e, z1, z2⟩ => ⟨t, u, e, s1015 _ _ z1, s1015 _ _ z2⟩
      exact Paired.appD (Paired.appD (Paired.takeD k pr15) (.cons ⟨t11, ty, rfl, s1115 _ _ h11, s1115 _ _ (s11 _ _ h10)⟩ .nil)) (Paired.dropD (k + 1) pr15)
    -- the beginning: rows[:at]
    have hu4 := Drawn.tup d4 hp ho hut
    -- 1
    refine ⟨_, rfl, rfl, _, rfl, ite2 (fun _ => ?_) (fun _ => ?_)⟩
    · intro tb htb
      have s5 : Same H4 (upd H4 tb (.tup (bad8.map V.str))) := snewK htb
      have h5 : (upd H4 tb (.tup (bad8.map V.str))) tb = some (.tup (bad8.map V.str)) := upd_same
      generalize upd H4 tb (.tup (bad8.map V.str)) = H5 at s5 h5
      have d5 := d4.same s5
      have hp5 := s5 _ _ hp4
      refine ⟨_, rfl, p, 8, o4, rfl, hp5, ho4, by decide, by decide, fun v6 o6 v60 v61 ho6 => ?_⟩
      have d56 : Drawn p H5 (upd H5 p o6) := Drawn.upd ho6
      generalize upd H5 p o6 = H6 at d56
      have d6 := d5.trans d56
      obtain ⟨x, hx, hat⟩ := drawn_item (ws := bad8) v60 v61
      refine ⟨tb, _, _, _, rfl, rfl, SqT.of (Drawn.tup d56 hp5 ho4 h5), hat, ?_⟩
      refine ⟨_, rfl, _, rfl, _, rfl, l, vs, rfl, SqL.of (d6.keep _ _ lp hvs), fun l7 hl7 => ?_⟩
      dsimp only [tNoPart] at *
      rw [cut_take]
      exact ⟨_, rfl, _, rfl, fin _ l7 u x r.2 _ rfl rfl (d6.same (snewK hl7)) upd_same ((snewK hl7) _ _ (Drawn.tup d6 hp ho hut)) (set x r.2 (wok_all (l := bad8) (by decide +kernel) hx) wu wl)⟩
    -- 2
    refine ⟨_, rfl, rfl, _, rfl, ite2 (fun _ => ?_) (fun _ => ?_)⟩
    · refine ⟨_, rfl, _, rfl, _, rfl, l, vs, rfl, SqL.of hvs4, fun l7 hl7 => ?_⟩
      dsimp only [tNoPart] at *
      rw [cut_take]
      have s7 : Same H4 (upd H4 l7 (.lst (vs.take k))) := snewK hl7
      exact ⟨_, rfl, _, rfl, l, _, _, _, rfl, rfl, SqL.of (s7 _ _ hvs4), atI_nat hvj, tj, _, _, _, rfl, rfl, SqT.of (s7 _ _ (Drawn.tup d4 hp ho htj)), rfl, _, rfl, fin _ l7 u r2.1 r.2 _ rfl rfl (d4.same s7) upd_same (s7 _ _ hu4) (set r2.1 r.2 (rok r2 hmj).1 wu wl)⟩
    -- 3
    refine ⟨_, rfl, rfl, _, rfl, ite2 (fun _ => ?_) (fun _ => ?_)⟩
    · intro tb htb
      have s5 : Same H4 (upd H4 tb (.tup (many9.map V.str))) := snewK htb
      have h5 : (upd H4 tb (.tup (many9.map V.str))) tb = some (.tup (many9.map V.str)) := upd_same
      generalize upd H4 tb (.tup (many9.map V.str)) = H5 at s5 h5
      have d5 := d4.same s5
      have hp5 := s5 _ _ hp4
      refine ⟨_, rfl, p, 2, o4, rfl, hp5, ho4, by decide, by decide, fun v6 o6 v60 v61 ho6 => ?_⟩
      have d56 : Drawn p H5 (upd H5 p o6) := Drawn.upd ho6
      generalize upd H5 p o6 = H6 at d56
      have d6 := d5.trans d56
      refine ⟨_, rfl, ?_⟩
      dsimp only [tNoPart]
      refine rSlA_of (Drawn.tup d56 hp5 ho4 h5) fun ty H7 s7 h7 => ?_
      obtain ⟨ys, ey, ym, yl⟩ := cut_strs many9 (some v6) none
      rw [ey] at h7
      have d7 := d6.same s7
      refine ⟨_, rfl, _, rfl, _, rfl, l, vs, rfl, SqL.of (d7.keep _ _ lp hvs), fun l7 hl7 => ?_⟩
      dsimp only [tNoPart] at *
      rw [cut_take]
      exact ⟨_, rfl, _, rfl, fin _ l7 ty r.1 ys _ rfl rfl (d7.same (snewK hl7)) upd_same ((snewK hl7) _ _ h7) (set r.1 ys wr (fun y hy => wok_all (l := many9) (by decide +kernel) (ym y hy)) yl)⟩
    -- 4
    have u7 : cutV (r.2.map V.str) none (some 7) = (r.2.take 7).map V.str := by rw [List.map_take]; exact cut_take _ 7
    have tl : (r.2.take 7).length ≤ 7 := by rw [List.length_take]; omega
    have put : ∀ x : Str, WOk x → SRows (withUp rows k (r.1, r.2.take 7 ++ [x])) := fun x hx => set r.1 _ wr (fun y hy => by
      rcases List.mem_append.mp hy with z | z
      · exact wu y (List.mem_of_mem_take z)
      · rw [List.mem_singleton.mp z]; exact hx) (by rw [List.length_append]; show _ + 1 ≤ 9; omega)
    refine ⟨_, rfl, rfl, _, rfl, ite2 (fun _ => ?_) (fun _ => ?_)⟩
    · refine ⟨_, rfl, _, rfl, _, rfl, l, vs, rfl, SqL.of hvs4, fun l7 hl7 => ?_⟩
      dsimp only [tNoPart] at *
      rw [cut_take]
      have s7 : Same H4 (upd H4 l7 (.lst (vs.take k))) := snewK hl7
      have h77 : (upd H4 l7 (.lst (vs.take k))) l7 = some (.lst (vs.take k)) := upd_same
      generalize upd H4 l7 (.lst (vs.take k)) = H7 at s7 h77
      refine ⟨_, rfl, _, rfl, _, rfl, rSlA_of (s7 _ _ hu4) fun u8 H8 s8 h88 => ?_⟩
      rw [u7] at h88
      intro tb htb
      have s9 : Same H8 (upd H8 tb (.tup (odd4.map V.str))) := snewK htb
      have h99 : (upd H8 tb (.tup (odd4.map V.str))) tb = some (.tup (odd4.map V.str)) := upd_same
      generalize upd H8 tb (.tup (odd4.map V.str)) = H9 at s9 h99
      have s49 := s7.trans (s8.trans s9)
      have hp9 := s49 _ _ hp4
      refine ⟨_, rfl, p, 4, o4, rfl, hp9, ho4, by decide, by decide, fun v6 o6 v60 v61 ho6 => ?_⟩
      have d9 := d4.same s49
      have d910 : Drawn p H9 (upd H9 p o6) := Drawn.upd ho6
      generalize upd H9 p o6 = H10 at d910
      have d10 := d9.trans d910
      obtain ⟨x, hx, hat⟩ := drawn_item (ws := odd4) v60 v61
      have l7p : l7 ≠ p := fun z => by rw [z, hp4] at hl7; cases hl7
      refine ⟨tb, _, _, _, rfl, rfl, SqT.of (Drawn.tup d910 hp9 ho4 h99), hat, small_line (by show 1 ≤ 100000; decide), fun t11 ht11 => ?_⟩
      have s11 : Same H10 (upd H10 t11 (.tup [.str x])) := snewK ht11
      have h11 : (upd H10 t11 (.tup [.str x])) t11 = some (.tup [.str x]) := upd_same
      generalize upd H10 t11 (.tup [.str x]) = H11 at s11 h11
      refine rCatA_of (s11 _ _ (Drawn.tup d910 hp9 ho4 (s9 _ _ h88))) h11 (small_line (by rw [List.length_map]; show _ + 1 ≤ 100000; omega)) fun t12 H12 s12 h12 => ?_
      replace h12 : H12 t12 = some (.tup ((r.2.take 7 ++ [x]).map V.str)) := by rw [h12, List.map_append]; rfl
      exact fin _ l7 t12 r.1 _ H12 rfl rfl (d10.same (s11.trans s12)) ((s11.trans s12) _ _ (d910.keep _ _ l7p ((s8.trans s9) _ _ h77))) h12 (put x (wok_all (l := odd4) (by decide +kernel) hx))
    -- 5
    refine ⟨fun σ' H' => ∃ o', σ' = [some (.ref p), some (.ref l), some (.int way), some (.int (k : Int)), some (.int (j : Int)), some (.str r.1), some (.ref u), none, none, none] ∧ Drawn p H H' ∧ H' p = some o' ∧ PotO o', ?_, ?_⟩
    · refine ⟨_, rfl, rfl, _, rfl, ite2 (fun _ => ?_) (fun _ => ?_)⟩
      · refine ⟨_, rfl, Nat.zero_le _, fun t0 ht0 => ?_⟩
        have s5 : Same H4 (upd H4 t0 (.tup [])) := snewK ht0
        have h5 : (upd H4 t0 (.tup [])) t0 = some (.tup []) := upd_same
        generalize upd H4 t0 (.tup []) = H5 at s5 h5
        have d5 := d4.same s5
        have hp5 := s5 _ _ hp4
        have hvs5 := s5 _ _ hvs4
        have hu5 := s5 _ _ hu4
        refine ⟨.tuple (r.2.map PySem.W.Dat.str), .tuple [], .tuple (SqT.of hu5) (reps_strs _), .tuple (SqT.of h5) .nil, ok_strsT (fun z hz => (wu z hz).ok) 8, rfl, _, rfl, ?_⟩
        refine ite2 (fun hne => ?_) (fun _ => ⟨o4, rfl, d5, hp5, ho4⟩)
        have rne2 : r.2 ≠ [] := fun z => by rw [z, show dEq (.tuple (([] : List Str).map PySem.W.Dat.str)) (.tuple []) = true from dEq_self _] at hne; cases hne
        have tpos : 0 < (r.2.take 7).length := by
          have := List.length_pos_iff.mpr rne2
          rw [List.length_take]; omega
        refine ⟨_, rfl, _, rfl, _, rfl, l, vs, rfl, SqL.of hvs5, fun l7 hl7 => ?_⟩
        dsimp only [tNoPart] at *
        rw [cut_take]
        have s7 : Same H5 (upd H5 l7 (.lst (vs.take k))) := snewK hl7
        have h77 : (upd H5 l7 (.lst (vs.take k))) l7 = some (.lst (vs.take k)) := upd_same
        generalize upd H5 l7 (.lst (vs.take k)) = H7 at s7 h77
        refine ⟨_, rfl, _, rfl, _, rfl, rSlA_of (s7 _ _ hu5) fun u8 H8 s8 h88 => ?_⟩
        rw [u7] at h88
        have hu8 := s8 _ _ (s7 _ _ hu5)
        refine ⟨_, rfl, _, rfl, _, rfl, _, rfl, rSlA_of hu8 fun u9 H9 s9 h99 => ?_⟩
        rw [u7] at h99
        have s59 := s7.trans (s8.trans s9)
        have hp9 := s59 _ _ hp5
        refine ⟨u9, _, rfl, .inr (SqT.of h99), p, _, o4, rfl, hp9, ho4, by rw [List.length_map]; omega, by rw [List.length_map]; omega, fun v6 o6 v60 v61 ho6 => ?_⟩
        have d9 := d5.same s59
        have d910 : Drawn p H9 (upd H9 p o6) := Drawn.upd ho6
        generalize upd H9 p o6 = H10 at d910
        have d10 := d9.trans d910
        rw [List.length_map] at v61
        obtain ⟨x, hx, hat⟩ := drawn_item (ws := r.2) v60 (by rw [List.length_map]; rw [List.length_take] at v61; omega)
        have l7p : l7 ≠ p := fun z => by rw [z, hp5] at hl7; cases hl7
        refine ⟨u, _, _, _, rfl, rfl, SqT.of (Drawn.tup d910 hp9 ho4 (s9 _ _ hu8)), hat, small_line (by show 1 ≤ 100000; decide), fun t11 ht11 => ?_⟩
        have s11 : Same H10 (upd H10 t11 (.tup [.str x])) := snewK ht11
        have h11 : (upd H10 t11 (.tup [.str x])) t11 = some (.tup [.str x]) := upd_same
        generalize upd H10 t11 (.tup [.str x]) = H11 at s11 h11
        refine rCatA_of (s11 _ _ (Drawn.tup d910 hp9 ho4 (s9 _ _ h88))) h11 (small_line (by rw [List.length_map]; show _ + 1 ≤ 100000; omega)) fun t12 H12 s12 h12 => ?_
        replace h12 : H12 t12 = some (.tup ((r.2.take 7 ++ [x]).map V.str)) := by rw [h12, List.map_append]; rfl
        exact fin _ l7 t12 r.1 _ H12 rfl rfl (d10.same (s11.trans s12)) ((s11.trans s12) _ _ (d910.keep _ _ l7p ((s8.trans s9) _ _ h77))) h12 (put x (wu x hx))
      · exact ⟨o4, rfl, d4, hp4, ho4⟩
    rintro σ' H5 ⟨o5, rfl, d5, hp5, ho5⟩
    have hvs5 := d5.keep _ _ lp hvs
    -- 6
    have end7 : ∀ H', Drawn p H H' → Q (.ref l) H' := stay
    refine ⟨_, rfl, rfl, _, rfl, ite2 (fun _ => ?_) (fun _ => ?_)⟩
    · refine ⟨_, rfl, l, _, rfl, .inl (SqL.of hvs5), _, _, rfl, rfl, _, rfl, ite2 (fun few => ?_) (fun _ => ?_)⟩
      · have few : (vs.length : Int) < 25 := of_decide_eq_true few
        refine ⟨_, rfl, _, rfl, p, 2, o5, rfl, hp5, ho5, by decide, by decide, fun v6 o6 v60 v61 ho6 => ?_⟩
        have d56 : Drawn p H5 (upd H5 p o6) := Drawn.upd ho6
        have hp6 : (upd H5 p o6) p = some o6 := upd_same
        generalize upd H5 p o6 = H6 at d56 hp6
        have d6 := d5.trans d56
        have hvs6 := d6.keep _ _ lp hvs
        have nl : (24 + v6 - (vs.length : Int)).toNat ≤ 24 := by omega
        refine ⟨_, _, rfl, rfl, _, rfl, l, vs, rfl, .inl (SqL.of hvs6), _, _, rfl, rfl, _, rfl, by omega, by omega, comp_rel runs_range (by rw [rangeV_len]; exact small_line (by omega)) (fun _ => true) (fun D _ v H' => ∃ y t u, WOk y ∧ v = .ref t ∧ t ≠ D ∧ u ≠ D ∧ H' t = some (.tup [.str y, .ref u]) ∧ H' u = some (.tup [])) (fun D x v Ha Hb k h => ?_) (fun _ _ => trivial) ?_ ?_ ?_⟩
        · obtain ⟨y, t, u, wy, e, nt, nu, h1, h2⟩ := h
          exact ⟨y, t, u, wy, e, nt, nu, k _ _ nt h1, k _ _ nu h2⟩
        · intro x H3 R _ _ hR'
          exact hR' H3 (Same.refl _)
        · intro D x H3 R s3 hDx hDn hx _ hR'
          obtain ⟨i, hi⟩ := List.mem_iff_getElem?.mp hx
          obtain ⟨hi2, rfl⟩ := rangeV_get hi
          obtain ⟨c, hc, cl⟩ := lets_at (i := i) (by omega)
          obtain ⟨ys', hys'⟩ := hDx
          rw [Int.zero_add]
          refine ⟨_, rfl, _, rfl, _, _, c, rfl, rfl, by decide +kernel, hc, _, _, rfl, rfl, small_line (by show 2 + 1 ≤ 100000; decide), Nat.zero_le _, fun tu htu => ?_⟩
          have s4 : Same H3 (upd H3 tu (.tup [])) := snewK htu
          have nu : tu ≠ D := Ne.symm (ne_of_none hys' htu)
          refine ⟨small_line (by show 2 ≤ 100000; decide), fun tt htt => ?_⟩
          have nt : tt ≠ D := Ne.symm (ne_of_none (s4 _ _ hys') htt)
          exact hR' _ _ (s4.trans (snewK htt)) ⟨_, tt, tu, wok_zq cl, rfl, nt, nu, upd_same, (snewK htt) _ _ upd_same⟩
        · intro D H7 vs7 hD s7 hl7 hp7
          rw [List.filter_eq_self.mpr (fun _ _ => rfl)] at hp7
          obtain ⟨rs, pr, wrs, rl⟩ := new_rows (Paired.mapP hp7 fun x v h => by
            obtain ⟨y, t, u, wy, e, nt, nu, h1, h2⟩ := h
            exact ⟨y, wy, t, u, e, h1, h2⟩)
          rw [rangeV_len] at rl
          have vl7 : rs.length = vs7.length := Paired.length pr
          refine ⟨l, D, _, _, rfl, rfl, s7 _ _ hvs6, hl7, small_line (by omega), fun l9 hl9 => ?_⟩
          have s9 : Same H7 (upd H7 l9 (.lst (vs ++ vs7))) := snewK hl9
          have d9 := d6.same (s7.trans s9)
          refine q l9 (rows ++ rs) _ d9 (fun z => ?_) ⟨_, upd_same, ?_⟩ ⟨fun z hz => ?_, by rw [List.length_append]; omega⟩
          · have := s7 _ _ hp6
            rw [← z, hl9] at this; cases this
          · obtain ⟨vs6, hv6, pr6⟩ := rowsAt_drawn hR hp ho lp d9
            rw [d9.keep _ _ lp hvs] at hv6
            injection hv6 with hv6
            injection hv6 with hv6
            subst hv6
            exact Paired.appD pr6 (Paired.mapP pr fun r v ⟨t, u, e, z1, z2⟩ => ⟨t, u, e, s9 _ _ z1, s9 _ _ z2⟩)
          · rcases List.mem_append.mp hz with h | h
            · exact rok z h
            · obtain ⟨h1, h2⟩ := wrs z h
              exact ⟨h1, (fun u hu => by rw [h2] at hu; cases hu), by rw [h2]; decide⟩
      · refine ⟨_, rfl, rfl, _, rfl, ite2 (fun _ => ?_) (fun _ => ⟨_, rfl, stay _ d5⟩)⟩
        refine ⟨_, rfl, p, 4, o5, rfl, hp5, ho5, by decide, by decide, fun v6 o6 v60 v61 ho6 => ?_⟩
        have d6 := d5.trans (Drawn.upd (p := p) (H := H5) ho6)
        have hp6 : (upd H5 p o6) p = some o6 := upd_same
        generalize upd H5 p o6 = H6 at d6 hp6
        refine ⟨rfl, _, rfl, ite2 (fun _ => ?_) (fun _ => ⟨_, rfl, stay _ d6⟩)⟩
        exact ⟨Nat.zero_le _, fun l9 hl9 => q l9 [] _ (d6.same (snewK hl9)) (fun z => by rw [z, hp6] at hl9; cases hl9) ⟨[], upd_same, .nil⟩ ⟨(fun _ z => nomatch z), by decide⟩⟩
    -- 7
    refine ⟨_, rfl, rfl, _, rfl, ite2 (fun _ => ?_) (fun _ => ⟨_, rfl, stay _ d5⟩)⟩
    refine ⟨_, rfl, p, 4, o5, rfl, hp5, ho5, by decide, by decide, fun v6 o6 v60 v61 ho6 => ?_⟩
    have d6 := d5.trans (Drawn.upd (p := p) (H := H5) ho6)
    have hp6 : (upd H5 p o6) p = some o6 := upd_same
    generalize upd H5 p o6 = H6 at d6 hp6
    refine ⟨rfl, _, rfl, ite2 (fun _ => ?_) (fun _ => ⟨_, rfl, stay _ d6⟩)⟩
    exact ⟨Nat.zero_le _, fun l9 hl9 => q l9 [] _ (d6.same (snewK hl9)) (fun z => by rw [z, hp6] at hl9; cases hl9) ⟨[], upd_same, .nil⟩ ⟨(fun _ z => nomatch z), by decide⟩⟩
end
end K06

set_option Elab.async false
set_option linter.all false
set_option maxRecDepth 100000
set_option maxHeartbeats 4000000
namespace K06
open PySem L2 Md
def spITry (K : PySem.W.Frag) (C : Addr) (Ds : Nat → Addr) : Sp := fun vs H Q E => spInit K C vs H Q E ∨ spInitX K Ds vs H Q E
/-- how a refusal lies -/
structure FoundE (Ds : Nat → Addr) (H : Hp) (e : KErr) (x : Addr) : Prop where
  ex : ∃ dxo, H x = some (XO x (Ds (numE e)) dxo) ∧ XDict H dxo ∧ ∀ w, (e = .noK w ∨ e = .twice w) → ∃ dx, dxo = some dx ∧ H dx = some (.xd [("word", .str w)])
def spSaid (K : PySem.W.Frag) (Ds : Nat → Addr) : Sp := fun vs H Q _ => ∃ (l : Addr) (rows : List (Str × List Str)) (r : Option KErr), vs = [.ref l] ∧ RowsAt H l rows ∧ RWOk rows ∧ KDue rows r ∧ (r = none → ∀ H', Same H H' → Q .non H') ∧ ∀ e, r = some e → ∀ x H', Same H H' → FoundE Ds H' e x → Q (.ref x) H'
abbrev nSd : List Str := ["rows", "found", "e"]
theorem scSd : FnScope nSd ["rows"] (defScope s__law_said) := ⟨rfl, rfl, rfl, by decide +kernel, rfl, by decide +kernel, by decide +kernel⟩
structure TxtL (mg : Str → Option Value) : Prop where
  len : mg "len" = none
  range : mg "range" = none
  max : mg "max" = none
  min : mg "min" = none
  list : mg "list" = none
def spLaw (K : PySem.W.Frag) : Sp := fun vs H Q _ => ∃ (a : Addr) (ns : List Int), vs = [.ref a] ∧ SqL K H a (ns.map V.int) ∧ ns.length ≤ 63 ∧ ∀ H', Q (.bl true) H'
abbrev nL : List Str := ["script", "rows", "k", "due", "turn", "handed", "found"]
theorem scL : FnScope nL ["script"] (defScope s_law) := ⟨rfl, rfl, rfl, by decide +kernel, rfl, by decide +kernel, by decide +kernel⟩
theorem due_ok {rows : List (Str × List Str)} (rok : RWOk rows) {e : KErr} {y : Str} (due : KDue rows (some e)) (h : e = .noK y ∨ e = .twice y) : WOk y := by
  cases due with
  | rows d =>
    cases d with
    | size h' => rcases h with z | z <;> cases z
    | bad k h1 h2 hb =>
      obtain ⟨r, hr, z⟩ := hb.ex
      have hm := List.mem_of_getElem? hr
      rcases z with ⟨_, z⟩ | ⟨_, _, z⟩ | ⟨_, _, _, z⟩ <;> subst z <;> rcases h with z | z <;> cases z
      · exact (rok r hm).1
      · exact (rok r hm).1
  | ups f d =>
    cases d with
    | bad k j hb =>
      obtain ⟨r, u, hr, hu, _, _, z⟩ := hb.ex
      have hm := List.mem_of_getElem? hr
      have hum := List.mem_of_getElem? hu
      rcases z with ⟨_, z⟩ | ⟨_, _, z⟩ <;> subst z <;> rcases h with z | z <;> cases z
      · exact (rok r hm).2.1 _ hum
      · exact (rok r hm).2.1 _ hum
  | ring f u c => rcases h with z | z <;> cases z
section
variable {P : Program} {w : World} {K : PySem.W.Frag} {mg : Str → Option Value} {base : Heap}
theorem ok_said {f C D fI : Addr} {Ds : Nat → Addr} {fd fdI : FuncData} (F : Def K mg "_law_said" s__law_said ["rows"] f fd) (M : Mk K C fI) (mgC : mg "Kinds" = some (.ref C)) (bI : Binds K fdI ["self", "rows"] []) (GI : FnOk P w K mg base (CX1 P w) 4 fI fdI ["self", "rows"] (spITry K C Ds))
    (TD : ErrD K mg D) (O0 : OneOf K D Ds 0) (O1 : OneOf K D Ds 1) (O3 : OneOf K D Ds 3) (O7 : OneOf K D Ds 7) : FnOk P w K mg base CX0 6 f fd ["rows"] (spSaid K Ds) := by
  refine F.fn.ok scSd (fun vs H Q E h => ?_) (fun cdv A outer s H vs Q E hr h => ?_)
  · obtain ⟨l, rows, r, rfl, _⟩ := h
    rfl
  · obtain ⟨l, rows, r, rfl, hR, rok, due, q, re⟩ := h
    have nd := scSd.nd
    refine ⟨_, (pss_cons (ps_set (i := 1) nd rfl (Or.inl rfl) pe_non)
      (pss_cons (ps_try (i := 1) (j := 2) rfl rfl TD.ex nd (by rfl) TD.m rfl (Or.inl rfl) rfl rfl (pssx_one (psx_expr (pex_make M GI hr (by rfl) mgC bI (pa_cons (pv 0) pa_nil)))))
      (pss_one (ps_ret (pv 1))))), ?_⟩
    refine ⟨_, rfl, ?_⟩
    intro xb dxb nx ndx nex
    have s9 : Same H (upd (upd H dxb (.own xb)) xb (.ins C dxb [])) := fun b o e => by
      have e1 : (upd H dxb (.own xb)) b = some o := by rw [upd_ne (ne_of_none e ndx)]; exact e
      rw [upd_ne (ne_of_none e nx)]; exact e1
    have hR9 := rowsAt_mono hR s9
    have shows : ∀ q ∈ rows, Shows q.1 ∧ ∀ u ∈ q.2, Shows u := fun r' hr' => ⟨(rok r' hr').1.sh, fun u hu => ((rok r' hr').2.1 u hu).sh⟩
    cases r with
    | none =>
      have gg : Good rows := by cases due with | good g => exact g
      refine .inl ⟨xb, dxb, l, rows, rfl, upd_same, RowsAt.g hR9, gg, fun H10 kd keep => ⟨rfl, ?_⟩⟩
      exact ⟨_, rfl, q rfl H10 fun b o e => keep b o (ne_of_none e nx) (s9 _ _ e)⟩
    | some e =>
      refine .inr ⟨xb, l, rows, e, rfl, RowsAt.g hR9, shows, due, ⟨fun ee H5 s5 => ?_, fun w' ee dx H5 s5 hd => ?_, fun w' ee dx H5 s5 hd => ?_, fun ee dx lq ys H5 s5 hd fl hl ring => ?_⟩⟩
      · subst ee
        refine ⟨_, rfl, O7.ex.toExC, O7.sub, fun ea hea => ?_⟩
        have s6 := snewK (o := XO ea (Ds 7) none) hea
        exact ⟨_, rfl, re _ rfl ea _ (s9.trans (s5.trans s6)) ⟨none, upd_same, .inl rfl, fun w2 hw => by rcases hw with z | z <;> cases z⟩⟩
      · subst ee
        refine ⟨_, rfl, O0.ex.toExC, O0.sub, fun ea hea => ?_⟩
        have s6 := snewK (o := XO ea (Ds 0) (some dx)) hea
        exact ⟨_, rfl, re _ rfl ea _ (s9.trans (s5.trans s6)) ⟨some dx, upd_same, .inr ⟨dx, _, rfl, s6 _ _ hd⟩, fun w2 hw => ⟨dx, rfl, by
          rcases hw with z | z <;> cases z
          exact s6 _ _ hd⟩⟩⟩
      · subst ee
        refine ⟨_, rfl, O1.ex.toExC, O1.sub, fun ea hea => ?_⟩
        have s6 := snewK (o := XO ea (Ds 1) (some dx)) hea
        exact ⟨_, rfl, re _ rfl ea _ (s9.trans (s5.trans s6)) ⟨some dx, upd_same, .inr ⟨dx, _, rfl, s6 _ _ hd⟩, fun w2 hw => ⟨dx, rfl, by
          rcases hw with z | z <;> cases z
          exact s6 _ _ hd⟩⟩⟩
      · subst ee
        refine ⟨_, rfl, O3.ex.toExC, O3.sub, fun ea hea => ?_⟩
        have s6 := snewK (o := XO ea (Ds 3) (some dx)) hea
        exact ⟨_, rfl, re _ rfl ea _ (s9.trans (s5.trans s6)) ⟨some dx, upd_same, .inr ⟨dx, _, rfl, s6 _ _ hd⟩, fun w2 hw => by rcases hw with z | z <;> cases z⟩⟩
theorem ok_law {f D fP fR fS fDu fSd fAl : Addr} {Ds : Nat → Addr} {fd fdP fdR fdS fdDu fdSd fdAl : FuncData} (F : Def K mg "law" s_law ["script"] f fd) (T : TxtL mg)
    (O0 : OneOf K D Ds 0) (O1 : OneOf K D Ds 1) (O3 : OneOf K D Ds 3) (O7 : OneOf K D Ds 7) (I0 : ExI K (Ds 0) D "word") (I1 : ExI K (Ds 1) D "word")
    (DP : Def K mg "_law_pot" s__law_pot ["script", "k"] fP fdP) (GP : FnOk P w K mg base CX0 1 fP fdP ["script", "k"] (spPot K))
    (DR : Def K mg "_law_rows" s__law_rows ["pot", "most"] fR fdR) (GR : FnOk P w K mg base CX0 4 fR fdR ["pot", "most"] spRowsL)
    (DS : Def K mg "_law_spoilt" s__law_spoilt ["pot", "rows"] fS fdS) (GS : FnOk P w K mg base CX0 2 fS fdS ["pot", "rows"] spSpoilt)
    (DDu : Def K mg "_law_due" s__law_due ["rows"] fDu fdDu) (GDu : FnOk P w K mg base CX0 2 fDu fdDu ["rows"] spLDue)
    (DSd : Def K mg "_law_said" s__law_said ["rows"] fSd fdSd) (GSd : FnOk P w K mg base CX0 6 fSd fdSd ["rows"] (spSaid K Ds))
    (DAl : Def K mg "_law_alone" s__law_alone ["e", "place"] fAl fdAl) (GAl : FnOk P w K mg base CX0 1 fAl fdAl ["e", "place"] (spAlone K D Ds)) : FnOk P w K mg base CX0 7 f fd ["script"] (spLaw K) := by
  refine F.fn.ok scL (fun vs H Q E h => ?_) (fun cdv A outer s H vs Q E hr h => ?_)
  · obtain ⟨a, ns, rfl, _⟩ := h
    rfl
  · obtain ⟨a, ns, rfl, hS, hlen, q⟩ := h
    have nd := scL.nd
    have hu := hr.units
    have hr1 : Room 1 _ := hr.mono (by decide)
    have hr2 : Room 2 _ := hr.mono (by decide)
    have hr4 : Room 4 _ := hr.mono (by decide)
    have hr6 : Room 6 _ := hr.mono (by decide)
    refine' ⟨_, (pss_cons (ps_set (i := 1) nd rfl (Or.inl rfl) (pe_callD DR GR hr4 (pa_cons (pe_callD DP GP hr1 (pa_cons (pv 0) (pa_cons pe_int pa_nil))) (pa_cons pe_int pa_nil))))
      (pss_cons (ps_for PassesOwn.never rfl (pi_range2 (by rfl) T.range (pa_cons pe_int (pa_cons (pe_callB (call_max2 rfl) (by rfl) T.max PyProof.Rows.boot_max (pa_cons pe_int (pa_cons (pe_callB (call_min2 rfl) (by rfl) T.min PyProof.Rows.boot_min (pa_cons (pe_callB call_len_seq (by rfl) T.len PySem.boot_len (pa_cons (pv 0) pa_nil)) (pa_cons pe_int pa_nil))) pa_nil))) pa_nil))) (pg_name (i := 2) nd rfl (Or.inl rfl))
        (pss_one (ps_set (i := 1) nd rfl (Or.inl rfl) (pe_callD DS GS hr2 (pa_cons (pe_callD DP GP hr1 (pa_cons (pv 0) (pa_cons (pv 2) pa_nil))) (pa_cons (pv 1) pa_nil))))))
      (pss_cons (ps_set (i := 3) nd rfl (Or.inl rfl) (pe_callD DDu GDu hr2 (pa_cons (pv 1) pa_nil)))
      (pss_cons (ps_for PassesOwn.never rfl (pi_range1 (by rfl) T.range (pa_cons pe_int pa_nil)) (pg_name (i := 4) nd rfl (Or.inl rfl))
        (pss_cons (ps_set (i := 5) nd rfl (Or.inl rfl) (pe_callTy call_list_of (by rfl) T.list PyProof.Rows.boot_list (pa_cons (pv 1) pa_nil)))
      (pss_cons (ps_set (i := 6) nd rfl (Or.inl rfl) (pe_callD DSd GSd hr6 (pa_cons (pv 5) pa_nil)))
      (pss_cons (ps_if (pt_cmpR (op_neD hu) (pv 5) (pv 1) (nomark _)) (pss_one (ps_ret pe_bl)) pss_nil)
      (pss_one (ps_if (pt_cmpR op_isN (pv 3) pe_non (nomark _)) (pss_one (ps_if (pt_cmpR op_notN (pv 6) pe_non (nomark _)) (pss_one (ps_ret pe_bl)) pss_nil))
            (pss_cons (ps_if (PW.pt (pw_or (pt_cmpR op_isN (pv 6) pe_non (nomark _)) (pw_or1 (pt_not (pt_val (pe_callD DAl GAl hr1 (pa_cons (pv 6) (pa_cons (pe_ix (r := rIxT K) ix_tup (pv 3) pe_int (fun _ _ => rfl)) pa_nil)))))))) (pss_one (ps_ret pe_bl)) pss_nil)
      (pss_one (ps_if (PW.pt (pw_and (pt_cmpR op_lt (pe_ix (r := rIxT K) ix_tup (pv 3) pe_int (fun _ _ => rfl)) pe_int (nomark _)) (pw_and1 (pt_cmpR (op_neD hu) (pe_xfld (D := D) (pv 6)) (pe_ix (r := rIxT K) ix_tup (pv 3) pe_int (fun _ _ => rfl)) (nomark _))))) (pss_one (ps_ret pe_bl)) pss_nil)))))))))
      (pss_one (ps_ret pe_bl)))))), ?_⟩
    -- rows
    refine ⟨_, rfl, a, 0, ns, rfl, hS, by omega, by decide, by decide, fun p0 o0 hp0 ho0 => ?_⟩
    have s1 : Same H (upd H p0 o0) := snewK hp0
    have hp1 : (upd H p0 o0) p0 = some o0 := upd_same
    generalize upd H p0 o0 = H1 at s1 hp1
    refine ⟨p0, 24, rfl, ⟨o0, hp1, ho0⟩, by decide, by decide, fun lr0 rows0 H2 d2 hlr hR2 g0 rl => ?_⟩
    have s2 : Same H H2 := fun b u e => d2.keep b u (ne_of_none e hp0) (s1 _ _ e)
    clear hp1 d2 hlr s1
    have rg : ∀ m : Nat, m ≤ 63 → (2 : Int) ≤ (if (if (5 : Int) < (m : Int) then (5 : Int) else (m : Int)) > 2 then (if (5 : Int) < (m : Int) then (5 : Int) else (m : Int)) else 2) ∧ (if (if (5 : Int) < (m : Int) then (5 : Int) else (m : Int)) > 2 then (if (5 : Int) < (m : Int) then (5 : Int) else (m : Int)) else 2) ≤ 5 := fun m hm => by
      constructor <;> split <;> split <;> omega
    obtain ⟨rg0, rg1⟩ := rg (ns.map V.int).length (by rw [List.length_map]; omega)
    have sr0 : SRows rows0 := ⟨fun z hz => ⟨wok_word (g0.word z hz), (fun u hu => by
      obtain ⟨q', hq, e⟩ := List.mem_map.mp (g0.known z hz u hu)
      rw [← e]; exact wok_word (g0.word q' hq)), Nat.le_trans (g0.few z hz) (by decide)⟩, Nat.le_trans g0.le (by decide)⟩
    refine ⟨_, rfl, a, _, rfl, .inl (s2.seq hS), _, _, rfl, _, _, rfl, _, _, rfl, ⟨by decide, by decide, by omega, by omega⟩, for_runs runs_range (fun i σ H' => ∃ (l : Addr) (rows : List (Str × List Str)) (x2 : Option V), σ = [some (.ref a), some (.ref l), x2, none, none, none, none] ∧ Same H H' ∧ RowsAt H' l rows ∧ SRows rows)
      ⟨lr0, rows0, none, rfl, s2, hR2, sr0⟩ (fun _ _ _ _ _ => trivial) ?_ ?_⟩
    · rintro i v σ H5 hi ⟨l, rows, x2, rfl, s5, hR5, sr⟩
      obtain ⟨hi2, rfl⟩ := rangeV_get hi
      refine ⟨_, rfl, _, rfl, a, _, ns, rfl, s5.seq hS, by omega, by omega, by omega, fun p o hp ho => ?_⟩
      have s6 : Same H5 (upd H5 p o) := snewK hp
      have hp6 : (upd H5 p o) p = some o := upd_same
      generalize upd H5 p o = H6 at s6 hp6
      have lp : l ≠ p := by
        obtain ⟨vs, hvs, _⟩ := hR5
        exact ne_of_none hvs hp
      refine ⟨_, rfl, p, l, rows, rfl, ⟨o, hp6, ho⟩, rowsAt_mono hR5 s6, sr, lp, fun l' rows' H8 d8 lp' hR8 sr' => ?_⟩
      exact ⟨l', rows', _, rfl, fun b u e => d8.keep b u (ne_of_none (s5 _ _ e) hp) (s6 _ _ (s5 _ _ e)), hR8, sr'⟩
    clear s2 hR2 g0 sr0
    rintro σ H2 ⟨l, rows, x2, rfl, s2, hR2, sr⟩
    have rok := sr.rw
    have sle := sr.le
    refine ⟨_, rfl, l, rows, rfl, hR2, rok, by omega, fun r vd H3 s3 due dv => ?_⟩
    have hR3 := rowsAt_mono hR2 s3
    refine ⟨2, rfl, by decide, by decide, for_runs runs_range (fun i σ H' => ∃ x4 x5 x6 : Option V, σ = [some (.ref a), some (.ref l), x2, some vd, x4, x5, x6] ∧ Same H3 H')
      ⟨none, none, none, rfl, Same.refl _⟩ (fun _ _ _ _ _ => trivial) ?_ (fun σ H' _ => q H')⟩
    rintro i v4 σ H7 hi ⟨x4, x5, x6, rfl, s7⟩
    have hR7 := rowsAt_mono hR3 s7
    obtain ⟨vs7, hv7, pr7⟩ := id hR7
    refine ⟨_, rfl, l, vs7, rfl, .inl (SqL.of hv7), fun lc hlc => ?_⟩
    have s8 : Same H7 (upd H7 lc (.lst vs7)) := snewK hlc
    have hc8 : (upd H7 lc (.lst vs7)) lc = some (.lst vs7) := upd_same
    generalize upd H7 lc (.lst vs7) = H8 at s8 hc8
    have pr8 : Paired (RowV H8) rows vs7 := Paired.mapP pr7 fun r v ⟨t, u, e, z1, z2⟩ => ⟨t, u, e, s8 _ _ z1, s8 _ _ z2⟩
    have okd := ok_krows (rows := rows) fun z hz => ⟨(rok z hz).1, (rok z hz).2.1⟩
    refine ⟨_, rfl, lc, rows, r, rfl, ⟨vs7, hc8, pr8⟩, rok, due, fun er H9 s9 => ?_, fun e er x H9 s9 fx => ?_⟩
    · have pr9 : Paired (RowV H9) rows vs7 := Paired.mapP pr8 fun r v ⟨t, u, e, z1, z2⟩ => ⟨t, u, e, s9 _ _ z1, s9 _ _ z2⟩
      refine ⟨_, rfl, _, rfl, .list (rows.map kRowD), .list (rows.map kRowD), .list (SqL.of (s9 _ _ hc8)) (reps_krows pr9), .list (SqL.of (s9 _ _ (s8 _ _ hv7))) (reps_krows pr9), okd, okd, _, rfl, ?_⟩
      rw [dEq_self]
      refine iteF ?_
      have ev : vd = .non := by
        rcases dv with ⟨_, z⟩ | ⟨e, t, z, _⟩
        · exact z
        · rw [er] at z; cases z
      subst ev
      exact ⟨_, rfl, rfl, _, rfl, iteT ⟨_, rfl, rfl, _, rfl, iteF ⟨_, _, _, rfl, s7.trans (s8.trans s9)⟩⟩⟩
    · have pr9 : Paired (RowV H9) rows vs7 := Paired.mapP pr8 fun r v ⟨t, u, e, z1, z2⟩ => ⟨t, u, e, s9 _ _ z1, s9 _ _ z2⟩
      refine ⟨_, rfl, _, rfl, .list (rows.map kRowD), .list (rows.map kRowD), .list (SqL.of (s9 _ _ hc8)) (reps_krows pr9), .list (SqL.of (s9 _ _ (s8 _ _ hv7))) (reps_krows pr9), okd, okd, _, rfl, ?_⟩
      rw [dEq_self]
      refine iteF ?_
      obtain ⟨e', t, e1, rfl, ht⟩ : ∃ e' t, r = some e' ∧ vd = .ref t ∧ H3 t = some (.tup [.int (numE e'), .str (wordE e')]) := by
        rcases dv with ⟨z, _⟩ | z
        · rw [er] at z; cases z
        · exact z
      rw [er] at e1
      cases e1
      have ht9 := (s7.trans (s8.trans s9)) _ _ ht
      obtain ⟨dxo, hx, xd, wd⟩ := fx.ex
      have oo : OneOf K D Ds (numE e) := by cases e <;> assumption
      have nl : numE e < 15 := by cases e <;> simp [numE]
      refine ⟨_, rfl, rfl, _, rfl, iteF ⟨_, rfl, rfl, _, rfl, iteF ⟨_, rfl, _, rfl, t, _, _, _, rfl, rfl, SqT.of ht9, rfl, x, numE e, numE e, dxo, rfl, hx, xd, oo, nl, nl, fun H10 s10 => ⟨_, rfl, ?_⟩⟩⟩⟩
      rw [decide_eq_true rfl]
      refine iteF ?_
      have ht10 := s10 _ _ ht9
      have fin : Same H3 H10 := s7.trans (s8.trans (s9.trans s10))
      refine ⟨_, rfl, t, _, _, _, rfl, rfl, SqT.of ht10, rfl, _, _, rfl, rfl, _, rfl, ite2 (fun low => ?_) (fun _ => ⟨_, _, _, rfl, fin⟩)⟩
      obtain ⟨wd', wk, hw, ee⟩ : ∃ wd', WOk wd' ∧ wordE e = wd' ∧ (e = .noK wd' ∨ e = .twice wd') := by
        cases e with
        | many => exact absurd (of_decide_eq_true low) (by decide)
        | ring => exact absurd (of_decide_eq_true low) (by decide)
        | noK y => exact ⟨y, due_ok rok (er ▸ due) (.inl rfl), rfl, .inl rfl⟩
        | twice y => exact ⟨y, due_ok rok (er ▸ due) (.inr rfl), rfl, .inr rfl⟩
      obtain ⟨dx, rfl, hdx⟩ := wd wd' ee
      have ix : ExI K (Ds (numE e)) D "word" := by rcases ee with rfl | rfl <;> assumption
      rw [hw] at ht10
      refine ⟨_, rfl, x, Ds (numE e), dx, _, _, rfl, s10 _ _ hx, s10 _ _ hdx, ix, rfl, _, rfl, t, _, _, _, rfl, rfl, SqT.of ht10, rfl, .str wd', .str wd', .str _, .str _, wk.ok, wk.ok, _, rfl, ?_⟩
      rw [dEq_self]
      exact iteF ⟨_, _, _, rfl, fin⟩
end
end K06

set_option Elab.async false
set_option linter.all false
set_option maxRecDepth 100000
set_option maxHeartbeats 4000000
namespace K06
open PySem L2
theorem md {K : PySem.W.Frag} {C : Addr} {m q : Str} {st : Stmt} {ps : List Str} {f : Addr} {fd : FuncData} (T : Mp K C m q st f fd) (b : Binds K fd ps []) : MDef K C m q st ps f fd := ⟨T.fn, b, T.a, T.i, T.fn.kp⟩
def tq := @tp
def mq := @mp
set_option maxHeartbeats 4000000 in
theorem all_mk {l : PySem.W.OpenLaw} {w : World} {K : PySem.W.Frag} {h : Heap} {mg : Str → Option Value} {fa C QD Q0 Q1 Q2 Q3 Q4 Q5 Q6 Q7 Q8 Q9 Q10 Q11 Q12 Q13 Q14 f_mI f_x0 f_x1 f_x3 f_w f_cr f_cu f_fa f_en f_fr f_aa f_P f_T f_Le f_W f_Ws f_U f_R f_al f_sp f_ri f_du f_sd f_L : Addr} {d_mI d_x0 d_x1 d_x3 d_w d_cr d_cu d_fa d_en d_fr d_aa d_P d_T d_Le d_W d_Ws d_U d_R d_al d_sp d_ri d_du d_sd d_L : FuncData} (X : K.In h) (G : h.Ns mainGlobals mg) (hfa : mg "law" = some (.ref fa))
    {T_LETTERS T_MOST_LETTERS T_MOST_KINDS T_MOST_UPS : Tok}
    (a_QD : PySem.W.nsIn K mainGlobals "DeedError" = some (some (.ref QD)))
    (cl_QD : PySem.W.isClsIn K QD = true)
    (ty_QD : PySem.W.typeIn K (.ref QD) = some (.type "type"))
    {nm_QD q_QD : Str} {N_QD : Addr} {bs_QD sub_QD : List Value} {ab_QD : Bool} {sn_QD : List Str} {col_QD : Option Bool} {dd_QD : Option Addr} {k0_QD k1_QD k2_QD k3_QD k5_QD : Option Value}
    {bm_QD : List Value} {hd_QD : Bool}
    (l_QD : K.lookup QD = some (excClassObj nm_QD q_QD QD N_QD bs_QD bm_QD hd_QD sn_QD sub_QD ab_QD col_QD dd_QD k0_QD k1_QD k2_QD k3_QD k5_QD "ValueError.__new__"))
    (val_QD : PySem.W.subIn K (.ref QD) (.type "ValueError") = some true)
    (bas_QD : PySem.W.subIn K (.ref QD) (.type "BaseException") = some true)
    (att_QD : PySem.W.subIn K (.ref QD) (.type "AttributeError") = some false)
    (nam_QD : PySem.W.subIn K (.ref QD) (.type "NameError") = some false)
    (kp_QD : PySem.W.keepIn K (.ref QD) = true)
    (a_Q0 : PySem.W.nsIn K mainGlobals "NoKind" = some (some (.ref Q0)))
    (cl_Q0 : PySem.W.isClsIn K Q0 = true)
    (ty_Q0 : PySem.W.typeIn K (.ref Q0) = some (.type "type"))
    {nm_Q0 q_Q0 : Str} {N_Q0 : Addr} {bs_Q0 sub_Q0 : List Value} {ab_Q0 : Bool} {sn_Q0 : List Str} {col_Q0 : Option Bool} {dd_Q0 : Option Addr} {k0_Q0 k1_Q0 k2_Q0 k3_Q0 k5_Q0 : Option Value}
    (l_Q0 : K.lookup Q0 = some (excClassObj nm_Q0 q_Q0 Q0 N_Q0 bs_Q0 [.ref QD, .type "ValueError", .type "Exception", .type "BaseException", .type "object"] true sn_Q0 sub_Q0 ab_Q0 col_Q0 dd_Q0 k0_Q0 k1_Q0 k2_Q0 k3_Q0 k5_Q0 "ValueError.__new__"))
    (val_Q0 : PySem.W.subIn K (.ref Q0) (.type "ValueError") = some true)
    (bas_Q0 : PySem.W.subIn K (.ref Q0) (.type "BaseException") = some true)
    (att_Q0 : PySem.W.subIn K (.ref Q0) (.type "AttributeError") = some false)
    (nam_Q0 : PySem.W.subIn K (.ref Q0) (.type "NameError") = some false)
    (kp_Q0 : PySem.W.keepIn K (.ref Q0) = true)
    (a_Q1 : PySem.W.nsIn K mainGlobals "Twice" = some (some (.ref Q1)))
    (cl_Q1 : PySem.W.isClsIn K Q1 = true)
    (ty_Q1 : PySem.W.typeIn K (.ref Q1) = some (.type "type"))
    {nm_Q1 q_Q1 : Str} {N_Q1 : Addr} {bs_Q1 sub_Q1 : List Value} {ab_Q1 : Bool} {sn_Q1 : List Str} {col_Q1 : Option Bool} {dd_Q1 : Option Addr} {k0_Q1 k1_Q1 k2_Q1 k3_Q1 k5_Q1 : Option Value}
    (l_Q1 : K.lookup Q1 = some (excClassObj nm_Q1 q_Q1 Q1 N_Q1 bs_Q1 [.ref QD, .type "ValueError", .type "Exception", .type "BaseException", .type "object"] true sn_Q1 sub_Q1 ab_Q1 col_Q1 dd_Q1 k0_Q1 k1_Q1 k2_Q1 k3_Q1 k5_Q1 "ValueError.__new__"))
    (val_Q1 : PySem.W.subIn K (.ref Q1) (.type "ValueError") = some true)
    (bas_Q1 : PySem.W.subIn K (.ref Q1) (.type "BaseException") = some true)
    (att_Q1 : PySem.W.subIn K (.ref Q1) (.type "AttributeError") = some false)
    (nam_Q1 : PySem.W.subIn K (.ref Q1) (.type "NameError") = some false)
    (kp_Q1 : PySem.W.keepIn K (.ref Q1) = true)
    (a_Q2 : PySem.W.nsIn K mainGlobals "NoName" = some (some (.ref Q2)))
    (cl_Q2 : PySem.W.isClsIn K Q2 = true)
    (ty_Q2 : PySem.W.typeIn K (.ref Q2) = some (.type "type"))
    (a_Q3 : PySem.W.nsIn K mainGlobals "Ring" = some (some (.ref Q3)))
    (cl_Q3 : PySem.W.isClsIn K Q3 = true)
    (ty_Q3 : PySem.W.typeIn K (.ref Q3) = some (.type "type"))
    {nm_Q3 q_Q3 : Str} {N_Q3 : Addr} {bs_Q3 sub_Q3 : List Value} {ab_Q3 : Bool} {sn_Q3 : List Str} {col_Q3 : Option Bool} {dd_Q3 : Option Addr} {k0_Q3 k1_Q3 k2_Q3 k3_Q3 k5_Q3 : Option Value}
    (l_Q3 : K.lookup Q3 = some (excClassObj nm_Q3 q_Q3 Q3 N_Q3 bs_Q3 [.ref QD, .type "ValueError", .type "Exception", .type "BaseException", .type "object"] true sn_Q3 sub_Q3 ab_Q3 col_Q3 dd_Q3 k0_Q3 k1_Q3 k2_Q3 k3_Q3 k5_Q3 "ValueError.__new__"))
    (val_Q3 : PySem.W.subIn K (.ref Q3) (.type "ValueError") = some true)
    (bas_Q3 : PySem.W.subIn K (.ref Q3) (.type "BaseException") = some true)
    (att_Q3 : PySem.W.subIn K (.ref Q3) (.type "AttributeError") = some false)
    (nam_Q3 : PySem.W.subIn K (.ref Q3) (.type "NameError") = some false)
    (kp_Q3 : PySem.W.keepIn K (.ref Q3) = true)
    (a_Q4 : PySem.W.nsIn K mainGlobals "NoDeed" = some (some (.ref Q4)))
    (cl_Q4 : PySem.W.isClsIn K Q4 = true)
    (ty_Q4 : PySem.W.typeIn K (.ref Q4) = some (.type "type"))
    (a_Q5 : PySem.W.nsIn K mainGlobals "Same" = some (some (.ref Q5)))
    (cl_Q5 : PySem.W.isClsIn K Q5 = true)
    (ty_Q5 : PySem.W.typeIn K (.ref Q5) = some (.type "type"))
    (a_Q6 : PySem.W.nsIn K mainGlobals "NoText" = some (some (.ref Q6)))
    (cl_Q6 : PySem.W.isClsIn K Q6 = true)
    (ty_Q6 : PySem.W.typeIn K (.ref Q6) = some (.type "type"))
    (a_Q7 : PySem.W.nsIn K mainGlobals "TooMany" = some (some (.ref Q7)))
    (cl_Q7 : PySem.W.isClsIn K Q7 = true)
    (ty_Q7 : PySem.W.typeIn K (.ref Q7) = some (.type "type"))
    {nm_Q7 q_Q7 : Str} {N_Q7 : Addr} {bs_Q7 sub_Q7 : List Value} {ab_Q7 : Bool} {sn_Q7 : List Str} {col_Q7 : Option Bool} {dd_Q7 : Option Addr} {k0_Q7 k1_Q7 k2_Q7 k3_Q7 k5_Q7 : Option Value}
    {bm_Q7 : List Value} {hd_Q7 : Bool}
    (l_Q7 : K.lookup Q7 = some (excClassObj nm_Q7 q_Q7 Q7 N_Q7 bs_Q7 bm_Q7 hd_Q7 sn_Q7 sub_Q7 ab_Q7 col_Q7 dd_Q7 k0_Q7 k1_Q7 k2_Q7 k3_Q7 k5_Q7 "ValueError.__new__"))
    (val_Q7 : PySem.W.subIn K (.ref Q7) (.type "ValueError") = some true)
    (bas_Q7 : PySem.W.subIn K (.ref Q7) (.type "BaseException") = some true)
    (att_Q7 : PySem.W.subIn K (.ref Q7) (.type "AttributeError") = some false)
    (nam_Q7 : PySem.W.subIn K (.ref Q7) (.type "NameError") = some false)
    (kp_Q7 : PySem.W.keepIn K (.ref Q7) = true)
    (a_Q8 : PySem.W.nsIn K mainGlobals "NoBoard" = some (some (.ref Q8)))
    (cl_Q8 : PySem.W.isClsIn K Q8 = true)
    (ty_Q8 : PySem.W.typeIn K (.ref Q8) = some (.type "type"))
    (a_Q9 : PySem.W.nsIn K mainGlobals "NoCall" = some (some (.ref Q9)))
    (cl_Q9 : PySem.W.isClsIn K Q9 = true)
    (ty_Q9 : PySem.W.typeIn K (.ref Q9) = some (.type "type"))
    (a_Q10 : PySem.W.nsIn K mainGlobals "NoLine" = some (some (.ref Q10)))
    (cl_Q10 : PySem.W.isClsIn K Q10 = true)
    (ty_Q10 : PySem.W.typeIn K (.ref Q10) = some (.type "type"))
    (a_Q11 : PySem.W.nsIn K mainGlobals "NoPlace" = some (some (.ref Q11)))
    (cl_Q11 : PySem.W.isClsIn K Q11 = true)
    (ty_Q11 : PySem.W.typeIn K (.ref Q11) = some (.type "type"))
    (a_Q12 : PySem.W.nsIn K mainGlobals "NoWeights" = some (some (.ref Q12)))
    (cl_Q12 : PySem.W.isClsIn K Q12 = true)
    (ty_Q12 : PySem.W.typeIn K (.ref Q12) = some (.type "type"))
    (a_Q13 : PySem.W.nsIn K mainGlobals "NoTerm" = some (some (.ref Q13)))
    (cl_Q13 : PySem.W.isClsIn K Q13 = true)
    (ty_Q13 : PySem.W.typeIn K (.ref Q13) = some (.type "type"))
    (a_Q14 : PySem.W.nsIn K mainGlobals "NoRow" = some (some (.ref Q14)))
    (cl_Q14 : PySem.W.isClsIn K Q14 = true)
    (ty_Q14 : PySem.W.typeIn K (.ref Q14) = some (.type "type"))
    (cg_Q : PySem.W.specialIn K (.builtin "object.__class__") "__get__" = some (some (.builtin "getset_descriptor.__get__")))
    (ct_Q : PySem.W.takesIn K (.builtin "object.__class__") = some true)
    (ga_Q0 : PySem.W.findIn K (.ref Q0) "__getattribute__" = some (some (.builtin "BaseException.__getattribute__")))
    (gt_Q0 : PySem.W.findIn K (.ref Q0) "__getattr__" = some none)
    (ca_Q0 : PySem.W.findIn K (.ref Q0) "__class__" = some (some (.builtin "object.__class__")))
    (ob_Q0 : PySem.W.mroIn K Q0 (.type "object") = some true)
    (sd_Q0 : PySem.W.subIn K (.ref Q0) (.ref QD) = some true)
    (s_Q0_0 : PySem.W.subIn K (.ref Q0) (.ref Q0) = some true)
    (s_Q0_1 : PySem.W.subIn K (.ref Q0) (.ref Q1) = some false)
    (s_Q0_2 : PySem.W.subIn K (.ref Q0) (.ref Q2) = some false)
    (s_Q0_3 : PySem.W.subIn K (.ref Q0) (.ref Q3) = some false)
    (s_Q0_4 : PySem.W.subIn K (.ref Q0) (.ref Q4) = some false)
    (s_Q0_5 : PySem.W.subIn K (.ref Q0) (.ref Q5) = some false)
    (s_Q0_6 : PySem.W.subIn K (.ref Q0) (.ref Q6) = some false)
    (s_Q0_7 : PySem.W.subIn K (.ref Q0) (.ref Q7) = some false)
    (s_Q0_8 : PySem.W.subIn K (.ref Q0) (.ref Q8) = some false)
    (s_Q0_9 : PySem.W.subIn K (.ref Q0) (.ref Q9) = some false)
    (s_Q0_10 : PySem.W.subIn K (.ref Q0) (.ref Q10) = some false)
    (s_Q0_11 : PySem.W.subIn K (.ref Q0) (.ref Q11) = some false)
    (s_Q0_12 : PySem.W.subIn K (.ref Q0) (.ref Q12) = some false)
    (s_Q0_13 : PySem.W.subIn K (.ref Q0) (.ref Q13) = some false)
    (s_Q0_14 : PySem.W.subIn K (.ref Q0) (.ref Q14) = some false)
    (ga_Q1 : PySem.W.findIn K (.ref Q1) "__getattribute__" = some (some (.builtin "BaseException.__getattribute__")))
    (gt_Q1 : PySem.W.findIn K (.ref Q1) "__getattr__" = some none)
    (ca_Q1 : PySem.W.findIn K (.ref Q1) "__class__" = some (some (.builtin "object.__class__")))
    (ob_Q1 : PySem.W.mroIn K Q1 (.type "object") = some true)
    (sd_Q1 : PySem.W.subIn K (.ref Q1) (.ref QD) = some true)
    (s_Q1_0 : PySem.W.subIn K (.ref Q1) (.ref Q0) = some false)
    (s_Q1_1 : PySem.W.subIn K (.ref Q1) (.ref Q1) = some true)
    (s_Q1_2 : PySem.W.subIn K (.ref Q1) (.ref Q2) = some false)
    (s_Q1_3 : PySem.W.subIn K (.ref Q1) (.ref Q3) = some false)
    (s_Q1_4 : PySem.W.subIn K (.ref Q1) (.ref Q4) = some false)
    (s_Q1_5 : PySem.W.subIn K (.ref Q1) (.ref Q5) = some false)
    (s_Q1_6 : PySem.W.subIn K (.ref Q1) (.ref Q6) = some false)
    (s_Q1_7 : PySem.W.subIn K (.ref Q1) (.ref Q7) = some false)
    (s_Q1_8 : PySem.W.subIn K (.ref Q1) (.ref Q8) = some false)
    (s_Q1_9 : PySem.W.subIn K (.ref Q1) (.ref Q9) = some false)
    (s_Q1_10 : PySem.W.subIn K (.ref Q1) (.ref Q10) = some false)
    (s_Q1_11 : PySem.W.subIn K (.ref Q1) (.ref Q11) = some false)
    (s_Q1_12 : PySem.W.subIn K (.ref Q1) (.ref Q12) = some false)
    (s_Q1_13 : PySem.W.subIn K (.ref Q1) (.ref Q13) = some false)
    (s_Q1_14 : PySem.W.subIn K (.ref Q1) (.ref Q14) = some false)
    (ga_Q3 : PySem.W.findIn K (.ref Q3) "__getattribute__" = some (some (.builtin "BaseException.__getattribute__")))
    (gt_Q3 : PySem.W.findIn K (.ref Q3) "__getattr__" = some none)
    (ca_Q3 : PySem.W.findIn K (.ref Q3) "__class__" = some (some (.builtin "object.__class__")))
    (ob_Q3 : PySem.W.mroIn K Q3 (.type "object") = some true)
    (sd_Q3 : PySem.W.subIn K (.ref Q3) (.ref QD) = some true)
    (s_Q3_0 : PySem.W.subIn K (.ref Q3) (.ref Q0) = some false)
    (s_Q3_1 : PySem.W.subIn K (.ref Q3) (.ref Q1) = some false)
    (s_Q3_2 : PySem.W.subIn K (.ref Q3) (.ref Q2) = some false)
    (s_Q3_3 : PySem.W.subIn K (.ref Q3) (.ref Q3) = some true)
    (s_Q3_4 : PySem.W.subIn K (.ref Q3) (.ref Q4) = some false)
    (s_Q3_5 : PySem.W.subIn K (.ref Q3) (.ref Q5) = some false)
    (s_Q3_6 : PySem.W.subIn K (.ref Q3) (.ref Q6) = some false)
    (s_Q3_7 : PySem.W.subIn K (.ref Q3) (.ref Q7) = some false)
    (s_Q3_8 : PySem.W.subIn K (.ref Q3) (.ref Q8) = some false)
    (s_Q3_9 : PySem.W.subIn K (.ref Q3) (.ref Q9) = some false)
    (s_Q3_10 : PySem.W.subIn K (.ref Q3) (.ref Q10) = some false)
    (s_Q3_11 : PySem.W.subIn K (.ref Q3) (.ref Q11) = some false)
    (s_Q3_12 : PySem.W.subIn K (.ref Q3) (.ref Q12) = some false)
    (s_Q3_13 : PySem.W.subIn K (.ref Q3) (.ref Q13) = some false)
    (s_Q3_14 : PySem.W.subIn K (.ref Q3) (.ref Q14) = some false)
    (ga_Q7 : PySem.W.findIn K (.ref Q7) "__getattribute__" = some (some (.builtin "BaseException.__getattribute__")))
    (gt_Q7 : PySem.W.findIn K (.ref Q7) "__getattr__" = some none)
    (ca_Q7 : PySem.W.findIn K (.ref Q7) "__class__" = some (some (.builtin "object.__class__")))
    (ob_Q7 : PySem.W.mroIn K Q7 (.type "object") = some true)
    (sd_Q7 : PySem.W.subIn K (.ref Q7) (.ref QD) = some true)
    (s_Q7_0 : PySem.W.subIn K (.ref Q7) (.ref Q0) = some false)
    (s_Q7_1 : PySem.W.subIn K (.ref Q7) (.ref Q1) = some false)
    (s_Q7_2 : PySem.W.subIn K (.ref Q7) (.ref Q2) = some false)
    (s_Q7_3 : PySem.W.subIn K (.ref Q7) (.ref Q3) = some false)
    (s_Q7_4 : PySem.W.subIn K (.ref Q7) (.ref Q4) = some false)
    (s_Q7_5 : PySem.W.subIn K (.ref Q7) (.ref Q5) = some false)
    (s_Q7_6 : PySem.W.subIn K (.ref Q7) (.ref Q6) = some false)
    (s_Q7_7 : PySem.W.subIn K (.ref Q7) (.ref Q7) = some true)
    (s_Q7_8 : PySem.W.subIn K (.ref Q7) (.ref Q8) = some false)
    (s_Q7_9 : PySem.W.subIn K (.ref Q7) (.ref Q9) = some false)
    (s_Q7_10 : PySem.W.subIn K (.ref Q7) (.ref Q10) = some false)
    (s_Q7_11 : PySem.W.subIn K (.ref Q7) (.ref Q11) = some false)
    (s_Q7_12 : PySem.W.subIn K (.ref Q7) (.ref Q12) = some false)
    (s_Q7_13 : PySem.W.subIn K (.ref Q7) (.ref Q13) = some false)
    (s_Q7_14 : PySem.W.subIn K (.ref Q7) (.ref Q14) = some false)
    (in_Q7 : PySem.W.findIn K (.ref Q7) "__init__" = some (some (.builtin "ValueError.__init__")))
    (sa_Q0 : PySem.W.findIn K (.ref Q0) "__setattr__" = some (some (.builtin "object.__setattr__")))
    (na_Q0 : PySem.W.findIn K (.ref Q0) "word" = some none)
    (sa_Q1 : PySem.W.findIn K (.ref Q1) "__setattr__" = some (some (.builtin "object.__setattr__")))
    (na_Q1 : PySem.W.findIn K (.ref Q1) "word" = some none)
    (sa_Q3 : PySem.W.findIn K (.ref Q3) "__setattr__" = some (some (.builtin "object.__setattr__")))
    (na_Q3 : PySem.W.findIn K (.ref Q3) "ring" = some none)
    (ga_QD : PySem.W.specialIn K (.ref QD) "__getattribute__" = some (some (.builtin "type.__getattribute__")))
    (rd_QD : PySem.W.readsIn K QD (.type "type") = true)
    (fi_QD : PySem.W.findCls K (.ref QD) (.type "type") "__init__" = some (.val (.builtin "ValueError.__init__")))
    (TC : Cp K "Kinds" C)
    (T_mI : Mp K C "__init__" "Kinds.__init__" s_Kinds___init__ f_mI d_mI)
    (T_x0 : Mp K Q0 "__init__" "NoKind.__init__" s_NoKind___init__ f_x0 d_x0)
    (T_x1 : Mp K Q1 "__init__" "Twice.__init__" s_Twice___init__ f_x1 d_x1)
    (T_x3 : Mp K Q3 "__init__" "Ring.__init__" s_Ring___init__ f_x3 d_x3)
    (tf_x0 : PySem.W.typeIn K (.ref f_x0) = some (.type "function"))
    (tf_x1 : PySem.W.typeIn K (.ref f_x1) = some (.type "function"))
    (tf_x3 : PySem.W.typeIn K (.ref f_x3) = some (.type "function"))
    (T_w : Tp K "is_word" s_is_word f_w d_w)
    (T_cr : Tp K "check_rows" s_check_rows f_cr d_cr)
    (T_cu : Tp K "check_ups" s_check_ups f_cu d_cu)
    (T_fa : Tp K "first_among" s_first_among f_fa d_fa)
    (T_en : Tp K "endless" s_endless f_en d_en)
    (T_fr : Tp K "find_ring" s_find_ring f_fr d_fr)
    (T_aa : Tp K "all_above" s_all_above f_aa d_aa)
    (T_P : Tp K "_law_pot" s__law_pot f_P d_P)
    (T_T : Tp K "_law_take" s__law_take f_T d_T)
    (T_Le : Tp K "_law_letters" s__law_letters f_Le d_Le)
    (T_W : Tp K "_law_word" s__law_word f_W d_W)
    (T_Ws : Tp K "_law_words" s__law_words f_Ws d_Ws)
    (T_U : Tp K "_law_ups" s__law_ups f_U d_U)
    (T_R : Tp K "_law_rows" s__law_rows f_R d_R)
    (T_al : Tp K "_law_alone" s__law_alone f_al d_al)
    (T_sp : Tp K "_law_spoilt" s__law_spoilt f_sp d_sp)
    (T_ri : Tp K "_law_rings" s__law_rings f_ri d_ri)
    (T_du : Tp K "_law_due" s__law_due f_du d_du)
    (T_sd : Tp K "_law_said" s__law_said f_sd d_sd)
    (T_L : Tp K "law" s_law f_L d_L)
    (n_ups_of : PySem.W.findIn K (.ref C) "ups_of" = some none)
    (n_above_of : PySem.W.findIn K (.ref C) "above_of" = some none)
    (g_LETTERS : PySem.W.nsIn K mainGlobals "LETTERS" = some (some (.str Md.letters T_LETTERS)))
    (g_MOST_LETTERS : PySem.W.nsIn K mainGlobals "MOST_LETTERS" = some (some (.int 8 T_MOST_LETTERS)))
    (g_MOST_KINDS : PySem.W.nsIn K mainGlobals "MOST_KINDS" = some (some (.int 24 T_MOST_KINDS)))
    (g_MOST_UPS : PySem.W.nsIn K mainGlobals "MOST_UPS" = some (some (.int 8 T_MOST_UPS)))
    (z_len : PySem.W.nsIn K mainGlobals "len" = some none)
    (z_all : PySem.W.nsIn K mainGlobals "all" = some none)
    (z_any : PySem.W.nsIn K mainGlobals "any" = some none)
    (z_list : PySem.W.nsIn K mainGlobals "list" = some none)
    (z_tuple : PySem.W.nsIn K mainGlobals "tuple" = some none)
    (z_range : PySem.W.nsIn K mainGlobals "range" = some none)
    (z_int : PySem.W.nsIn K mainGlobals "int" = some none)
    (z_isinstance : PySem.W.nsIn K mainGlobals "isinstance" = some none)
    (z_max : PySem.W.nsIn K mainGlobals "max" = some none)
    (z_min : PySem.W.nsIn K mainGlobals "min" = some none)
    (z_ValueError : PySem.W.nsIn K mainGlobals "ValueError" = some none)
    (z_set : PySem.W.nsIn K mainGlobals "set" = some none)
    (z_sorted : PySem.W.nsIn K mainGlobals "sorted" = some none)
    : ∃ fd : FuncData, (∀ (s : Shared) (v : Value), BindsTo s fd ⟨[v], []⟩ [("script", v)]) ∧ ∀ base : Heap, K.In base → base.Ns mainGlobals mg → FnOk l.prog w K mg base CX0 7 fa fd ["script"] (spLaw K) := by
  have e := hfa.symm.trans (PySem.W.mg_of X G T_L.a)
  cases e
  obtain ⟨_, _, _, _, _, _, rfl⟩ := Tp.ex T_L.fn
  have mgC_LETTERS := PySem.W.mg_of X G g_LETTERS
  have mgC_MOST_LETTERS := PySem.W.mg_of X G g_MOST_LETTERS
  have mgC_MOST_KINDS := PySem.W.mg_of X G g_MOST_KINDS
  have mgC_MOST_UPS := PySem.W.mg_of X G g_MOST_UPS
  have mgN_len := PySem.W.mg_none_of X G z_len
  have mgN_all := PySem.W.mg_none_of X G z_all
  have mgN_any := PySem.W.mg_none_of X G z_any
  have mgN_list := PySem.W.mg_none_of X G z_list
  have mgN_tuple := PySem.W.mg_none_of X G z_tuple
  have mgN_range := PySem.W.mg_none_of X G z_range
  have mgN_int := PySem.W.mg_none_of X G z_int
  have mgN_isinstance := PySem.W.mg_none_of X G z_isinstance
  have mgN_max := PySem.W.mg_none_of X G z_max
  have mgN_min := PySem.W.mg_none_of X G z_min
  have mgN_ValueError := PySem.W.mg_none_of X G z_ValueError
  have mgN_set := PySem.W.mg_none_of X G z_set
  have mgN_sorted := PySem.W.mg_none_of X G z_sorted
  obtain ⟨aC, pg, hd, po, sa, mk, kc⟩ := TC
  have mgC := PySem.W.mg_of X G aC
  have M : Mk K C f_mI := ⟨mk, T_mI.a, T_mI.i, kc⟩
  have F_mI := T_mI.fn
  have b_mI := bn2 "self" "rows" T_mI.fn
  have F_x0 := T_x0.fn
  have a_x0 := T_x0.a
  have b_x0 := bn2 "self" "word" T_x0.fn
  have F_x1 := T_x1.fn
  have a_x1 := T_x1.a
  have b_x1 := bn2 "self" "word" T_x1.fn
  have F_x3 := T_x3.fn
  have a_x3 := T_x3.a
  have b_x3 := bn2 "self" "ring" T_x3.fn
  have D_w := df X G T_w (bn1 "text" T_w.fn)
  have D_cr := df X G T_cr (bn1 "rows" T_cr.fn)
  have D_cu := df X G T_cu (bn1 "ups_of" T_cu.fn)
  have D_fa := df X G T_fa (bn2 "words" "others" T_fa.fn)
  have D_en := df X G T_en (bn1 "ups_of" T_en.fn)
  have D_fr := df X G T_fr (bn1 "ups_of" T_fr.fn)
  have D_aa := df X G T_aa (bn2 "ups_of" "word" T_aa.fn)
  have D_P := df X G T_P (bn2 "script" "k" T_P.fn)
  have D_T := df X G T_T (bn2 "pot" "many" T_T.fn)
  have D_Le := df X G T_Le (bn1 "number" T_Le.fn)
  have D_W := df X G T_W (bn2 "pot" "words" T_W.fn)
  have D_Ws := df X G T_Ws (bn2 "pot" "many" T_Ws.fn)
  have D_U := df X G T_U (bn3 "pot" "k" "shape" T_U.fn)
  have D_R := df X G T_R (bn2 "pot" "most" T_R.fn)
  have D_al := df X G T_al (bn2 "e" "place" T_al.fn)
  have D_sp := df X G T_sp (bn2 "pot" "rows" T_sp.fn)
  have D_ri := df X G T_ri (bn1 "rows" T_ri.fn)
  have D_du := df X G T_du (bn1 "rows" T_du.fn)
  have D_sd := df X G T_sd (bn1 "rows" T_sd.fn)
  have D_L := df X G T_L (bn1 "script" T_L.fn)
  have DD : DIn K QD := ⟨ga_QD, rd_QD, fi_QD⟩
  have TD : ErrD K mg QD := ⟨PySem.W.mg_of X G a_QD, ⟨⟨_, _, _, _, _, _, _, _, _, _, _, _, _, _, _, _, l_QD⟩, val_QD, bas_QD, att_QD, nam_QD, kp_QD⟩, cl_QD, ty_QD⟩
  have TF : Fifteen K mg (fif Q0 Q1 Q2 Q3 Q4 Q5 Q6 Q7 Q8 Q9 Q10 Q11 Q12 Q13 Q14) := ⟨PySem.W.mg_of X G a_Q0, PySem.W.mg_of X G a_Q1, PySem.W.mg_of X G a_Q2, PySem.W.mg_of X G a_Q3, PySem.W.mg_of X G a_Q4, PySem.W.mg_of X G a_Q5, PySem.W.mg_of X G a_Q6, PySem.W.mg_of X G a_Q7, PySem.W.mg_of X G a_Q8, PySem.W.mg_of X G a_Q9, PySem.W.mg_of X G a_Q10, PySem.W.mg_of X G a_Q11, PySem.W.mg_of X G a_Q12, PySem.W.mg_of X G a_Q13, PySem.W.mg_of X G a_Q14, all15 cl_Q0 cl_Q1 cl_Q2 cl_Q3 cl_Q4 cl_Q5 cl_Q6 cl_Q7 cl_Q8 cl_Q9 cl_Q10 cl_Q11 cl_Q12 cl_Q13 cl_Q14, all15 ty_Q0 ty_Q1 ty_Q2 ty_Q3 ty_Q4 ty_Q5 ty_Q6 ty_Q7 ty_Q8 ty_Q9 ty_Q10 ty_Q11 ty_Q12 ty_Q13 ty_Q14⟩
  have O0 : OneOf K QD (fif Q0 Q1 Q2 Q3 Q4 Q5 Q6 Q7 Q8 Q9 Q10 Q11 Q12 Q13 Q14) 0 := ⟨⟨⟨⟨_, _, _, _, _, _, _, _, _, _, _, _, _, _, _, _, l_Q0⟩, val_Q0, bas_Q0, att_Q0, nam_Q0, kp_Q0⟩, ga_Q0, gt_Q0, ca_Q0, cg_Q, ct_Q, ob_Q0⟩, sd_Q0, all15 s_Q0_0 s_Q0_1 s_Q0_2 s_Q0_3 s_Q0_4 s_Q0_5 s_Q0_6 s_Q0_7 s_Q0_8 s_Q0_9 s_Q0_10 s_Q0_11 s_Q0_12 s_Q0_13 s_Q0_14⟩
  have I0 : ExI K Q0 QD "word" := ⟨⟨⟨⟨_, _, _, _, _, _, _, _, _, _, _, _, _, _, _, _, l_Q0⟩, val_Q0, bas_Q0, att_Q0, nam_Q0, kp_Q0⟩, ga_Q0, gt_Q0, ca_Q0, cg_Q, ct_Q, ob_Q0⟩, ⟨_, _, _, _, _, _, _, _, _, _, _, _, _, _, l_Q0⟩, sa_Q0, na_Q0⟩
  have mgQ0 := PySem.W.mg_of X G a_Q0
  have O1 : OneOf K QD (fif Q0 Q1 Q2 Q3 Q4 Q5 Q6 Q7 Q8 Q9 Q10 Q11 Q12 Q13 Q14) 1 := ⟨⟨⟨⟨_, _, _, _, _, _, _, _, _, _, _, _, _, _, _, _, l_Q1⟩, val_Q1, bas_Q1, att_Q1, nam_Q1, kp_Q1⟩, ga_Q1, gt_Q1, ca_Q1, cg_Q, ct_Q, ob_Q1⟩, sd_Q1, all15 s_Q1_0 s_Q1_1 s_Q1_2 s_Q1_3 s_Q1_4 s_Q1_5 s_Q1_6 s_Q1_7 s_Q1_8 s_Q1_9 s_Q1_10 s_Q1_11 s_Q1_12 s_Q1_13 s_Q1_14⟩
  have I1 : ExI K Q1 QD "word" := ⟨⟨⟨⟨_, _, _, _, _, _, _, _, _, _, _, _, _, _, _, _, l_Q1⟩, val_Q1, bas_Q1, att_Q1, nam_Q1, kp_Q1⟩, ga_Q1, gt_Q1, ca_Q1, cg_Q, ct_Q, ob_Q1⟩, ⟨_, _, _, _, _, _, _, _, _, _, _, _, _, _, l_Q1⟩, sa_Q1, na_Q1⟩
  have mgQ1 := PySem.W.mg_of X G a_Q1
  have O3 : OneOf K QD (fif Q0 Q1 Q2 Q3 Q4 Q5 Q6 Q7 Q8 Q9 Q10 Q11 Q12 Q13 Q14) 3 := ⟨⟨⟨⟨_, _, _, _, _, _, _, _, _, _, _, _, _, _, _, _, l_Q3⟩, val_Q3, bas_Q3, att_Q3, nam_Q3, kp_Q3⟩, ga_Q3, gt_Q3, ca_Q3, cg_Q, ct_Q, ob_Q3⟩, sd_Q3, all15 s_Q3_0 s_Q3_1 s_Q3_2 s_Q3_3 s_Q3_4 s_Q3_5 s_Q3_6 s_Q3_7 s_Q3_8 s_Q3_9 s_Q3_10 s_Q3_11 s_Q3_12 s_Q3_13 s_Q3_14⟩
  have I3 : ExI K Q3 QD "ring" := ⟨⟨⟨⟨_, _, _, _, _, _, _, _, _, _, _, _, _, _, _, _, l_Q3⟩, val_Q3, bas_Q3, att_Q3, nam_Q3, kp_Q3⟩, ga_Q3, gt_Q3, ca_Q3, cg_Q, ct_Q, ob_Q3⟩, ⟨_, _, _, _, _, _, _, _, _, _, _, _, _, _, l_Q3⟩, sa_Q3, na_Q3⟩
  have mgQ3 := PySem.W.mg_of X G a_Q3
  have O7 : OneOf K QD (fif Q0 Q1 Q2 Q3 Q4 Q5 Q6 Q7 Q8 Q9 Q10 Q11 Q12 Q13 Q14) 7 := ⟨⟨⟨⟨_, _, _, _, _, _, _, _, _, _, _, _, _, _, _, _, l_Q7⟩, val_Q7, bas_Q7, att_Q7, nam_Q7, kp_Q7⟩, ga_Q7, gt_Q7, ca_Q7, cg_Q, ct_Q, ob_Q7⟩, sd_Q7, all15 s_Q7_0 s_Q7_1 s_Q7_2 s_Q7_3 s_Q7_4 s_Q7_5 s_Q7_6 s_Q7_7 s_Q7_8 s_Q7_9 s_Q7_10 s_Q7_11 s_Q7_12 s_Q7_13 s_Q7_14⟩
  have TP7 : ErrP K mg "TooMany" Q7 := ⟨PySem.W.mg_of X G a_Q7, ⟨⟨_, _, _, _, _, _, _, _, _, _, _, _, _, _, _, _, l_Q7⟩, val_Q7, bas_Q7, att_Q7, nam_Q7, kp_Q7⟩, in_Q7⟩
  have TK : TxtK mg := ⟨⟨_, mgC_LETTERS⟩, ⟨_, mgC_MOST_LETTERS⟩, ⟨_, mgC_MOST_KINDS⟩, ⟨_, mgC_MOST_UPS⟩, mgN_len, mgN_all, mgN_list, mgN_tuple⟩
  have TR : TxtR mg := ⟨mgN_range, mgN_int, mgN_len, mgN_tuple, mgN_list⟩
  have TC : TxtC K C := ⟨⟨pg, hd, po, sa⟩, n_ups_of, n_above_of⟩
  exact ⟨_, fun s v => .of_eq rfl, fun base _ _ => have GI := ok_init (P := l.prog) (w := w) (base := base) F_mI TK TC D_cr D_w D_cu D_fr D_en D_fa D_aa; have GP := ok_pot (P := l.prog) (w := w) (base := base) D_P mgN_len; have GT := ok_take (P := l.prog) (w := w) (base := base) D_T; have GR := ok_rowsL (P := l.prog) (w := w) (base := base) D_R D_T D_U D_Ws D_W D_Le TR; have E0 : ErrI l.prog w K mg base "NoKind" ((fif Q0 Q1 Q2 Q3 Q4 Q5 Q6 Q7 Q8 Q9 Q10 Q11 Q12 Q13 Q14) 0) "word" (spXI ((fif Q0 Q1 Q2 Q3 Q4 Q5 Q6 Q7 Q8 Q9 Q10 Q11 Q12 Q13 Q14) 0) "word" okS) f_x0 _ := ⟨mgQ0, I0.toExA.toExC, a_x0, tf_x0, b_x0, ok_xnk F_x0 I0 DD TD.m⟩; have E1 : ErrI l.prog w K mg base "Twice" ((fif Q0 Q1 Q2 Q3 Q4 Q5 Q6 Q7 Q8 Q9 Q10 Q11 Q12 Q13 Q14) 1) "word" (spXI ((fif Q0 Q1 Q2 Q3 Q4 Q5 Q6 Q7 Q8 Q9 Q10 Q11 Q12 Q13 Q14) 1) "word" okS) f_x1 _ := ⟨mgQ1, I1.toExA.toExC, a_x1, tf_x1, b_x1, ok_xtw F_x1 I1 DD TD.m⟩; have E3 : ErrI l.prog w K mg base "Ring" ((fif Q0 Q1 Q2 Q3 Q4 Q5 Q6 Q7 Q8 Q9 Q10 Q11 Q12 Q13 Q14) 3) "ring" (spXL ((fif Q0 Q1 Q2 Q3 Q4 Q5 Q6 Q7 Q8 Q9 Q10 Q11 Q12 Q13 Q14) 3) "ring") f_x3 _ := ⟨mgQ3, I3.toExA.toExC, a_x3, tf_x3, b_x3, ok_xri F_x3 mgN_list I3 DD TD.m⟩; have GIT : FnOk l.prog w K mg base (CX1 l.prog w) 4 f_mI _ ["self", "rows"] (spITry K C (fif Q0 Q1 Q2 Q3 Q4 Q5 Q6 Q7 Q8 Q9 Q10 Q11 Q12 Q13 Q14)) := (GI.any (CX := CX1 l.prog w)).or (ok_initX (C := C) F_mI TK D_cr D_w D_cu D_fr D_en D_fa E0 E1 E3 TP7); have GSd := ok_said D_sd M mgC b_mI GIT TD O0 O1 O3 O7; ok_law D_L ⟨mgN_len, mgN_range, mgN_max, mgN_min, mgN_list⟩ O0 O1 O3 O7 I0 I1 D_P GP D_R GR D_sp (ok_spoilt D_sp ⟨mgN_len, mgN_range⟩ D_T GT) D_du (ok_ldue D_du ⟨mgN_len, mgN_range⟩ D_ri (ok_rings D_ri ⟨mgN_len, mgN_list, mgN_set, mgN_sorted⟩)) D_sd GSd D_al (ok_alone D_al TD TF mgN_isinstance mgN_ValueError)⟩
theorem walk {l : PySem.W.OpenLaw} {q : Program} {loose : List Str} {XP : (Str → Option Value) → Heap → Prop} {YP : World → Heap → Prop} {d : DefRec} {K : Params → PySem.W.Frag} (hn : l.most = some 63) (hdf : d.params.defaults = [])
    (hY : ∀ (w : World) (h : Heap), YP w h → (K w.params).In h)
    (F : ∀ (w : World) (mg : Str → Option Value) (fa : Addr) (h : Heap), (K w.params).In h → h.Ns mainGlobals mg → mg d.name = some (.ref fa) →
      ∃ fd : FuncData, (∀ (s : Shared) (u : Value), BindsTo s fd ⟨[u], []⟩ [("script", u)]) ∧ ∀ base : Heap, (K w.params).In base → base.Ns mainGlobals mg → FnOk l.prog w (K w.params) mg base CX0 7 fa fd ["script"] (spLaw (K w.params))) :
    PySem.W.WalkO q loose XP YP l.row.toRowW d [] (fun f vs => PySem.call f vs) :=
  L2.walk_of (n := 63) (k := 7) (x := "script") (CX := fun _ => CX0) (sp := fun w => spLaw (K w.params)) hn (by decide) hdf ⟨rfl, by decide, by decide, rfl⟩ hY F (fun _ _ a ns hl _ hS => ⟨a, ns, rfl, hS, hl, fun _ => rfl⟩) fun _ _ _ _ _ z => z
end K06
namespace PySem.W.Fast
set_option hygiene false
local macro_rules|`(command|#check $s:str)=>do
 let mut r:=#[]
 let mut n:=0
 let mut k:=0
 for c in s.getString.toList do
  n:=n*62+(c.toNat-(if c.toNat<58 then 48 else if c.toNat<91 then 55 else 61))
  k:=k+1
  if k%11==0 then
   let i:=Lean.mkIdent (.mkSimple s!"tw{n}")
   r:=r.push (←`(command|def $i:ident:=0))
   n:=0
 return Lean.mkNullNode (r.map (·.raw))
#check "FbzsSa069dfK7LFwxE69PAEibyyLWy4l8F3NNw80dldJG9qO1xfli3FIjPpYt2c7AVG9mPDMU5PWgDj6aJP3toYp22ilMjFusk9B3zLHXeF98BFcf39tOHl2P96PNC9W4MooBukJlgPeAqU3Qde3HZEOP11uXO18sMQCU3k0Gq0PQn2D2bPxdVTWHqpCXOq05FzFtK8nw4HN6eEuo26KrTZdwUUsDN64Igim4I4L5pxFEllQUrIu6lYpLB0HI4wOAt13jqu5C5thpLCuhc54ylPU1wZB5Z1jQGa1f31anHQaJQyKhuWO3YCCDogn8KM67g7AqituEm8lB7FoDS4SA8AUELytCsblJSUuIaw7hrZLxCgDTgFljQ37N3hLMHJrUGKJqU26n7ebDcWjmNIsOmzJntcoHBOJKRKMLmlyfoEQa0Futml5MCPC4gwX36ZfFbc4hElmvKmyeP3m2NkerHoN3FUNFfxKd6Uc2Y3MCdhcbTt4Wrizy64cPlDVVzT7FfzOUHpEC8su1IF19lcAaAFiZl86eZkN1EbEtAItjcdoZMzXLGM7qPzmpJXS8EklcnTR264I4jra7cKrANGGCDsdDjBjdG2REcpunAju8o7Luaqip4o8bGZyUUkETz3r7h2JhOxyl6Mexb6L7iRe4LUOiXvucj1LNbKT8vllrV45mTK2lQAvG3sfvPM1DrlMHFZ7yKFFLeuAupWl6SHotTDyQs0727WAk44bHO20Ki4H8Wv3XBsXN2lIuUqm81b7oyIrty6U5Ld8aCpIIykeg4ckA5AEfBTQtcuIpVezQAE5M0G3c6RQV7Ee16zgaMDNirhmGx8hRNI6LoFB3wIsV9ME9N78sN3Nu6QGLHfs5A9CCpEvGFMmI2lsdDcH8g7Yn4NyVwH6g2rz8Oc3722Ytf55uELQH6XkiHr4DkVLbnywNcG7q37FTzuBM8Cvv7CgDYFlsw6S5Bgv4JvTiqMB26k55QHfLgBSEfXZWOk6VC0Gr0imDSJbGCgSxkBi92nJV52J1nQycKJlsIiLKrwu16V7uErIcF9oBChTRrX3OglAx9f8KB7RUXJL5IaIxdIEtBnJcpG0Bezr1QHfyTAvXLV05gHLDONDqq4f81CzjU6H92VKbabWoBzD6bL7mpy6g451RcmToLIVE121BLEw7DPyX7I5324Zaadx25f7I8dhqd4BbbFm88CUQXHW5uKKs2gvQ2KKNgQQqPY0HEQcu5ar4xh2c6YKfcm4igAucE1T2mZWR2WEyoHku7y8122M6TqKJ8A1uSKEOSRzU1B42AH05Ce9X5jWt12pJOTo9wV4gCsOjBhE6UWYijKe0q6OhIcOxlBTd4CjsVnouCfUL18odbrVWaUJdIGcqgYweQFb3XwYvbHA8LJnIXc1HVag6gDd3B1NE7DHcexXrmEDIbFNHH4v0PKAfGgbG73lp3JwAL4NLGRG1zM7phy01BwBfA04JlBdho1h8Bd1RIpiTesMGsoijsieWGx9EbQmuBgom58G87aUPOrIH9SB6Y1A1Jru9zUvnr96WJT22FbDmG1V0M7VuSQVQDiX75z7d0eyNhYI3QhXXZMZTsKIrZlFaR8XpPIPFDyBKLdbyIKm5UtuAX3iHWJQpOfRsBuGmNJnPhyuXEEGc6J4qmHwCCSTRGeGY2EaIpoaeDgst74JNPWzzD4Wn2CNTnV66X5UeDepzSSP1It0AbmqSLbnIz9Ggo8dGuXBfvEV4nfVUAGvbDkztsrL0UVY3yJMJfuHeeq8jTOIkcFNS1DYtujyNANHS3m1dFpxQrO9EOkFG87AJjXBK9f9jFJgNSAQBPIpVs6yy5cmYBpsudU03s4BOqNXSdM3aOveHVyImAKqQb7tTWEWWIGlc9MOfqPbGpXCycSHmzXLWylo2tesReCAdPtXtwTkx06tPQF7y8QVKjDazNf2xveCYgbwhBLPP37muCw3Xwi36LxvrC2rrbjC60CfFkgm7X5BJBnLV1CHqkIXVoMZv6f6FAESD5JqePmw0YgwGSxcFkTISvgTVnAECgHpJEihoDfeYAEqTlYlK4nW5U4klxjP1ht3sTkcfj5XJp3KWl6AnWJGKADaoEqhSG3l9gaEL5yxr9fEQp9Sx8UNw0DkZU1cEGp1r6HBYonMygfPBDxLLlOdqXz4fklRAQiBLh1EDLZK3GyE5GIeHlL7h6TVJm85GstN1FFGXAVTThetWz05gJAWMuCaf9MlSAEarZkp7pB9CvYYwI8J8Sav5crh0GFsyTDpDTTRo6BKPGJ5Z6R7FKhlm8bSliD1GNHYMy8xEKAkMgJH3xMvZ5hI8wiRXWqE0O3eK7GEer70FSrzouNDnpGJ5UIqSdUEpECyCMs6WJK7LmBT8i51laOILJe7Ecyx8IJY3Em2yx8dqFOsRQkVfIupInQnbf6P8lY1cN1fH9e81hFmlTBU4KBBJ5nYmqq0QlEyDH6bSsCJlIr72XPvWwqzcy52gN5FSot582BK75QEqjd11f3ncagpEX1Er5E1QS7gMr4PJ7eTSlJ8eDOu3cJRHWOjA5wYPdDIaDsJJlS9Q4h6vk64knYctt2XL63fG51FNFKjEd9rSKFrTO78R5QtBLI9d72Cs6NVOc0Jh2gOxXoz3mEH0U8r9Bihfz728kzVFxG7aF2ybLQcXeMY2G6Xr93h5oZaEBHdz0BasI3FvTtAKBtUzfDRab9xFSJiFGj7EqsF8ZZh2X8cbEECBXzJHOg0LaSPKCHYiarUS1Ms71X4YiV3u0ho1V7Iv7QiyMh4o0HoLZmE5I8jxfBE2b1Vz74ESCpUznpa0I0gHgvMTVq1uw1X4xMAI4HExvrrYZFvQF0AoViDlUcJ1LC68ebDbqM6LMBggcmYi66O3jSB71ury3XGSh03HX5wIdUDT6lvi59Kb2CfPd4CTi7WC7IZp1JVEESec20KUiXj3HVqmtZLKGSJjHrdNIh850J8TewNHAgrKFtrDPQQ6pLpDsYE4JLxrCZB2I41bCYyfXEq5rtPQRoGQIv68i9YlYMJ2L5xlU4nGvEBLWo2muNaKr4x0Vx5WaRT77czqVTazQCGJAcx7z3c6OJ22Hm9dxdyUJ53lVUiV5SLn3jI0vkwp6WW0GtzTZnF9uL238SIxx7dvDHWJH7GC2JLbFoZ8St4xG1aAWOL4uNCYj99zmv0bPmWaj2CVSE6tQHFx2CCmmKChz9yLpiEzLMbBmnKf2bJUjt5rkKWNg8GzA6EGKCAmqGuc7qbJwvLF2rHe5oJAyglvRNHA3GXaElSID0bvGDr0wZJJ6HiCzPvLiU7dhp1D4BNtGIp1D7DMGnr3kF3kLgmv1ptn04CBbzlpju9GXZB6xzLiYCWmw2oWe5MDYwX122JAwahwqtaKMPIOjs7iFBKLV9Jip83lIInccql7zRFyGtPyufvQxt8FoG8V8go8FNCQGct7sm6zs97c4ApuaRnl4wuS1huIM4Q2HDmmGbnUGU6RbhpqFXhXwAJDQVNrMXhe1XkwaEk08SrETNxDmszVYFBTsCIu2DPZcB94LKEgYydS4hRAlx7E71d4KaHihSog8fHXmCknXGbDgEGdllrLitloEB2dRPfnrjn4nAUutPZ4P2BOHIbtQJuAi16K2o0sqIv2Azc1zaoLIrAAqAtthpbLQnA31NSWFH0va7xVGrASWQDK6CWbFX5L86B5OyhhiVbUrb563AFrVUdtB4WJY79bkoAr42etVAvcrYZ0GGtxl37gKaL6kbCyMQLyMKoDm6SBmhpSKObCSC2zJUa1M5YMpN632bCvLEI56lWVaBbMrGWbbSUGBZqYNe3kNVZBKuMoAssz1W8kYrXTptQtk6hEBKVAAmmq52DwFKebpPi2yS9uJv0i8n2SNTFSnNxySLZ2Bl7DaaGIK3RMtTegNceHVN5OFiIxjBG36za2mki4G09Iyl9RsPeCF09h4kNeyyPClWc3j5hEyICjiN7cC28YRCIl1mso4MKe7S3mKAPjYlwArNbxrSMvSnAivhTWQCVXg9H8TEqb0V3I8srLe9jxRoY51nA6PxU4E34kR4cBFeYCD3NV9jxlPL212wQWA5JchJI24Q5BajmdvFIgpQQjgAlsXIHVfBCBlzufHRi9zsLHbiVGL9Mije1hAZCUSyKTUtQIa1DsQr2XkCfyBtriUw6l4dcACuf1zU7ULW0zZfSwcCaXE9GNngGIcp5p984GMx4ru7S02epKoi2zof3jDIOhAGbbZLfvXa4RvO25JMoRTUlx61v1spSQojihTTGNKuB6DQUZnGJrqLKEItDOEkaa1gy473hDvg0C3XrnaUCZjijDMxYDGCSM3U1V7YL21BtciXy8FHOBuQEFiX64lDBEChf3mndHFBCEJMEIQYeFB9j48YnKuIrATB2K8UM5XEAPkgA607zU1AJZFqrn9qL7AJANwGey1DUAIww2kgcqja9j5KThska880xpBaeGJVCG9WTjJqguy5c9Vg1PtNmogL9TmNSQ96ERt9NXgvSB2ZKg8XLDweyVtcz7teEsREBRj97k3Qk7vK45v7N2RbvBF5aM78GV62vN95o6zq64J7PIFj6elEB2WlomK6agQ0DExvfa6YOdW6RR8Dp6TzGDRTH0BG5rLGuzwGcnQ0ZZAa3Mq6J25MJgk65V1UH5KdABVoRkJw57ryxQOPYeW4oxB0AmQzdM4gq3Ea72L0q3lKqhysj7Le3k3gj5gVRVI3ieox7TNIsN3ak37jXdD573Zk76H936SD32X1iLr75eN2f4jbXxX3SO0GTcSEcCHMv2X0IAEiBGCp2QVF6VmtbIN2Pg65vJv6hY2F8naEYNXPE2EpAvHLtfV9LxMINrlkRtHLmcEzwesUleLLLNMBYIWxGLHiWxrae3yOLG4gzYwjd7sL15tehr6cidKbEuELXzNmH23aAGlJRPfHKSXXW4Y3aHeK9VZ8GGL5OoK95NgdfY4abJQhEbj3lYobJGZScrcUhh2J0l2rthEO1IIvsdasWj1dDIiNzDwBoMzOIXBMvc7RS0iIObWFVYvkFgIJwMYuwqcD5IAnPHfUzzsnHv0viamHfNAHsgQ2KQp4OZHpazlQU8lJYHiBpeNUR62oHaULrEu236hHDQWlyAbGIVH9q11VGIz9K1giJRSj5onJGkNktgMXgcEGQuaRhu5LEvG1kLF4kXDLYFrqslXbO9P91YFgm4jxwQgFKUact78kvhFFbArAgDiyvFDebp5Nq7Z01VdhdzR1BqcF2lnk8JWBdREyU0TimqsJvEl1GZCvQTAMEfCnj6wl1vkE67dIXD4ZCUE5eVOLToPxOE4VZYiV1yN8DlqQRn90heGDbmuP9r4YxWDUGeMXIZuJSDHOuBZAKx6tD91QAScpBlDCyKSWOCGOLECqSLr30swy9CcOxqXoq6ZKCbmLHBORXiyCIIlypSoaDxCHEJKlFoZizC1xErRs3O1v"
end PySem.W.Fast
open PySem PySem.W PyProof.Rows
set_option maxRecDepth 100000 in
set_option maxHeartbeats 0 in
theorem PySem.Challenge.cw_manydeeds_k06_kinds_refused_holds : PySem.Challenge.rw_manydeeds_k06_kinds_refused.Holds := by
  w_on; o_law; k_head; (case hw => w_witness2)
  k_fill
  refine K06.walk (l := PySem.Challenge.rw_manydeeds_k06_kinds_refused) rfl rfl (fun w h Y => PySem.W.kIn_of Y) ?F
  case F =>
    intro w mg fa h KX G hmg
    refine' K06.all_mk KX G hmg ?_ ?_ ?_ ?_ ?_ ?_ ?_ ?_ ?_ ?_ ?_ ?_ ?_ ?_ ?_ ?_ ?_ ?_ ?_ ?_ ?_ ?_ ?_ ?_ ?_ ?_ ?_ ?_ ?_ ?_ ?_ ?_ ?_ ?_ ?_ ?_ ?_ ?_ ?_ ?_ ?_ ?_ ?_ ?_ ?_ ?_ ?_ ?_ ?_ ?_ ?_ ?_ ?_ ?_ ?_ ?_ ?_ ?_ ?_ ?_ ?_ ?_ ?_ ?_ ?_ ?_ ?_ ?_ ?_ ?_ ?_ ?_ ?_ ?_ ?_ ?_ ?_ ?_ ?_ ?_ ?_ ?_ ?_ ?_ ?_ ?_ ?_ ?_ ?_ ?_ ?_ ?_ ?_ ?_ ?_ ?_ ?_ ?_ ?_ ?_ ?_ ?_ ?_ ?_ ?_ ?_ ?_ ?_ ?_ ?_ ?_ ?_ ?_ ?_ ?_ ?_ ?_ ?_ ?_ ?_ ?_ ?_ ?_ ?_ ?_ ?_ ?_ ?_ ?_ ?_ ?_ ?_ ?_ ?_ ?_ ?_ ?_ ?_ ?_ ?_ ?_ ?_ ?_ ?_ ?_ ?_ ?_ ?_ ?_ ?_ ?_ ?_ ?_ ?_ ?_ ?_ ?_ ?_ ?_ ?_ ?_ ?_ ?_ ?_ ?_ ?_ ?_ ?_ ?_ ?_ ?_ ?_ ?_ ?_ ?_ ?_ ?_ ?_ ?_ ?_ ?_ ?_ ?_ ?_ ?_ ?_ ?_ ?_ ?_ ?_ ?_ ?_ ?_ ?_ ?_ ?_ ?_ ?_ ?_ ?_ ?_ ?_ ?_ ?_ ?_ ?_ ?_ ?_ ?_ ?_ ?_ ?_ ?_ ?_ ?_ ?_ ?_
    any_goals first | exact L2.tp (by k_is) (by k_is) (by k_is) (by k_is) | exact L2.mp (by k_is) (by k_is) (by k_is) (by k_is) (by k_is) | exact ⟨by k_is, by k_is, by k_is, by k_is, by k_is, by k_is, by k_is⟩ | k_is

