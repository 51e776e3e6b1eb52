import PyProof.Rows.All
import Wide.All
import OpenK.AllK
import Wide.FinOn
import PyProof.EqAt
import PyProof.EqKinds
import PyProof.TupleCall
import KE.BitLaws
import KE.KSortTupG
import KE.KSuper
import KE.KDictList
import PySem.Challenge.RW_eachgreatest_k05_without_and_of
set_option Elab.async false
set_option linter.all false
set_option maxRecDepth 100000
/-! THE HAND LAYER, for ints, bools, texts, own classes, lists, tuples, dicts, comprehensions, walks over dicts, enumerate, zip, reversed, texts, calls, loops. Paste it whole ahead of your own text; what your proof does not reach may be deleted. -/
namespace L2
open PySem PySem.Spec PyProof.Rows

/-- a key: an int or a str -/
abbrev Key := Sum Int Str
def keyIs : Key → Value → Bool
  | .inl k, v => Value.isInt k v
  | .inr x, v => Value.isStrOf x v
def keyH (w : World) : Key → Int
  | .inl k => hashInt k
  | .inr x => hashStr w x
theorem keyIs_shape : ∀ {k : Key} {v : Value}, keyIs k v = true → (∃ i t, k = Sum.inl i ∧ v = Value.int i t) ∨ (∃ x t, k = Sum.inr x ∧ v = Value.str x t)
  | .inl i, v, h => by
    obtain ⟨t, e⟩ := Value.isInt_shape (k := i) (v := v) h
    exact .inl ⟨i, t, rfl, e⟩
  | .inr x, v, h => by
    obtain ⟨t, e⟩ := Value.isStrOf_shape (x := x) (v := v) h
    exact .inr ⟨x, t, rfl, e⟩
theorem keyIs_int (i : Int) (t : Tok) : keyIs (.inl i) (.int i t) = true := by simp [keyIs, Value.isInt]
theorem keyIs_str (x : Str) (t : Tok) : keyIs (.inr x) (.str x t) = true := by simp [keyIs, Value.isStrOf]
theorem key_ll (a b : Int) : decide ((Sum.inl a : Key) = Sum.inl b) = (a == b) := by
  by_cases e : a = b
  · subst e; simp
  · have h : ¬ (Sum.inl a : Key) = Sum.inl b := fun q => e (Sum.inl.inj q)
    rw [decide_eq_false h]
    exact (beq_eq_false_iff_ne.mpr e).symm
theorem key_rr (a b : Str) : decide ((Sum.inr a : Key) = Sum.inr b) = decide (a = b) := by
  by_cases e : a = b
  · subst e; simp
  · have h : ¬ (Sum.inr a : Key) = Sum.inr b := fun q => e (Sum.inr.inj q)
    rw [decide_eq_false h, decide_eq_false e]
theorem key_lr (a : Int) (b : Str) : decide ((Sum.inl a : Key) = Sum.inr b) = false := decide_eq_false (fun q => nomatch q)
theorem key_rl (a : Str) (b : Int) : decide ((Sum.inr a : Key) = Sum.inl b) = false := decide_eq_false (fun q => nomatch q)

def mixKind (prog : Program) (w : World) : PySem.KeyKind prog w Key where
  is := keyIs
  hash := keyH w
  inj := fun v a b ha hb => by
    rcases keyIs_shape ha with ⟨i, t, rfl, rfl⟩ | ⟨x, t, rfl, rfl⟩
    · rcases keyIs_shape hb with ⟨j, u, rfl, e⟩ | ⟨y, u, rfl, e⟩
      · injection e with e1 _; rw [e1]
      · exact nomatch e
    · rcases keyIs_shape hb with ⟨j, u, rfl, e⟩ | ⟨y, u, rfl, e⟩
      · exact nomatch e
      · injection e with e1 _; rw [e1]
  byValue := fun k v h => by
    rcases keyIs_shape h with ⟨i, t, rfl, rfl⟩ | ⟨x, t, rfl, rfl⟩ <;> rfl
  pyHash := fun hv h => by
    rcases keyIs_shape hv with ⟨i, t, rfl, rfl⟩ | ⟨x, t, rfl, rfl⟩
    · exact wpAny_pyHash_int h
    · exact wpAny_pyHash_str h
  eqBool := fun hu hv h => by
    rcases keyIs_shape hu with ⟨i, t, rfl, rfl⟩ | ⟨x, t, rfl, rfl⟩
    · rcases keyIs_shape hv with ⟨j, u, rfl, rfl⟩ | ⟨y, u, rfl, rfl⟩
      · rw [key_ll] at h; exact wpAny_eqBool_int h
      · rw [key_lr] at h; exact SeqAt.EqAt.int_str i t y u _ _ _ _ h
    · rcases keyIs_shape hv with ⟨j, u, rfl, rfl⟩ | ⟨y, u, rfl, rfl⟩
      · rw [key_rl] at h; exact SeqAt.EqAt.str_int x t j u _ _ _ _ h
      · rw [key_rr] at h; exact wpAny_eqBool_str h
  «strs» := fun k x t v h => by
    rcases keyIs_shape h with ⟨i, u, rfl, e⟩ | ⟨y, u, rfl, e⟩
    · exact nomatch e
    · injection e with e1 _
      subst e1
      cases v <;> rfl

theorem mixKind_int (prog : Program) (w : World) (i : Int) (t : Tok) : (mixKind prog w).is (.inl i) (.int i t) = true := keyIs_int i t
theorem mixKind_str (prog : Program) (w : World) (x : Str) (t : Tok) : (mixKind prog w).is (.inr x) (.str x t) = true := keyIs_str x t
end L2

namespace L2
open PySem PySem.Spec PyProof.Rows

/-- a value, without the heap -/
inductive V where
  | non | bl (b : Bool) | int (i : Int) | str (x : Str) | byt (b : Array UInt8) | flt (b : UInt64) | ref (a : Addr) | ty (n : String)
  deriving DecidableEq

def RelV : V → Value → Prop
  | .non, u => u = Value.none
  | .bl b, u => u = Value.bool b
  | .int i, u => ∃ t, u = Value.int i t
  | .str x, u => ∃ t, u = Value.str x t
  | .byt b, u => ∃ t, u = Value.bytes b t
  | .flt b, u => ∃ t, u = Value.float b t
  | .ref a, u => u = Value.ref a
  | .ty n, u => u = Value.type n

abbrev Vals : List V → List Value → Prop := Paired RelV
theorem Vals.length {xs : List V} {us : List Value} (r : Vals xs us) : xs.length = us.length := Paired.length r
theorem Vals.get : ∀ {xs : List V} {us : List Value} {i : Nat} {x : V}, Vals xs us → xs[i]? = some x → ∃ u, us[i]? = some u ∧ RelV x u
  | _, _, _, _, .nil, e => by simp at e
  | _, _, 0, _, .cons r _, e => by simp at e; subst e; exact ⟨_, rfl, r⟩
  | _, _, i + 1, x, .cons _ t, e => by
    obtain ⟨u, h1, h2⟩ := Vals.get (i := i) (x := x) t (by simpa using e)
    exact ⟨u, by simpa using h1, h2⟩
theorem Vals.set {x : V} {u : Value} (r : RelV x u) : ∀ {xs : List V} {us : List Value} (i : Nat), Vals xs us → Vals (xs.set i x) (us.set i u)
  | _, _, _, .nil => .nil
  | _, _, 0, .cons _ t => .cons r t
  | _, _, i + 1, .cons q t => .cons q (Vals.set r i t)
theorem Vals.append : ∀ {xs ys : List V} {us ws : List Value}, Vals xs us → Vals ys ws → Vals (xs ++ ys) (us ++ ws)
  | _, _, _, _, .nil, s => s
  | _, _, _, _, .cons r t, s => .cons r (Vals.append t s)
theorem Vals.take : ∀ {xs : List V} {us : List Value} (n : Nat), Vals xs us → Vals (xs.take n) (us.take n)
  | _, _, 0, _ => .nil
  | _, _, _ + 1, .nil => .nil
  | _, _, n + 1, .cons r t => .cons r (Vals.take n t)
theorem Vals.drop : ∀ {xs : List V} {us : List Value} (n : Nat), Vals xs us → Vals (xs.drop n) (us.drop n)
  | _, _, 0, r => r
  | _, _, _ + 1, .nil => .nil
  | _, _, n + 1, .cons _ t => Vals.drop n t
def RelO : Option V → Option Value → Prop
  | some v, some u => RelV v u
  | none, none => True
  | _, _ => False
def KV {κ : Type} : List (κ × V) → List (κ × Value) → Prop := Paired fun (p : κ × V) (q : κ × Value) => p.1 = q.1 ∧ RelV p.2 q.2

/-- a key of a dict (00_mix): an int or a text -/
def kV : Key → V
  | .inl i => .int i
  | .inr x => .str x

/-- what stands at a tracked address -/
inductive HO where
  /-- a list -/
  | lst (xs : List V)
  /-- a tuple (never changes) -/
  | tup (xs : List V)
  /-- a dict whose keys are ints and texts; one whose keys are tuples of ints and texts (the empty one is both) -/
  | dK (kvs : List (Key × V)) | dT (kvs : List (List Key × V))
  /-- a set of ints: its members, its size -/
  | set (S : Int → Bool) (n : Nat)
  /-- an instance of the class at C, its dict at dx, its attributes -/
  | ins (C dx : Addr) (fs : List (Str × V))
  /-- the dict of the instance at x -/
  | own (x : Addr)
  /-- the dict of an exception -/
  | xd (fs : List (Str × V))
  /-- a bound method, f of x -/
  | met (f x : Addr)
  /-- a range object lo, lo + 1, .. below hi -/
  | rng (lo hi : Int)
  /-- a thing that is known to the object (the script; a dict while a loop walks it): read, never written while it is so -/
  | frz (o : Obj) (u : HO)
  /-- a code object's table -/
  | tbl (ps : Array Value)
  /-- any other thing, by what is true of its one object (a def of one's own: SetO a S n := HO.ext fun h => ..) -/
  | ext (φ : Heap → Prop)

abbrev Hp := Addr → Option HO
def upd (H : Hp) (a : Addr) (o : HO) : Hp := fun b => if b = a then some o else H b
theorem upd_same {H : Hp} {a : Addr} {o : HO} : upd H a o a = some o := by unfold upd; rw [if_pos rfl]
theorem upd_ne {H : Hp} {a b : Addr} {o : HO} (h : b ≠ a) : upd H a o b = H b := by unfold upd; rw [if_neg h]
/-- two objects of different content stand apart -/
theorem ne_of {H : Hp} {a b : Addr} {o u : HO} (h : H a = some o) (h' : H b = some u) (d : o ≠ u) : a ≠ b := by
  intro e; subst e; rw [h] at h'; exact d (Option.some.inj h')
theorem ne_of_none {H : Hp} {a b : Addr} {o : HO} (h : H a = some o) (h' : H b = none) : a ≠ b := by
  intro e; subst e; rw [h] at h'; cases h'

section
variable (P : Program) (w : World)
def ObjOk (H : Hp) (h : Heap) (a : Addr) : HO → Prop
  | .lst xs => xs.length ≤ sizeLine ∧ ∃ (its : List Value) (n : Nat), Vals xs its ∧ h.get? a = some { cls := .type "list", data := .seq its.toArray n }
  | .tup xs => xs.length ≤ sizeLine ∧ ∃ its : List Value, Vals xs its ∧ IsTup h a its.toArray
  | .dK kvs => kvs.length ≤ sizeLine ∧ (a == sysModules) = false ∧ ∃ vs, KV kvs vs ∧ h.DictOf (mixKind P w) a vs
  | .dT kvs => kvs.length ≤ sizeLine ∧ (a == sysModules) = false ∧ ∃ xs : List (List Key × Addr × Value),
      Paired (fun (p : List Key × V) (q : List Key × Addr × Value) => p.1 = q.1 ∧ H q.2.1 = some (.tup (p.1.map kV)) ∧ RelV p.2 q.2.2) kvs xs ∧
      ∃ o es ep, h.get? a = some o ∧ o.ExactDict ∧ o.data = .dict es ep ∧ es.toList = xs.map (entryOfKey (tupleKind (mixKind P w))) ∧ (xs.map (·.1)).Nodup
  | .set S n => h.SetOf (intKind P w) a S n
  | .ins C dx fs => H dx = some (.own a) ∧ fs.length ≤ 1000 ∧ dx ≠ a ∧ h.get? a = some (PySem.W.instObj C dx) ∧
      ∃ mA, h.Ns1 dx mA ∧ (∀ f, RelO (fs.lookup f) (mA f)) ∧ PySem.Within mA (fs.map (·.1))
  | .own _ => ∃ o, h.get? a = some o
  | .xd fs => ∃ mA, h.Ns1 a mA ∧ ∀ f, RelO (fs.lookup f) (mA f)
  | .rng lo hi => ∃ t u v, h.get? a = some { cls := .type "range", data := .fields #[.int lo t, .int hi u, .int 1 v] }
  | .frz o u => h.get? a = some o ∧ ObjOk H h a u
  | .tbl ps => h.get? a = some { cls := .none, data := .fields ps }
  | .met f x => h.get? a = some (PySem.W.methodObj (.ref f) (.ref x))
  | .ext φ => φ h ∧ (∃ o, h.get? a = some o) ∧ ∀ h1 h2 : Heap, φ h1 → (∀ o, h1.get? a = some o → h2.get? a = some o) → φ h2
/-- the abstract heap is held -/
def HOk (H : Hp) (h : Heap) : Prop := ∀ a o, H a = some o → ObjOk P w H h a o
end

section
variable {P : Program} {w : World} {H H' : Hp} {h h' : Heap} {a : Addr} {o : HO}
theorem ObjOk.lt (x : ObjOk P w H h a o) : a < h.objs.size := by
  cases o with
  | lst xs => obtain ⟨_, _, _, _, e⟩ := x; exact Heap.lt_size e
  | tup xs => obtain ⟨_, _, _, p⟩ := x; exact p.lt
  | dK kvs => obtain ⟨_, _, _, _, o, _, _, e, _⟩ := x; exact Heap.lt_size e
  | dT kvs => obtain ⟨_, _, _, _, o, _, _, e, _⟩ := x; exact Heap.lt_size e
  | set S n => obtain ⟨o, _, _, _, e, _⟩ := x; exact Heap.lt_size e
  | ins C dx fs => obtain ⟨_, _, _, e, _⟩ := x; exact Heap.lt_size e
  | own y => obtain ⟨_, e⟩ := x; exact Heap.lt_size e
  | xd fs => obtain ⟨_, ⟨_, _, _, e, _⟩, _⟩ := x; exact Heap.lt_size e
  | rng lo hi => obtain ⟨_, _, _, e⟩ := x; exact Heap.lt_size e
  | frz ob u => obtain ⟨e, _⟩ := x; exact Heap.lt_size e
  | tbl ps => exact Heap.lt_size (show h.get? a = some _ from x)
  | met f y => exact Heap.lt_size (show h.get? a = some _ from x)
  | ext φ => obtain ⟨_, ⟨_, e⟩, _⟩ := x; exact Heap.lt_size e
theorem Paired.mapP {α β : Type} {F G : α → β → Prop} : ∀ {l₁ : List α} {l₂ : List β}, Paired F l₁ l₂ → (∀ a b, F a b → G a b) → Paired G l₁ l₂
  | _, _, .nil, _ => .nil
  | _, _, .cons r t, f => .cons (f _ _ r) (Paired.mapP t f)
/-- what an object's description leans on: its own object, its own dict, the tuples -/
theorem ObjOk.stay (x : ObjOk P w H h a o) (k : ∀ b u, (b = a ∨ H b = some (.own a)) → h.get? b = some u → h'.get? b = some u)
    (ho : ∀ b, H b = some (.own a) → H' b = some (.own a)) (ht : ∀ b xs, H b = some (.tup xs) → H' b = some (.tup xs)) : ObjOk P w H' h' a o := by
  induction o with
  | lst xs => obtain ⟨z, its, n, r, e⟩ := x; exact ⟨z, its, n, r, k _ _ (.inl rfl) e⟩
  | tup xs => obtain ⟨z, its, r, ob, e, c⟩ := x; exact ⟨z, its, r, ob, k _ _ (.inl rfl) e, c⟩
  | dK kvs => obtain ⟨z, y, vs, r, ob, es, ep, e, c⟩ := x; exact ⟨z, y, vs, r, ob, es, ep, k _ _ (.inl rfl) e, c⟩
  | dT kvs =>
    obtain ⟨z, y, xs, r, ob, es, ep, e, c⟩ := x
    exact ⟨z, y, xs, Paired.mapP r fun p q z => ⟨z.1, ht _ _ z.2.1, z.2.2⟩, ob, es, ep, k _ _ (.inl rfl) e, c⟩
  | set S n => obtain ⟨ob, es, ep, t, e, c⟩ := x; exact ⟨ob, es, ep, t, k _ _ (.inl rfl) e, c⟩
  | ins C dx fs =>
    obtain ⟨d, z, ne, e, mA, ⟨od, es, ep, e2, c⟩, r⟩ := x
    exact ⟨ho _ d, z, ne, k _ _ (.inl rfl) e, mA, ⟨od, es, ep, k _ _ (.inr d) e2, c⟩, r⟩
  | own y => obtain ⟨ob, e⟩ := x; exact ⟨ob, k _ _ (.inl rfl) e⟩
  | xd fs => obtain ⟨mA, ⟨od, es, ep, e, c⟩, r⟩ := x; exact ⟨mA, ⟨od, es, ep, k _ _ (.inl rfl) e, c⟩, r⟩
  | rng lo hi => obtain ⟨t, u, v, e⟩ := x; exact ⟨t, u, v, k _ _ (.inl rfl) e⟩
  | frz ob u ih => obtain ⟨e, q⟩ := x; exact ⟨k _ _ (.inl rfl) e, ih q⟩
  | tbl ps =>
    have e : h.get? a = some { cls := .none, data := .fields ps } := x
    show h'.get? a = some { cls := .none, data := .fields ps }
    exact k a _ (.inl rfl) e
  | met f y =>
    have e : h.get? a = some (PySem.W.methodObj (.ref f) (.ref y)) := x
    show h'.get? a = some (PySem.W.methodObj (.ref f) (.ref y))
    exact k a _ (.inl rfl) e
  | ext φ => obtain ⟨p, ⟨o, e⟩, st⟩ := x; exact ⟨st _ _ p fun o q => k _ _ (.inl rfl) q, ⟨o, k _ _ (.inl rfl) e⟩, st⟩
theorem HOk.lt (x : HOk P w H h) (e : H a = some o) : a < h.objs.size := (x a o e).lt
theorem HOk.fresh (x : HOk P w H h) (e : h.objs.size ≤ a) : H a = none := by
  cases q : H a with
  | none => rfl
  | some u => exact absurd (Nat.lt_of_lt_of_le (x.lt q) e) (Nat.lt_irrefl _)
/-- every object of the heap is kept -/
theorem HOk.kept (x : HOk P w H h) (k : ∀ b u, h.get? b = some u → h'.get? b = some u) : HOk P w H h' := fun a o e =>
  (x a o e).stay (fun b u _ q => k b u q) (fun _ q => q) fun _ _ q => q
/-- a new object is laid and tracked -/
theorem HOk.laid (x : HOk P w H h) (k : ∀ b u, h.get? b = some u → h'.get? b = some u) (hp : h.objs.size ≤ a) (new : ObjOk P w (upd H a o) h' a o) : HOk P w (upd H a o) h' := fun b u e => by
  have hn := x.fresh hp
  by_cases hb : b = a
  · subst hb; rw [upd_same] at e; cases e; exact new
  · rw [upd_ne hb] at e
    exact (x b u e).stay (fun c v _ q => k c v q) (fun c q => by rw [upd_ne (ne_of_none q hn)]; exact q) fun c xs q => by rw [upd_ne (ne_of_none q hn)]; exact q
end

/-- what may be read as u: it is u, or a known u -/
def Rd (H : Hp) (a : Addr) (u : HO) : Prop := H a = some u ∨ ∃ o, H a = some (.frz o u)
theorem Rd.of {H : Hp} {a : Addr} {u : HO} (h : H a = some u) : Rd H a u := .inl h
theorem Rd.ok {P : Program} {w : World} {H : Hp} {h : Heap} {a : Addr} {u : HO} (r : Rd H a u) (x : HOk P w H h) : ObjOk P w H h a u := by
  rcases r with r | ⟨o, r⟩
  · exact x a u r
  · obtain ⟨_, q⟩ := x a _ r
    exact q
/-- what may be written -/
def Mut : Option HO → Prop
  | some (.lst _) => True
  | some (.dK _) => True
  | some (.dT _) => True
  | some (.set _ _) => True
  | some (.ins _ _ _) => True
  | some (.ext _) => True
  | _ => False
section
variable {P : Program} {w : World} {H : Hp} {h h' : Heap} {x e : Addr} {o' : HO}
/-- the object at e is changed: x itself, or the dict of the instance x -/
theorem HOk.write (ok : HOk P w H h) (mu : Mut (H x)) (he : e = x ∨ H e = some (.own x)) (k : ∀ b u, b ≠ e → h.get? b = some u → h'.get? b = some u) (heo : ∃ u, h'.get? e = some u)
    (new : ObjOk P w (upd H x o') h' x o') : HOk P w (upd H x o') h' := fun b u q => by
  have nown : ∀ c y, H c = some (.own y) → c ≠ x := fun c y r z => by subst z; rw [r] at mu; exact mu
  have ntup : ∀ c xs, H c = some (.tup xs) → c ≠ x := fun c xs r z => by subst z; rw [r] at mu; exact mu
  by_cases hb : b = x
  · subst hb; rw [upd_same] at q; cases q; exact new
  · rw [upd_ne hb] at q
    by_cases hbe : b = e
    · have q' : H b = some (.own x) := by
        rcases he with z | z
        · exact absurd (hbe.trans z) hb
        · rw [hbe]; exact z
      rw [q] at q'; cases q'
      obtain ⟨v, hv⟩ := heo
      exact ⟨v, by rw [hbe]; exact hv⟩
    · refine (ok b u q).stay (fun c v hc r => k c v ?_ r) (fun c r => by rw [upd_ne (nown c b r)]; exact r) fun c xs r => by rw [upd_ne (ntup c xs r)]; exact r
      rcases hc with rfl | hc
      · exact hbe
      · rintro rfl
        rcases he with z | z
        · exact nown c b hc z
        · rw [hc] at z; cases z; exact hb rfl
end

/-! ### kept unless tracked; of the frames at fs (the callers') the slots may change (an exception that passes writes there); of the records at ex (iterators) nothing is said -/
structure Un (fs ex : List Addr) (H H' : Hp) (h h' : Heap) : Prop where
  keep : ∀ b o, h.get? b = some o → H b = none → b ∉ fs → b ∉ ex → h'.get? b = some o
  slot : ∀ b o, h.get? b = some o → H b = none → b ∈ fs → b ∉ ex → ∃ sl, h'.get? b = some { o with slots := sl }
  free : ∀ b o, h.get? b = some o → H b = none → b ∉ ex → H' b = none
  there : ∀ b o, h.get? b = some o → b ∉ ex → ∃ o', h'.get? b = some o'
  tups : ∀ b xs, H b = some (.tup xs) → H' b = some (.tup xs)
  frzs : ∀ b o u, H b = some (.frz o u) → H' b = some (.frz o u)
  tbls : ∀ b ps, H b = some (.tbl ps) → ∃ more, H' b = some (.tbl (ps ++ more))
section
variable {fs fs' ex ex' : List Addr} {H H1 H2 : Hp} {h h1 h2 h' : Heap} {a x e : Addr} {o : HO}
theorem Un.any (u : Un fs ex H H1 h h1) {b : Addr} {ob : Obj} (q : h.get? b = some ob) (n : H b = none) (hx : b ∉ ex) : ∃ sl, h1.get? b = some { ob with slots := sl } := by
  by_cases hb : b ∈ fs
  · exact u.slot b ob q n hb hx
  · exact ⟨ob.slots, u.keep b ob q n hb hx⟩
theorem Un.trans (a : Un fs ex H H1 h h1) (b : Un fs ex H1 H2 h1 h2) : Un fs ex H H2 h h2 where
  keep := fun c ob q n hc hx => b.keep c ob (a.keep c ob q n hc hx) (a.free c ob q n hx) hc hx
  slot := fun c ob q n hc hx => by
    obtain ⟨sl, e1⟩ := a.slot c ob q n hc hx
    obtain ⟨sl', e2⟩ := b.slot c _ e1 (a.free c ob q n hx) hc hx
    exact ⟨sl', e2⟩
  free := fun c ob q n hx => by
    obtain ⟨o', e1⟩ := a.there c ob q hx
    exact b.free c o' e1 (a.free c ob q n hx) hx
  there := fun c ob q hx => by
    obtain ⟨o', e1⟩ := a.there c ob q hx
    exact b.there c o' e1 hx
  tups := fun c xs q => b.tups c xs (a.tups c xs q)
  frzs := fun c ob xs q => b.frzs c ob xs (a.frzs c ob xs q)
  tbls := fun c ps q => by
    obtain ⟨m1, e1⟩ := a.tbls c ps q
    obtain ⟨m2, e2⟩ := b.tbls c _ e1
    exact ⟨m1 ++ m2, by rw [e2, Array.append_assoc]⟩
theorem Un.kept (k : ∀ b u, h.get? b = some u → h'.get? b = some u) : Un fs ex H H h h' :=
  ⟨fun b ob q _ _ _ => k b ob q, fun b ob q _ _ _ => ⟨ob.slots, k b ob q⟩, fun _ _ _ n _ => n, fun b ob q _ => ⟨ob, k b ob q⟩, fun _ _ q => q, fun _ _ _ q => q, fun _ ps q => ⟨#[], by rw [q]; simp⟩⟩
theorem Un.refl : Un fs ex H H h h := Un.kept fun _ _ q => q
theorem Un.laid (k : ∀ b u, h.get? b = some u → h'.get? b = some u) (hp : h.objs.size ≤ a) (hn : H a = none) : Un fs ex H (upd H a o) h h' where
  keep := fun b u q _ _ _ => k b u q
  slot := fun b u q _ _ _ => ⟨u.slots, k b u q⟩
  free := fun b u q n _ => by rw [upd_ne (Nat.ne_of_lt (Nat.lt_of_lt_of_le (Heap.lt_size q) hp))]; exact n
  there := fun b u q _ => ⟨u, k b u q⟩
  tups := fun b xs q => by rw [upd_ne (ne_of_none q hn)]; exact q
  frzs := fun b u xs q => by rw [upd_ne (ne_of_none q hn)]; exact q
  tbls := fun b ps q => ⟨#[], by rw [upd_ne (ne_of_none q hn), q]; simp⟩
theorem Un.write (mu : Mut (H x)) (he : e = x ∨ H e = some (.own x)) (k : ∀ b u, b ≠ e → h.get? b = some u → h'.get? b = some u) (heo : ∃ u, h'.get? e = some u) : Un fs ex H (upd H x o) h h' := by
  have hx : ∀ b, H b = none → b ≠ x := fun b n z => by subst z; rw [n] at mu; exact mu
  have hb : ∀ b, H b = none → b ≠ e := fun b n z => by
    subst z
    rcases he with r | r
    · exact hx b n r
    · rw [n] at r; cases r
  have hm : ∀ b u, H b = some u → ¬ Mut (some u) → b ≠ x := fun b u q nm z => by subst z; rw [q] at mu; exact nm mu
  refine ⟨fun b u q n _ _ => k b u (hb b n) q, fun b u q n _ _ => ⟨u.slots, k b u (hb b n) q⟩, fun b u q n _ => by rw [upd_ne (hx b n)]; exact n, fun b u q _ => ?_,
    fun b xs q => by rw [upd_ne (hm b _ q fun z => z)]; exact q, fun b u xs q => by rw [upd_ne (hm b _ q fun z => z)]; exact q, fun b ps q => ⟨#[], by rw [upd_ne (hm b _ q fun z => z), q]; simp⟩⟩
  by_cases hbe : b = e
  · subst hbe; exact heo
  · exact ⟨u, k b u hbe q⟩
theorem Un.mono (u : Un fs ex H H1 h h1) (hs : ∀ b ∈ fs, b ∈ fs') (hx : ∀ b ∈ ex, b ∈ ex') : Un fs' ex' H H1 h h1 :=
  ⟨fun b ob q n hb he => u.keep b ob q n (fun z => hb (hs b z)) fun z => he (hx b z), fun _ _ q n _ he => u.any q n fun z => he (hx _ z), fun b ob q n he => u.free b ob q n fun z => he (hx b z), fun b ob q he => u.there b ob q fun z => he (hx b z), u.tups, u.frzs, u.tbls⟩
end

/-! ### the heap without what is tracked -/
def trk (h : Heap) (H : Hp) : List Addr := (List.range h.objs.size).filter fun a => (H a).isSome
def hidT (h : Heap) (H : Hp) : Heap := PySem.W.hideAll h (trk h H)
theorem hidT_size (h : Heap) (H : Hp) : (hidT h H).objs.size = h.objs.size := PySem.W.hideAll_size _ _
theorem hidT_get {h : Heap} {H : Hp} {b : Addr} {o : Obj} (e : h.get? b = some o) (n : H b = none) : (hidT h H).get? b = some o :=
  PySem.W.hideAll_get _ e fun hm => by
    have q : (H b).isSome = true := (List.mem_filter.mp hm).2
    rw [n] at q; simp at q
theorem of_hidT {h : Heap} {H : Hp} {b : Addr} {o : Obj} (e : (hidT h H).get? b = some o) : h.get? b = some o ∧ H b = none := by
  have e' : h.get? b = some o := PySem.W.of_hideAll (trk h H) e
  refine ⟨e', ?_⟩
  cases q : H b with
  | none => rfl
  | some x =>
    have hm : b ∈ trk h H := List.mem_filter.mpr ⟨List.mem_range.mpr (Heap.lt_size e'), by simp [q]⟩
    have z : (hidT h H).get? b = none := PySem.W.hideAll_none (trk h H) hm
    rw [z] at e; cases e

/-! ### OpenK's ledger, filled with every new object but one -/
def allNews (g h : Heap) (L : Addr) : List (Addr × Obj) := (List.range h.objs.size).filterMap fun a => if a = L ∨ (g.get? a).isSome = true then none else (h.get? a).map fun o => (a, o)
def rest (g h : Heap) (L d : Addr) : List (Addr × Obj) := (allNews g h L).filter fun p => decide (p.1 ≠ d)
end L2

namespace L2
open PySem PySem.Spec PyProof.Rows

/-- the module's facts, over the base: the heap at the law's entry without what is tracked there -/
structure Mod (K : PySem.W.Frag) (mg : Str → Option Value) (base : Heap) : Prop where
  kin : K.In base
  glob : base.Ns mainGlobals mg
  blt : ∃ mb, base.Ns builtinsNs mb ∧ ∀ x : Str, x ≠ "__name__" → mb x = bootBuiltins x
  nolimit : base.NoLimit

/-- the context: a def's body (or a comprehension's block) running. base: fixed through the whole law; s₀, H₀: the entry; outer: the frames whose slots others may change (a def's callers); stack: all frames that run;
   ex: iterators that were made ahead of the entry and are walked here (a comprehension's); fn: the names whose cells were made at the entry (a def: all; a comprehension's block: its own); calm: not within an except suite; pn: pins that every state bears; xe: what is wanted of an exception that leaves the code -/
structure Cx where
  prog : Program
  w : World
  K : PySem.W.Frag
  mg : Str → Option Value
  base : Heap
  A : Around
  N : List Str
  s_0 : Shared
  H_0 : Hp
  env : Env
  outer : List Env
  stack : List Env
  ex : List Addr
  fn : Str → Bool
  calm : Bool
  pn : List (Addr × Obj)
  xe : Value → Shared → Prop
/-- the callers' frames -/
def frs (l : List Env) : List Addr := l.filterMap (·.frame)
abbrev Cx.fs (X : Cx) : List Addr := frs X.outer

def Vis (sc : Scope) (x : Str) : Prop := sc.names.lookup x = some .local ∨ sc.names.lookup x = some .cell ∨ sc.names.lookup x = some .free
def Loc (sc : Scope) (x : Str) : Prop := sc.names.lookup x = some .local ∨ sc.names.lookup x = some .cell
def Look (env : Env) (h : Heap) (m : Str → Option Value) (x : Str) (u : Value) : Prop :=
  (env.kindOf x = some .local ∧ m x = some u) ∨ ((env.kindOf x = some .cell ∨ env.kindOf x = some .free) ∧ ∃ c, env.cells.lookup x = some c ∧ h.IsCell c (some u))

structure Cx.Ok (X : Cx) : Prop where
  mod : Mod X.K X.mg X.base
  kind : X.env.scope.kind = .function
  glob : X.env.globals = mainGlobals
  blt : X.env.builtins = builtinsNs
  above : X.s_0.heap.objs.size ≤ X.env.locals
  inj : ∀ x y c, X.env.cells.lookup x = some c → X.env.cells.lookup y = some c → x = y
  has : ∀ x, (X.env.kindOf x = some .cell ∨ X.env.kindOf x = some .free) → ∃ c, X.env.cells.lookup x = some c
  cab : ∀ x c, X.fn x = true → X.env.cells.lookup x = some c → X.s_0.heap.objs.size ≤ c
  hd : X.calm = true → X.A.handled = none
  frames : X.A.frames = some X.stack
  stk : X.stack = X.outer ∨ (X.stack = X.env :: X.outer ∧ X.env.frame = some X.env.locals)
  exf : ∀ b ∈ X.ex, b ≠ X.env.locals ∧ ∀ x c, X.env.cells.lookup x = some c → c ≠ b
  bs : ∀ b o, X.base.get? b = some o → X.s_0.heap.get? b = some o ∧ X.H_0 b = none
  bsz : X.base.objs.size ≤ X.s_0.heap.objs.size
  noex : ∀ b o, X.base.get? b = some o → b ∉ X.ex
  exfs : ∀ b ∈ X.ex, b ∉ X.fs
  funs : X.s_0.heap.FunFrames X.base X.outer
  frf : ∀ b ∈ X.fs, X.H_0 b = none

structure Inv (X : Cx) (pins : List (Addr × Obj)) (σ : List (Option V)) (H : Hp) (s : Shared) : Prop where
  ok : X.Ok
  os : s.os = X.s_0.os
  bare : AllBare s.gens
  base : Un X.fs X.ex X.H_0 H X.s_0.heap s.heap
  loc : ∃ m, s.heap.Ns X.env.locals m ∧ ∀ (i : Nat) (x : Str) (v : V), X.N[i]? = some x → σ[i]? = some (some v) → Vis X.env.scope x → ∃ u, RelV v u ∧ Look X.env s.heap m x u
  cell : ∀ x c, X.env.cells.lookup x = some c → ∃ v, s.heap.IsCell c v
  free : H X.env.locals = none
  freeC : ∀ x c, X.env.cells.lookup x = some c → H c = none
  pin : ∀ p ∈ X.pn ++ pins, s.heap.get? p.1 = some p.2 ∧ H p.1 = none ∧ p.1 ≠ X.env.locals ∧ p.1 ∉ X.fs ∧ ∀ v, p.2.data ≠ .cell v
  hok : HOk X.prog X.w H s.heap
  len : σ.length = X.N.length

section
variable {X : Cx} {pins : List (Addr × Obj)} {σ : List (Option V)} {H H' : Hp} {s : Shared} {h' : Heap}

theorem Cx.Ok.nofr (ok : X.Ok) {b : Addr} {o : Obj} (e : X.base.get? b = some o) : b ∉ X.fs := fun hb => by
  have := (ok.funs.mem hb).1
  rw [e] at this; cases this
theorem Inv.bs (I : Inv X pins σ H s) : ∀ b o, X.base.get? b = some o → s.heap.get? b = some o ∧ H b = none := fun b o e =>
  ⟨I.base.keep b o (I.ok.bs b o e).1 (I.ok.bs b o e).2 (I.ok.nofr e) (I.ok.noex b o e), I.base.free b o (I.ok.bs b o e).1 (I.ok.bs b o e).2 (I.ok.noex b o e)⟩
theorem Inv.bk (I : Inv X pins σ H s) : ∀ b o, X.base.get? b = some o → s.heap.get? b = some o := fun b o e => (I.bs b o e).1
theorem Inv.mod (I : Inv X pins σ H s) : Mod X.K X.mg X.base := I.ok.mod
theorem Inv.kIn (I : Inv X pins σ H s) : X.K.In s.heap := I.ok.mod.kin.keeps I.bk
theorem Inv.nolimit (I : Inv X pins σ H s) : s.heap.NoLimit := I.ok.mod.nolimit.keeps I.bk
/-- the frame over the base: for OpenK's rules (K.In X.base is I.mod.kin) -/
theorem Inv.fr (I : Inv X pins σ H s) : ∃ m, Fr X.base X.env.locals s.heap m :=
  let ⟨m, hn, _⟩ := I.loc
  ⟨m, hn, I.bk, Nat.le_trans I.ok.bsz I.ok.above⟩
theorem Inv.lt (I : Inv X pins σ H s) : X.env.locals < s.heap.objs.size := let ⟨_, hn, _⟩ := I.loc; hn.lt
theorem Inv.sz (I : Inv X pins σ H s) : X.s_0.heap.objs.size ≤ s.heap.objs.size := Nat.le_trans I.ok.above (Nat.le_of_lt I.lt)
theorem Inv.nofs (I : Inv X pins σ H s) {a : Addr} (h : s.heap.objs.size ≤ a) : a ∉ X.fs := fun hb => by
  obtain ⟨_, o, ho, _⟩ := I.ok.funs.mem hb
  exact absurd (Nat.lt_of_lt_of_le (Heap.lt_size ho) (Nat.le_trans I.sz h)) (Nat.lt_irrefl _)
theorem Inv.cne (I : Inv X pins σ H s) : ∀ x c, X.env.cells.lookup x = some c → c ≠ X.env.locals := fun x c e z => by
  obtain ⟨v, o, ho, hd⟩ := I.cell x c e
  obtain ⟨m, ⟨o', es, ep, ho', hd', _⟩, _⟩ := I.loc
  rw [z, ho'] at ho; cases ho; rw [hd'] at hd; cases hd
theorem Inv.funs (I : Inv X pins σ H s) : s.heap.FunFrames X.base X.outer := by
  have all : ∀ (l : List Env), (∀ b ∈ frs l, b ∈ X.fs) → X.s_0.heap.FunFrames X.base l → s.heap.FunFrames X.base l := by
    intro l
    induction l with
    | nil => intro _ _; trivial
    | cons env r ih =>
      intro hs hl
      obtain ⟨hk, ⟨L, o, hf, hn, ho, hd⟩, hr⟩ := hl
      have hL : L ∈ X.fs := hs L (by unfold frs; rw [List.filterMap_cons, hf]; exact List.mem_cons_self)
      obtain ⟨sl, e⟩ := I.base.slot L o ho (I.ok.frf L hL) hL fun z => I.ok.exfs L z hL
      exact ⟨hk, ⟨L, _, hf, hn, e, hd⟩, ih (fun b hb => hs b (by unfold frs; rw [List.filterMap_cons, hf]; exact List.mem_cons_of_mem _ hb)) hr⟩
  exact all X.outer (fun _ hb => hb) I.ok.funs

/-- the frames that run, for a call -/
theorem Inv.stack (I : Inv X pins σ H s) : s.heap.FunFrames X.base X.stack := by
  rcases I.ok.stk with e | ⟨e, hf⟩
  · rw [e]; exact I.funs
  · rw [e]
    obtain ⟨m, hn, _⟩ := I.loc
    refine .cons (by rw [I.ok.kind]; decide) hf hn ?_ I.funs
    exact Heap.get?_none_of_le (Nat.le_trans I.ok.bsz I.ok.above)
theorem Inv.stkSub (I : Inv X pins σ H s) : ∀ b ∈ frs X.stack, b ∈ X.env.locals :: X.fs := fun b hb => by
  rcases I.ok.stk with e | ⟨e, hf⟩
  · rw [e] at hb; exact List.mem_cons_of_mem _ hb
  · rw [e] at hb
    unfold frs at hb
    rw [List.filterMap_cons, hf] at hb
    exact hb
theorem Inv.stkFree (I : Inv X pins σ H s) : ∀ b ∈ frs X.stack, H b = none := fun b hb => by
  rcases List.mem_cons.mp (I.stkSub b hb) with e | hb
  · rw [e]; exact I.free
  · obtain ⟨_, o, ho, _⟩ := I.ok.funs.mem hb
    exact I.base.free b o ho (I.ok.frf b hb) fun z => I.ok.exfs b z hb

/-- THE STEP: the untracked objects but the frame and the records at ch are kept (the callers' frames up to slots), the frame's map is kept, the new abstract heap is held -/
theorem Inv.step {g' : Array GenState} {t' : Nat} {d' : Drawn} {ch : List Addr} (I : Inv X pins σ H s)
    (hch : ∀ b ∈ ch, (b ∈ X.ex ∨ X.s_0.heap.objs.size ≤ b) ∧ b ≠ X.env.locals ∧ (∀ x c, X.env.cells.lookup x = some c → c ≠ b) ∧ ∀ p ∈ X.pn ++ pins, p.1 ≠ b)
    (keep : ∀ b o, b ≠ X.env.locals → b ∉ X.fs → b ∉ ch → s.heap.get? b = some o → H b = none → h'.get? b = some o)
    (slot : ∀ b o, b ≠ X.env.locals → b ∈ X.fs → b ∉ ch → s.heap.get? b = some o → H b = none → ∃ sl, h'.get? b = some { o with slots := sl }) (free : ∀ b o, b ∉ ch → s.heap.get? b = some o → H b = none → H' b = none)
    (there : ∀ b o, b ∉ ch → s.heap.get? b = some o → ∃ o', h'.get? b = some o')
    (tups : ∀ b xs, H b = some (.tup xs) → H' b = some (.tup xs)) (frzs : ∀ b o u, H b = some (.frz o u) → H' b = some (.frz o u)) (tbls : ∀ b ps, H b = some (.tbl ps) → ∃ more, H' b = some (.tbl (ps ++ more)))
    (ns : ∀ m, s.heap.Ns X.env.locals m → h'.Ns X.env.locals m) (hok : HOk X.prog X.w H' h') (hg : AllBare g') :
    Inv X pins σ H' { s with heap := h', gens := g', drawn := d', toks := t' } := by
  have neL : ∀ b o, X.s_0.heap.get? b = some o → b ≠ X.env.locals := fun b o e => Nat.ne_of_lt (Nat.lt_of_lt_of_le (Heap.lt_size e) I.ok.above)
  have neC : ∀ b o, X.s_0.heap.get? b = some o → b ∉ X.ex → b ∉ ch := fun b o e hx hb => by
    rcases (hch b hb).1 with z | z
    · exact hx z
    · exact absurd (Nat.lt_of_lt_of_le (Heap.lt_size e) z) (Nat.lt_irrefl _)
  have cellK : ∀ x c, X.env.cells.lookup x = some c → ∀ v, s.heap.IsCell c v → h'.IsCell c v := fun x c e v ⟨o, ho, hd⟩ => by
    have nch : c ∉ ch := fun z => (hch c z).2.2.1 x c e rfl
    by_cases hc : c ∈ X.fs
    · obtain ⟨sl, q⟩ := slot c o (I.cne x c e) hc nch ho (I.freeC x c e)
      exact ⟨_, q, hd⟩
    · exact ⟨o, keep c o (I.cne x c e) hc nch ho (I.freeC x c e), hd⟩
  refine ⟨I.ok, I.os, hg, ⟨fun b o e n hb hx => ?_, fun b o e n hb hx => ?_, fun b o e n hx => ?_, fun b o e hx => ?_, fun b xs e => tups b xs (I.base.tups b xs e), fun b o xs e => frzs b o xs (I.base.frzs b o xs e), fun b ps e => ?_⟩, ?_, fun x c e => ?_, ?_, fun x c e => ?_, fun p hp => ?_, hok, I.len⟩
  · exact keep b o (neL b o e) hb (neC b o e hx) (I.base.keep b o e n hb hx) (I.base.free b o e n hx)
  · obtain ⟨sl, e1⟩ := I.base.slot b o e n hb hx
    obtain ⟨sl', e2⟩ := slot b _ (neL b o e) hb (neC b o e hx) e1 (I.base.free b o e n hx)
    exact ⟨sl', e2⟩
  · obtain ⟨o', e1⟩ := I.base.there b o e hx
    exact free b o' (neC b o e hx) e1 (I.base.free b o e n hx)
  · obtain ⟨o', e1⟩ := I.base.there b o e hx
    exact there b o' (neC b o e hx) e1
  · obtain ⟨m1, e1⟩ := I.base.tbls b ps e
    obtain ⟨m2, e2⟩ := tbls b _ e1
    exact ⟨m1 ++ m2, by rw [e2, Array.append_assoc]⟩
  · obtain ⟨m, hn, hl⟩ := I.loc
    refine ⟨m, ns m hn, fun i x v e1 e2 e3 => ?_⟩
    obtain ⟨u, r, l⟩ := hl i x v e1 e2 e3
    refine ⟨u, r, ?_⟩
    rcases l with l | ⟨k, c, e, z⟩
    · exact .inl l
    · exact .inr ⟨k, c, e, cellK x c e _ z⟩
  · obtain ⟨v, z⟩ := I.cell x c e
    exact ⟨v, cellK x c e v z⟩
  · obtain ⟨m, ⟨o, _, _, ho, _⟩, _⟩ := I.loc
    exact free _ o (fun z => (hch _ z).2.1 rfl) ho I.free
  · obtain ⟨v, o, ho, hd⟩ := I.cell x c e
    exact free c o (fun z => (hch c z).2.2.1 x c e rfl) ho (I.freeC x c e)
  · obtain ⟨e, n, ne, nf, d⟩ := I.pin p hp
    have nch : p.1 ∉ ch := fun z => (hch p.1 z).2.2.2 p hp rfl
    exact ⟨keep p.1 p.2 ne nf nch e n, free p.1 p.2 nch e n, ne, nf, d⟩
/-- .. where the frame's own object is kept too -/
theorem Inv.un {t' : Nat} (I : Inv X pins σ H s) (u : Un X.fs [] H H' s.heap h') (hok : HOk X.prog X.w H' h') : Inv X pins σ H' { s with heap := h', toks := t' } := by
  obtain ⟨m, ⟨o, es, ep, ho, r⟩, _⟩ := id I.loc
  obtain ⟨sl, hL⟩ := u.any ho I.free (by simp)
  exact I.step (g' := s.gens) (d' := s.drawn) (ch := []) (fun _ z => nomatch z) (fun b o _ hb _ e n => u.keep b o e n hb (by simp)) (fun b o _ hb _ e n => u.slot b o e n hb (by simp)) (fun b o _ e n => u.free b o e n (by simp)) (fun b o _ e => u.there b o e (by simp)) u.tups u.frzs u.tbls (fun m' hm => by
    obtain ⟨o', es', ep', ho', r'⟩ := hm
    rw [ho] at ho'; cases ho'
    exact ⟨_, es', ep', hL, r'⟩) hok I.bare
/-- behind a call (or a comprehension's block): the slots of this frame may have changed too, the records at ch may have turned -/
theorem Inv.call {g' : Array GenState} {t' : Nat} {d' : Drawn} {ch : List Addr} (I : Inv X pins σ H s) (u : Un (frs X.stack) ch H H' s.heap h') (hok : HOk X.prog X.w H' h') (hg : AllBare g')
    (hch : ∀ b ∈ ch, (b ∈ X.ex ∨ X.s_0.heap.objs.size ≤ b) ∧ b ≠ X.env.locals ∧ (∀ x c, X.env.cells.lookup x = some c → c ≠ b) ∧ ∀ p ∈ X.pn ++ pins, p.1 ≠ b) :
    Inv X pins σ H' { s with heap := h', gens := g', drawn := d', toks := t' } := by
  obtain ⟨m, ⟨o, es, ep, ho, r⟩, _⟩ := id I.loc
  obtain ⟨sl, hL⟩ := u.any ho I.free fun z => (hch _ z).2.1 rfl
  exact I.step (ch := ch) hch (fun b o hL hb hc e n => u.keep b o e n (fun z => (List.mem_cons.mp (I.stkSub b z)).elim hL hb) hc) (fun b o _ _ hc e n => u.any e n hc) (fun b o hc e n => u.free b o e n hc) (fun b o hc e => u.there b o e hc) u.tups u.frzs u.tbls (fun m' hm => by
    obtain ⟨o', es', ep', ho', r'⟩ := hm
    rw [ho] at ho'; cases ho'
    exact ⟨_, es', ep', hL, r'⟩) hok hg
/-- an untracked record of ours (an iterator) has turned -/
theorem Inv.turned {t' : Nat} {it : Addr} (I : Inv X pins σ H s) (k : ∀ b o, b ≠ it → s.heap.get? b = some o → h'.get? b = some o) (hn : H it = none) (hL : it ≠ X.env.locals)
    (h1 : it ∈ X.ex ∨ X.s_0.heap.objs.size ≤ it) (h2 : ∀ x c, X.env.cells.lookup x = some c → c ≠ it) (h3 : ∀ p ∈ X.pn ++ pins, p.1 ≠ it) : Inv X pins σ H { s with heap := h', toks := t' } := by
  have nit : ∀ b u, H b = some u → b ≠ it := fun b u e z => by rw [z, hn] at e; cases e
  refine I.step (g' := s.gens) (d' := s.drawn) (ch := [it]) (fun b hb => ?_) (fun b o _ _ hc e _ => k b o (fun z => hc (by simp [z])) e) (fun b o _ _ hc e _ => ⟨o.slots, k b o (fun z => hc (by simp [z])) e⟩) (fun _ _ _ _ n => n)
    (fun b o hc e => ⟨o, k b o (fun z => hc (by simp [z])) e⟩) (fun _ _ e => e) (fun _ _ _ e => e) (fun b ps e => ⟨#[], by rw [e]; simp⟩) (fun m hm => ?_) (fun b u e => ?_) I.bare
  · have e : b = it := by simpa using hb
    subst e
    exact ⟨h1, hL, h2, h3⟩
  · obtain ⟨o, es, ep, ho, r⟩ := hm
    exact ⟨o, es, ep, k _ o (Ne.symm hL) ho, r⟩
  · refine (I.hok b u e).stay (fun c v hc q => k c v ?_ q) (fun _ q => q) fun _ _ q => q
    rcases hc with z | z
    · rw [z]; exact nit b u e
    · exact nit c _ z
theorem Inv.tok (I : Inv X pins σ H s) (t : Nat) : Inv X pins σ H { s with toks := t } := I.un (h' := s.heap) (t' := t) Un.refl I.hok
/-- all objects kept -/
theorem Inv.kept {t' : Nat} (I : Inv X pins σ H s) (k : ∀ b u, s.heap.get? b = some u → h'.get? b = some u) : Inv X pins σ H { s with heap := h', toks := t' } := I.un (Un.kept k) (I.hok.kept k)
/-- a new object laid and tracked -/
theorem Inv.laid {a : Addr} {o : HO} {t' : Nat} (I : Inv X pins σ H s) (k : ∀ b u, s.heap.get? b = some u → h'.get? b = some u) (hp : s.heap.objs.size ≤ a) (new : ObjOk X.prog X.w (upd H a o) h' a o) :
    Inv X pins σ (upd H a o) { s with heap := h', toks := t' } := I.un (Un.laid k hp (I.hok.fresh hp)) (I.hok.laid k hp new)
/-- an object written -/
theorem Inv.write {x e : Addr} {o : HO} {t' : Nat} (I : Inv X pins σ H s) (mu : Mut (H x)) (he : e = x ∨ H e = some (.own x)) (k : ∀ b u, b ≠ e → s.heap.get? b = some u → h'.get? b = some u) (heo : ∃ u, h'.get? e = some u)
    (new : ObjOk X.prog X.w (upd H x o) h' x o) : Inv X pins σ (upd H x o) { s with heap := h', toks := t' } := I.un (Un.write mu he k heo) (I.hok.write mu he k heo new)
/-- forgetting slots, pins -/
theorem Inv.weak {σ' : List (Option V)} (I : Inv X pins σ H s) (hl : σ'.length = σ.length) (w : ∀ (i : Nat) v, σ'[i]? = some (some v) → σ[i]? = some (some v)) : Inv X pins σ' H s :=
  ⟨I.ok, I.os, I.bare, I.base, let ⟨m, hn, hl'⟩ := I.loc; ⟨m, hn, fun i x v e1 e2 e3 => hl' i x v e1 (w i v e2) e3⟩, I.cell, I.free, I.freeC, I.pin, I.hok, hl.trans I.len⟩
theorem Inv.pins_of {pins' : List (Addr × Obj)} (I : Inv X pins σ H s) (h : ∀ p ∈ pins', s.heap.get? p.1 = some p.2 ∧ H p.1 = none ∧ p.1 ≠ X.env.locals ∧ p.1 ∉ X.fs ∧ ∀ v, p.2.data ≠ .cell v) : Inv X pins' σ H s :=
  ⟨I.ok, I.os, I.bare, I.base, I.loc, I.cell, I.free, I.freeC, fun p hp => (List.mem_append.mp hp).elim (fun z => I.pin p (List.mem_append_left _ z)) (h p), I.hok, I.len⟩

theorem nodup_ix {N : List Str} (hN : N.Nodup) {i j : Nat} {x : Str} (a : N[i]? = some x) (b : N[j]? = some x) : i = j := by
  obtain ⟨h1, e1⟩ := List.getElem?_eq_some_iff.mp a
  obtain ⟨h2, e2⟩ := List.getElem?_eq_some_iff.mp b
  exact (List.getElem_inj hN).mp (e1.trans e2.symm)

/-- a name is stored; what changed -/
theorem store_ok2 {M : Model} {A : Around} {E : Value → Shared → Prop} {i : Nat} {x : Str} {v : V} {u : Value} {Q : Unit → Shared → Prop} (I : Inv X pins σ H s) (hN : X.N.Nodup) (hi : X.N[i]? = some x) (hx : Loc X.env.scope x) (r : RelV v u)
    (h : ∀ s', Inv X pins (σ.set i (some v)) H s' → (∃ a, Heap.SameBut a s.heap s'.heap ∧ (a = X.env.locals ∨ X.env.cells.lookup x = some a)) → Q () s') (hf : X.fn x = true ∨ X.env.scope.names.lookup x = some .local := by first | exact .inl rfl | exact .inr rfl | assumption) : wpAny M A (storeName X.env x u) Q E s := by
  obtain ⟨m, hn, hl⟩ := id I.loc
  have hcls : (X.env.scope.kind == .class || (X.env.scope.kind == .module && X.env.locals != X.env.globals)) = false := by rw [I.ok.kind]; rfl
  have hiσ : i < σ.length := by rw [I.len]; exact (List.getElem?_eq_some_iff.mp hi).1
  have cne := I.cne
  have tracked : ∀ {a : Addr} {h' : Heap}, (∃ o, s.heap.get? a = some o ∧ H a = none) → Heap.SameBut a s.heap h' → HOk X.prog X.w H h' := fun {a h'} ha hs b ob e => by
    obtain ⟨_, _, hfree⟩ := ha
    refine (I.hok b ob e).stay (fun c w' hc q => (hs.2 c ?_).trans q) (fun _ q => q) fun _ _ q => q
    rintro rfl
    rcases hc with rfl | hc
    · rw [hfree] at e; cases e
    · rw [hfree] at hc; cases hc
  rcases hx with hk | hk
  · refine wpAny_storeName_local hk hn (fun h' hn' hs => ?_) hcls
    obtain ⟨oL, _, _, hoL, _⟩ := id hn
    refine h _ ⟨I.ok, I.os, I.bare, ⟨fun b o e n hb hx => ?_, fun b o e n hb hx => ?_, I.base.free, fun b o e hx => ?_, I.base.tups, I.base.frzs, I.base.tbls⟩, ⟨_, hn', fun j y v' e1 e2 e3 => ?_⟩, fun y c e => ?_, I.free, I.freeC, fun p hp => ?_, tracked ⟨oL, hoL, I.free⟩ hs, by simpa using I.len⟩ ⟨_, hs, .inl rfl⟩
    · exact (hs.2 b (Nat.ne_of_lt (Nat.lt_of_lt_of_le (Heap.lt_size e) I.ok.above))).trans (I.base.keep b o e n hb hx)
    · obtain ⟨sl, e1⟩ := I.base.slot b o e n hb hx
      exact ⟨sl, (hs.2 b (Nat.ne_of_lt (Nat.lt_of_lt_of_le (Heap.lt_size e) I.ok.above))).trans e1⟩
    · obtain ⟨o', e1⟩ := I.base.there b o e hx
      exact ⟨o', (hs.2 b (Nat.ne_of_lt (Nat.lt_of_lt_of_le (Heap.lt_size e) I.ok.above))).trans e1⟩
    · by_cases hj : j = i
      · subst hj
        rw [hi] at e1; cases e1
        rw [List.getElem?_set_self hiσ] at e2
        cases e2
        exact ⟨u, r, .inl ⟨hk, by simp⟩⟩
      · rw [List.getElem?_set_ne (Ne.symm hj)] at e2
        obtain ⟨u', r', q⟩ := hl j y v' e1 e2 e3
        refine ⟨u', r', ?_⟩
        rcases q with ⟨k, e⟩ | ⟨k, c, e, z⟩
        · refine .inl ⟨k, ?_⟩
          have : y ≠ x := fun e => hj (nodup_ix hN e1 (e ▸ hi))
          simp [this, e]
        · exact .inr ⟨k, c, e, z.sameBut hs (cne y c e)⟩
    · obtain ⟨w', z⟩ := I.cell y c e
      exact ⟨w', z.sameBut hs (cne y c e)⟩
    · obtain ⟨e, n, ne, nf, d⟩ := I.pin p hp
      exact ⟨(hs.2 p.1 ne).trans e, n, ne, nf, d⟩
  · have hfn : X.fn x = true := by
      rcases hf with z | z
      · exact z
      · rw [z] at hk; cases hk
    obtain ⟨c, hc⟩ := I.ok.has x (.inl hk)
    obtain ⟨w', z⟩ := I.cell x c hc
    refine wpAny_storeName_cell I.ok.kind hk hc z (fun h' hc' hs => ?_)
    obtain ⟨oc, hoc, hocd⟩ := id z
    refine h { s with heap := h' } ⟨I.ok, I.os, I.bare, ⟨fun b o e n hb hx => ?_, fun b o e n hb hx => ?_, I.base.free, fun b o e hx => ?_, I.base.tups, I.base.frzs, I.base.tbls⟩, ⟨m, hn.sameBut hs (Ne.symm (cne x c hc)), fun j y v' e1 e2 e3 => ?_⟩, fun y c' e => ?_, I.free, I.freeC, fun p hp => ?_, tracked ⟨oc, hoc, I.freeC x c hc⟩ hs, by simpa using I.len⟩ ⟨c, hs, .inr hc⟩
    · exact (hs.2 b (Nat.ne_of_lt (Nat.lt_of_lt_of_le (Heap.lt_size e) (I.ok.cab x c hfn hc)))).trans (I.base.keep b o e n hb hx)
    · obtain ⟨sl, e1⟩ := I.base.slot b o e n hb hx
      exact ⟨sl, (hs.2 b (Nat.ne_of_lt (Nat.lt_of_lt_of_le (Heap.lt_size e) (I.ok.cab x c hfn hc)))).trans e1⟩
    · obtain ⟨o', e1⟩ := I.base.there b o e hx
      exact ⟨o', (hs.2 b (Nat.ne_of_lt (Nat.lt_of_lt_of_le (Heap.lt_size e) (I.ok.cab x c hfn hc)))).trans e1⟩
    · by_cases hj : j = i
      · subst hj
        rw [hi] at e1; cases e1
        rw [List.getElem?_set_self hiσ] at e2
        cases e2
        exact ⟨u, r, .inr ⟨.inl hk, c, hc, hc'⟩⟩
      · rw [List.getElem?_set_ne (Ne.symm hj)] at e2
        obtain ⟨u', r', q⟩ := hl j y v' e1 e2 e3
        refine ⟨u', r', ?_⟩
        rcases q with q | ⟨k, c', e, z'⟩
        · exact .inl q
        · refine .inr ⟨k, c', e, z'.sameBut hs ?_⟩
          rintro rfl
          exact hj (nodup_ix hN e1 (I.ok.inj _ _ _ e hc ▸ hi))
    · by_cases hcc : c' = c
      · subst hcc; exact ⟨_, hc'⟩
      · obtain ⟨w2, z2⟩ := I.cell y c' e
        exact ⟨w2, z2.sameBut hs hcc⟩
    · obtain ⟨e, n, ne, nf, d⟩ := I.pin p hp
      refine ⟨(hs.2 p.1 ?_).trans e, n, ne, nf, d⟩
      intro q
      rw [q, hoc] at e
      have q' : oc = p.2 := Option.some.inj e
      exact d w' (by rw [← q']; exact hocd)
theorem store_ok {M : Model} {A : Around} {E : Value → Shared → Prop} {i : Nat} {x : Str} {v : V} {u : Value} {Q : Unit → Shared → Prop} (I : Inv X pins σ H s) (hN : X.N.Nodup) (hi : X.N[i]? = some x) (hx : Loc X.env.scope x) (r : RelV v u)
    (h : ∀ s', Inv X pins (σ.set i (some v)) H s' → Q () s') (hf : X.fn x = true ∨ X.env.scope.names.lookup x = some .local := by first | exact .inl rfl | exact .inr rfl | assumption) : wpAny M A (storeName X.env x u) Q E s :=
  store_ok2 I hN hi hx r (fun s' I' _ => h s' I') hf
/-- behind a call or a block, the state as it is -/
theorem Inv.call' {s' : Shared} {ch : List Addr} (I : Inv X pins σ H s) (ho : s'.os = s.os) (u : Un (frs X.stack) ch H H' s.heap s'.heap) (hok : HOk X.prog X.w H' s'.heap) (hg : AllBare s'.gens)
    (hch : ∀ b ∈ ch, (b ∈ X.ex ∨ X.s_0.heap.objs.size ≤ b) ∧ b ≠ X.env.locals ∧ (∀ x c, X.env.cells.lookup x = some c → c ≠ b) ∧ ∀ p ∈ X.pn ++ pins, p.1 ≠ b) : Inv X pins σ H' s' := by
  obtain ⟨h', g', d', t', o'⟩ := s'
  have e : o' = s.os := ho
  subst e
  exact I.call (g' := g') (t' := t') (d' := d') u hok hg hch
end

/-! ### the judgements -/
/-- an exception: its class, its own dict's address (where it has one), the abstract heap behind it -/
abbrev XK := Value → Option Addr → Hp → Prop
abbrev St := List (Option V)
abbrev VK := V → Hp → Prop
/-- an expression's reading; a test's; an argument list's -/
abbrev TE := St → Hp → VK → Prop
abbrev TT := St → Hp → (Bool → Hp → Prop) → Prop
abbrev TA := St → Hp → (List V → Hp → Prop) → Prop
/-- what is wanted behind a statement -/
structure Ends where
  nx : St → Hp → Prop
  rt : VK
  bk : St → Hp → Prop := fun _ _ => False
  ct : St → Hp → Prop := fun _ _ => False
abbrev TS := Ends → St → Hp → Prop

def EP (X : Cx) (pins : List (Addr × Obj)) (σ : St) (Q : VK) (u : Value) (s' : Shared) : Prop := ∃ v H', Inv X pins σ H' s' ∧ RelV v u ∧ Q v H'
def TP (X : Cx) (pins : List (Addr × Obj)) (σ : St) (Q : Bool → Hp → Prop) (b : Bool) (s' : Shared) : Prop := ∃ H', Inv X pins σ H' s' ∧ Q b H'
def AP (X : Cx) (pins : List (Addr × Obj)) (σ : St) (Q : List V → Hp → Prop) (us : List Value) (s' : Shared) : Prop := ∃ vs H', Inv X pins σ H' s' ∧ Vals vs us ∧ Q vs H'
def SP (X : Cx) (pins : List (Addr × Obj)) (D : Ends) (f : Flow) (s' : Shared) : Prop :=
  match f with
  | .next => ∃ σ' H', Inv X pins σ' H' s' ∧ D.nx σ' H'
  | .brk => ∃ σ' H', Inv X pins σ' H' s' ∧ D.bk σ' H'
  | .cont => ∃ σ' H', Inv X pins σ' H' s' ∧ D.ct σ' H'
  | .ret u => ∃ v σ' H', Inv X pins σ' H' s' ∧ RelV v u ∧ D.rt v H'

def PE (X : Cx) (e : Expr) (t : TE) : Prop :=
  ∀ (pins : List (Addr × Obj)) (s : Shared) (σ : St) (H : Hp) (Q : VK), Inv X pins σ H s → t σ H Q → wpAny (model X.prog X.w) X.A (eval e X.env) (EP X pins σ Q) X.xe s
def PT (X : Cx) (e : Expr) (t : TT) : Prop :=
  ∀ (pins : List (Addr × Obj)) (s : Shared) (σ : St) (H : Hp) (Q : Bool → Hp → Prop), Inv X pins σ H s → t σ H Q → wpAny (model X.prog X.w) X.A (isTrue e X.env (eval e X.env)) (TP X pins σ Q) X.xe s
/-- a test whatever its 'whole' is (and, or) -/
def PW (X : Cx) (e : Expr) (t : TT) : Prop :=
  ∀ (whole : Sem Value) (pins : List (Addr × Obj)) (s : Shared) (σ : St) (H : Hp) (Q : Bool → Hp → Prop), Inv X pins σ H s → t σ H Q → wpAny (model X.prog X.w) X.A (isTrue e X.env whole) (TP X pins σ Q) X.xe s
theorem PW.pt {X : Cx} {e : Expr} {t : TT} (h : PW X e t) : PT X e t := h _
/-- an argument list (no star), from the left -/
def PA (X : Cx) (es : List Expr) (t : TA) : Prop :=
  ∀ (pos : Pos) (pins : List (Addr × Obj)) (s : Shared) (σ : St) (H : Hp) (Q : List V → Hp → Prop), Inv X pins σ H s → t σ H Q → wpAny (model X.prog X.w) X.A (spliced (backTo pos (starEach es X.env))) (AP X pins σ Q) X.xe s
def PS (X : Cx) (st : Stmt) (t : TS) : Prop :=
  ∀ (pins : List (Addr × Obj)) (s : Shared) (σ : St) (H : Hp) (D : Ends), Inv X pins σ H s → t D σ H → wpAny (model X.prog X.w) X.A (exec st X.env) (SP X pins D) X.xe s
def PSs (X : Cx) (st : List Stmt) (t : TS) : Prop :=
  ∀ (pins : List (Addr × Obj)) (s : Shared) (σ : St) (H : Hp) (D : Ends), Inv X pins σ H s → t D σ H → wpAny (model X.prog X.w) X.A (execs st X.env) (SP X pins D) X.xe s
/-- weaken the end -/
theorem thn {α : Type} {t : Sem α} {Q Q' : α → Shared → Prop} {M : Model} {A : Around} {E : Value → Shared → Prop} {s : Shared} (h : wpAny M A t Q E s) (hQ : ∀ a s, Q a s → Q' a s) : wpAny M A t Q' E s := wpAny_mono h hQ fun _ _ x => x
end L2

namespace L2
open PySem PySem.Spec PyProof.Rows
section
variable {X : Cx}

/-- two expressions in a row -/
theorem bin {a b : Expr} {ta tb : TE} (ha : PE X a ta) (hb : PE X b tb) {pins : List (Addr × Obj)} {s : Shared} {σ : St} {H : Hp} {R : V → V → Hp → Prop} (I : Inv X pins σ H s) (h : ta σ H fun x H1 => tb σ H1 fun y H2 => R x y H2)
    {α : Type} {Q : α → Shared → Prop} {f : Value → Value → Sem α}
    (hf : ∀ v u s2 x y H2, Inv X pins σ H2 s2 → RelV x v → RelV y u → R x y H2 → wpAny (model X.prog X.w) X.A (f v u) Q X.xe s2) :
    wpAny (model X.prog X.w) X.A (eval a X.env) (fun v s₁ => wpAny (model X.prog X.w) X.A (eval b X.env) (fun u s₂ => wpAny (model X.prog X.w) X.A (f v u) Q X.xe s₂) X.xe s₁) X.xe s := by
  refine thn (ha pins s σ H _ I h) fun v s1 ⟨x, H1, I1, r1, q1⟩ => ?_
  refine thn (hb pins s1 σ H1 _ I1 q1) fun u s2 ⟨y, H2, I2, r2, q2⟩ => ?_
  exact hf v u s2 x y H2 I2 r1 r2 q2

/-! ### names and constants -/
def tVar (i : Nat) : TE := fun σ H Q => ∃ v, σ[i]? = some (some v) ∧ Q v H
def tC (v : V) : TE := fun _ H Q => Q v H
theorem pe_var {i : Nat} {x : Str} {pos : Pos} (hN : X.N[i]? = some x) (hv : Vis X.env.scope x) (hd : (x == ("__debug__" : Str)) = false := by decide) (hcd : (x == ("__classdict__" : Str)) = false := by decide) : PE X (.Name x pos) (tVar i) := by
  intro pins s σ H Q I h
  obtain ⟨v, e, h⟩ := h
  obtain ⟨m, hn, hl⟩ := I.loc
  obtain ⟨u, r, l⟩ := hl i x v hN e hv
  have fin : EP X pins σ Q u s := ⟨v, H, I, r, h⟩
  rcases l with ⟨hk, hm⟩ | ⟨hk, c, hc, hcell⟩
  · exact wpAny_Name (wpAny_loadName_local I.ok.kind hk hn hm fin) hd
  · rcases hk with hk | hk
    · exact wpAny_Name (wpAny_loadName_cell I.ok.kind hk hc hcell fin) hd
    · exact wpAny_Name (wpAny_loadName_free I.ok.kind hk hc hcell fin hcd) hd
theorem pe_int {i j pos} : PE X (.Constant (.int i) j pos) (tC (.int i)) := fun _ _ _ H _ I h => wpAny_Constant_int ⟨.int i, H, I.tok _, ⟨_, rfl⟩, h⟩
theorem pe_bl {b j pos} : PE X (.Constant (.bool b) j pos) (tC (.bl b)) := fun _ _ _ H _ I h => Constant_bool ⟨.bl b, H, I, rfl, h⟩
theorem pe_non {j pos} : PE X (.Constant .none j pos) (tC .non) := fun _ _ _ H _ I h => Constant_none ⟨.non, H, I, rfl, h⟩
theorem pe_str {x j pos} : PE X (.Constant (.str x) j pos) (tC (.str x)) := fun _ _ _ H _ I h => Calls.Constant_str ⟨.str x, H, I.tok _, ⟨_, rfl⟩, h⟩

/-- a global name of the def -/
def Gl (X : Cx) (x : Str) : Prop := X.env.kindOf x = some .globalImplicit
theorem ld_glob {E : Value → Shared → Prop} {pins : List (Addr × Obj)} {s : Shared} {σ : St} {H : Hp} {x : Str} {u : Value} {pos : Pos} {Q : Value → Shared → Prop} (I : Inv X pins σ H s) (hg : Gl X x) (hm : X.mg x = some u) (h : Q u s)
    (hd : (x == ("__debug__" : Str)) = false := by decide) : wpAny (model X.prog X.w) X.A (eval (.Name x pos) X.env) Q E s :=
  Calls.Name_function_global I.ok.kind hg (Calls.loadGlobal_global (by rw [I.ok.glob]; exact I.mod.glob.keeps I.bk) hm h) hd
theorem ld_blt {E : Value → Shared → Prop} {pins : List (Addr × Obj)} {s : Shared} {σ : St} {H : Hp} {x : Str} {u : Value} {pos : Pos} {Q : Value → Shared → Prop} (I : Inv X pins σ H s) (hg : Gl X x) (hm : X.mg x = none) (hv : bootBuiltins x = some u) (h : Q u s)
    (hn : x ≠ "__name__" := by decide) (hd : (x == ("__debug__" : Str)) = false := by decide) : wpAny (model X.prog X.w) X.A (eval (.Name x pos) X.env) Q E s := by
  obtain ⟨mb, h1, h2⟩ := I.mod.blt
  exact Calls.Name_function_global I.ok.kind hg (Calls.loadGlobal_builtin (by rw [I.ok.glob]; exact I.mod.glob.keeps I.bk) hm (by rw [I.ok.blt]; exact h1.keeps I.bk) ((h2 x hn).trans hv) h) hd
/-- a module's constant, a class, a function, as a value -/
theorem pe_glob {x : Str} {v : V} {u : Value} {pos : Pos} (hg : Gl X x) (hm : X.mg x = some u) (r : RelV v u) (hd : (x == ("__debug__" : Str)) = false := by decide) : PE X (.Name x pos) (tC v) :=
  fun _ _ _ H _ I h => ld_glob I hg hm ⟨v, H, I, r, h⟩ hd
theorem pe_bltn {x : Str} {v : V} {u : Value} {pos : Pos} (hg : Gl X x) (hm : X.mg x = none) (hv : bootBuiltins x = some u) (r : RelV v u) (hn : x ≠ "__name__" := by decide) (hd : (x == ("__debug__" : Str)) = false := by decide) : PE X (.Name x pos) (tC v) :=
  fun _ _ _ H _ I h => ld_blt I hg hm hv ⟨v, H, I, r, h⟩ hn hd

/-! ### arithmetic -/
/-- two ints -/
def t2I (ta tb : TE) (k : Int → Int → Hp → Prop) : St → Hp → Prop := fun σ H => ta σ H fun x H1 => tb σ H1 fun y H2 => ∃ i j, x = .int i ∧ y = .int j ∧ k i j H2
def tAdd (ta tb : TE) : TE := fun σ H Q => t2I ta tb (fun i j H2 => Q (.int (i + j)) H2) σ H
def tSub (ta tb : TE) : TE := fun σ H Q => t2I ta tb (fun i j H2 => Q (.int (i - j)) H2) σ H
/-- the left factor below 2^64 -/
def tMul (ta tb : TE) : TE := fun σ H Q => t2I ta tb (fun i j H2 => (-(2 ^ 64) < i ∧ i < 2 ^ 64) ∧ Q (.int (i * j)) H2) σ H
variable {a b : Expr} {ta tb : TE} {pos : Pos}
/-! ### comparisons -/
def PC (X : Cx) (op : CmpOp) (a b : Expr) (t : TE) : Prop :=
  ∀ (pins : List (Addr × Obj)) (s : Shared) (σ : St) (H : Hp) (Q : VK), Inv X pins σ H s → t σ H Q →
    wpAny (model X.prog X.w) X.A (eval a X.env) (fun v s₁ => wpAny (model X.prog X.w) X.A (eval b X.env) (fun u s₂ => wpAny (model X.prog X.w) X.A (compareOp op v u) (EP X pins σ Q) X.xe s₂) X.xe s₁) X.xe s
theorem nobehind (b : Expr) {op : CmpOp} (h : op ≠ .In) (h2 : op ≠ .NotIn) : behindInMarks op b = false := by
  have e1 : (op == CmpOp.In) = false := by cases op <;> first | rfl | exact absurd rfl h
  have e2 : (op == CmpOp.NotIn) = false := by cases op <;> first | rfl | exact absurd rfl h2
  cases b <;> simp [behindInMarks, e1, e2]
def tCmp (p : Int → Int → Bool) (ta tb : TE) : TE := fun σ H Q => t2I ta tb (fun i j H2 => Q (.bl (p i j)) H2) σ H
abbrev tLt : TE → TE → TE := tCmp fun i j => decide (i < j)
abbrev tLe : TE → TE → TE := tCmp fun i j => decide (i ≤ j)
abbrev tGt : TE → TE → TE := tCmp fun i j => decide (j < i)
abbrev tGe : TE → TE → TE := tCmp fun i j => decide (j ≤ i)
abbrev tEqI : TE → TE → TE := tCmp fun i j => decide (i = j)
abbrev tNeI : TE → TE → TE := tCmp fun i j => !decide (i = j)
/-- is None -/
def tIsN (ta : TE) : TE := fun σ H Q => ta σ H fun x H1 => Q (.bl (decide (x = .non))) H1
def tNotN (ta : TE) : TE := fun σ H Q => ta σ H fun x H1 => Q (.bl (!decide (x = .non))) H1
/-- a comparison as a value, as a test -/
def tB (t : TE) : TT := fun σ H Q => t σ H fun x H1 => ∃ c, x = .bl c ∧ Q c H1
theorem pt_cmp {op : CmpOp} {t : TE} (h : PC X op a b t) (h1 : behindInMarks op b = false := by first | exact nobehind _ (by decide) (by decide) | rfl) : PT X (.Compare a [op] [b] pos) (tB t) := by
  intro pins s σ H Q I hw
  refine wpAny_isTrue_Compare1 (thn (h pins s σ H _ I hw) fun v s1 h1 => thn h1 fun u s2 h2 => thn h2 fun c s3 ⟨x, H1, I1, r1, q1⟩ => ?_) h1
  obtain ⟨d, rfl, q⟩ := q1
  cases r1
  exact wpAny_truthy_bool ⟨H1, I1, q⟩
/-- an expression whose value is a bool, as a test -/
theorem pt_val {e : Expr} {t : TE} (h : PE X e t) (he : ∀ whole, isTrue e X.env whole = (do let v ← whole; standAt e.pos; holding [v] (truthy v)) := by intro _; rfl) : PT X e (tB t) := by
  intro pins s σ H Q I hw
  refine isTrue_plain (thn (h pins s σ H _ I hw) fun v s1 ⟨x, H1, I1, r1, q1⟩ => ?_) (he _)
  obtain ⟨d, rfl, q⟩ := q1
  cases r1
  exact wpAny_truthy_bool ⟨H1, I1, q⟩

/-! ### and, or, not -/
variable {tA tB' : TT} {rest : List Expr}
def tAnd (t u : TT) : TT := fun σ H Q => t σ H fun c H1 => if c = true then u σ H1 Q else Q false H1
def tOr (t u : TT) : TT := fun σ H Q => t σ H fun c H1 => if c = true then Q true H1 else u σ H1 Q
def tNot (t : TT) : TT := fun σ H Q => t σ H fun c H1 => Q (!c) H1
theorem pw_and1 (ha : PT X a tA) : PW X (.BoolOp .And [a] pos) tA := by
  intro wh pins s σ H Q I h
  refine isTrue_and (thn (ha pins s σ H Q I h) fun c s1 e => ?_)
  cases c with
  | true => exact isTrue_and_nil e
  | false => exact e
theorem pw_or1 (ha : PT X a tA) : PW X (.BoolOp .Or [a] pos) tA := by
  intro wh pins s σ H Q I h
  refine isTrue_or (thn (ha pins s σ H Q I h) fun c s1 e => ?_)
  cases c with
  | false => exact isTrue_or_nil e
  | true => exact e
theorem pw_and (ha : PT X a tA) (hb : PW X (.BoolOp .And (b :: rest) pos) tB') : PW X (.BoolOp .And (a :: b :: rest) pos) (tAnd tA tB') := by
  intro wh pins s σ H Q I h
  refine isTrue_and (thn (ha pins s σ H _ I h) fun c s1 ⟨H1, I1, q1⟩ => ?_)
  cases c with
  | true => exact hb wh pins s1 σ H1 Q I1 q1
  | false => exact ⟨H1, I1, q1⟩
theorem pw_or (ha : PT X a tA) (hb : PW X (.BoolOp .Or (b :: rest) pos) tB') : PW X (.BoolOp .Or (a :: b :: rest) pos) (tOr tA tB') := by
  intro wh pins s σ H Q I h
  refine isTrue_or (thn (ha pins s σ H _ I h) fun c s1 ⟨H1, I1, q1⟩ => ?_)
  cases c with
  | true => exact ⟨H1, I1, q1⟩
  | false => exact hb wh pins s1 σ H1 Q I1 q1
theorem pt_not (ha : PT X a tA) : PT X (.UnaryOp .Not a pos) (tNot tA) := by
  intro pins s σ H Q I h
  exact isTrue_not (ha pins s σ H (fun c H1 => Q (!c) H1) I h)
/-- .. as values (bools) -/
def tAndV (ta tb : TE) : TE := fun σ H Q => ta σ H fun x H1 => ∃ c, x = .bl c ∧ if c = true then tb σ H1 Q else Q (.bl false) H1
def tOrV (ta tb : TE) : TE := fun σ H Q => ta σ H fun x H1 => ∃ c, x = .bl c ∧ if c = true then Q (.bl true) H1 else tb σ H1 Q
def tNotV (ta : TE) : TE := fun σ H Q => ta σ H fun x H1 => ∃ c, x = .bl c ∧ Q (.bl (!c)) H1
theorem pe_one {op} {t : TE} (h : PE X a t) : PE X (.BoolOp op [a] pos) t := fun pins s σ H Q I hw => BoolOp_one (h pins s σ H Q I hw)
theorem pe_and (ha : PE X a ta) (hb : PE X (.BoolOp .And (b :: rest) pos) tb) : PE X (.BoolOp .And (a :: b :: rest) pos) (tAndV ta tb) := by
  intro pins s σ H Q I h
  refine BoolOp_and (thn (ha pins s σ H _ I h) fun v s1 ⟨x, H1, I1, r1, q1⟩ => ?_)
  obtain ⟨c, rfl, q1⟩ := q1
  cases r1
  refine wpAny_truthy_bool ?_
  cases c with
  | true => exact hb pins s1 σ H1 Q I1 q1
  | false => exact ⟨.bl false, H1, I1, rfl, q1⟩
theorem pe_not (ha : PE X a ta) : PE X (.UnaryOp .Not a pos) (tNotV ta) := by
  intro pins s σ H Q I h
  refine UnaryOp_ (thn (ha pins s σ H _ I h) fun v s1 ⟨x, H1, I1, r1, q1⟩ => ?_)
  obtain ⟨c, rfl, q1⟩ := q1
  cases r1
  exact not_of (wpAny_truthy_bool ⟨.bl (!c), H1, I1, rfl, q1⟩)
/-- a if t else b -/
def tIf (t : TT) (ta tb : TE) : TE := fun σ H Q => t σ H fun c H1 => if c = true then ta σ H1 Q else tb σ H1 Q
end
end L2

namespace L2
open PySem PySem.Spec PyProof.Rows

/-! ### a list, a tuple that is read: tracked, frozen, or an object of the module -/
def SqL (K : PySem.W.Frag) (H : Hp) (a : Addr) (xs : List V) : Prop :=
  Rd H a (.lst xs) ∨
    ∃ (o : Obj) (its : Array Value) (n : Nat), K.lookup a = some o ∧ o.cls = .type "list" ∧ o.dict = none ∧ o.data = .seq its n ∧ its.size ≤ sizeLine ∧ Vals xs its.toList
def SqT (K : PySem.W.Frag) (H : Hp) (a : Addr) (xs : List V) : Prop :=
  Rd H a (.tup xs) ∨
    ∃ (o : Obj) (its : Array Value) (n : Nat), K.lookup a = some o ∧ o.cls = .type "tuple" ∧ o.data = .seq its n ∧ its.size ≤ sizeLine ∧ Vals xs its.toList
def absV : Value → Option V
  | .none => some .non
  | .bool b => some (.bl b)
  | .int i _ => some (.int i)
  | .str x _ => some (.str x)
  | .bytes b _ => some (.byt b)
  | .float b _ => some (.flt b)
  | .ref a => some (.ref a)
  | .type n => some (.ty n)
  | _ => none
theorem RelV.abs {x : V} {u : Value} (r : RelV x u) : absV u = some x := by
  cases x with
  | non => cases r; rfl
  | bl _ => cases r; rfl
  | int _ => obtain ⟨t, rfl⟩ := r; rfl
  | str _ => obtain ⟨t, rfl⟩ := r; rfl
  | byt _ => obtain ⟨t, rfl⟩ := r; rfl
  | flt _ => obtain ⟨t, rfl⟩ := r; rfl
  | ref _ => cases r; rfl
  | ty _ => cases r; rfl
theorem RelV.inj {x y : V} {u : Value} (r : RelV x u) (q : RelV y u) : x = y := Option.some.inj (r.abs.symm.trans q.abs)
theorem Vals.inj : ∀ {xs ys : List V} {us : List Value}, Vals xs us → Vals ys us → xs = ys
  | _, _, _, .nil, .nil => rfl
  | _, _, _, .cons r t, .cons r' t' => by rw [r.inj r', Vals.inj t t']
section
variable {X : Cx} {pins : List (Addr × Obj)} {σ : St} {H : Hp} {s : Shared} {a : Addr} {xs ys : List V}
theorem SqL.of {K : PySem.W.Frag} (h : H a = some (.lst xs)) : SqL K H a xs := .inl (.inl h)
theorem SqT.of {K : PySem.W.Frag} (h : H a = some (.tup xs)) : SqT K H a xs := .inl (.inl h)
theorem Inv.list (I : Inv X pins σ H s) (h : SqL X.K H a xs) : ∃ its : List Value, Vals xs its ∧ PlainL s.heap a its.toArray ∧ xs.length ≤ sizeLine := by
  rcases h with h | ⟨o, its, n, hk, hc, hd, hs, hz, r⟩
  · obtain ⟨z, its, n, r, e⟩ := h.ok I.hok
    exact ⟨its, r, ⟨_, n, e, rfl, rfl, rfl⟩, z⟩
  · refine ⟨its.toList, r, ⟨o, n, I.kIn a o hk, hc, hd, by simpa using hs⟩, ?_⟩
    have e := r.length
    simp only [Array.length_toList] at e
    omega
theorem Inv.tuple (I : Inv X pins σ H s) (h : SqT X.K H a xs) : ∃ its : List Value, Vals xs its ∧ IsTup s.heap a its.toArray ∧ xs.length ≤ sizeLine := by
  rcases h with h | ⟨o, its, n, hk, hc, hs, hz, r⟩
  · obtain ⟨z, its, r, p⟩ := h.ok I.hok
    exact ⟨its, r, p, z⟩
  · refine ⟨its.toList, r, ⟨o, I.kIn a o hk, hc, n, by simpa using hs⟩, ?_⟩
    have e := r.length
    simp only [Array.length_toList] at e
    omega
theorem Inv.list_inj (I : Inv X pins σ H s) (h : SqL X.K H a xs) (h' : SqL X.K H a ys) : xs = ys := by
  obtain ⟨its, r, ⟨o, n, e, _, _, d⟩, _⟩ := I.list h
  obtain ⟨its', r', ⟨o', n', e', _, _, d'⟩, _⟩ := I.list h'
  rw [e] at e'; cases e'
  rw [d] at d'
  injection d' with d1 _
  have : its = its' := by simpa using congrArg Array.toList d1
  subst this
  exact r.inj r'
theorem Inv.tuple_inj (I : Inv X pins σ H s) (h : SqT X.K H a xs) (h' : SqT X.K H a ys) : xs = ys := by
  obtain ⟨its, r, ⟨o, e, _, n, d⟩, _⟩ := I.tuple h
  obtain ⟨its', r', ⟨o', e', _, n', d'⟩, _⟩ := I.tuple h'
  rw [e] at e'; cases e'
  rw [d] at d'
  injection d' with d1 _
  have : its = its' := by simpa using congrArg Array.toList d1
  subst this
  exact r.inj r'
end

/-! ### another wish about exceptions -/
abbrev Cx.wish (X : Cx) (E : Value → Shared → Prop) : Cx := { X with xe := E }
/-- no exception leaves -/
abbrev Cx.nox (X : Cx) : Cx := X.wish fun _ _ => False
theorem Cx.Ok.wish {X : Cx} (ok : X.Ok) (E : Value → Shared → Prop) : (X.wish E).Ok :=
  ⟨ok.mod, ok.kind, ok.glob, ok.blt, ok.above, ok.inj, ok.has, ok.cab, ok.hd, ok.frames, ok.stk, ok.exf, ok.bs, ok.bsz, ok.noex, ok.exfs, ok.funs, ok.frf⟩
theorem Cx.Ok.unwish {X : Cx} {E : Value → Shared → Prop} (ok : (X.wish E).Ok) : X.Ok :=
  ⟨ok.mod, ok.kind, ok.glob, ok.blt, ok.above, ok.inj, ok.has, ok.cab, ok.hd, ok.frames, ok.stk, ok.exf, ok.bs, ok.bsz, ok.noex, ok.exfs, ok.funs, ok.frf⟩
section
variable {X : Cx} {pins : List (Addr × Obj)} {σ : St} {H : Hp} {s : Shared} {E : Value → Shared → Prop}
theorem Inv.wish (I : Inv X pins σ H s) (E : Value → Shared → Prop) : Inv (X.wish E) pins σ H s := ⟨I.ok.wish E, I.os, I.bare, I.base, I.loc, I.cell, I.free, I.freeC, I.pin, I.hok, I.len⟩
theorem Inv.unwish (I : Inv (X.wish E) pins σ H s) : Inv X pins σ H s := ⟨I.ok.unwish, I.os, I.bare, I.base, I.loc, I.cell, I.free, I.freeC, I.pin, I.hok, I.len⟩
theorem SP.unwish {D : Ends} {f : Flow} {s' : Shared} (h : SP (X.wish E) pins D f s') : SP X pins D f s' := by
  cases f with
  | next => obtain ⟨σ', H', I, q⟩ := h; exact ⟨σ', H', I.unwish, q⟩
  | brk => obtain ⟨σ', H', I, q⟩ := h; exact ⟨σ', H', I.unwish, q⟩
  | cont => obtain ⟨σ', H', I, q⟩ := h; exact ⟨σ', H', I.unwish, q⟩
  | ret u => obtain ⟨v, σ', H', I, r, q⟩ := h; exact ⟨v, σ', H', I.unwish, r, q⟩
theorem PE.nox {e : Expr} {t : TE} (h : PE X.nox e t) : PE X e t := fun pins s σ H Q I hw =>
  wpAny_mono (h pins s σ H Q (I.wish _) hw) (fun _ _ ⟨v, H', I', r, q⟩ => ⟨v, H', I'.unwish, r, q⟩) fun _ _ z => False.elim z
theorem PT.nox {e : Expr} {t : TT} (h : PT X.nox e t) : PT X e t := fun pins s σ H Q I hw =>
  wpAny_mono (h pins s σ H Q (I.wish _) hw) (fun _ _ ⟨H', I', q⟩ => ⟨H', I'.unwish, q⟩) fun _ _ z => False.elim z
theorem PSs.nox {st : List Stmt} {t : TS} (h : PSs X.nox st t) : PSs X st t := fun pins s σ H D I hw =>
  wpAny_mono (h pins s σ H D (I.wish _) hw) (fun _ _ q => q.unwish) fun _ _ z => False.elim z
end

/-! ### blocks and small statements -/
section
variable {X : Cx} {st : Stmt} {rest : List Stmt} {t u : TS} {e : Expr} {te : TE} {pos : Pos}
def tNext : TS := fun D σ H => D.nx σ H
def tSeq (t u : TS) : TS := fun D σ H => t { D with nx := u D } σ H
theorem pss_nil : PSs X [] tNext := fun _ _ σ H _ I h => wpAny_execs_nil ⟨σ, H, I, h⟩
theorem pss_cons (h1 : PS X st t) (h2 : PSs X rest u) : PSs X (st :: rest) (tSeq t u) := by
  intro pins s σ H D I h
  refine wpAny_execs_cons (thn (h1 pins s σ H { D with nx := u D } I h) fun f s1 q => ?_)
  cases f with
  | next =>
    obtain ⟨σ', H', I', q⟩ := q
    exact h2 pins s1 σ' H' D I' q
  | ret v => exact q
  | brk => exact q
  | cont => exact q
theorem pss_one (h1 : PS X st t) : PSs X [st] t := by
  intro pins s σ H D I h
  refine wpAny_execs_cons (thn (h1 pins s σ H D I h) fun f s1 q => ?_)
  cases f with
  | next => exact wpAny_execs_nil q
  | ret v => exact q
  | brk => exact q
  | cont => exact q
def tBreak : TS := fun D σ H => D.bk σ H
def tCont : TS := fun D σ H => D.ct σ H
/-- in a def's body nothing is shown -/
theorem Inv.quiet {pins : List (Addr × Obj)} {σ : St} {H : Hp} {s : Shared} (I : Inv X pins σ H s) : interactive X.env = false := by simp [interactive, I.ok.kind]
/-- an expression whose value is dropped -/
def tDrop (te : TE) : TS := fun D σ H => te σ H fun _ H1 => D.nx σ H1
theorem ps_expr (he : PE X e te) (hs : swapsWith e none pos.line X.env = pure false := by rfl) : PS X (.Expr e pos) (tDrop te) := by
  intro pins s σ H D I h
  exact wpAny_Expr_any (thn (he pins s σ H _ I h) fun v s1 ⟨x, H1, I1, r1, q1⟩ => ⟨σ, H1, I1, q1⟩) I.quiet hs
def tRet (te : TE) : TS := fun D σ H => te σ H D.rt
theorem ps_ret (he : PE X e te) : PS X (.Return (some e) pos) (tRet te) := by
  intro pins s σ H D I h
  exact wpAny_Return_some (thn (he pins s σ H _ I h) fun v s1 ⟨x, H1, I1, r1, q1⟩ => ⟨x, σ, H1, I1, r1, q1⟩)
def tRetN : TS := fun D _ H => D.rt .non H
def tIfS (c : TT) (t u : TS) : TS := fun D σ H => c σ H fun b H1 => if b = true then t D σ H1 else u D σ H1
theorem ps_if {c : Expr} {a b : List Stmt} {tc : TT} (hc : PT X c tc) (ha : PSs X a t) (hb : PSs X b u) : PS X (.If c a b pos) (tIfS tc t u) := by
  intro pins s σ H D I h
  refine wpAny_If (thn (hc pins s σ H _ I h) fun d s1 ⟨H1, I1, q1⟩ => ?_)
  cases d with
  | true => exact ha pins s1 σ H1 D I1 q1
  | false => exact hb pins s1 σ H1 D I1 q1
/-- code that the proof never comes to -/
def tNever : TS := fun _ _ _ => False
theorem ps_never : PS X st tNever := fun _ _ _ _ _ _ h => h.elim
end

/-! ### targets -/
abbrev TG := V → St → Hp → (St → Hp → Prop) → Prop
abbrev TGs := List V → St → Hp → (St → Hp → Prop) → Prop
def PG (X : Cx) (target : Expr) (t : TG) : Prop :=
  ∀ (pins : List (Addr × Obj)) (s : Shared) (σ : St) (H : Hp) (v : V) (u : Value) (Q : St → Hp → Prop), Inv X pins σ H s → RelV v u → t v σ H Q →
    wpAny (model X.prog X.w) X.A (assign target X.env u) (fun _ s' => ∃ σ' H', Inv X pins σ' H' s' ∧ Q σ' H') X.xe s
/-- several targets, one after another -/
def PGs (X : Cx) (ts : List Expr) (t : TGs) : Prop :=
  ∀ (pins : List (Addr × Obj)) (s : Shared) (σ : St) (H : Hp) (vs : List V) (us : List Value) (Q : St → Hp → Prop), Inv X pins σ H s → Vals vs us → t vs σ H Q →
    wpAny (model X.prog X.w) X.A (assignInOrder ((assignEach ts X.env).map (·.2)) us) (fun _ s' => ∃ σ' H', Inv X pins σ' H' s' ∧ Q σ' H') X.xe s
/-- o[i] = v, by values -/
abbrev TSet := V → V → V → Hp → (Hp → Prop) → Prop
def PSet (X : Cx) (t : TSet) : Prop :=
  ∀ (pins : List (Addr × Obj)) (s : Shared) (σ : St) (H : Hp) (o i v : V) (ov iv u : Value) (Q : Hp → Prop), Inv X pins σ H s → RelV o ov → RelV i iv → RelV v u → t o i v H Q →
    wpAny (model X.prog X.w) X.A (setItem ov iv u) (fun _ s' => ∃ H', Inv X pins σ H' s' ∧ Q H') X.xe s
/-- a op= b, by values -/
abbrev TIp := V → V → Hp → VK → Prop
def PIp (X : Cx) (op : Operator) (t : TIp) : Prop :=
  ∀ (pins : List (Addr × Obj)) (s : Shared) (σ : St) (H : Hp) (x y : V) (v u : Value) (Q : VK), Inv X pins σ H s → RelV x v → RelV y u → t x y H Q →
    wpAny (model X.prog X.w) X.A (inplaceOp op v u) (EP X pins σ Q) X.xe s
section
variable {X : Cx} {pos : Pos}
def gName (i : Nat) : TG := fun v σ H Q => Q (σ.set i (some v)) H
theorem pg_name {i : Nat} {x : Str} (hN : X.N.Nodup) (hi : X.N[i]? = some x) (hx : Loc X.env.scope x) (hf : X.fn x = true ∨ X.env.scope.names.lookup x = some .local := by first | exact .inl rfl | exact .inr rfl | assumption) : PG X (.Name x pos) (gName i) := by
  intro pins s σ H v u Q I r h
  exact wpAny_assign_Name (store_ok I hN hi hx r (fun s' I' => ⟨_, H, I', h⟩) hf)
def gNil : TGs := fun vs σ H Q => vs = [] ∧ Q σ H
def gCons (t : TG) (u : TGs) : TGs := fun vs σ H Q => ∃ v r, vs = v :: r ∧ t v σ H fun σ' H' => u r σ' H' Q
theorem pgs_nil : PGs X [] gNil := by
  intro pins s σ H vs us Q I r h
  obtain ⟨e, h⟩ := h
  subst e
  cases r
  exact assignInOrder_nil ⟨σ, H, I, h⟩
theorem pgs_cons {e : Expr} {es : List Expr} {t : TG} {u : TGs} (h1 : PG X e t) (h2 : PGs X es u)
    (hs : (assignEach (e :: es) X.env).map (·.2) = assign e X.env :: (assignEach es X.env).map (·.2) := by rfl) : PGs X (e :: es) (gCons t u) := by
  intro pins s σ H vs us Q I r h
  obtain ⟨v, vr, e1, h⟩ := h
  subst e1
  cases r with
  | cons r rr =>
    rw [hs]
    refine assignInOrder_cons (thn (h1 pins s σ H _ _ _ I r h) fun _ s1 ⟨σ1, H1, I1, q1⟩ => ?_)
    exact h2 pins s1 σ1 H1 _ _ Q I1 rr q1
/-- (a, b, ..) = a tuple of that length -/
def gTup (K : PySem.W.Frag) (n : Nat) (t : TGs) : TG := fun v σ H Q => ∃ a xs, v = .ref a ∧ SqT K H a xs ∧ xs.length = n ∧ t xs σ H Q
theorem pg_tup {es : List Expr} {k : Nat} {t : TGs} {n : Nat} (hc : X.calm = true) (h : PGs X es t)
    (hn : (assignEach es X.env).length = n := by rfl) (hst : (assignEach es X.env).findIdx? (·.1) = none := by rfl) : PG X (.Tuple es k pos) (gTup X.K n t) := by
  intro pins s σ H v u Q I r hw
  obtain ⟨a, xs, e1, hq, hl, hw⟩ := hw
  subst e1
  cases r
  obtain ⟨its, rv, ht, hz⟩ := I.tuple hq
  refine assign_Tuple_tuple (I.ok.hd hc) ht (by simp [hn, ← hl, rv.length]) hst fun h' hx => ?_
  have I1 : Inv X pins σ H { s with heap := h' } := I.kept (t' := s.toks) fun b o e => hx b o (Nat.ne_of_lt (Heap.lt_size e)) e
  exact h pins _ σ H xs _ Q I1 (by simpa using rv) hw
/-- o[i] = .. -/
def gSub (to ti : TE) (t : TSet) : TG := fun v σ H Q => to σ H fun o H1 => ti σ H1 fun i H2 => t o i v H2 fun H3 => Q σ H3
theorem pg_sub {o i : Expr} {to ti : TE} {t : TSet} (ho : PE X o to) (hi : PE X i ti) (hs : PSet X t)
    (ha : ∀ v, assign (.Subscript o i pos) X.env v = (do
      let ov ← holding [v] (eval o X.env)
      let iv ← holding [v, ov] (eval i X.env)
      standAt pos
      holding [v, ov, iv] (setItem ov iv v)
      release [v, ov, iv] []) := by intro _; rfl) : PG X (.Subscript o i pos) (gSub to ti t) := by
  intro pins s σ H v u Q I r h
  rw [ha]
  refine wpAny_bind (wpAny_holding (thn (ho pins s σ H _ I h) fun ov s1 ⟨x, H1, I1, r1, q1⟩ => ?_))
  refine wpAny_bind (wpAny_holding (thn (hi pins s1 σ H1 _ I1 q1) fun iv s2 ⟨y, H2, I2, r2, q2⟩ => ?_))
  refine wpAny_bind (wpAny_standAt (wpAny_bind (wpAny_holding (thn (hs pins s2 σ H2 x y v ov iv u _ I2 r1 r2 r q2) fun _ s3 ⟨H3, I3, q3⟩ => ?_))))
  exact wpAny_release ⟨σ, H3, I3, q3⟩
/-- target = value -/
def tAsg (te : TE) (g : TG) : TS := fun D σ H => te σ H fun x H1 => g x σ H1 D.nx
theorem ps_asg {tg e : Expr} {te : TE} {g : TG} (he : PE X e te) (hg : PG X tg g) (hs : swapsWithSole [tg] e pos.line X.env = pure false := by rfl) (hw : swappedStores [tg] e X.env = pure none := by rfl)
    (h1 : (assignEach [tg] X.env).map (·.2) = [assign tg X.env] := by rfl) : PS X (.Assign [tg] e pos) (tAsg te g) := by
  intro pins s σ H D I h
  refine wpAny_Assign_stores (thn (he pins s σ H _ I h) fun v s1 ⟨x, H1, I1, r1, q1⟩ => ?_) hs hw
  rw [h1]
  exact thn (hg pins s1 σ H1 x v _ I1 r1 q1) fun _ s2 q => q
/-- name = value -/
theorem ps_set {i : Nat} {x : Str} {e : Expr} {te : TE} {pos' : Pos} (hN : X.N.Nodup) (hi : X.N[i]? = some x) (hx : Loc X.env.scope x) (he : PE X e te) (hs : swapsWith e (some (.Name x pos')) pos.line X.env = pure false := by rfl) (hf : X.fn x = true ∨ X.env.scope.names.lookup x = some .local := by first | exact .inl rfl | exact .inr rfl | assumption) :
    PS X (.Assign [.Name x pos'] e pos) (tAsg te (gName i)) := by
  intro pins s σ H D I h
  refine wpAny_Assign_Name (thn (he pins s σ H _ I h) fun v s1 ⟨y, H1, I1, r1, q1⟩ => ?_) hs
  exact store_ok I1 hN hi hx r1 (fun s2 I2 => ⟨_, H1, I2, q1⟩) hf
/-- a, b = x, y with plain local names: stored from the right; the pair itself is not tracked (the opening rows as in PyProof/Rows/TupAssign.lean:23) -/
def tPar (i j : Nat) (ta : TA) : TS := fun D σ H => ta σ H fun vs H1 => ∃ v w, vs = [v, w] ∧ D.nx ((σ.set i (some v)).set j (some w)) H1
/-- name op= e -/
def tAug (i : Nat) (te : TE) (ti : TIp) : TS := fun D σ H => ∃ x, σ[i]? = some (some x) ∧ te σ H fun y H1 => ti x y H1 fun z H2 => D.nx (σ.set i (some z)) H2
/-- o[i] op= e -/
def tAugS (to ti te : TE) (tget : V → V → Hp → VK → Prop) (tip : TIp) (tset : TSet) : TS := fun D σ H => to σ H fun o H1 => ti σ H1 fun i H2 => tget o i H2 fun x H3 => te σ H3 fun y H4 => tip x y H4 fun z H5 => tset o i z H5 fun H6 => D.nx σ H6
/-- o[i], by values -/
def PGet (X : Cx) (t : V → V → Hp → VK → Prop) : Prop :=
  ∀ (pins : List (Addr × Obj)) (s : Shared) (σ : St) (H : Hp) (o i : V) (ov iv : Value) (Q : VK), Inv X pins σ H s → RelV o ov → RelV i iv → t o i H Q →
    wpAny (model X.prog X.w) X.A (getItem ov iv) (EP X pins σ Q) X.xe s
/-- ints -/
def ipI (f : Int → Int → Int) : TIp := fun x y H Q => ∃ i j, x = .int i ∧ y = .int j ∧ Q (.int (f i j)) H
end

/-! ### while -/
section
variable {X : Cx} {pos : Pos}
/-- the invariant W with its measure -/
def tWhile (c : TT) (tb : TS) : TS := fun D σ H => ∃ W : Nat → St → Hp → Prop, (∃ m, W m σ H) ∧ ∀ m σ H, W m σ H →
  c σ H fun b H1 => if b = true then ∃ N : St → Hp → Prop, (∀ σ' H', N σ' H' → ∃ m', m' < m ∧ W m' σ' H') ∧ tb { D with nx := N, ct := N, bk := D.nx } σ H1 else D.nx σ H1
theorem ps_while {c : Expr} {body : List Stmt} {tc : TT} {tb : TS} (hp : PassesOwn (model X.prog X.w) X.A X.env X.xe) (hc : PT X c tc) (hb : PSs X body tb) : PS X (.While c body [] pos) (tWhile tc tb) := by
  intro pins s σ H D I h
  obtain ⟨W, ⟨m0, w0⟩, turn⟩ := h
  refine wpAny_While (codeAny_whileLoop (fun n s' => ∃ σ' H', Inv X pins σ' H' s' ∧ W n σ' H') ?_ m0 ⟨σ, H, I, w0⟩)
  rintro n s1 ⟨σ1, H1, I1, w1⟩
  refine wpAny_passesOwn hp (thn (hc pins s1 σ1 H1 _ I1 (turn n σ1 H1 w1)) fun b s2 ⟨H2, I2, q2⟩ => ?_)
  cases b with
  | true =>
    obtain ⟨N, hN, q2⟩ := q2
    rw [if_pos rfl]
    refine wpAny_passesOwn hp (thn (hb pins s2 σ1 H2 _ I2 q2) fun f s3 q3 => ?_)
    cases f with
    | next =>
      obtain ⟨σ3, H3, I3, n3⟩ := q3
      obtain ⟨m', hm, w3⟩ := hN σ3 H3 n3
      exact ⟨m', hm, σ3, H3, I3, w3⟩
    | cont =>
      obtain ⟨σ3, H3, I3, n3⟩ := q3
      obtain ⟨m', hm, w3⟩ := hN σ3 H3 n3
      exact ⟨m', hm, σ3, H3, I3, w3⟩
    | brk => exact q3
    | ret v => exact q3
  | false =>
    rw [if_neg Bool.false_ne_true]
    exact wpAny_execs_nil ⟨σ1, H2, I2, q2⟩
end

/-! ### what a loop or a comprehension walks -/
/-- at turn i: it yields x (the heap may grow), or it stops -/
structure It where
  go : Nat → Hp → Prop
  yld : Nat → Hp → V → Hp → Prop
  stop : Nat → Hp → Prop
/-- the iterator's own objects may turn: they are not the frame's, not pinned, younger than the entry (or a comprehension's own) -/
def FpOk (X : Cx) (pins : List (Addr × Obj)) (H : Hp) (b : Addr) : Prop :=
  H b = none ∧ b ≠ X.env.locals ∧ b ∉ X.fs ∧ (b ∈ X.ex ∨ X.s_0.heap.objs.size ≤ b) ∧ (∀ x c, X.env.cells.lookup x = some c → c ≠ b) ∧ ∀ p ∈ X.pn ++ pins, p.1 ≠ b
theorem Inv.fpOk {X : Cx} {pins : List (Addr × Obj)} {σ : St} {H H' : Hp} {s : Shared} {b : Addr} (I : Inv X pins σ H s) (hb : s.heap.objs.size ≤ b) (hn : H' b = none) : FpOk X pins H' b := by
  refine ⟨hn, Nat.ne_of_gt (Nat.lt_of_lt_of_le I.lt hb), I.nofs hb, .inr (Nat.le_trans I.sz hb), fun x c e z => ?_, fun p hp z => ?_⟩
  · obtain ⟨v, q⟩ := I.cell x c e
    exact absurd (Nat.lt_of_lt_of_le q.lt (by rw [z]; exact hb)) (Nat.lt_irrefl _)
  · exact absurd (Nat.lt_of_lt_of_le (Heap.lt_size (I.pin p hp).1) (by rw [z]; exact hb)) (Nat.lt_irrefl _)
structure Turn (P : Program) (w : World) (K : PySem.W.Frag) (tg : Expr) (J : It) (fp : List Addr) (it : Addr) (tn : Nat → Heap → Prop) : Prop where
  mem : it ∈ fp
  obj : ∀ i h, tn i h → ∀ b ∈ fp, ∃ o, h.get? b = some o ∧ ∀ v, o.data ≠ .cell v
  keep : ∀ i h h', tn i h → (∀ b ∈ fp, ∀ o, h.get? b = some o → h'.get? b = some o) → tn i h'
  item : ∀ (X : Cx), X.prog = P → X.w = w → X.K = K → X.calm = true → ∀ (i : Nat) (pins : List (Addr × Obj)) (s : Shared) (σ : St) (H : Hp) (E : Value → Shared → Prop), Inv X pins σ H s → (∀ b ∈ fp, FpOk X pins H b) → tn i s.heap → J.go i H →
    wpAny (model P w) X.A (pyNext (.ref it)) (fun r s1 => ∃ u, r = some u ∧
      wpAny (model P w) X.A (letOwnedTupleGo tg (.ref it) u) (fun _ s2 => ∃ x H', Inv X pins σ H' s2 ∧ RelV x u ∧ J.yld i H x H' ∧ tn (i + 1) s2.heap ∧ ∀ b ∈ fp, H' b = none) E s1) E s
  done : ∀ (X : Cx), X.prog = P → X.w = w → X.K = K → X.calm = true → ∀ (i : Nat) (pins : List (Addr × Obj)) (s : Shared) (σ : St) (H : Hp) (E : Value → Shared → Prop), Inv X pins σ H s → (∀ b ∈ fp, FpOk X pins H b) → tn i s.heap → J.stop i H →
    wpAny (model P w) X.A (pyNext (.ref it)) (fun r s1 => r = none ∧ Inv X pins σ H s1) E s
  self : ∀ (A : Around) (i : Nat) (s : Shared) (Q : Value → Shared → Prop) (E : Value → Shared → Prop), tn i s.heap → Q (.ref it) s → wpAny (model P w) A (pyIter (.ref it)) Q E s
abbrev TI := St → Hp → (It → Hp → Prop) → Prop
/-- an iterator has come -/
def PIE (X : Cx) (pins : List (Addr × Obj)) (σ : St) (tg : Expr) (R : It → Hp → Prop) (itv : Value) (s2 : Shared) : Prop :=
  ∃ (it : Addr) (fp : List Addr) (tn : Nat → Heap → Prop) (J : It) (H' : Hp), itv = .ref it ∧ Inv X pins σ H' s2 ∧ Turn X.prog X.w X.K tg J fp it tn ∧ tn 0 s2.heap ∧ (∀ b ∈ fp, FpOk X pins H' b) ∧ R J H'
def PI (X : Cx) (tg iter : Expr) (wi : TI) : Prop :=
  ∀ (pins : List (Addr × Obj)) (s : Shared) (σ : St) (H : Hp) (R : It → Hp → Prop), Inv X pins σ H s → wi σ H R →
    wpAny (model X.prog X.w) X.A (eval iter X.env) (fun v s1 => wpAny (model X.prog X.w) X.A (pyIter v) (PIE X pins σ tg R) X.xe s1) X.xe s

/-- the step ahead of the store is nothing for an iterator that keeps no tuple -/
theorem go_of {M : Model} {A : Around} {E : Value → Shared → Prop} {s : Shared} {tg : Expr} {it : Addr} {u : Value} {o : Obj} {n : String} {vs : Array Value} {Q : Unit → Shared → Prop} (ho : s.heap.get? it = some o) (hc : o.cls = .type n) (hd : o.data = .fields vs)
    (hn : ["enumerate", "zip", "dict_itemiterator", "dict_reverseitemiterator", "odict_iterator", "itertools.zip_longest", "itertools.pairwise"].contains n = false) (hQ : Q () s) : wpAny M A (letOwnedTupleGo tg (.ref it) u) Q E s := by
  unfold letOwnedTupleGo
  cases tg <;> first
    | exact wpAny_pure hQ
    | (cases u <;> first
        | exact wpAny_pure hQ
        | (refine wpAny_bind (wpAny_load ho ?_)
           rw [hc, hd]
           show wpAny M A (if (["enumerate", "zip", "dict_itemiterator", "dict_reverseitemiterator", "odict_iterator", "itertools.zip_longest", "itertools.pairwise"].contains n && vs[0]? == some (rawInt _)) = true then _ else _) Q E s
           rw [if_neg (by intro h; rw [hn, Bool.false_and] at h; cases h)]
           exact wpAny_pure hQ))

/-- the list at a, as it stands at each turn (a loop may append to it) -/
def Itl (K : PySem.W.Frag) (a : Addr) : It :=
  ⟨fun i H => ∃ xs x, SqL K H a xs ∧ xs[i]? = some x, fun i H x H' => H' = H ∧ ∀ xs, SqL K H a xs → xs[i]? = some x, fun i H => ∃ xs, SqL K H a xs ∧ xs.length ≤ i⟩
def Itt (K : PySem.W.Frag) (a : Addr) : It :=
  ⟨fun i H => ∃ xs x, SqT K H a xs ∧ xs[i]? = some x, fun i H x H' => H' = H ∧ ∀ xs, SqT K H a xs → xs[i]? = some x, fun i H => ∃ xs, SqT K H a xs ∧ xs.length ≤ i⟩
/-- lo, lo + 1, .. (n of them) -/
def Itr (lo : Int) (n : Nat) : It := ⟨fun i _ => i < n, fun i H x H' => H' = H ∧ x = .int (lo + i), fun i _ => n ≤ i⟩
theorem turn_list {P : Program} {w : World} {K : PySem.W.Frag} {tg : Expr} (a it : Addr) : Turn P w K tg (Itl K a) [it] it (fun i h => h.IsListIter it a i) where
  mem := by simp
  obj := fun i h st b hb => by
    have e : b = it := by simpa using hb
    subst e
    obtain ⟨o, e, c, d⟩ := st
    exact ⟨o, e, fun v z => by rw [d] at z; cases z⟩
  keep := fun i h h' st k => st.at fun o e => k it (by simp) o e
  item := by
    intro X hP hw hK hc i pins s σ H E I hf st hg
    subst hP hw hK
    obtain ⟨xs, x, hq, hx⟩ := hg
    obtain ⟨its, rv, p, hz⟩ := I.list hq
    obtain ⟨u, hu, ru⟩ := rv.get hx
    obtain ⟨f0, f1, f2, f3, f4, f5⟩ := hf it (by simp)
    refine wpAny_pyNext_list_item st p.isList (x := u) (by simpa using hu) fun h' st' sb => ?_
    have I1 : Inv X pins σ H { s with heap := h' } := I.turned (t' := s.toks) (fun b o hb e => (sb.2 b hb).trans e) f0 f1 f3 f4 f5
    obtain ⟨o, e, c, d⟩ := id st'
    exact ⟨u, rfl, go_of (s := { s with heap := h' }) e c d (by decide) ⟨x, H, I1, ru, ⟨rfl, fun ys hy => by rw [I.list_inj hy hq]; exact hx⟩, st', fun b hb => (hf b hb).1⟩⟩
  done := by
    intro X hP hw hK hc i pins s σ H E I hf st hg
    subst hP hw hK
    obtain ⟨xs, hq, hx⟩ := hg
    obtain ⟨its, rv, p, hz⟩ := I.list hq
    obtain ⟨f0, f1, f2, f3, f4, f5⟩ := hf it (by simp)
    have hl := rv.length
    exact wpAny_pyNext_list_end (I.ok.hd hc) st p.isList (by simp; omega) fun h' eb => ⟨rfl, I.turned (t' := s.toks) (fun b o hb e => eb b o hb e) f0 f1 f3 f4 f5⟩
  self := fun _ _ _ _ _ st h => wpAny_pyIter_listiter st h
theorem turn_tuple {P : Program} {w : World} {K : PySem.W.Frag} {tg : Expr} (a it : Addr) : Turn P w K tg (Itt K a) [it] it (fun i h => h.IsTupleIter it a i) where
  mem := by simp
  obj := fun i h st b hb => by
    have e : b = it := by simpa using hb
    subst e
    obtain ⟨o, e, c, d⟩ := st
    exact ⟨o, e, fun v z => by rw [d] at z; cases z⟩
  keep := fun i h h' st k => st.at fun o e => k it (by simp) o e
  item := by
    intro X hP hw hK hc i pins s σ H E I hf st hg
    subst hP hw hK
    obtain ⟨xs, x, hq, hx⟩ := hg
    obtain ⟨its, rv, p, hz⟩ := I.tuple hq
    obtain ⟨u, hu, ru⟩ := rv.get hx
    obtain ⟨f0, f1, f2, f3, f4, f5⟩ := hf it (by simp)
    refine wpAny_pyNext_tuple_item st (show s.heap.IsTuple a its.toArray from p) (x := u) (by simpa using hu) fun h' st' sb => ?_
    have I1 : Inv X pins σ H { s with heap := h' } := I.turned (t' := s.toks) (fun b o hb e => (sb.2 b hb).trans e) f0 f1 f3 f4 f5
    obtain ⟨o, e, c, d⟩ := id st'
    exact ⟨u, rfl, go_of (s := { s with heap := h' }) e c d (by decide) ⟨x, H, I1, ru, ⟨rfl, fun ys hy => by rw [I.tuple_inj hy hq]; exact hx⟩, st', fun b hb => (hf b hb).1⟩⟩
  done := by
    intro X hP hw hK hc i pins s σ H E I hf st hg
    subst hP hw hK
    obtain ⟨xs, hq, hx⟩ := hg
    obtain ⟨its, rv, p, hz⟩ := I.tuple hq
    obtain ⟨f0, f1, f2, f3, f4, f5⟩ := hf it (by simp)
    have hl := rv.length
    exact wpAny_pyNext_tuple_end (I.ok.hd hc) st (show s.heap.IsTuple a its.toArray from p) (by simp; omega) fun h' eb => ⟨rfl, I.turned (t' := s.toks) (fun b o hb e => eb b o hb e) f0 f1 f3 f4 f5⟩
  self := fun _ _ _ _ _ st h => wpAny_pyIter_tupleiter st h
theorem turn_range {P : Program} {w : World} {K : PySem.W.Frag} {tg : Expr} (it : Addr) (lo : Int) (n : Nat) : Turn P w K tg (Itr lo n) [it] it (fun i h => IsRangeIter h it (lo + (i : Nat) * 1) ((n : Int) - (i : Nat)) 1) where
  mem := by simp
  obj := fun i h st b hb => by
    have e : b = it := by simpa using hb
    subst e
    exact ⟨_, st, fun v z => by
      have z' : Data.fields _ = Data.cell v := z
      cases z'⟩
  keep := fun i h h' st k => k it (by simp) _ st
  item := by
    intro X hP hw hK hc i pins s σ H E I hf st hg
    subst hP hw hK
    obtain ⟨f0, f1, f2, f3, f4, f5⟩ := hf it (by simp)
    have W := Walks.range (prog := X.prog) (w := X.w) (I.ok.hd hc) it lo 1 n
    refine W.item i s _ _ hg st fun v h' tk hv st' kk => ?_
    obtain ⟨t, rfl⟩ := hv
    have I1 : Inv X pins σ H { s with heap := h', toks := tk } := I.turned (fun b o hb e => kk b o (by simpa using hb) e) f0 f1 f3 f4 f5
    refine ⟨_, rfl, go_of (s := { s with heap := h', toks := tk }) (n := "range_iterator") st' rfl rfl (by decide) ⟨.int (lo + i), H, I1, ⟨t, ?_⟩, ⟨rfl, rfl⟩, st', fun b hb => (hf b hb).1⟩⟩
    rw [Int.mul_one]
  done := by
    intro X hP hw hK hc i pins s σ H E I hf st hg
    subst hP hw hK
    obtain ⟨f0, f1, f2, f3, f4, f5⟩ := hf it (by simp)
    exact wpAny_pyNext_range_end (I.ok.hd hc) st (by have : n ≤ i := hg; omega) fun h' eb => ⟨rfl, I.turned (t' := s.toks) (fun b o hb e => eb b o hb e) f0 f1 f3 f4 f5⟩
  self := fun _ _ _ _ _ st h => wpAny_pyIter_rangeiter st h
end L2

namespace L2
open PySem PySem.Spec PyProof.Rows
section
variable {X : Cx} {tg : Expr}
def iList (K : PySem.W.Frag) (tl : TE) : TI := fun σ H R => tl σ H fun x H1 => ∃ a, x = .ref a ∧ (∃ xs, SqL K H1 a xs) ∧ R (Itl K a) H1
def iTup (K : PySem.W.Frag) (tl : TE) : TI := fun σ H R => tl σ H fun x H1 => ∃ a, x = .ref a ∧ (∃ xs, SqT K H1 a xs) ∧ R (Itt K a) H1
theorem pi_list {l : Expr} {tl : TE} (hl : PE X l tl) : PI X tg l (iList X.K tl) := by
  intro pins s σ H R I h
  refine thn (hl pins s σ H _ I h) fun v s1 ⟨x, H1, I1, r1, q1⟩ => ?_
  obtain ⟨a, e, ⟨xs, hq⟩, q⟩ := q1
  subst e
  cases r1
  obtain ⟨its, rv, p, hz⟩ := I1.list hq
  refine wpAny_pyIter_list p.isList ?_
  refine ⟨s1.heap.objs.size, [s1.heap.objs.size], _, _, H1, rfl, I1.kept (t' := s1.toks) fun b o e => Heap.get?_push_of_some _ e, turn_list a _, ⟨_, Heap.get?_push_size _ rfl, rfl, rfl⟩, fun b hb => ?_, q⟩
  have e : b = s1.heap.objs.size := by simpa using hb
  subst e
  exact I1.fpOk (Nat.le_refl _) (I1.hok.fresh (Nat.le_refl _))
theorem pi_tup {l : Expr} {tl : TE} (hl : PE X l tl) : PI X tg l (iTup X.K tl) := by
  intro pins s σ H R I h
  refine thn (hl pins s σ H _ I h) fun v s1 ⟨x, H1, I1, r1, q1⟩ => ?_
  obtain ⟨a, e, ⟨xs, hq⟩, q⟩ := q1
  subst e
  cases r1
  obtain ⟨its, rv, p, hz⟩ := I1.tuple hq
  refine wpAny_pyIter_tuple (show s1.heap.IsTuple a its.toArray from p) ?_
  refine ⟨s1.heap.objs.size, [s1.heap.objs.size], _, _, H1, rfl, I1.kept (t' := s1.toks) fun b o e => Heap.get?_push_of_some _ e, turn_tuple a _, ⟨_, Heap.get?_push_size _ rfl, rfl, rfl⟩, fun b hb => ?_, q⟩
  have e : b = s1.heap.objs.size := by simpa using hb
  subst e
  exact I1.fpOk (Nat.le_refl _) (I1.hok.fresh (Nat.le_refl _))
/-- a range object just made, walked -/
theorem range_it {pins : List (Addr × Obj)} {σ : St} {H : Hp} {s : Shared} {R : It → Hp → Prop} {E : Value → Shared → Prop} {lo hi : Int} {t u v : Tok} {tk : Nat} (I : Inv X pins σ H s) (h1 : -(2 ^ 62) ≤ lo) (h2 : lo < 2 ^ 62) (h3 : -(2 ^ 62) ≤ hi) (h4 : hi < 2 ^ 62)
    (q : R (Itr lo (hi - lo).toNat) H) : wpAny (model X.prog X.w) X.A (pyIter (.ref s.heap.objs.size)) (PIE X pins σ tg R) E { s with heap := s.heap.push { cls := .type "range", data := .fields #[.int lo t, .int hi u, .int 1 v] }, toks := tk } := by
  refine wpAny_pyIter_range (IsRange.new ..) (small_one h1 h2 h3 h4) ?_
  have I1 : Inv X pins σ H { s with heap := s.heap.push { cls := .type "range", data := .fields #[.int lo t, .int hi u, .int 1 v] }, toks := tk } := I.kept fun b o e => Heap.get?_push_of_some _ e
  refine ⟨(s.heap.push { cls := .type "range", data := .fields #[.int lo t, .int hi u, .int 1 v] }).objs.size, [(s.heap.push { cls := .type "range", data := .fields #[.int lo t, .int hi u, .int 1 v] }).objs.size], _, _, H, rfl,
    I1.kept (t' := tk) fun b o e => Heap.get?_push_of_some _ e, turn_range _ lo (hi - lo).toNat, ?_, fun b hb => ?_, q⟩
  · have e1 : lo + ((0 : Nat) : Int) * 1 = lo := by simp
    have e2 : (((hi - lo).toNat : Nat) : Int) - ((0 : Nat) : Int) = Builtin.Range.rangeSize lo hi 1 := by rw [rangeSize_one]; split <;> omega
    show IsRangeIter _ _ (lo + ((0 : Nat) : Int) * 1) ((((hi - lo).toNat : Nat) : Int) - ((0 : Nat) : Int)) 1
    rw [e1, e2]
    exact Heap.get?_push_size _ rfl
  · have e : b = (s.heap.push { cls := .type "range", data := .fields #[.int lo t, .int hi u, .int 1 v] }).objs.size := by simpa using hb
    subst e
    exact I1.fpOk (Nat.le_refl _) (I1.hok.fresh (Nat.le_refl _))
def iRng1 (ta : TA) : TI := fun σ H R => ta σ H fun vs H1 => ∃ j : Int, vs = [.int j] ∧ -(2 ^ 62) ≤ j ∧ j < 2 ^ 62 ∧ R (Itr 0 j.toNat) H1
def iRng2 (ta : TA) : TI := fun σ H R => ta σ H fun vs H1 => ∃ i j : Int, vs = [.int i, .int j] ∧ (-(2 ^ 62) ≤ i ∧ i < 2 ^ 62 ∧ -(2 ^ 62) ≤ j ∧ j < 2 ^ 62) ∧ R (Itr i (j - i).toNat) H1
theorem pi_range1 {a : Expr} {ta : TA} {p pos : Pos} (hg : Gl X "range") (hm : X.mg "range" = none) (ha : PA X [a] ta) (hs : starEach [a] X.env = [(false, eval a X.env)] := by rfl) : PI X tg (.Call (.Name "range" p) [a] [] pos) (iRng1 ta) := by
  intro pins s σ H R I h
  refine Call_ (ld_blt I hg hm boot_range (PyProof.Rows.callWith_type1 (thn (ha pos pins s σ H _ I h) fun us s1 ⟨vs, H1, I1, r1, q1⟩ => ?_) hs rfl))
  obtain ⟨j, e, q1, q2, q⟩ := q1
  subst e
  cases r1 with
  | cons r rr =>
    cases rr
    obtain ⟨t, rfl⟩ := r
    exact call_range_1 (range_it I1 (by omega) (by omega) q1 q2 (by simpa using q))
/-! ### for -/
/-- W: the invariant by the turn and a measure; N: what the body is to reach -/
def tFor (wi : TI) (g : TG) (tb : TS) : TS := fun D σ H => wi σ H fun J H1 => ∃ W : Nat → Nat → St → Hp → Prop, (∃ m, W 0 m σ H1) ∧ ∀ i m σ H, W i m σ H →
  (J.stop i H ∧ D.nx σ H) ∨ (J.go i H ∧ ∃ N : St → Hp → Prop, (∀ σ' H', N σ' H' → ∃ m', m' < m ∧ W (i + 1) m' σ' H') ∧ ∀ x H', J.yld i H x H' → g x σ H' fun σ2 H2 => tb { D with nx := N, ct := N, bk := D.nx } σ2 H2)
/-- the records at fp as they stand -/
def pinsAt (fp : List Addr) (h : Heap) : List (Addr × Obj) := fp.filterMap fun b => (h.get? b).map fun o => (b, o)
theorem mem_pinsAt {fp : List Addr} {h : Heap} {b : Addr} {o : Obj} (hb : b ∈ fp) (e : h.get? b = some o) : (b, o) ∈ pinsAt fp h := List.mem_filterMap.mpr ⟨b, hb, by rw [e]; rfl⟩
theorem of_pinsAt {fp : List Addr} {h : Heap} {p : Addr × Obj} (hp : p ∈ pinsAt fp h) : p.1 ∈ fp ∧ h.get? p.1 = some p.2 := by
  obtain ⟨b, hb, e⟩ := List.mem_filterMap.mp hp
  cases q : h.get? b with
  | none => rw [q] at e; cases e
  | some o =>
    rw [q] at e
    have e' : (b, o) = p := Option.some.inj e
    subst e'
    exact ⟨hb, q⟩
theorem Inv.pinned {pins : List (Addr × Obj)} {σ : St} {H : Hp} {s : Shared} {fp : List Addr} (I : Inv X pins σ H s) (hf : ∀ b ∈ fp, FpOk X pins H b) (ho : ∀ b ∈ fp, ∃ o, s.heap.get? b = some o ∧ ∀ v, o.data ≠ .cell v) : Inv X (pins ++ pinsAt fp s.heap) σ H s :=
  I.pins_of fun p hp => (List.mem_append.mp hp).elim (fun z => I.pin p (List.mem_append_right _ z)) fun z => by
    obtain ⟨hb, e⟩ := of_pinsAt z
    obtain ⟨f0, f1, f2, _⟩ := hf p.1 hb
    obtain ⟨o, e', d⟩ := ho p.1 hb
    rw [e] at e'; cases e'
    exact ⟨e, f0, f1, f2, d⟩
theorem Inv.unpinned {pins pl : List (Addr × Obj)} {σ : St} {H : Hp} {s : Shared} (I : Inv X (pins ++ pl) σ H s) : Inv X pins σ H s := I.pins_of fun p hp => I.pin p (List.mem_append_right _ (List.mem_append_left _ hp))
theorem ps_for {iter : Expr} {body : List Stmt} {wi : TI} {g : TG} {tb : TS} {pos : Pos} (hp : PassesOwn (model X.prog X.w) X.A X.env X.xe) (hc : X.calm = true) (hi : PI X tg iter wi) (hg : PG X tg g) (hb : PSs X body tb)
    (hs : ∀ x, foldedSetIterable iter X.env x = pure x := by intro _; rfl) : PS X (.For tg iter body [] pos) (tFor wi g tb) := by
  intro pins s σ H D I h
  refine wpAny_For (thn (hi pins s σ H _ I h) fun v s1 h1 => thn h1 fun itv s2 h2 => ?_) hs
  obtain ⟨it, fp, tn, J, H2, e, I2, T, st2, f2, W, ⟨m0, w0⟩, turn⟩ := h2
  subst e
  -- what stays true of the iterator's objects through the loop
  have stat : ∀ {H' : Hp}, (∀ b ∈ fp, H' b = none) → ∀ b ∈ fp, FpOk X pins H' b := fun hn b hb => ⟨hn b hb, (f2 b hb).2⟩
  refine codeAny_forLoop_any (fun n s' => ∃ i σ' H', Inv X pins σ' H' s' ∧ tn i s'.heap ∧ (∀ b ∈ fp, H' b = none) ∧ W i n σ' H') ?_ m0 ⟨0, σ, H2, I2, st2, fun b hb => (f2 b hb).1, w0⟩
  rintro n s3 ⟨i, σ3, H3, I3, st3, fr3, w3⟩
  rcases turn i n σ3 H3 w3 with ⟨stop, qn⟩ | ⟨go, N, hN, step⟩
  · refine wpAny_passesOwn hp (thn (T.done X rfl rfl rfl hc i pins s3 σ3 H3 X.xe I3 (stat fr3) st3 stop) fun r s4 ⟨hr, I4⟩ => ?_)
    subst hr
    exact wpAny_execs_nil ⟨σ3, H3, I4, qn⟩
  · refine wpAny_passesOwn hp (thn (T.item X rfl rfl rfl hc i pins s3 σ3 H3 X.xe I3 (stat fr3) st3 go) fun r s4 ⟨u, hr, h4⟩ => ?_)
    subst hr
    refine wpAny_passesOwn hp (thn h4 fun _ s5 ⟨x, H5, I5, r5, y5, st5, fr5⟩ => ?_)
    have I5' := I5.pinned (stat fr5) (T.obj _ _ st5)
    refine wpAny_passesOwn hp (thn (hg _ s5 σ3 H5 x u _ I5' r5 (step x H5 y5)) fun _ s6 ⟨σ6, H6, I6, q6⟩ => ?_)
    refine wpAny_passesOwn hp (thn (hb _ s6 σ6 H6 _ I6 q6) fun f s7 q7 => ?_)
    have again : ∀ {σ7 : St} {H7 : Hp}, Inv X (pins ++ pinsAt fp s5.heap) σ7 H7 s7 → N σ7 H7 → ∃ m, m < n ∧ ∃ i σ' H', Inv X pins σ' H' s7 ∧ tn i s7.heap ∧ (∀ b ∈ fp, H' b = none) ∧ W i m σ' H' := fun {σ7 H7} I7 n7 => by
      obtain ⟨m', hm, w7⟩ := hN σ7 H7 n7
      refine ⟨m', hm, i + 1, σ7, H7, I7.unpinned, T.keep _ _ _ st5 fun b hb o e => (I7.pin (b, o) (List.mem_append_right _ (List.mem_append_right _ (mem_pinsAt hb e)))).1, fun b hb => ?_, w7⟩
      obtain ⟨o, e, d⟩ := T.obj _ _ st5 b hb
      exact (I7.pin (b, o) (List.mem_append_right _ (List.mem_append_right _ (mem_pinsAt hb e)))).2.1
    cases f with
    | next => obtain ⟨σ7, H7, I7, n7⟩ := q7; exact again I7 n7
    | cont => obtain ⟨σ7, H7, I7, n7⟩ := q7; exact again I7 n7
    | brk => obtain ⟨σ7, H7, I7, q7⟩ := q7; exact ⟨σ7, H7, I7.unpinned, q7⟩
    | ret v => obtain ⟨x7, σ7, H7, I7, r7, q7⟩ := q7; exact ⟨x7, σ7, H7, I7.unpinned, r7, q7⟩
end

/-! ### the forms one uses -/
/-- over a list that the body leaves as it is -/
theorem for_list {K : PySem.W.Frag} {a : Addr} {xs : List V} {g : TG} {tb : TS} {D : Ends} {σ : St} {H : Hp} (Pv : Nat → St → Hp → Prop) (h0 : Pv 0 σ H) (hl : ∀ i σ H, i ≤ xs.length → Pv i σ H → SqL K H a xs)
    (hs : ∀ i x σ H, xs[i]? = some x → Pv i σ H → g x σ H fun σ2 H2 => tb { D with nx := Pv (i + 1), ct := Pv (i + 1), bk := D.nx } σ2 H2) (hd : ∀ σ H, Pv xs.length σ H → D.nx σ H) :
    ∃ W : Nat → Nat → St → Hp → Prop, (∃ m, W 0 m σ H) ∧ ∀ i m σ H, W i m σ H →
      ((Itl K a).stop i H ∧ D.nx σ H) ∨ ((Itl K a).go i H ∧ ∃ N : St → Hp → Prop, (∀ σ' H', N σ' H' → ∃ m', m' < m ∧ W (i + 1) m' σ' H') ∧ ∀ x H', (Itl K a).yld i H x H' → g x σ H' fun σ2 H2 => tb { D with nx := N, ct := N, bk := D.nx } σ2 H2) := by
  refine ⟨fun i m σ H => m = xs.length - i ∧ i ≤ xs.length ∧ Pv i σ H, ⟨xs.length, by simp, Nat.zero_le _, h0⟩, ?_⟩
  rintro i m σ H ⟨rfl, hi, p⟩
  have q := hl i σ H hi p
  by_cases hlt : i < xs.length
  · refine .inr ⟨⟨xs, xs[i], q, by simp [hlt]⟩, Pv (i + 1), fun σ' H' p' => ⟨xs.length - (i + 1), by omega, rfl, hlt, p'⟩, fun x H' y => ?_⟩
    obtain ⟨e, y⟩ := y
    subst e
    exact hs i x σ _ (y xs q) p
  · have e : i = xs.length := by omega
    subst e
    exact .inl ⟨⟨xs, q, Nat.le_refl _⟩, hd σ H p⟩
theorem for_tup {K : PySem.W.Frag} {a : Addr} {xs : List V} {g : TG} {tb : TS} {D : Ends} {σ : St} {H : Hp} (Pv : Nat → St → Hp → Prop) (h0 : Pv 0 σ H) (hl : ∀ i σ H, i ≤ xs.length → Pv i σ H → SqT K H a xs)
    (hs : ∀ i x σ H, xs[i]? = some x → Pv i σ H → g x σ H fun σ2 H2 => tb { D with nx := Pv (i + 1), ct := Pv (i + 1), bk := D.nx } σ2 H2) (hd : ∀ σ H, Pv xs.length σ H → D.nx σ H) :
    ∃ W : Nat → Nat → St → Hp → Prop, (∃ m, W 0 m σ H) ∧ ∀ i m σ H, W i m σ H →
      ((Itt K a).stop i H ∧ D.nx σ H) ∨ ((Itt K a).go i H ∧ ∃ N : St → Hp → Prop, (∀ σ' H', N σ' H' → ∃ m', m' < m ∧ W (i + 1) m' σ' H') ∧ ∀ x H', (Itt K a).yld i H x H' → g x σ H' fun σ2 H2 => tb { D with nx := N, ct := N, bk := D.nx } σ2 H2) := by
  refine ⟨fun i m σ H => m = xs.length - i ∧ i ≤ xs.length ∧ Pv i σ H, ⟨xs.length, by simp, Nat.zero_le _, h0⟩, ?_⟩
  rintro i m σ H ⟨rfl, hi, p⟩
  have q := hl i σ H hi p
  by_cases hlt : i < xs.length
  · refine .inr ⟨⟨xs, xs[i], q, by simp [hlt]⟩, Pv (i + 1), fun σ' H' p' => ⟨xs.length - (i + 1), by omega, rfl, hlt, p'⟩, fun x H' y => ?_⟩
    obtain ⟨e, y⟩ := y
    subst e
    exact hs i x σ _ (y xs q) p
  · have e : i = xs.length := by omega
    subst e
    exact .inl ⟨⟨xs, q, Nat.le_refl _⟩, hd σ H p⟩
theorem for_range {lo : Int} {n : Nat} {g : TG} {tb : TS} {D : Ends} {σ : St} {H : Hp} (Pv : Nat → St → Hp → Prop) (h0 : Pv 0 σ H)
    (hs : ∀ i σ H, i < n → Pv i σ H → g (.int (lo + i)) σ H fun σ2 H2 => tb { D with nx := Pv (i + 1), ct := Pv (i + 1), bk := D.nx } σ2 H2) (hd : ∀ σ H, Pv n σ H → D.nx σ H) :
    ∃ W : Nat → Nat → St → Hp → Prop, (∃ m, W 0 m σ H) ∧ ∀ i m σ H, W i m σ H →
      ((Itr lo n).stop i H ∧ D.nx σ H) ∨ ((Itr lo n).go i H ∧ ∃ N : St → Hp → Prop, (∀ σ' H', N σ' H' → ∃ m', m' < m ∧ W (i + 1) m' σ' H') ∧ ∀ x H', (Itr lo n).yld i H x H' → g x σ H' fun σ2 H2 => tb { D with nx := N, ct := N, bk := D.nx } σ2 H2) := by
  refine ⟨fun i m σ H => m = n - i ∧ i ≤ n ∧ Pv i σ H, ⟨n, by simp, Nat.zero_le _, h0⟩, ?_⟩
  rintro i m σ H ⟨rfl, hi, p⟩
  by_cases hlt : i < n
  · refine .inr ⟨hlt, Pv (i + 1), fun σ' H' p' => ⟨n - (i + 1), by omega, rfl, hlt, p'⟩, fun x H' y => ?_⟩
    obtain ⟨e, y⟩ := y
    subst e y
    exact hs i σ _ hlt p
  · have e : i = n := by omega
    subst e
    exact .inl ⟨Nat.le_refl _, hd σ H p⟩
end L2

namespace L2
open PySem PySem.Spec PyProof.Rows

abbrev R2 := V → V → Hp → VK → Prop
/-- a two-place operation on values: f is binaryOp op, inplaceOp op or compareOp op -/
def OpR (X : Cx) (f : Value → Value → Sem Value) (r : R2) : Prop :=
  ∀ (pins : List (Addr × Obj)) (s : Shared) (σ : St) (H : Hp) (x y : V) (v u : Value) (Q : VK), Inv X pins σ H s → RelV x v → RelV y u → r x y H Q →
    wpAny (model X.prog X.w) X.A (f v u) (EP X pins σ Q) X.xe s
/-- a one-place operation -/
def UnR (X : Cx) (f : Value → Sem Value) (r : V → Hp → VK → Prop) : Prop :=
  ∀ (pins : List (Addr × Obj)) (s : Shared) (σ : St) (H : Hp) (x : V) (v : Value) (Q : VK), Inv X pins σ H s → RelV x v → r x H Q →
    wpAny (model X.prog X.w) X.A (f v) (EP X pins σ Q) X.xe s
/-- a call of a value that is known (a builtin, a type) with values -/
def CallR (X : Cx) (f : Value) (r : List V → Hp → VK → Prop) : Prop :=
  ∀ (pins : List (Addr × Obj)) (s : Shared) (σ : St) (H : Hp) (xs : List V) (us : List Value) (Q : VK), Inv X pins σ H s → Vals xs us → r xs H Q →
    wpAny (model X.prog X.w) X.A (call f us) (EP X pins σ Q) X.xe s
/-- a value's truth -/
def TruR (X : Cx) (r : V → Hp → (Bool → Hp → Prop) → Prop) : Prop :=
  ∀ (pins : List (Addr × Obj)) (s : Shared) (σ : St) (H : Hp) (x : V) (v : Value) (Q : Bool → Hp → Prop), Inv X pins σ H s → RelV x v → r x H Q →
    wpAny (model X.prog X.w) X.A (truthy v) (TP X pins σ Q) X.xe s

def tOp (r : R2) (ta tb : TE) : TE := fun σ H Q => ta σ H fun x H1 => tb σ H1 fun y H2 => r x y H2 Q
def tUn (r : V → Hp → VK → Prop) (ta : TE) : TE := fun σ H Q => ta σ H fun x H1 => r x H1 Q
/-- ints in, under C, and a value out -/
def rI (C : Int → Int → Prop) (g : Int → Int → V) : R2 := fun x y H Q => ∃ i j, x = .int i ∧ y = .int j ∧ C i j ∧ Q (g i j) H
def rI0 (g : Int → Int → V) : R2 := fun x y H Q => ∃ i j, x = .int i ∧ y = .int j ∧ Q (g i j) H
def rU (g : Int → V) : V → Hp → VK → Prop := fun x H Q => ∃ i, x = .int i ∧ Q (g i) H

section
variable {X : Cx} {a b c : Expr} {ta tb tc : TE} {pos : Pos}

theorem binT (ha : PE X a ta) (hb : PE X b tb) {pins : List (Addr × Obj)} {s : Shared} {σ : St} {H : Hp} {R : V → V → Hp → Prop} (I : Inv X pins σ H s)
    (h : ta σ H fun x H1 => tb σ H1 fun y H2 => R x y H2) {Q : Value → Shared → Prop} {f : Value → Value → Sem Value}
    (hf : ∀ v u s2 x y H2, Inv X pins σ H2 s2 → RelV x v → RelV y u → R x y H2 → wpAny (model X.prog X.w) X.A (f v u) Q X.xe s2) :
    wpAny (model X.prog X.w) X.A (eval a X.env) (fun v s₁ => wpAny (model X.prog X.w) X.A (eval b X.env) (fun u s₂ => wpAny (model X.prog X.w) X.A (f v u) Q X.xe s₂) X.xe s₁) X.xe s := by
  refine thn (ha pins s σ H _ I h) fun v s1 ⟨x, H1, I1, r1, q1⟩ => ?_
  refine thn (hb pins s1 σ H1 _ I1 q1) fun u s2 ⟨y, H2, I2, r2, q2⟩ => ?_
  exact hf v u s2 x y H2 I2 r1 r2 q2

theorem pe_op {op : Operator} {r : R2} (ho : OpR X (binaryOp op) r) (ha : PE X a ta) (hb : PE X b tb) : PE X (.BinOp a op b pos) (tOp r ta tb) := by
  intro pins s σ H Q I h
  exact wpAny_BinOp (binT ha hb I h fun v u s2 x y H2 I2 rx ry q => ho pins s2 σ H2 x y v u Q I2 rx ry q)
theorem pe_un {op : UnaryOp} {r : V → Hp → VK → Prop} (ho : UnR X (unaryOp op) r) (ha : PE X a ta) : PE X (.UnaryOp op a pos) (tUn r ta) := by
  intro pins s σ H Q I h
  exact UnaryOp_ (thn (ha pins s σ H _ I h) fun v s1 ⟨x, H1, I1, r1, q1⟩ => ho pins s1 σ H1 x v Q I1 r1 q1)
/-! ### ints -/
theorem opI {f : Value → Value → Sem Value} {C : Int → Int → Prop} {g : Int → Int → Int}
    (rule : ∀ (i j : Int) (t u : Tok) (s : Shared) (Q : Value → Shared → Prop) (E : Value → Shared → Prop), C i j → Q (.int (g i j) s.toks) { s with toks := s.toks + 1 } → wpAny (model X.prog X.w) X.A (f (.int i t) (.int j u)) Q E s) :
    OpR X f (rI C fun i j => .int (g i j)) := by
  intro pins s σ H x y v u Q I rx ry h
  obtain ⟨i, j, rfl, rfl, hc, q⟩ := h
  obtain ⟨t, rfl⟩ := rx
  obtain ⟨t', rfl⟩ := ry
  exact rule i j t t' s _ _ hc ⟨.int (g i j), H, I.tok _, ⟨_, rfl⟩, q⟩
theorem opI0 {f : Value → Value → Sem Value} {g : Int → Int → Int}
    (rule : ∀ (i j : Int) (t u : Tok) (s : Shared) (Q : Value → Shared → Prop) (E : Value → Shared → Prop), Q (.int (g i j) s.toks) { s with toks := s.toks + 1 } → wpAny (model X.prog X.w) X.A (f (.int i t) (.int j u)) Q E s) :
    OpR X f (rI0 fun i j => .int (g i j)) := by
  intro pins s σ H x y v u Q I rx ry h
  obtain ⟨i, j, rfl, rfl, q⟩ := h
  obtain ⟨t, rfl⟩ := rx
  obtain ⟨t', rfl⟩ := ry
  exact rule i j t t' s _ _ ⟨.int (g i j), H, I.tok _, ⟨_, rfl⟩, q⟩
theorem opB0 {f : Value → Value → Sem Value} {g : Int → Int → Bool}
    (rule : ∀ (i j : Int) (t u : Tok) (s : Shared) (Q : Value → Shared → Prop) (E : Value → Shared → Prop), Q (.bool (g i j)) s → wpAny (model X.prog X.w) X.A (f (.int i t) (.int j u)) Q E s) :
    OpR X f (rI0 fun i j => .bl (g i j)) := by
  intro pins s σ H x y v u Q I rx ry h
  obtain ⟨i, j, rfl, rfl, q⟩ := h
  obtain ⟨t, rfl⟩ := rx
  obtain ⟨t', rfl⟩ := ry
  exact rule i j t t' s _ _ ⟨.bl (g i j), H, I, rfl, q⟩

def CDiv (i j : Int) : Prop := 0 < j ∧ j < 1073741824
def CDivN (i j : Int) : Prop := j ≠ 0 ∧ j.natAbs < 1073741824
def CPow (i j : Int) : Prop := 0 ≤ j ∧ j ≤ 1000000 ∧ i.natAbs < 2 ^ 64
def CMul (i j : Int) : Prop := (-(2 ^ 64) < i ∧ i < 2 ^ 64) ∨ (-(2 ^ 64) < j ∧ j < 2 ^ 64)
theorem CMul.ok {i j : Int} (h : CMul i j) : IntMulOk i j := by
  rcases h with ⟨h1, h2⟩ | ⟨h1, h2⟩
  · exact .of_left (intBits_le_64 h1 h2)
  · exact .of_right (intBits_le_64 h1 h2)
theorem op_add : OpR X (binaryOp .Add) (rI0 fun i j => .int (i + j)) := opI0 fun _ _ _ _ _ _ _ q => add_int q
theorem op_sub : OpR X (binaryOp .Sub) (rI0 fun i j => .int (i - j)) := opI0 fun _ _ _ _ _ _ _ q => sub_int q
theorem op_mul : OpR X (binaryOp .Mult) (rI CMul fun i j => .int (i * j)) := opI fun _ _ _ _ _ _ _ hc q => mul_int q hc.ok
/-- // by a positive divisor -/
theorem op_fdiv : OpR X (binaryOp .FloorDiv) (rI CDiv fun i j => .int (i / j)) := opI fun i j _ _ _ _ _ hc q => by
  have h1 : (0 : Int) < j := hc.1
  have h2 : j < 1073741824 := hc.2
  exact floordiv_int (by omega) (by rw [Int.fdiv_eq_ediv_of_nonneg i (by omega)]; exact q) (.inl (PyProof.noPylong_small (by omega)))
/-- % by a positive divisor of any size -/
theorem op_mod : OpR X (binaryOp .Mod) (rI (fun _ j => 0 < j) fun i j => .int (i % j)) := opI fun i j _ _ _ _ _ hc q => by
  have h1 : (0 : Int) < j := hc
  exact mod_int' (by omega) (by rw [Int.fmod_eq_emod_of_nonneg i (by omega)]; exact q)
theorem unI {f : Value → Sem Value} {g : Int → Int}
    (rule : ∀ (i : Int) (t : Tok) (s : Shared) (Q : Value → Shared → Prop) (E : Value → Shared → Prop), Q (.int (g i) s.toks) { s with toks := s.toks + 1 } → wpAny (model X.prog X.w) X.A (f (.int i t)) Q E s) :
    UnR X f (rU fun i => .int (g i)) := by
  intro pins s σ H x v Q I rx h
  obtain ⟨i, rfl, q⟩ := h
  obtain ⟨t, rfl⟩ := rx
  exact rule i t s _ _ ⟨.int (g i), H, I.tok _, ⟨_, rfl⟩, q⟩
theorem un_neg : UnR X (unaryOp .USub) (rU fun i => .int (-i)) := unI fun _ _ _ _ _ q => neg_int q
/-! ### bools among ints: n += (a < b) -/
end

/-! ### comparisons -/
/-- the scalars that == tells apart as data does -/
def scal : V → V → Bool
  | .non, .non => true | .non, .int _ => true | .int _, .non => true | .non, .bl _ => true | .bl _, .non => true | .non, .str _ => true | .str _, .non => true
  | .int _, .int _ => true | .bl _, .bl _ => true | .str _, .str _ => true | .byt _, .byt _ => true
  | .int _, .str _ => true | .str _, .int _ => true | .bl _, .str _ => true | .str _, .bl _ => true
  | _, _ => false
def rEq : R2 := fun x y H Q => scal x y = true ∧ Q (.bl (decide (x = y))) H
def rNe : R2 := fun x y H Q => scal x y = true ∧ Q (.bl (!decide (x = y))) H

theorem dec_int {i j : Int} : decide (V.int i = V.int j) = (i == j) := by
  rw [Bool.eq_iff_iff]
  simp
theorem dec_bl {i j : Bool} : decide (V.bl i = V.bl j) = (i == j) := by
  rw [Bool.eq_iff_iff]
  simp
theorem dec_str {i j : Str} : decide (V.str i = V.str j) = (i == j) := by
  rw [Bool.eq_iff_iff]
  simp
theorem dec_byt {i j : Array UInt8} : decide (V.byt i = V.byt j) = (i.toList == j.toList) := by
  rw [Bool.eq_iff_iff]
  cases i
  cases j
  simp

section
variable {X : Cx} {a b c : Expr} {ta tb tc : TE} {pos : Pos}
theorem fin_bl {pins : List (Addr × Obj)} {σ : St} {H : Hp} {s : Shared} {Q : VK} {k k' : Bool} (I : Inv X pins σ H s) (q : Q (.bl k) H) (e : k = k') : EP X pins σ Q (.bool k') s := by
  subst e
  exact ⟨.bl k, H, I, rfl, q⟩
theorem op_eq : OpR X (compareOp .Eq) rEq := by
  intro pins s σ H x y v u Q I rx ry h
  obtain ⟨hs, q⟩ := h
  cases x with
  | non =>
    cases rx
    cases y with
    | non => cases ry; exact PySem.EqNone.eq_none_none (fin_bl I q (by simp))
    | bl j => cases ry; exact PySem.EqNone.eq_none_bool (fin_bl I q (by simp))
    | int j => obtain ⟨t', rfl⟩ := ry; exact PySem.EqNone.eq_none_int (fin_bl I q (by simp))
    | str j => obtain ⟨t', rfl⟩ := ry; exact PySem.EqNone.eq_none_str (fin_bl I q (by simp))
    | _ => exact absurd (show false = true from hs) Bool.false_ne_true
  | bl i =>
    cases rx
    cases y with
    | non => cases ry; exact PySem.EqNone.eq_bool_none (fin_bl I q (by simp))
    | bl j => cases ry; exact eq_bool (fin_bl I q dec_bl)
    | str j => obtain ⟨t', rfl⟩ := ry; exact PySem.EqMixed.eq_bool_str (fin_bl I q (by simp))
    | _ => exact absurd (show false = true from hs) Bool.false_ne_true
  | int i =>
    obtain ⟨t, rfl⟩ := rx
    cases y with
    | non => cases ry; exact PySem.EqNone.eq_int_none (fin_bl I q (by simp))
    | int j => obtain ⟨t', rfl⟩ := ry; exact eq_int (fin_bl I q dec_int)
    | str j => obtain ⟨t', rfl⟩ := ry; exact PySem.EqMixed.eq_int_str (fin_bl I q (by simp))
    | _ => exact absurd (show false = true from hs) Bool.false_ne_true
  | str i =>
    obtain ⟨t, rfl⟩ := rx
    cases y with
    | non => cases ry; exact PySem.EqNone.eq_str_none (fin_bl I q (by simp))
    | bl j => cases ry; exact PySem.EqMixed.eq_str_bool (fin_bl I q (by simp))
    | int j => obtain ⟨t', rfl⟩ := ry; exact PySem.EqMixed.eq_str_int (fin_bl I q (by simp))
    | str j => obtain ⟨t', rfl⟩ := ry; exact eq_str (fin_bl I q dec_str)
    | _ => exact absurd (show false = true from hs) Bool.false_ne_true
  | byt i =>
    obtain ⟨t, rfl⟩ := rx
    cases y with
    | byt j => obtain ⟨t', rfl⟩ := ry; exact PySem.W.eq_bytes (fin_bl I q dec_byt)
    | _ => exact absurd (show false = true from hs) Bool.false_ne_true
  | _ => cases y <;> exact absurd (show false = true from hs) Bool.false_ne_true
theorem op_ne : OpR X (compareOp .NotEq) rNe := by
  intro pins s σ H x y v u Q I rx ry h
  obtain ⟨hs, q⟩ := h
  cases x with
  | non =>
    cases rx
    cases y with
    | non => cases ry; exact PySem.EqNone.ne_none_none (fin_bl I q (by simp))
    | bl j => cases ry; exact PySem.EqNone.ne_none_bool (fin_bl I q (by simp))
    | int j => obtain ⟨t', rfl⟩ := ry; exact PySem.EqNone.ne_none_int (fin_bl I q (by simp))
    | str j => obtain ⟨t', rfl⟩ := ry; exact PySem.EqNone.ne_none_str (fin_bl I q (by simp))
    | _ => exact absurd (show false = true from hs) Bool.false_ne_true
  | bl i =>
    cases rx
    cases y with
    | non => cases ry; exact PySem.EqNone.ne_bool_none (fin_bl I q (by simp))
    | bl j => cases ry; exact ne_bool (fin_bl I q (congrArg not dec_bl))
    | str j => obtain ⟨t', rfl⟩ := ry; exact PySem.EqMixed.ne_bool_str (fin_bl I q (by simp))
    | _ => exact absurd (show false = true from hs) Bool.false_ne_true
  | int i =>
    obtain ⟨t, rfl⟩ := rx
    cases y with
    | non => cases ry; exact PySem.EqNone.ne_int_none (fin_bl I q (by simp))
    | int j => obtain ⟨t', rfl⟩ := ry; exact ne_int (fin_bl I q (congrArg not dec_int))
    | str j => obtain ⟨t', rfl⟩ := ry; exact PySem.EqMixed.ne_int_str (fin_bl I q (by simp))
    | _ => exact absurd (show false = true from hs) Bool.false_ne_true
  | str i =>
    obtain ⟨t, rfl⟩ := rx
    cases y with
    | non => cases ry; exact PySem.EqNone.ne_str_none (fin_bl I q (by simp))
    | bl j => cases ry; exact PySem.EqMixed.ne_str_bool (fin_bl I q (by simp))
    | int j => obtain ⟨t', rfl⟩ := ry; exact PySem.EqMixed.ne_str_int (fin_bl I q (by simp))
    | str j => obtain ⟨t', rfl⟩ := ry; exact ne_str (fin_bl I q (congrArg not dec_str))
    | _ => exact absurd (show false = true from hs) Bool.false_ne_true
  | byt i =>
    obtain ⟨t, rfl⟩ := rx
    cases y with
    | byt j => obtain ⟨t', rfl⟩ := ry; exact PySem.W.ne_bytes (fin_bl I q (congrArg not dec_byt))
    | _ => exact absurd (show false = true from hs) Bool.false_ne_true
  | _ => cases y <;> exact absurd (show false = true from hs) Bool.false_ne_true

theorem op_lt : OpR X (compareOp .Lt) (rI0 fun i j => .bl (decide (i < j))) := opB0 fun _ _ _ _ _ _ _ q => lt_int q
theorem op_gt : OpR X (compareOp .Gt) (rI0 fun i j => .bl (decide (j < i))) := opB0 fun _ _ _ _ _ _ _ q => gt_int q
/-- is None, is not None: the right side a value none -/
theorem op_isN : OpR X (compareOp .Is) (fun x y H Q => y = .non ∧ Q (.bl (decide (x = .non))) H) := by
  intro pins s σ H x y v u Q I rx ry h
  obtain ⟨rfl, q⟩ := h
  cases ry
  refine is_none_gen (fin_bl I q ?_)
  cases x <;> first
    | (cases rx; rfl)
    | (obtain ⟨t, rfl⟩ := rx; rfl)
theorem op_notN : OpR X (compareOp .IsNot) (fun x y H Q => y = .non ∧ Q (.bl (!decide (x = .non))) H) := by
  intro pins s σ H x y v u Q I rx ry h
  obtain ⟨rfl, q⟩ := h
  cases ry
  refine isnot_none_gen (fin_bl I q ?_)
  cases x <;> first
    | (cases rx; rfl)
    | (obtain ⟨t, rfl⟩ := rx; rfl)

/-- is, is not of two objects that are tracked lists or instances -/
def isObj : HO → Bool
  | .lst _ => true
  | .ins _ _ _ => true
  | _ => false
/-- two rules for one operation: by cases -/
theorem OpR.or {f : Value → Value → Sem Value} {r r' : R2} (h : OpR X f r) (h' : OpR X f r') : OpR X f (fun x y H Q => r x y H Q ∨ r' x y H Q) := by
  intro pins s σ H x y v u Q I rx ry q
  rcases q with q | q
  · exact h pins s σ H x y v u Q I rx ry q
  · exact h' pins s σ H x y v u Q I rx ry q

theorem nomark (b : Expr) {op : CmpOp} (h : op ≠ .In := by decide) (h2 : op ≠ .NotIn := by decide) : behindInMarks op b = false := by
  have e1 : (op == CmpOp.In) = false := by cases op <;> first | rfl | exact absurd rfl h
  have e2 : (op == CmpOp.NotIn) = false := by cases op <;> first | rfl | exact absurd rfl h2
  cases b <;> simp [behindInMarks, e1, e2]
/-- a comparison as a value; hm: nomark b, or (for in, not in) by with_unfolding_all rfl -/
theorem pe_cmpR {op : CmpOp} {r : R2} (ho : OpR X (compareOp op) r) (ha : PE X a ta) (hb : PE X b tb) (hm : behindInMarks op b = false) : PE X (.Compare a [op] [b] pos) (tOp r ta tb) := by
  intro pins s σ H Q I h
  exact wpAny_Compare1 (binT ha hb I h fun v u s2 x y H2 I2 rx ry q => ho pins s2 σ H2 x y v u Q I2 rx ry q) hm
/-- a reading of a value as a test -/
def tTest (t : TE) : TT := fun σ H Q => t σ H fun x H' => ∃ k, x = .bl k ∧ Q k H'
theorem pt_cmpR {op : CmpOp} {r : R2} (ho : OpR X (compareOp op) r) (ha : PE X a ta) (hb : PE X b tb) (hm : behindInMarks op b = false) : PT X (.Compare a [op] [b] pos) (tTest (tOp r ta tb)) := by
  intro pins s σ H Q I h
  refine wpAny_isTrue_Compare1 (thn (ha pins s σ H _ I h) fun v s1 ⟨x, H1, I1, r1, q1⟩ => thn (hb pins s1 σ H1 _ I1 q1) fun u s2 ⟨y, H2, I2, r2, q2⟩ =>
    thn (ho pins s2 σ H2 x y v u _ I2 r1 r2 q2) fun c s3 ⟨z, H3, I3, r3, k, e, q3⟩ => ?_) hm
  subst e
  cases r3
  exact wpAny_truthy_bool ⟨H3, I3, q3⟩
/-- a op1 b op2 c -/
def tChain (r r' : R2) (ta tb tc : TE) : TE := fun σ H Q => ta σ H fun x H1 => tb σ H1 fun y H2 => r x y H2 fun z H3 => ∃ k, z = .bl k ∧
  (if k = true then tc σ H3 fun w' H4 => r' y w' H4 Q else Q (.bl false) H3)
/-! ### truth -/
/-- a value's truth by the abstract heap -/
def TruV (K : PySem.W.Frag) (x : V) (H : Hp) (k : Bool) : Prop :=
  match x with
  | .non => k = false
  | .bl b => k = b
  | .int i => k = (i != 0)
  | .str y => y.length ≤ sizeLine ∧ k = ((y.length : Int) != 0)
  | .byt y => y.size ≤ sizeLine ∧ k = ((y.size : Int) != 0)
  | .ref p => (∃ xs, SqL K H p xs ∧ k = !xs.isEmpty) ∨ (∃ xs, SqT K H p xs ∧ k = !xs.isEmpty) ∨ ∃ kvs, H p = some (.dK kvs) ∧ k = !kvs.isEmpty
  | _ => False
theorem line63 : (sizeLine : Nat) < 2 ^ 63 := by rw [sizeLine_eq]; decide
/-! ### strs and bytes -/
theorem op_add_str : OpR X (binaryOp .Add) (fun x y H Q => ∃ i j, x = .str i ∧ y = .str j ∧ i.length + j.length ≤ sizeLine ∧ Q (.str (i ++ j)) H) := by
  intro pins s σ H x y v u Q I rx ry h
  obtain ⟨i, j, rfl, rfl, hz, q⟩ := h
  obtain ⟨t, rfl⟩ := rx
  obtain ⟨t', rfl⟩ := ry
  exact add_str (fun t' tk => ⟨.str (i ++ j), H, I.tok _, ⟨_, rfl⟩, q⟩) hz
def PlainIxT (b : Expr) : Prop := ∀ o i, subscripted b false o i = operate [o, i] (getItem o i)
/-! ### scalar builtins, by CallR -/
theorem vals1 {x : V} {us : List Value} (r : Vals [x] us) : ∃ u, us = [u] ∧ RelV x u := by
  cases r with
  | cons r1 r2 => cases r2; exact ⟨_, rfl, r1⟩
theorem vals2 {x y : V} {us : List Value} (r : Vals [x, y] us) : ∃ u w', us = [u, w'] ∧ RelV x u ∧ RelV y w' := by
  cases r with
  | cons r1 r2 =>
    cases r2 with
    | cons r3 r4 => cases r4; exact ⟨_, _, rfl, r1, r3⟩
theorem call_min2 (hc : X.calm = true) : CallR X (.builtin "min") (fun xs H Q => ∃ i j, xs = [.int i, .int j] ∧ Q (.int (if j < i then j else i)) H) := by
  intro pins s σ H xs us Q I r h
  obtain ⟨i, j, rfl, q⟩ := h
  obtain ⟨u, w', rfl, ⟨t, rfl⟩, ⟨t', rfl⟩⟩ := vals2 r
  refine min_two_ints (I.ok.hd hc) fun h' tk k => ⟨_, H, I.kept k, ?_, q⟩
  by_cases hj : j < i
  · rw [if_pos hj, if_pos hj]; exact ⟨_, rfl⟩
  · rw [if_neg hj, if_neg hj]; exact ⟨_, rfl⟩
theorem call_int1 : CallR X (.type "int") (fun xs H Q => (∃ i, xs = [.int i] ∧ Q (.int i) H) ∨ ∃ k, xs = [.bl k] ∧ Q (.int (if k then 1 else 0)) H) := by
  intro pins s σ H xs us Q I r h
  rcases h with ⟨i, rfl, q⟩ | ⟨k, rfl, q⟩
  · obtain ⟨u, rfl, t, rfl⟩ := vals1 r
    exact call_int_int ⟨.int i, H, I, ⟨_, rfl⟩, q⟩
  · obtain ⟨u, rfl, r1⟩ := vals1 r
    cases r1
    exact call_int_bool ⟨.int (if k then 1 else 0), H, I.tok _, ⟨_, rfl⟩, q⟩
/-- len of a str, a bytes, a list, a tuple -/
def LenV (K : PySem.W.Frag) (x : V) (H : Hp) (n : Nat) : Prop :=
  match x with
  | .str y => y.length ≤ sizeLine ∧ n = y.length
  | .byt y => y.size ≤ sizeLine ∧ n = y.size
  | .ref p => (∃ xs, SqL K H p xs ∧ n = xs.length) ∨ ∃ xs, SqT K H p xs ∧ n = xs.length
  | _ => False
end
end L2

namespace L2
open PySem PySem.Spec PyProof.Rows

/-! ### an instance, its attributes a map -/
structure ObjM (h : Heap) (x dx C : Addr) (mA : Str → Option Value) : Prop where
  obj : h.get? x = some (PySem.W.instObj C dx)
  ns : h.Ns1 dx mA
  ne : dx ≠ x

theorem lookIn_ns {h : Heap} {dx : Addr} {mA : Str → Option Value} (n : h.Ns1 dx mA) : ∃ od, h.get? dx = some od ∧ ∀ name, PySem.W.lookIn name od = some (mA name) := by
  obtain ⟨o, es, ep, ho, hd, hk, _, hm⟩ := n
  refine ⟨o, ho, fun name => ?_⟩
  have e := hm name
  unfold nsFind findBy at e
  rw [← Array.find?_toList] at e
  unfold PySem.W.lookIn
  rw [hd]
  dsimp only
  split
  · rename_i y q
    rw [q] at e
    exact congrArg some e
  · rename_i q
    rw [q] at e
    have a : es.toList.any (·.refKey) = false := by
      rw [List.any_eq_false]
      intro y hy
      obtain ⟨z, t, hkey⟩ := hk y (Array.mem_toList_iff.mp hy)
      simp [DictEntry.refKey, hkey]
    have a' : ¬ es.toList.any (·.refKey) = true := by rw [a]; exact Bool.false_ne_true
    rw [if_neg a']
    exact congrArg some e

theorem ObjM.look {h : Heap} {x dx C : Addr} {mA : Str → Option Value} (I : ObjM h x dx C mA) : ∃ od, PySem.W.InstAt h x (PySem.W.instObj C dx) C (some od) ∧ ∀ name, PySem.W.lookIn name od = some (mA name) :=
  let ⟨od, ho, hl⟩ := lookIn_ns I.ns
  ⟨od, ⟨I.obj, rfl, rfl, ho⟩, hl⟩

section
variable {prog : Program} {w : World} {A : Around} {E : Value → Shared → Prop} {s : Shared} {K : PySem.W.Frag} {x dx C f : Addr} {mA : Str → Option Value} {name : Str} {v : Value}

end

/-! ### the attributes as a list of pairs -/
def putF (f : Str) (v : V) : List (Str × V) → List (Str × V)
  | [] => [(f, v)]
  | (g, x) :: r => if g = f then (g, v) :: r else (g, x) :: putF f v r
section
variable {P : Program} {w : World} {H H' : Hp} {h h' : Heap} {a C dx : Addr} {fs fs' : List (Str × V)}
end

/-! ### what of the text a class must have -/
structure Cls (K : PySem.W.Frag) (C : Addr) : Prop where
  pg : PySem.W.plainGet K C Str.empty = true
  hd : PySem.W.hasDictIn K C = true
  po : PySem.W.plainOver K C = true
  sa : PySem.W.findIn K (.ref C) "__setattr__" = some (some (.builtin "object.__setattr__"))
theorem Cls.get {K : PySem.W.Frag} {C : Addr} (c : Cls K C) (f : Str) : PySem.W.plainGet K C f = true := c.pg
/-- no class of it has the name -/
def NoAttr (K : PySem.W.Frag) (C : Addr) (f : Str) : Prop := PySem.W.findIn K (.ref C) f = some none
/-- a constant of the class -/
structure Con (K : PySem.W.Frag) (C : Addr) (f : Str) (v : V) (u : Value) : Prop where
  at_ : PySem.W.findIn K (.ref C) f = some (some u)
  rel : RelV v u
  get : PySem.W.specialIn K u "__get__" = some none
  cp : PySem.W.copiedNames.contains f = false
/-- a method: a plain def of the class or of one above it -/
structure Meth (K : PySem.W.Frag) (C : Addr) (m : Str) (f : Addr) : Prop where
  at_ : PySem.W.findIn K (.ref C) m = some (some (.ref f))
  fn : PySem.W.isFn K (.ref f) = true
  kp : PySem.W.keepIn K (.ref f) = true

section
variable {X : Cx} {pins : List (Addr × Obj)} {σ : St} {H : Hp} {s : Shared} {a C dx : Addr} {fs : List (Str × V)} {f : Str} {v : V} {A : Around} {E : Value → Shared → Prop}

/-- a new instance, tracked, without attributes -/
theorem Inv.made (I : Inv X pins σ H s) : Inv X pins σ (upd (upd H s.heap.objs.size (.own (s.heap.objs.size + 1))) (s.heap.objs.size + 1) (.ins C s.heap.objs.size []))
    { s with heap := (s.heap.push PySem.W.emptyDict).push (PySem.W.instObj C s.heap.objs.size) } := by
  have e1 : (s.heap.push PySem.W.emptyDict).get? s.heap.objs.size = some PySem.W.emptyDict := Heap.get?_push_size s.heap rfl
  have e2 : ((s.heap.push PySem.W.emptyDict).push (PySem.W.instObj C s.heap.objs.size)).get? (s.heap.objs.size + 1) = some (PySem.W.instObj C s.heap.objs.size) := by
    have := Heap.get?_push_size (s.heap.push PySem.W.emptyDict) (o := PySem.W.instObj C s.heap.objs.size) rfl
    rwa [Heap.size_push] at this
  have e3 : (s.heap.push PySem.W.emptyDict).Ns s.heap.objs.size (fun _ => none) := ⟨PySem.W.emptyDict, #[], _, e1, rfl, (fun e he => absurd he (by simp)), fun _ => rfl⟩
  have I1 := I.laid (a := s.heap.objs.size) (o := .own (s.heap.objs.size + 1)) (h' := s.heap.push PySem.W.emptyDict) (t' := s.toks) (fun b u q => Heap.get?_push_of_some _ q) (Nat.le_refl _) ⟨_, e1⟩
  refine I1.laid (a := s.heap.objs.size + 1) (o := .ins C s.heap.objs.size []) (t' := s.toks) (fun b u q => Heap.get?_push_of_some _ q) (Nat.le_of_eq (Heap.size_push _ _)) ?_
  have ne : s.heap.objs.size ≠ s.heap.objs.size + 1 := Nat.ne_of_lt (Nat.lt_succ_self _)
  refine ⟨by rw [upd_ne ne, upd_same], Nat.zero_le _, ne, e2, fun _ => none, (Heap.Ns1.of_empty e3).at fun o q => Heap.get?_push_of_some _ q, fun _ => True.intro, fun y hy => absurd rfl hy⟩

/-- e.f where nothing but the object is asked: through attributeBase (super) and the last hold -/
theorem attr_of {prog : Program} {w : World} {env : Env} {e : Expr} {f : Str} {pos : Pos} {s : Shared} {Q : Value → Shared → Prop} (hb : attributeBase e f env (eval e env) = eval e env)
    (h : wpAny (model prog w) A (eval e env) (fun o s₁ => wpAny (model prog w) A (getAttr o f true) Q E s₁) E s) : wpAny (model prog w) A (eval (.Attribute e f pos) env) Q E s :=
  Attribute_any_ h (by rw [arm_eval_Attribute, hb])
end

/-! ### readings and rules -/
/-- e.f, an attribute of the instance -/
def tFld (K : PySem.W.Frag) (ta : TE) (f : Str) : TE := fun σ H Q => ta σ H fun x H1 => ∃ a C dx fs v, x = .ref a ∧ H1 a = some (.ins C dx fs) ∧ Cls K C ∧ NoAttr K C f ∧ fs.lookup f = some v ∧ Q v H1
/-- e.f, a constant of the class -/
def tCon (K : PySem.W.Frag) (ta : TE) (f : Str) : TE := fun σ H Q => ta σ H fun x H1 => ∃ a C dx fs v u, x = .ref a ∧ H1 a = some (.ins C dx fs) ∧ Cls K C ∧ Con K C f v u ∧ fs.lookup f = none ∧ Q v H1
/-- e.f = value -/
def sFld (K : PySem.W.Frag) (ta tv : TE) (f : Str) : TS := fun D σ H => tv σ H fun y H1 => ta σ H1 fun x H2 => ∃ a C dx fs, x = .ref a ∧ H2 a = some (.ins C dx fs) ∧ Cls K C ∧ NoAttr K C f ∧ fs.length < 1000 ∧
  D.nx σ (upd H2 a (.ins C dx (putF f y fs)))
/-- an augmented operator on two values -/
def InOp (X : Cx) (op : Operator) (rd : V → V → Hp → VK → Prop) : Prop :=
  ∀ (pins : List (Addr × Obj)) (s : Shared) (σ : St) (H : Hp) (x y : V) (u v : Value) (Q : VK), Inv X pins σ H s → RelV x u → RelV y v → rd x y H Q → wpAny (model X.prog X.w) X.A (inplaceOp op u v) (EP X pins σ Q) X.xe s
/-- e.f op= value -/
def sFldAug (K : PySem.W.Frag) (ta tv : TE) (rd : V → V → Hp → VK → Prop) (f : Str) : TS := fun D σ H => ta σ H fun x H1 => ∃ a C dx fs v, x = .ref a ∧ H1 a = some (.ins C dx fs) ∧ Cls K C ∧ NoAttr K C f ∧ fs.lookup f = some v ∧
  tv σ H1 fun y H2 => rd v y H2 fun z H3 => ∃ dx' fs', H3 a = some (.ins C dx' fs') ∧ fs'.length < 1000 ∧ D.nx σ (upd H3 a (.ins C dx' (putF f z fs')))

section
variable {X : Cx} {o e value : Expr} {f : Str} {pos pos' tpos : Pos} {ta tv : TE}
def rAdd : V → V → Hp → VK → Prop := fun x y H Q => ∃ i j, x = .int i ∧ y = .int j ∧ Q (.int (i + j)) H
def rSub : V → V → Hp → VK → Prop := fun x y H Q => ∃ i j, x = .int i ∧ y = .int j ∧ Q (.int (i - j)) H
end

/-! ### isinstance -/
section
variable {X : Cx} {pins : List (Addr × Obj)} {σ : St} {H : Hp} {s : Shared} {A : Around} {E : Value → Shared → Prop} {Q : Value → Shared → Prop} {c : Value} {b : Bool}
/-- the type of a value, as the fragment's deciders take it; for an instance its class -/
inductive TyOf (K : PySem.W.Frag) (H : Hp) : V → Value → Prop where
  | non : TyOf K H .non (.type "NoneType")
  | bl (x : Bool) : TyOf K H (.bl x) (.type "bool")
  | int (i : Int) : TyOf K H (.int i) (.type "int")
  | str (x : Str) : TyOf K H (.str x) (.type "str")
  | flt (x : UInt64) : TyOf K H (.flt x) (.type "float")
  | lst {a : Addr} {xs : List V} (e : H a = some (.lst xs)) : TyOf K H (.ref a) (.type "list")
  | frz {a : Addr} {o : Obj} {xs : List V} (e : H a = some (.frz o (.lst xs))) : TyOf K H (.ref a) (.type "list")
  | tup {a : Addr} {xs : List V} (e : H a = some (.tup xs)) : TyOf K H (.ref a) (.type "tuple")
  | dK {a : Addr} {kvs : List (Key × V)} (e : H a = some (.dK kvs)) : TyOf K H (.ref a) (.type "dict")
  | dT {a : Addr} {kvs : List (List Key × V)} (e : H a = some (.dT kvs)) : TyOf K H (.ref a) (.type "dict")
  | ins {a C dx : Addr} {fs : List (Str × V)} (e : H a = some (.ins C dx fs)) (cl : Cls K C) (ha : PySem.W.findIn K (.ref C) "__class__" = some (some (.builtin "object.__class__")))
      (hn : PySem.W.specialIn K (.builtin "object.__class__") "__get__" = some (some (.builtin "getset_descriptor.__get__"))) (htk : PySem.W.takesIn K (.builtin "object.__class__") = some true)
      (hm : PySem.W.mroIn K C (.type "object") = some true) : TyOf K H (.ref a) (.ref C)
end
end L2

namespace L2
open PySem PySem.Spec PyProof.Rows

/-! ### room -/
structure Room (k : Nat) (A : Around) : Prop where
  hd : A.handled = none
  dp : A.depth + 3 * k + 5 < recursionLimit
  un : A.units + 16 * k + 200 < cLine
theorem Room.mono {j k : Nat} {A : Around} (r : Room k A) (h : j ≤ k) : Room j A := ⟨r.hd, by have := r.dp; omega, by have := r.un; omega⟩
theorem Room.deeper {k : Nat} {A : Around} (r : Room (k + 1) A) (env : Env) : Room k (A.deeper env) :=
  ⟨r.hd, by have := r.dp; show A.depth + 1 + 3 * k + 5 < _; omega, by have := r.un; show A.units + 3 + 16 * k + 200 < _; omega⟩
theorem make_depth {A : Around} {C : Addr} {us : List Value} {kw : List (Str × Value)} : (A.under (.builtin "type.__call__" ⟨.ref C :: us, kw⟩)).depth = A.depth + 1 := by
  first | rfl | simp [Around.under, Code.weight, Code.isCreation, Code.isGuard, Code.isCaller, Code.frames, Code.isFrame, guardIds]
theorem make_units {A : Around} {C : Addr} {us : List Value} {kw : List (Str × Value)} : (A.under (.builtin "type.__call__" ⟨.ref C :: us, kw⟩)).units = A.units + 1 := by
  first | rfl | simp [Around.under, Code.cUnits, Code.frames, Code.isFrame]
theorem Room.make {k : Nat} {A : Around} (r : Room (k + 1) A) (C : Addr) (us : List Value) (kw : List (Str × Value)) : Room k (A.under (.builtin "type.__call__" ⟨.ref C :: us, kw⟩)) :=
  ⟨r.hd, by have := r.dp; rw [make_depth]; omega, by have := r.un; rw [make_units]; omega⟩
theorem Room.depth {k : Nat} {A : Around} (r : Room k A) : A.depth < recursionLimit := by have := r.dp; omega
theorem Room.units {k : Nat} {A : Around} (r : Room k A) : A.units + 64 < cLine := by have := r.un; omega
/-! ### argument lists and displays -/
def tNil : TA := fun _ H Q => Q [] H
def tCons (ta : TE) (tr : TA) : TA := fun σ H Q => ta σ H fun x H1 => tr σ H1 fun xs H2 => Q (x :: xs) H2
section
variable {X : Cx} {e : Expr} {es : List Expr} {te : TE} {t : TA} {pos : Pos}
theorem pa_nil : PA X [] tNil := fun _ _ _ _ H Q I h => Calls.spliced_nil ⟨[], H, I, .nil, h⟩
theorem pa_cons (ha : PE X e te) (hr : PA X es t) (hs : starEach (e :: es) X.env = (false, eval e X.env) :: starEach es X.env := by rfl) : PA X (e :: es) (tCons te t) := by
  intro pos pins s σ H Q I h
  rw [hs]
  show wpAny _ _ (spliced ((false, eval e X.env) :: backTo pos (starEach es X.env))) _ _ s
  refine Calls.spliced_cons (thn (ha pins s σ H _ I h) fun u s1 ⟨x, H1, I1, r1, q1⟩ => ?_)
  exact thn (hr pos pins s1 σ H1 _ I1 q1) fun us s2 ⟨xs, H2, I2, r2, q2⟩ => ⟨x :: xs, H2, I2, .cons r1 r2, q2⟩

/-- a tuple, a list of written items -/
def tTup (t : TA) : TE := fun σ H Q => t σ H fun xs H1 => xs.length ≤ sizeLine ∧ ∀ p, H1 p = none → Q (.ref p) (upd H1 p (.tup xs))
def tLst (t : TA) : TE := fun σ H Q => t σ H fun xs H1 => xs.length ≤ sizeLine ∧ ∀ p, H1 p = none → Q (.ref p) (upd H1 p (.lst xs))
theorem pe_tup {x1} (h : PA X es t) : PE X (.Tuple es x1 pos) (tTup t) := by
  intro pins s σ H Q I hq
  refine wpAny_Tuple_spliced (thn (h pos pins s σ H _ I hq) fun us s1 ⟨xs, H1, I1, r, z, q⟩ => ⟨by rw [← r.length]; exact z, ?_⟩)
  have hf : H1 s1.heap.objs.size = none := I1.hok.fresh (Nat.le_refl _)
  refine ⟨.ref s1.heap.objs.size, upd H1 s1.heap.objs.size (.tup xs), I1.laid (t' := s1.toks) (fun b u e => Heap.get?_push_of_some _ e) (Nat.le_refl _) ?_, rfl, q _ hf⟩
  exact ⟨z, us, r, ⟨_, Heap.get?_push_size _ rfl, rfl, _, rfl⟩⟩
theorem pe_lst (h : PA X es t) : PE X (.List es pos) (tLst t) := by
  intro pins s σ H Q I hq
  refine wpAny_List_spliced (thn (h pos pins s σ H _ I hq) fun us s1 ⟨xs, H1, I1, r, z, q⟩ => ⟨by rw [← r.length]; exact z, ?_⟩)
  have hf : H1 s1.heap.objs.size = none := I1.hok.fresh (Nat.le_refl _)
  refine ⟨.ref s1.heap.objs.size, upd H1 s1.heap.objs.size (.lst xs), I1.laid (t' := s1.toks) (fun b u e => Heap.get?_push_of_some _ e) (Nat.le_refl _) ?_, rfl, q _ hf⟩
  exact ⟨z, us, 0, r, Heap.get?_push_size _ rfl⟩
end

/-! ### what a def promises -/
/-- a def's promise: the bound arguments in the parameters' order, the heap, the wanted end, the wanted exception -/
abbrev Sp := List V → Hp → VK → XK → Prop
/-- how an exception lies behind a call (file 08 gives it): the callers' frames, abstract heap and state ahead of the call, the wish, the exception, the state -/
abbrev CXT := List Env → Hp → Shared → XK → Value → Shared → Prop

/-- the state at a call -/
structure Env0 (P : Program) (w : World) (K : PySem.W.Frag) (mg : Str → Option Value) (base : Heap) (A : Around) (outer : List Env) (s : Shared) (H : Hp) : Prop where
  frames : A.frames = some outer
  mod : Mod K mg base
  bs : ∀ b o, base.get? b = some o → s.heap.get? b = some o ∧ H b = none
  bsz : base.objs.size ≤ s.heap.objs.size
  funs : s.heap.FunFrames base outer
  frf : ∀ b ∈ frs outer, H b = none
  hok : HOk P w H s.heap
  bare : AllBare s.gens
/-- a call's end -/
def CE (outer : List Env) (P : Program) (w : World) (H : Hp) (s : Shared) (Q : VK) (u : Value) (s' : Shared) : Prop :=
  ∃ v H', s'.os = s.os ∧ AllBare s'.gens ∧ Un (frs outer) [] H H' s.heap s'.heap ∧ HOk P w H' s'.heap ∧ RelV v u ∧ Q v H'
def CR (CX : CXT) (outer : List Env) (P : Program) (w : World) (H : Hp) (s : Shared) (Q : VK) (E : XK) (r : Result) (s' : Shared) : Prop :=
  match r with
  | .ok (.ret u) => CE outer P w H s Q u s'
  | .ok _ => False
  | .error e => CX outer H s E e s'
structure FnOk (P : Program) (w : World) (K : PySem.W.Frag) (mg : Str → Option Value) (base : Heap) (CX : CXT) (k : Nat) (f : Addr) (fd : FuncData) (ps : List Str) (sp : Sp) : Prop where
  len : ∀ vs H Q E, sp vs H Q E → vs.length = ps.length
  run : ∀ (A : Around) (outer : List Env) (s : Shared) (H : Hp) (args : Args) (us : List Value) (vs : List V) (Q : VK) (E : XK), Room k A → Env0 P w K mg base A outer s H → BindsTo s fd args (ps.zip us) → Vals vs us → sp vs H Q E →
    codeAny (model P w) A (.call (.ref f) args) (CR CX outer P w H s Q E) s
theorem FnOk.mono {P : Program} {w : World} {K : PySem.W.Frag} {mg : Str → Option Value} {base : Heap} {CX : CXT} {j k : Nat} {f : Addr} {fd : FuncData} {ps : List Str} {sp : Sp} (F : FnOk P w K mg base CX j f fd ps sp) (h : j ≤ k) :
    FnOk P w K mg base CX k f fd ps sp := ⟨F.len, fun A outer s H args us vs Q E hr => F.run A outer s H args us vs Q E (hr.mono h)⟩
/-- a weaker promise -/
theorem FnOk.imp {P : Program} {w : World} {K : PySem.W.Frag} {mg : Str → Option Value} {base : Heap} {CX : CXT} {k : Nat} {f : Addr} {fd : FuncData} {ps : List Str} {sp sp' : Sp} (F : FnOk P w K mg base CX k f fd ps sp)
    (h : ∀ vs H Q E, sp' vs H Q E → sp vs H Q E) : FnOk P w K mg base CX k f fd ps sp' :=
  ⟨fun vs H Q E q => F.len vs H Q E (h _ _ _ _ q), fun A outer s H args us vs Q E hr he hb hv hs => F.run A outer s H args us vs Q E hr he hb hv (h _ _ _ _ hs)⟩

theorem Env0.make {P : Program} {w : World} {K : PySem.W.Frag} {mg : Str → Option Value} {base : Heap} {A : Around} {outer : List Env} {s : Shared} {H : Hp} (e : Env0 P w K mg base A outer s H) (C : Addr) (us : List Value) (kw : List (Str × Value)) :
    Env0 P w K mg base (A.under (.builtin "type.__call__" ⟨.ref C :: us, kw⟩)) outer s H := ⟨by first | exact e.frames | (simpa [Around.under, Code.envs, Code.isFrame, pushEnvs] using e.frames), e.mod, e.bs, e.bsz, e.funs, e.frf, e.hok, e.bare⟩
section
variable {X : Cx} {pins : List (Addr × Obj)} {σ : St} {H : Hp} {s s' : Shared}
/-- from a body: what a callee wants -/
theorem Inv.env0 (I : Inv X pins σ H s) : Env0 X.prog X.w X.K X.mg X.base X.A X.stack s H :=
  ⟨I.ok.frames, I.ok.mod, I.bs, Nat.le_trans I.ok.bsz I.sz, I.stack, I.stkFree, I.hok, I.bare⟩
/-- behind a call -/
theorem Inv.after {Q : VK} {u : Value} (I : Inv X pins σ H s) (h : CE X.stack X.prog X.w H s Q u s') : EP X pins σ Q u s' := by
  obtain ⟨v, H', os, bare, un, hok, r, q⟩ := h
  obtain ⟨hh, g, d, t, os'⟩ := s'
  obtain rfl : os' = s.os := os
  exact ⟨v, H', I.call (h' := hh) (g' := g) (d' := d) (t' := t) (ch := []) un hok bare (fun b z => absurd z (by simp)), r, q⟩
end

/-! ### calls -/
/-- f(..): the written arguments, then the defaults dvs; E: what is wanted of an exception -/
def tCall (sp : Sp) (dvs : List V) (E : XK) (t : TA) : TE := fun σ H Q => t σ H fun vs H1 => sp (vs ++ dvs) H1 Q E
/-- o.m(..) of an instance of the class at C -/
def tMeth (C : Addr) (m : Str) (sp : Sp) (dvs : List V) (E : XK) (ta : TE) (t : TA) : TE := fun σ H Q => ta σ H fun x H1 => ∃ a dx fs, x = .ref a ∧ H1 a = some (.ins C dx fs) ∧ fs.lookup m = none ∧
  t σ H1 fun vs H2 => sp (x :: (vs ++ dvs)) H2 Q E
/-- C(..): a new instance and its dict, then __init__ -/
def tMake (C : Addr) (sp : Sp) (dvs : List V) (E : XK) (t : TA) : TE := fun σ H Q => t σ H fun vs H1 => ∀ x dx, H1 x = none → H1 dx = none → dx ≠ x →
  sp (.ref x :: (vs ++ dvs)) (upd (upd H1 dx (.own x)) x (.ins C dx [])) (fun v H2 => v = .non ∧ Q (.ref x) H2) E

/-- how the parameters are bound: us the positional arguments, kw the keywords' values by name, ds the defaults that fill up -/
def Binds (K : PySem.W.Frag) (fd : FuncData) (ps : List Str) (ds : List Value) : Prop :=
  ∀ (s : Shared) (us : List Value), K.In s.heap → (us ++ ds).length = ps.length → BindsTo s fd ⟨us, []⟩ (ps.zip (us ++ ds))
/-- every parameter is given -/
theorem Binds.all {K : PySem.W.Frag} {fd : FuncData} {ps : List Str} (h : ∀ us : List Value, us.length = ps.length → bindArgs fd ⟨us, []⟩ = pure (ps.zip us)) : Binds K fd ps [] := fun s us _ hl => by
  rw [List.append_nil] at hl ⊢
  exact .of_eq (h us hl)

/-- an exception of a callee reaches what this body wants of exceptions -/
def Passes (CX : CXT) (X : Cx) (E : XK) : Prop := ∀ (pins : List (Addr × Obj)) (σ : St) (H : Hp) (s : Shared) (e : Value) (s' : Shared), Inv X pins σ H s → CX X.stack H s E e s' → X.xe e s'

section
variable {X : Cx} {CX : CXT} {k : Nat} {f C : Addr} {fd : FuncData} {ps : List Str} {sp : Sp} {dvs : List V} {ds : List Value} {E : XK} {x m : Str} {p pos apos : Pos} {e o : Expr} {es : List Expr} {ta : TE} {t : TA}

/-- the callee runs -/
theorem run_fn {pins : List (Addr × Obj)} {σ : St} {H : Hp} {s : Shared} {Q : VK} {us : List Value} {vs : List V} (F : FnOk X.prog X.w X.K X.mg X.base CX k f fd ps sp) (hr : Room k X.A) (hb : Binds X.K fd ps ds) (hd : Vals dvs ds) (hx : Passes CX X E)
    (I : Inv X pins σ H s) (r : Vals vs us) (h : sp (vs ++ dvs) H Q E) : wpAny (model X.prog X.w) X.A (call (.ref f) us) (EP X pins σ Q) X.xe s := by
  have r2 : Vals (vs ++ dvs) (us ++ ds) := r.append hd
  have hl : (us ++ ds).length = ps.length := by rw [← r2.length]; exact F.len _ _ _ _ h
  refine wpAny_call (codeAny_mono (F.run X.A X.stack s H ⟨us, []⟩ (us ++ ds) (vs ++ dvs) Q E hr I.env0 (hb s us I.kIn hl) r2 h) fun r s' hq => ?_)
  cases r with
  | error e => exact hx pins σ H s e s' I hq
  | ok fl =>
    cases fl with
    | ret u => exact I.after hq
    | next => exact False.elim hq
    | brk => exact False.elim hq
    | cont => exact False.elim hq

theorem pe_call (F : FnOk X.prog X.w X.K X.mg X.base CX k f fd ps sp) (hr : Room k X.A) (hg : Gl X x) (hm : X.mg x = some (.ref f)) (hk : PySem.W.keepIn X.K (.ref f) = true) (hb : Binds X.K fd ps ds) (hd : Vals dvs ds) (hx : Passes CX X E)
    (ha : PA X (e :: es) t) (hdb : (x == ("__debug__" : Str)) = false := by decide) (he : starEach (e :: es) X.env = (false, eval e X.env) :: starEach es X.env := by rfl) (hpl : (backTo pos (starEach es X.env)).any (·.1) = false := by rfl) :
    PE X (.Call (.Name x p) (e :: es) [] pos) (tCall sp dvs E t) := by
  intro pins s σ H Q I h
  refine wpAny_Call_Name_kw (ld_glob I hg hm ?_ hdb)
  refine PySem.W.callWith_K (h₀ := X.base) I.ok.mod.kin hk (thn (ha pos pins s σ H _ I h) fun us s1 ⟨vs, H1, I1, r, q⟩ => ⟨I1.kIn, ?_⟩) he hpl
  exact run_fn F hr hb hd hx I1 r q
/-- what a class must have to be made -/
structure Mk (K : PySem.W.Frag) (C f : Addr) : Prop where
  makes : PySem.W.makesIn K C = true
  init : PySem.W.findIn K (.ref C) "__init__" = some (some (.ref f))
  fn : PySem.W.isFn K (.ref f) = true
  kp : PySem.W.keepIn K (.ref C) = true

end

/-! ### keywords -/
/-- the values of the keywords, from the left -/
def PK (X : Cx) (kws : List Keyword) (t : TA) : Prop :=
  ∀ (pos : Pos) (pins : List (Addr × Obj)) (s : Shared) (σ : St) (H : Hp) (Q : List V → Hp → Prop), Inv X pins σ H s → t σ H Q → wpAny (model X.prog X.w) X.A (evalAll ((backToKw pos (keywordEach kws X.env)).map (·.2))) (AP X pins σ Q) X.xe s
section
variable {X : Cx} {CX : CXT} {k : Nat} {f C : Addr} {fd : FuncData} {ps ks : List Str} {sp : Sp} {E : XK} {x m : Str} {p pos apos kpos : Pos} {e o : Expr} {es : List Expr} {kws : List Keyword} {te ta : TE} {t tk : TA} {nm : Option Str}
/-- how a call with keywords binds: g puts the positional values us and the keywords' values ws (names ks) in the parameters' order, defaults among them -/
structure KBinds (K : PySem.W.Frag) (fd : FuncData) (ps ks : List Str) (g : List Value → List Value → List Value) (gV : List V → List V → List V) : Prop where
  to : ∀ (s : Shared) (us ws : List Value), K.In s.heap → (g us ws).length = ps.length → BindsTo s fd ⟨us, ks.zip ws⟩ (ps.zip (g us ws))
  rel : ∀ {vs : List V} {us : List Value} {zs : List V} {ws : List Value}, Vals vs us → Vals zs ws → Vals (gV vs zs) (g us ws)
def tCallK (sp : Sp) (gV : List V → List V → List V) (E : XK) (t tk : TA) : TE := fun σ H Q => t σ H fun vs H1 => tk σ H1 fun zs H2 => sp (gV vs zs) H2 Q E
variable {g : List Value → List Value → List Value} {gV : List V → List V → List V}
end

/-! ### a def's body keeps its promise -/
/-- names: the parameters first -/
structure FnScope (N P : List Str) (sc : Scope) : Prop where
  kind : sc.kind = .function
  co : sc.isCoroutine = false
  gen : sc.isGenerator = false
  nd : N.Nodup
  pre : N.take P.length = P
  par : ∀ x ∈ P, sc.names.lookup x = some .local ∨ sc.names.lookup x = some .cell
  nofree : ∀ y ∈ sc.names, y.2 ≠ .free

theorem bindL_out {kindOf : Str → Option NameKind} {x : Str} : ∀ {binds : List (Str × Value)} {m : Str → Option Value}, (∀ v, (x, v) ∉ binds) → bindL kindOf binds m x = m x
  | [], _, _ => rfl
  | (n, v) :: r, m, h => by
    unfold bindL
    rw [bindL_out fun w hw => h w (List.mem_cons_of_mem _ hw)]
    split
    · have : x ≠ n := by rintro rfl; exact h v List.mem_cons_self
      simp [this]
    · rfl
theorem bindC_out {kindOf : Str → Option NameKind} {x : Str} : ∀ {binds : List (Str × Value)} {m : Str → Option Value}, (∀ v, (x, v) ∉ binds) → bindC kindOf binds m x = m x
  | [], _, _ => rfl
  | (n, v) :: r, m, h => by
    unfold bindC
    rw [bindC_out fun w hw => h w (List.mem_cons_of_mem _ hw)]
    split
    · rfl
    · have : x ≠ n := by rintro rfl; exact h v List.mem_cons_self
      simp [this]
theorem bindL_get {kindOf : Str → Option NameKind} {x : Str} {v : Value} : ∀ {P : List Str} {vs : List Value} {i : Nat} {m : Str → Option Value}, P.Nodup → P[i]? = some x → vs[i]? = some v → kindOf x = some .local →
    bindL kindOf (P.zip vs) m x = some v
  | [], _, _, _, _, h, _, _ => by simp at h
  | _ :: _, [], _, _, _, _, h, _ => by simp at h
  | p :: P, w :: vs, 0, m, nd, h1, h2, hk => by
    simp at h1 h2; subst h1; subst h2
    show bindL kindOf ((p, w) :: P.zip vs) m p = _
    unfold bindL
    rw [bindL_out fun v hv => (List.nodup_cons.mp nd).1 (List.of_mem_zip hv).1, if_pos hk]
    simp
  | p :: P, w :: vs, i + 1, m, nd, h1, h2, hk => by
    show bindL kindOf ((p, w) :: P.zip vs) m x = _
    unfold bindL
    exact bindL_get (i := i) (List.nodup_cons.mp nd).2 (by simpa using h1) (by simpa using h2) hk
theorem bindC_get {kindOf : Str → Option NameKind} {x : Str} {v : Value} : ∀ {P : List Str} {vs : List Value} {i : Nat} {m : Str → Option Value}, P.Nodup → P[i]? = some x → vs[i]? = some v → kindOf x ≠ some .local →
    bindC kindOf (P.zip vs) m x = some v
  | [], _, _, _, _, h, _, _ => by simp at h
  | _ :: _, [], _, _, _, _, h, _ => by simp at h
  | p :: P, w :: vs, 0, m, nd, h1, h2, hk => by
    simp at h1 h2; subst h1; subst h2
    show bindC kindOf ((p, w) :: P.zip vs) m p = _
    unfold bindC
    rw [bindC_out fun v hv => (List.nodup_cons.mp nd).1 (List.of_mem_zip hv).1, if_neg hk]
    simp
  | p :: P, w :: vs, i + 1, m, nd, h1, h2, hk => by
    show bindC kindOf ((p, w) :: P.zip vs) m x = _
    unfold bindC
    exact bindC_get (i := i) (List.nodup_cons.mp nd).2 (by simpa using h1) (by simpa using h2) hk

/-- the names' values at the entry -/
def start (N : List Str) (vs : List V) : St := vs.map some ++ List.replicate (N.length - vs.length) none

/-- the context of a def's body, at its entry; an exception leaves the frame, then lies as CX says -/
def cxOf (CX : CXT) (P : Program) (w : World) (K : PySem.W.Frag) (mg : Str → Option Value) (base : Heap) (N : List Str) (qual : Str) (scope : Scope) (f : Addr) (cd : Value) (A : Around) (outer : List Env) (s : Shared) (H : Hp) (E : XK) : Cx where
  prog := P
  w := w
  K := K
  mg := mg
  base := base
  A := A.deeper (envOfC qual scope s.heap.objs.size f cd)
  N := N
  s_0 := s
  H_0 := H
  env := envOfC qual scope s.heap.objs.size f cd
  outer := outer
  stack := envOfC qual scope s.heap.objs.size f cd :: outer
  ex := []
  calm := true
  fn := fun _ => true
  pn := []
  xe := fun e s' => wpAny (model P w) (A.deeper (envOfC qual scope s.heap.objs.size f cd)) (leaving (envOfC qual scope s.heap.objs.size f cd) e) (fun _ s'' => CX outer H s E e s'') (fun e' s'' => CX outer H s E e' s'') s'

theorem cell_has {sc : Scope} {n : Nat} {x : Str} (h : sc.names.lookup x = some .cell) : ∃ c, (cellsFrom n sc.names []).lookup x = some c := by
  have q := PySem.W.cellsFrom_some sc.names n [] (.inl h)
  exact Option.isSome_iff_exists.mp q

theorem inv_start {CX : CXT} {P : Program} {w : World} {K : PySem.W.Frag} {mg : Str → Option Value} {base : Heap} {N ps : List Str} {qual : Str} {scope : Scope} {f : Addr} {cd : Value} {A : Around} {outer : List Env} {s s1 : Shared} {H : Hp} {E : XK} {us : List Value} {vs : List V}
    (S : FnScope N ps scope) (hd : A.handled = none) (e0 : Env0 P w K mg base A outer s H) (hl : vs.length = ps.length) (r : Vals vs us)
    (x : InCallC s s.heap.objs.size (bindL (envOfC qual scope s.heap.objs.size f cd).kindOf (ps.zip us) fun _ => none) (cellsFrom (s.heap.objs.size + 1) scope.names []) (bindC (envOfC qual scope s.heap.objs.size f cd).kindOf (ps.zip us) fun _ => none) s1) :
    Inv (cxOf CX P w K mg base N qual scope f cd A outer s H E) [] (start N vs) H s1 := by
  have hpl : ps.length ≤ N.length := by have := congrArg List.length S.pre; rw [List.length_take] at this; omega
  obtain ⟨h1, tk, rfl, hk⟩ := x.done
  have noA : ∀ b : Addr, b ∉ (cxOf CX P w K mg base N qual scope f cd A outer s H E).ex := fun b z => absurd (show b ∈ ([] : List Addr) from z) (by simp)
  refine ⟨⟨e0.mod, S.kind, rfl, rfl, Nat.le_refl _, fun y z c h1 h2 => ?_, fun y hy => ?_, fun y c _ h => ?_, fun _ => hd, Around.frames_deeper e0.frames, .inr ⟨rfl, rfl⟩, fun b z => absurd z (noA b), e0.bs, e0.bsz, fun b _ _ => noA b, fun b z => absurd z (noA b), e0.funs, e0.frf⟩,
    rfl, e0.bare, Un.kept hk, ⟨_, x.toInCall.ns, fun i y v h1 h2 h3 => ?_⟩, fun y c h => ⟨_, x.cell y c h⟩, e0.hok.fresh (Nat.le_refl _), fun y c h => ?_, fun p hp => absurd (show p ∈ ([] : List (Addr × Obj)) from hp) (by simp), e0.hok.kept hk, ?_⟩
  · exact name_of_addr x.apart (PySem.mem_of_lookup h1) (PySem.mem_of_lookup h2)
  · have hy : scope.names.lookup y = some .cell ∨ scope.names.lookup y = some .free := hy
    rcases hy with hy | hy
    · exact cell_has hy
    · exact absurd rfl (S.nofree _ (PySem.mem_of_lookup hy))
  · exact Nat.le_of_lt (x.above y c (PySem.mem_of_lookup h))
  · have hi : i < vs.length := by
      unfold start at h2
      by_cases hi : i < vs.length
      · exact hi
      · rw [List.getElem?_append_right (by simpa using hi)] at h2
        rw [List.getElem?_replicate] at h2
        split at h2 <;> cases h2
    have ha : vs[i]? = some v := by
      unfold start at h2
      rw [List.getElem?_append_left (by simpa using hi), List.getElem?_map] at h2
      cases e : vs[i]? with
      | none => rw [e] at h2; cases h2
      | some a => rw [e] at h2; cases h2; rfl
    obtain ⟨u, hu, rv⟩ := r.get ha
    have hp : ps[i]? = some y := by
      rw [← S.pre, List.getElem?_take_of_lt (by omega)]; exact h1
    have ndP : ps.Nodup := by rw [← S.pre]; exact S.nd.sublist (List.take_sublist _ _)
    refine ⟨u, rv, ?_⟩
    rcases S.par y (List.mem_of_getElem? hp) with k | k
    · exact .inl ⟨k, bindL_get ndP hp hu k⟩
    · obtain ⟨c, e⟩ := cell_has (n := s.heap.objs.size + 1) k
      refine .inr ⟨.inl k, c, e, ?_⟩
      have q := x.cell y c e
      rw [bindC_get ndP hp hu (by show scope.names.lookup y ≠ _; rw [k]; decide)] at q
      exact q
  · exact e0.hok.fresh (Nat.le_of_lt (x.above y c (PySem.mem_of_lookup h)))
  · unfold start
    show _ = N.length
    rw [List.length_append, List.length_map, List.length_replicate]
    omega

/-- THE RULE: a def (or a method) of the text, by its body. The body's reading t is chosen for each entry; it is run at the parameters' values -/
theorem fn_of {CX : CXT} {P : Program} {w : World} {K : PySem.W.Frag} {mg : Str → Option Value} {base : Heap} {k : Nat} {f : Addr} {name qual : Str} {params : Arguments} {body : List Stmt} {scope : Scope} {dV kV doc pm cdv ct oc : Value} {an od : Option Addr}
    {osl : Array (Option Value)} {N ps : List Str} {sp : Sp} (lk : K.lookup f = some ⟨oc, od, .func (PySem.W.fnOf name qual params body scope dV kV doc pm an cdv ct), osl⟩) (hcd : PySem.W.codeIn K cdv qual = true) (S : FnScope N ps scope)
    (len : ∀ vs H Q E, sp vs H Q E → vs.length = ps.length)
    (hbody : ∀ (A : Around) (outer : List Env) (s : Shared) (H : Hp) (vs : List V) (Q : VK) (E : XK), Room k (A.deeper (envOfC qual scope s.heap.objs.size f cdv)) → sp vs H Q E →
      ∃ t, PSs (cxOf CX P w K mg base N qual scope f cdv A outer s H E) body t ∧ t { nx := fun _ H' => Q .non H', rt := Q } (start N vs) H) :
    FnOk P w K mg base CX (k + 1) f (PySem.W.fnOf name qual params body scope dV kV doc pm an cdv ct) ps sp := by
  refine ⟨len, fun A outer s H args us vs Q E hr e0 hb r hsp => ?_⟩
  have hl := len _ _ _ _ hsp
  have KX : K.In s.heap := e0.mod.kin.keeps fun b o e => (e0.bs b o e).1
  have lim : s.heap.NoLimit := e0.mod.nolimit.keeps fun b o e => (e0.bs b o e).1
  have hkind : ∀ y ∈ ps.zip us, scope.names.lookup y.1 = some .local ∨ (scope.names.lookup y.1 = some .cell ∧ ((cellsFrom (s.heap.objs.size + 1) scope.names []).lookup y.1).isSome = true) := fun ⟨n, v⟩ hy => by
    rcases S.par n (List.of_mem_zip hy).1 with q | q
    · exact .inl q
    · exact .inr ⟨q, PySem.W.cellsFrom_some _ _ _ (.inl q)⟩
  refine codeAny_call_function hr.depth (KX _ _ lk) rfl S.co S.gen rfl (PySem.W.codeRec_of KX hcd) (hb _ _ _ _ ?_)
  refine wpAny_newFunctionEnv_cells S.kind hkind fun env he s1 x => ?_
  subst he
  refine ⟨lim.keeps x.toInCall.keep, codeAny_func ?_⟩
  obtain ⟨t, ht, hq⟩ := hbody A outer s H vs Q E (hr.deeper _) hsp
  have I : Inv (cxOf CX P w K mg base N qual scope f cdv A outer s H E) [] (start N vs) H s1 := inv_start S hr.hd e0 hl r x
  refine wpAny_mono (ht [] s1 (start N vs) H _ I hq) (fun fl s' hs => ?_) fun e s' hs => hs
  have fin : ∀ {σ' : St} {H' : Hp} {v : V} {u : Value}, Inv (cxOf CX P w K mg base N qual scope f cdv A outer s H E) [] σ' H' s' → RelV v u → Q v H' → CE outer P w H s Q u s' :=
    fun {σ' H' v u} J rv q => ⟨v, H', J.os, J.bare, J.base, J.hok, rv, q⟩
  cases fl with
  | ret u =>
    obtain ⟨v, σ', H', J, rv, q⟩ := hs
    exact fin J rv q
  | next =>
    obtain ⟨σ', H', J, q⟩ := hs
    exact fin (v := V.non) (u := Value.none) J rfl q
  | brk =>
    obtain ⟨_, _, _, q⟩ := hs
    exact False.elim q
  | cont =>
    obtain ⟨_, _, _, q⟩ := hs
    exact False.elim q
end L2

namespace L2
open PySem PySem.Spec PyProof.Rows
section
variable {X : Cx} {x : Str} {p pos : Pos} {e : Expr} {es : List Expr} {t : TA} {id T : String} {r : List V → Hp → VK → Prop}

def tCB (r : List V → Hp → VK → Prop) (t : TA) : TE := fun σ H Q => t σ H fun vs H1 => r vs H1 Q
/-- f(e, ..), f a built-in function -/
theorem pe_callB (hc : CallR X (.builtin id) r) (hg : Gl X x) (hm : X.mg x = none) (hv : bootBuiltins x = some (.builtin id)) (ha : PA X (e :: es) t) (hn : x ≠ "__name__" := by decide) (hdb : (x == ("__debug__" : Str)) = false := by decide)
    (he : starEach (e :: es) X.env = (false, eval e X.env) :: starEach es X.env := by rfl) (hpl : (backTo pos (starEach es X.env)).any (·.1) = false := by rfl) : PE X (.Call (.Name x p) (e :: es) [] pos) (tCB r t) := by
  intro pins s σ H Q I h
  refine wpAny_Call_Name_kw (ld_blt I hg hm hv ?_ hn hdb)
  exact PyProof.Rows.callWith_builtin1 (thn (ha pos pins s σ H _ I h) fun us s1 ⟨vs, H1, I1, r1, q1⟩ => hc pins s1 σ H1 vs us Q I1 r1 q1) he hpl
/-- T(e, ..), T a built-in type -/
theorem pe_callTy (hc : CallR X (.type T) r) (hg : Gl X x) (hm : X.mg x = none) (hv : bootBuiltins x = some (.type T)) (ha : PA X (e :: es) t) (hn : x ≠ "__name__" := by decide) (hdb : (x == ("__debug__" : Str)) = false := by decide)
    (he : starEach (e :: es) X.env = (false, eval e X.env) :: starEach es X.env := by rfl) (hpl : (backTo pos (starEach es X.env)).any (·.1) = false := by rfl) : PE X (.Call (.Name x p) (e :: es) [] pos) (tCB r t) := by
  intro pins s σ H Q I h
  refine wpAny_Call_Name_kw (ld_blt I hg hm hv ?_ hn hdb)
  exact PyProof.Rows.callWith_type1 (thn (ha pos pins s σ H _ I h) fun us s1 ⟨vs, H1, I1, r1, q1⟩ => hc pins s1 σ H1 vs us Q I1 r1 q1) he hpl
end
end L2

namespace HT
open PySem PyProof.Rows

/-- t < u of tuples of ints -/
def lexLt : List Int → List Int → Bool
  | [], [] => false
  | [], _ :: _ => true
  | _ :: _, [] => false
  | x :: xs, y :: ys => if x = y then lexLt xs ys else decide (x < y)
section
open PySem.SeqAt
open PySem.AutoSeq1 (wpAny_loadPart')
open PySem.MeetsSeq PySem.MeetsSeq2 PySem.MeetsSeq3

end

section
variable {prog : Program} {w : World} {A : Around} {E : Value → Shared → Prop} {s : Shared}

/-! ### t[a:b], not the whole -/
/-- a slice's bound as a place among n (d where it is left out) -/
def sIx (n d : Nat) : Option Int → Nat
  | none => d
  | some v => if v < 0 then (v + (n : Int)).toNat else min v.toNat n
theorem sIx_none (n d : Nat) : sIx n d none = d := rfl
theorem sIx_nat (n d k : Nat) : sIx n d (some (k : Int)) = min k n := by
  show (if (k : Int) < 0 then ((k : Int) + (n : Int)).toNat else min (k : Int).toNat n) = min k n
  rw [if_neg (by omega), Int.toNat_natCast]
theorem sIx_le (n d : Nat) (hd : d ≤ n) (o : Option Int) : sIx n d o ≤ n := by
  cases o with
  | none => exact hd
  | some v =>
    show (if v < 0 then (v + (n : Int)).toNat else min v.toNat n) ≤ n
    by_cases hv : v < 0
    · rw [if_pos hv]; omega
    · rw [if_neg hv]; exact Nat.min_le_right _ _
theorem clip_eq (v : Int) (n d : Nat) : (if v < 0 then max (v + (n : Int)) 0 else min v (n : Int)) = ((sIx n d (some v) : Nat) : Int) := by
  show (if v < 0 then max (v + (n : Int)) 0 else min v (n : Int)) = (((if v < 0 then (v + (n : Int)).toNat else min v.toNat n) : Nat) : Int)
  by_cases hv : v < 0
  · simp only [if_pos hv]; omega
  · simp only [if_neg hv]; omega
theorem adjust_gen (lo hi : Option Int) (n : Nat) : Builtin.Slice.sliceAdjust lo hi 1 (n : Int) = (((sIx n 0 lo : Nat) : Int), ((sIx n n hi : Nat) : Int)) := by
  have h1 : ¬ ((1 : Int) < 0) := by omega
  unfold Builtin.Slice.sliceAdjust
  simp only [h1, if_false]
  refine Prod.ext ?_ ?_
  · cases lo with
    | none => rfl
    | some v => exact clip_eq v n 0
  · cases hi with
    | none => rfl
    | some v => exact clip_eq v n n
theorem places_gen (i j : Nat) : Builtin.Slice.slicePlaces (i : Int) (j : Int) 1 = j - i := by
  unfold Builtin.Slice.slicePlaces
  have h1 : (1 : Int) > 0 := by omega
  simp only [h1, if_true, Int.ediv_one]
  split <;> omega
theorem slicePart_ {v : Value} {o : Option Int} {Q : Option Int → Shared → Prop} (p : IsPart v o) (h : Q o s) : wpAny (model prog w) A (Builtin.Slice.slicePartIndex v) Q E s := by
  cases p with
  | none => exact slicePart_none h
  | int i t => exact slicePart_int h
theorem sliceApplied_gen {sl : Addr} {vl vu : Value} {lo hi : Option Int} {n : Nat} {Q : Int × Int × Nat → Shared → Prop} (hs : s.heap.IsSliceOf sl vl vu .none) (pl : IsPart vl lo) (pu : IsPart vu hi)
    (h : Q (((sIx n 0 lo : Nat) : Int), 1, sIx n n hi - sIx n 0 lo) s) : wpAny (model prog w) A (Builtin.Slice.sliceApplied (.ref sl) (pure (n : Int))) Q E s := by
  obtain ⟨os, hos, hcs, hds⟩ := id hs
  unfold Builtin.Slice.sliceApplied Builtin.Slice.sliceFields
  refine wpAny_bind (wpAny_bind (wpAny_field hos hds (x := vl) rfl (wpAny_bind (wpAny_field hos hds (x := vu) rfl (wpAny_bind (wpAny_field hos hds (x := .none) rfl (wpAny_pure ?_)))))))
  refine wpAny_bind (slicePart_none ?_)
  show wpAny _ _ (if ((1 : Int) == 0) = true then _ else _) _ _ s
  rw [if_neg (by decide)]
  refine wpAny_bind (slicePart_ pl (wpAny_bind (slicePart_ pu (wpAny_bind (wpAny_pure ?_)))))
  show wpAny _ _ (match Builtin.Slice.sliceAdjust lo hi 1 (n : Int) with | (lo, hi) => pure (lo, (1 : Int), Builtin.Slice.slicePlaces lo hi 1)) _ _ s
  rw [adjust_gen lo hi n]
  show wpAny _ _ (pure (((sIx n 0 lo : Nat) : Int), (1 : Int), Builtin.Slice.slicePlaces ((sIx n 0 lo : Nat) : Int) ((sIx n n hi : Nat) : Int) 1)) _ _ s
  rw [places_gen]
  exact wpAny_pure h
theorem pick_gen (xs : Array Value) (i k : Nat) : ((List.range k).filterMap fun (m : Nat) => xs[((i : Int) + (m : Int) * 1).toNat]?).toArray = ((xs.toList.drop i).take k).toArray := by
  have e : (fun (m : Nat) => xs[((i : Int) + (m : Int) * 1).toNat]?) = fun m => xs[i + m]? := by
    funext m
    have : ((i : Int) + (m : Int) * 1).toNat = i + m := by omega
    rw [this]
  rw [e]
  have := pick_run xs i k
  rw [List.filterMap_map] at this
  have e2 : ((fun x => xs[x]?) ∘ fun x => i + x) = fun m => xs[i + m]? := rfl
  rw [e2] at this
  rw [this]

theorem getItem_tuple_cut {t sl : Addr} {items : Array Value} {vl vu : Value} {lo hi : Option Int} {Q : Value → Shared → Prop} (ht : IsTup s.heap t items) (hs : s.heap.IsSliceOf sl vl vu .none) (pl : IsPart vl lo) (pu : IsPart vu hi)
    (hw : ¬ (sIx items.size 0 lo = 0 ∧ sIx items.size items.size hi = items.size))
    (h : Q (.ref s.heap.objs.size) { s with heap := s.heap.push { cls := .type "tuple", data := .seq ((items.toList.drop (sIx items.size 0 lo)).take (sIx items.size items.size hi - sIx items.size 0 lo)).toArray } })
    (hsz : items.size ≤ sizeLine) : wpAny (model prog w) A (getItem (.ref t) (.ref sl)) Q E s := by
  have htake : sizeOk (.seq ((items.toList.drop (sIx items.size 0 lo)).take (sIx items.size items.size hi - sIx items.size 0 lo)).toArray) := by
    show ((items.toList.drop (sIx items.size 0 lo)).take (sIx items.size items.size hi - sIx items.size 0 lo)).toArray.size ≤ sizeLine
    rw [List.size_toArray, List.length_take, List.length_drop, Array.length_toList]
    omega
  have hj : sIx items.size items.size hi ≤ items.size := sIx_le _ _ (Nat.le_refl _) hi
  obtain ⟨os, hos, hcs, hds⟩ := id hs
  have hTs : s.TypeIs (.ref sl) "slice" := ⟨os, hos, hcs⟩
  unfold getItem
  try with_reducible refine wpAny_holding ?_
  first | refine wpAny_bind (wpAny_pure ?_) | skip
  refine wpAny_bind (wpAny_sequenceKey ht.typeIs (by decide) ?_)
  refine wpAny_bind (wpAny_callSpecial?_slot (name := Str.ofString "__getitem__") ht.typeIs PyProof.Rows.slot_tuple_getitem
    (wpAny_call_entry PyProof.Rows.slot_tuple_getitem ht.typeIs entry_tuple_getitem ?_ (args_tuple_getitem _ _)))
  show wpAny _ _ (Builtin.Tuple.tupleItemsOf (.ref t) >>= _) _ _ s
  refine wpAny_bind (tupleItemsOf_ ht ?_)
  refine wpAny_bind (wpAny_typeOf hTs ?_)
  rw [if_pos (by decide)]
  refine wpAny_bind (sliceApplied_gen hs pl pu ?_)
  have hno : ¬ ((((sIx items.size 0 lo : Nat) : Int) == 0 && (1 : Int) == 1 && (sIx items.size items.size hi - sIx items.size 0 lo) == items.size) = true) := by
    intro q
    rw [Bool.and_eq_true, Bool.and_eq_true] at q
    have q1 : ((sIx items.size 0 lo : Nat) : Int) = 0 := eq_of_beq q.1.1
    have q2 : sIx items.size items.size hi - sIx items.size 0 lo = items.size := eq_of_beq q.2
    exact hw ⟨by omega, by omega⟩
  show wpAny _ _ (if (((sIx items.size 0 lo : Nat) : Int) == 0 && (1 : Int) == 1 && (sIx items.size items.size hi - sIx items.size 0 lo) == items.size) = true then _ else _) _ _ s
  rw [if_neg hno, pick_gen]
  first
    | exact wpAny_bind (m := Builtin.Tuple.tupleExact _) (wpAny_newObj_type (wpAny_pure ⟨_, rfl, wpAny_pure h⟩) htake)
    | exact wpAny_bind (m := Builtin.Tuple.tupleExact _) (wpAny_newObj_type (wpAny_bind (wpAny_pure (wpAny_pure ⟨_, rfl, wpAny_pure h⟩))) htake)
    | exact wpAny_bind (wpAny_bind (m := Builtin.Tuple.tupleExact _) (wpAny_newObj_type (wpAny_pure (wpAny_pure ⟨_, rfl, wpAny_pure h⟩)) htake))
    | exact wpAny_bind (wpAny_bind (m := Builtin.Tuple.tupleExact _) (wpAny_newObj_type (wpAny_pure ⟨_, rfl, wpAny_pure h⟩) htake))
end
end HT

namespace L2
open PySem PySem.Spec PyProof.Rows

/-! ### the parts of a slice -/
abbrev TO := St → Hp → (Option Int → Hp → Prop) → Prop
/-- a slice's part (left out, or an int) -/
def PO (X : Cx) (e : Option Expr) (t : TO) : Prop :=
  ∀ (pins : List (Addr × Obj)) (s : Shared) (σ : St) (H : Hp) (Q : Option Int → Hp → Prop), Inv X pins σ H s → t σ H Q →
    wpAny (model X.prog X.w) X.A (evalPart e X.env) (fun u s' => ∃ o H', Inv X pins σ H' s' ∧ IsPart u o ∧ Q o H') X.xe s
def tNoPart : TO := fun _ H Q => Q none H
def tPart (t : TE) : TO := fun σ H Q => t σ H fun x H1 => ∃ i, x = .int i ∧ Q (some i) H1

section
variable {X : Cx} {e : Expr} {te : TE} {lo hi : Option Expr} {tl th : TO} {pos p2 : Pos}

theorem po_none : PO X none tNoPart := by
  intro pins s σ H Q I h
  rw [evalPart_none]
  exact wpAny_pure ⟨none, H, I, .none, h⟩
theorem po_some (h : PE X e te) : PO X (some e) (tPart te) := by
  intro pins s σ H Q I hw
  rw [evalPart_some]
  refine thn (h pins s σ H _ I hw) fun u s1 ⟨x, H1, I1, r1, q1⟩ => ?_
  obtain ⟨i, rfl, q⟩ := q1
  obtain ⟨t, rfl⟩ := r1
  exact ⟨some i, H1, I1, .int i t, q⟩

/-- what a slice of a value is, by values: the slice object stands at sl -/
def SlR (X : Cx) (r : V → Option Int → Option Int → Hp → VK → Prop) : Prop :=
  ∀ (pins : List (Addr × Obj)) (s : Shared) (σ : St) (H : Hp) (x : V) (v vl vu : Value) (lo hi : Option Int) (sl : Addr) (Q : VK), Inv X pins σ H s → RelV x v → s.heap.IsSliceOf sl vl vu .none → IsPart vl lo → IsPart vu hi → r x lo hi H Q →
    ∃ T id, typeLookup (.type T) "__getitem__" = pure (some (.builtin id)) ∧ s.TypeIs v T ∧ wpAny (model X.prog X.w) X.A (getItem v (.ref sl)) (EP X pins σ Q) X.xe s
theorem SlR.or {r r' : V → Option Int → Option Int → Hp → VK → Prop} (h : SlR X r) (h' : SlR X r') : SlR X (fun x lo hi H Q => r x lo hi H Q ∨ r' x lo hi H Q) := by
  intro pins s σ H x v vl vu lo hi sl Q I rx hs pl pu q
  rcases q with q | q
  · exact h pins s σ H x v vl vu lo hi sl Q I rx hs pl pu q
  · exact h' pins s σ H x v vl vu lo hi sl Q I rx hs pl pu q
def tSl (r : V → Option Int → Option Int → Hp → VK → Prop) (te : TE) (tl th : TO) : TE := fun σ H Q => te σ H fun x H1 => tl σ H1 fun l H2 => th σ H2 fun u H3 => r x l u H3 Q
/-- a[lo:hi], any a -/
theorem pe_slice {r : V → Option Int → Option Int → Hp → VK → Prop} (hr : SlR X r) (he : PE X e te) (hl : PO X lo tl) (hu : PO X hi th) : PE X (.Subscript e (.Slice lo hi none p2) pos) (tSl r te tl th) := by
  intro pins s σ H Q I h
  refine Subscript_ (thn (he pins s σ H _ I h) fun v s1 ⟨x, H1, I1, r1, q1⟩ => ?_)
  refine wpAny_Slice (thn (hl pins s1 σ H1 _ I1 q1) fun vl s2 ⟨l, H2, I2, pl, q2⟩ => thn (hu pins s2 σ H2 _ I2 q2) fun vu s3 ⟨u, H3, I3, pu, q3⟩ => ?_)
  rw [evalPart_none]
  refine wpAny_pure ?_
  have I4 : Inv X pins σ H3 { s3 with heap := s3.heap.push { cls := .type "slice", data := .fields #[vl, vu, .none] } } := I3.kept (t' := s3.toks) fun b ob q => Heap.get?_push_of_some _ q
  obtain ⟨T, id, hT, ht, hg⟩ := hr pins { s3 with heap := s3.heap.push { cls := .type "slice", data := .fields #[vl, vu, .none] } } σ H3 x v vl vu l u s3.heap.objs.size Q I4 r1 (Heap.IsSliceOf.new ..) pl pu q3
  show wpAny (model X.prog X.w) X.A (subscriptTail e (.Slice lo hi none p2) v (.ref s3.heap.objs.size)) (EP X pins σ Q) X.xe { s3 with heap := s3.heap.push { cls := .type "slice", data := .fields #[vl, vu, .none] } }
  exact tail_any (ops := [.ref s3.heap.objs.size, v]) ht hT hg (by with_unfolding_all rfl)

/-- the items of xs[lo:hi] -/
def cutV (xs : List V) (lo hi : Option Int) : List V := (xs.drop (HT.sIx xs.length 0 lo)).take (HT.sIx xs.length xs.length hi - HT.sIx xs.length 0 lo)
theorem cutV_length (xs : List V) (lo hi : Option Int) : (cutV xs lo hi).length ≤ xs.length := by
  unfold cutV
  rw [List.length_take, List.length_drop]
  omega
/-- t[lo:hi], not the whole of it (the whole would be t itself) -/
def rSlT (K : PySem.W.Frag) : V → Option Int → Option Int → Hp → VK → Prop := fun x lo hi H Q => ∃ a xs, x = .ref a ∧ SqT K H a xs ∧
  ¬ (HT.sIx xs.length 0 lo = 0 ∧ HT.sIx xs.length xs.length hi = xs.length) ∧ ∀ p, H p = none → Q (.ref p) (upd H p (.tup (cutV xs lo hi)))
theorem sl_tup : SlR X (rSlT X.K) := by
  intro pins s σ H x v vl vu lo hi sl Q I rx hs pl pu h
  obtain ⟨a, xs, rfl, hx, hw, q⟩ := h
  cases rx
  obtain ⟨its, r, ht, hz⟩ := I.tuple hx
  have hlen : its.toArray.size = xs.length := by rw [List.size_toArray]; exact r.length.symm
  refine ⟨"tuple", _, PyProof.Rows.slot_tuple_getitem.lookup, ht.typeIs, ?_⟩
  refine HT.getItem_tuple_cut ht hs pl pu (by rw [hlen]; exact hw) ?_ (by rw [hlen]; exact hz)
  rw [hlen]
  refine ⟨.ref s.heap.objs.size, _, I.laid (t' := s.toks) (o := .tup (cutV xs lo hi)) (fun b ob q => Heap.get?_push_of_some _ q) (Nat.le_refl _) ?_, rfl, q _ (I.hok.fresh (Nat.le_refl _))⟩
  exact ⟨Nat.le_trans (cutV_length xs lo hi) hz, _, (r.drop (HT.sIx xs.length 0 lo)).take (HT.sIx xs.length xs.length hi - HT.sIx xs.length 0 lo), IsTup.new _ _⟩

/-! ### t < u, t + u -/
def rLtT (K : PySem.W.Frag) : R2 := fun x y H Q => ∃ a b ns ms, x = .ref a ∧ y = .ref b ∧ SqT K H a (ns.map V.int) ∧ SqT K H b (ms.map V.int) ∧ Q (.bl (HT.lexLt ns ms)) H
/-- t + u, t not empty: u empty gives t itself -/
def rCatT (K : PySem.W.Frag) : R2 := fun x y H Q => ∃ a b xs ys, x = .ref a ∧ y = .ref b ∧ SqT K H a xs ∧ SqT K H b ys ∧ xs ≠ [] ∧ xs.length + ys.length ≤ sizeLine ∧
  (ys = [] → Q (.ref a) H) ∧ (ys ≠ [] → ∀ p, H p = none → Q (.ref p) (upd H p (.tup (xs ++ ys))))
end
end L2

namespace L2
open PySem PySem.Spec PyProof.Rows

/-! ### places -/
/-- the place that an index of any sign means -/
def ixN (n : Nat) (i : Int) : Option Nat := if 0 ≤ i then (if i < n then some i.toNat else none) else if -(n : Int) ≤ i then some (i + n).toNat else none
def atI {α : Type} (xs : List α) (i : Int) : Option α := (ixN xs.length i).bind fun j => xs[j]?
theorem ixN_seq {n : Nat} {i : Int} {j : Nat} (h : ixN n i = some j) : seqIndex? i n = some j ∧ j < n ∧ -(n : Int) ≤ i ∧ i < n := by
  unfold ixN at h
  by_cases h0 : 0 ≤ i
  · rw [if_pos h0] at h
    by_cases h1 : i < n
    · rw [if_pos h1] at h
      have e : i.toNat = j := Option.some.inj h
      exact ⟨by rw [seqIndex_of h0 h1, e], by omega, by omega, h1⟩
    · rw [if_neg h1] at h; cases h
  · rw [if_neg h0] at h
    by_cases h1 : -(n : Int) ≤ i
    · rw [if_pos h1] at h
      have e : (i + n).toNat = j := Option.some.inj h
      exact ⟨by rw [seqIndex_neg (by omega) h1, e], by omega, h1, by omega⟩
    · rw [if_neg h1] at h; cases h
theorem atI_get {α : Type} {xs : List α} {i : Int} {v : α} (h : atI xs i = some v) : ∃ j, seqIndex? i xs.length = some j ∧ xs[j]? = some v ∧ j < xs.length ∧ -(xs.length : Int) ≤ i ∧ i < xs.length := by
  unfold atI at h
  cases e : ixN xs.length i with
  | none => rw [e] at h; cases h
  | some j =>
    rw [e] at h
    obtain ⟨h1, h2, h3, h4⟩ := ixN_seq e
    exact ⟨j, h1, h, h2, h3, h4⟩
theorem atI_nat {α : Type} {xs : List α} {j : Nat} {v : α} (h : xs[j]? = some v) : atI xs (j : Int) = some v := by
  have hj : j < xs.length := (List.getElem?_eq_some_iff.mp h).1
  have e : ixN xs.length (j : Int) = some j := by
    unfold ixN
    rw [if_pos (by omega), if_pos (by omega)]; simp
  unfold atI; rw [e]; exact h
theorem atI_last {α : Type} (xs : List α) (v : α) : atI (xs ++ [v]) (-1) = some v := by
  have hl : (xs ++ [v]).length = xs.length + 1 := by simp
  have e : ixN (xs ++ [v]).length (-1) = some xs.length := by
    unfold ixN
    rw [hl, if_neg (by decide), if_pos (by omega)]
    congr 1
    omega
  unfold atI
  rw [e]
  show (xs ++ [v])[xs.length]? = some v
  simp

/-! ### what may be subscripted -/
/-- what stands as an index of a plain subscript -/
def PlainIx (b : Expr) : Prop := ∀ o i, subscripted b false o i = operate [o, i] (getItem o i)
/-- a subscript by values -/
def IxR (X : Cx) (r : R2) : Prop :=
  ∀ (value slice : Expr) (pins : List (Addr × Obj)) (s : Shared) (σ : St) (H : Hp) (x y : V) (v u : Value) (Q : VK), Inv X pins σ H s → RelV x v → RelV y u → r x y H Q →
    subscripted slice false v u = operate [v, u] (getItem v u) → wpAny (model X.prog X.w) X.A (subscriptTail value slice v u) (EP X pins σ Q) X.xe s
/-- a call of a builtin's method by values: the receiver, the arguments -/
def MtR (X : Cx) (id : String) (r : V → List V → Hp → VK → Prop) : Prop :=
  ∀ (pins : List (Addr × Obj)) (s : Shared) (σ : St) (H : Hp) (x : V) (xs : List V) (v : Value) (us : List Value) (Q : VK), Inv X pins σ H s → RelV x v → Vals xs us → r x xs H Q →
    wpAny (model X.prog X.w) X.A (call (.builtin id) (v :: us)) (EP X pins σ Q) X.xe s
section
variable {X : Cx} {a b : Expr} {ta tb : TE} {pos : Pos}
theorem IxR.or {r r' : R2} (h : IxR X r) (h' : IxR X r') : IxR X (fun x y H Q => r x y H Q ∨ r' x y H Q) := by
  intro value slice pins s σ H x y v u Q I rx ry q hs
  rcases q with q | q
  · exact h value slice pins s σ H x y v u Q I rx ry q hs
  · exact h' value slice pins s σ H x y v u Q I rx ry q hs
theorem MtR.or {id : String} {r r' : V → List V → Hp → VK → Prop} (h : MtR X id r) (h' : MtR X id r') : MtR X id (fun x xs H Q => r x xs H Q ∨ r' x xs H Q) := by
  intro pins s σ H x xs v us Q I rx rs q
  rcases q with q | q
  · exact h pins s σ H x xs v us Q I rx rs q
  · exact h' pins s σ H x xs v us Q I rx rs q
/-- a[b] -/
theorem pe_ix {r : R2} (hr : IxR X r) (ha : PE X a ta) (hb : PE X b tb) (hs : PlainIx b) : PE X (.Subscript a b pos) (tOp r ta tb) := by
  intro pins s σ H Q I h
  exact Subscript_ (binT ha hb I h fun v u s2 x y H2 I2 rx ry q => hr a b pins s2 σ H2 x y v u Q I2 rx ry q (hs _ _))

def rIxL (K : PySem.W.Frag) : R2 := fun x y H Q => ∃ p xs i v, x = .ref p ∧ y = .int i ∧ SqL K H p xs ∧ atI xs i = some v ∧ Q v H
def rIxT (K : PySem.W.Frag) : R2 := fun x y H Q => ∃ p xs i v, x = .ref p ∧ y = .int i ∧ SqT K H p xs ∧ atI xs i = some v ∧ Q v H
def rIxS : R2 := fun x y H Q => ∃ z i c, x = .str z ∧ y = .int i ∧ z.length ≤ sizeLine ∧ atI z.cps.toList i = some c ∧ Q (.str ⟨#[c]⟩) H
theorem ix_list : IxR X (rIxL X.K) := by
  intro value slice pins s σ H x y v u Q I rx ry h hs
  obtain ⟨p, xs, i, z, rfl, rfl, hq, he, q⟩ := h
  cases rx
  obtain ⟨t, rfl⟩ := ry
  obtain ⟨its, r, pl, hz⟩ := I.list hq
  obtain ⟨j, h1, h2, h3, h4, h5⟩ := atI_get he
  obtain ⟨w, ew, rw'⟩ := r.get h2
  have hl := r.length
  have hn := line63
  have fin : EP X pins σ Q w s := ⟨z, H, I, rw', q⟩
  by_cases h0 : 0 ≤ i
  · have hj : i.toNat = j := by
      rw [seqIndex_of h0 h5] at h1
      exact Option.some.inj h1
    exact item_listR pl.isList h0 (by omega) (by rw [hj]; simpa using ew) fin hs
  · have hj : (i + (its.toArray.size : Int)).toNat = j := by
      rw [seqIndex_neg (by omega) h4] at h1
      rw [List.size_toArray, ← hl]
      exact Option.some.inj h1
    exact subscriptTail_builtinR (x := w) pl.isList.typeIs slot_list_getitem.lookup
      (wpAny_getItem_list_neg (Q := fun r s' => r = w ∧ EP X pins σ Q r s') pl.isList (by omega) (by rw [List.size_toArray] <;> omega) (by omega) (by rw [hj]; simpa using ew) ⟨rfl, fin⟩) hs
theorem ix_tup : IxR X (rIxT X.K) := by
  intro value slice pins s σ H x y v u Q I rx ry h hs
  obtain ⟨p, xs, i, z, rfl, rfl, hq, he, q⟩ := h
  cases rx
  obtain ⟨t, rfl⟩ := ry
  obtain ⟨its, r, pl, hz⟩ := I.tuple hq
  obtain ⟨j, h1, h2, h3, h4, h5⟩ := atI_get he
  obtain ⟨w, ew, rw'⟩ := r.get h2
  have hl := r.length
  have hn := line63
  have fin : EP X pins σ Q w s := ⟨z, H, I, rw', q⟩
  exact subscriptTail_builtinR (x := w) pl.typeIs slot_tuple_getitem.lookup
    (getItem_tuple (j := j) (Q := fun r s' => r = w ∧ EP X pins σ Q r s') pl (by omega) (by omega) (by rw [List.size_toArray, ← hl]; exact h1) (by simpa using ew) ⟨rfl, fin⟩) hs
theorem ix_str : IxR X rIxS := by
  intro value slice pins s σ H x y v u Q I rx ry h hs
  obtain ⟨z, i, c, rfl, rfl, hz, he, q⟩ := h
  obtain ⟨t, rfl⟩ := rx
  obtain ⟨t', rfl⟩ := ry
  obtain ⟨j, h1, h2, h3, h4, h5⟩ := atI_get he
  have hl : z.cps.toList.length = z.length := by simp [Str.length]
  rw [hl] at h1 h4 h5
  have hn := line63
  exact tail_any (typeIs_str s z t) slot_str_getitem.lookup (getItem_str (c := c) (by
    have e1 : decide (i < -(2 ^ 63 : Int)) = false := decide_eq_false (by omega)
    have e2 : decide (i ≥ 2 ^ 63) = false := decide_eq_false (by omega)
    rw [e1, e2, Bool.or_false]) (by rw [h1]; simpa using h2) ⟨.str ⟨#[c]⟩, H, I.tok _, ⟨_, rfl⟩, q⟩) hs
/-- list, tuple or str -/
def rIx (K : PySem.W.Frag) : R2 := fun x y H Q => rIxL K x y H Q ∨ rIxT K x y H Q ∨ rIxS x y H Q
/-! ### xs[i] = v, any sign -/
/-- the list's object behind a store -/
theorem mapSeq_set (its : List Value) (n j : Nat) (u : Value) : Obj.mapSeq (·.setIfInBounds j u) { cls := .type "list", data := .seq its.toArray n } = { cls := .type "list", data := .seq (its.set j u).toArray n } := by
  simp [Obj.mapSeq]
theorem Inv.lst {pins : List (Addr × Obj)} {σ : St} {H : Hp} {s : Shared} {p : Addr} {xs : List V} (I : Inv X pins σ H s) (h : H p = some (.lst xs)) :
    ∃ (its : List Value) (n : Nat), Vals xs its ∧ s.heap.get? p = some { cls := .type "list", data := .seq its.toArray n } ∧ xs.length ≤ sizeLine := by
  obtain ⟨z, its, n, r, e⟩ := I.hok p _ h
  exact ⟨its, n, r, e, z⟩
/-- the list at p is written by an update of its object -/
theorem Inv.lstUpd {pins : List (Addr × Obj)} {σ : St} {H : Hp} {s : Shared} {p : Addr} {xs ys : List V} {its its' : List Value} {n n' : Nat} {f : Obj → Obj} (I : Inv X pins σ H s) (h : H p = some (.lst xs))
    (ho : s.heap.get? p = some { cls := .type "list", data := .seq its.toArray n }) (hf : f { cls := .type "list", data := .seq its.toArray n } = { cls := .type "list", data := .seq its'.toArray n' }) (r : Vals ys its') (hz : ys.length ≤ sizeLine) (t : Nat) :
    Inv X pins σ (upd H p (.lst ys)) { s with heap := s.heap.update p f, toks := t } := by
  have e : (s.heap.update p f).get? p = some { cls := .type "list", data := .seq its'.toArray n' } := by
    rw [Heap.get?_update_self f ho (by rw [hf] <;> rfl), hf]
  refine I.write (x := p) (e := p) (by rw [h]; trivial) (.inl rfl) (fun b u hb q => (Heap.get?_update_other _ _ (Ne.symm hb)).trans q) ⟨_, e⟩ ?_
  exact ⟨hz, its', n', r, e⟩
def rSetL : V → V → V → Hp → (Hp → Prop) → Prop := fun o i v H Q => ∃ p xs k j, o = .ref p ∧ i = .int k ∧ H p = some (.lst xs) ∧ ixN xs.length k = some j ∧ Q (upd H p (.lst (xs.set j v)))
theorem set_list : PSet X rSetL := by
  intro pins s σ H o i v ov iv u Q I ro ri rv h
  obtain ⟨p, xs, k, j, rfl, rfl, hp, hj, q⟩ := h
  cases ro
  obtain ⟨t, rfl⟩ := ri
  obtain ⟨its, n, r, ho, hz⟩ := I.lst hp
  obtain ⟨h1, h2, h3, h4⟩ := ixN_seq hj
  have hl := r.length
  have hn := line63
  have I' : Inv X pins σ (upd H p (.lst (xs.set j v))) { s with heap := s.heap.update p (Obj.mapSeq (·.setIfInBounds j u)) } :=
    I.lstUpd hp ho (mapSeq_set its n j u) (r.set rv j) (by rw [List.length_set]; exact hz) s.toks
  by_cases h0 : 0 ≤ k
  · have hk : k.toNat = j := by
      rw [seqIndex_of h0 h4] at h1
      exact Option.some.inj h1
    exact PySem.W.ki_setAt ho h0 (by omega) (by rw [List.size_toArray, ← hl]; exact h4) (by rw [hk]; exact ⟨_, I', q⟩)
  · have hk : (k + (its.toArray.size : Int)).toNat = j := by
      rw [seqIndex_neg (by omega) h3] at h1
      rw [List.size_toArray, ← hl]
      exact Option.some.inj h1
    exact PySem.W.ki_setBack ho (by omega) (by rw [List.size_toArray, ← hl]; exact h3) (by omega) (by rw [hk]; exact ⟨_, I', q⟩)

/-! ### slices -/
theorem slice_bounds (lo hi : Option Int) (n : Nat) : (sliceBounds lo hi none n).1 = ((HT.sIx n 0 lo : Nat) : Int) ∧ (sliceBounds lo hi none n).2.1 = ((HT.sIx n n hi : Nat) : Int) ∧ (sliceBounds lo hi none n).2.2 = 1 := by
  refine ⟨?_, ?_, rfl⟩
  · cases lo with
    | none => simp [sliceBounds, HT.sIx]
    | some i =>
      simp only [sliceBounds, HT.sIx, Option.getD_none, show (1 : Int) > 0 by decide, if_true]
      by_cases h : i < 0
      · simp only [h, if_true] <;> omega
      · simp only [h, if_false] <;> omega
  · cases hi with
    | none => simp [sliceBounds, HT.sIx]
    | some i =>
      simp only [sliceBounds, HT.sIx, Option.getD_none, show (1 : Int) > 0 by decide, if_true]
      by_cases h : i < 0
      · simp only [h, if_true] <;> omega
      · simp only [h, if_false] <;> omega
theorem slicePick_cut (its : List Value) (lo hi : Option Int) : slicePick its.toArray lo hi none = ((its.drop (HT.sIx its.length 0 lo)).take (HT.sIx its.length its.length hi - HT.sIx its.length 0 lo)).toArray := by
  obtain ⟨h1, h2, h3⟩ := slice_bounds lo hi its.toArray.size
  unfold slicePick
  rw [h1, h2, h3]
  simp only [sliceRange_one, pick_run, List.size_toArray] <;> rfl
/-- xs[lo:hi] of a list: a new list -/
def rSlL (K : PySem.W.Frag) : V → Option Int → Option Int → Hp → VK → Prop := fun x lo hi H Q => ∃ a xs, x = .ref a ∧ SqL K H a xs ∧ ∀ p, H p = none → Q (.ref p) (upd H p (.lst (cutV xs lo hi)))
theorem sl_list : SlR X (rSlL X.K) := by
  intro pins s σ H x v vl vu lo hi sl Q I rx hs pl pu h
  obtain ⟨a, xs, rfl, hx, q⟩ := h
  cases rx
  obtain ⟨its, r, ht, hz⟩ := I.list hx
  have hlen := r.length
  refine ⟨"list", _, slot_list_getitem.lookup, ht.isList.typeIs, ?_⟩
  refine wpAny_getItem_list_slice ht.isList hs pl pu .none (by simp) ?_ (by rw [List.size_toArray] <;> omega)
  rw [slicePick_cut, ← hlen]
  refine ⟨.ref s.heap.objs.size, _, I.laid (t' := s.toks) (o := .lst (cutV xs lo hi)) (fun b ob q => Heap.get?_push_of_some _ q) (Nat.le_refl _) ?_, rfl, q _ (I.hok.fresh (Nat.le_refl _))⟩
  exact ⟨Nat.le_trans (cutV_length xs lo hi) hz, _, 0, (r.drop (HT.sIx xs.length 0 lo)).take (HT.sIx xs.length xs.length hi - HT.sIx xs.length 0 lo), Heap.get?_push_size _ rfl⟩

/-! ### in, not in: flat items -/
def flatV : V → Bool
  | .non => true
  | .bl _ => true
  | .int _ => true
  | .str _ => true
  | _ => false
/-- == of flat values -/
def eqV : V → V → Bool
  | .non, .non => true
  | .bl a, .bl b => a == b
  | .bl a, .int b => (if a then 1 else 0) == b
  | .int a, .bl b => a == (if b then 1 else 0)
  | .int a, .int b => a == b
  | .str a, .str b => a == b
  | _, _ => false
theorem eqAt_V {A : Around} {s : Shared} {y x : V} {u v : Value} (ry : RelV y u) (rx : RelV x v) (fy : flatV y = true) (fx : flatV x = true) : SeqAt.EqAt A s u v (eqV y x) := by
  cases y with
  | non =>
    cases ry
    cases x with
    | non => cases rx; exact SeqAt.EqAt.same _
    | bl b => cases rx; exact SeqAt.EqAt.none_bool b
    | int b => obtain ⟨t, rfl⟩ := rx; exact SeqAt.EqAt.none_int b t
    | str b => obtain ⟨t, rfl⟩ := rx; exact SeqAt.EqAt.none_str b t
    | _ => exact absurd (show false = true from fx) Bool.false_ne_true
  | bl a =>
    cases ry
    cases x with
    | non => cases rx; exact SeqAt.EqAt.bool_none a
    | bl b => cases rx; exact SeqAt.EqAt.bool_bool a b
    | int b => obtain ⟨t, rfl⟩ := rx; exact SeqAt.EqAt.bool_int a b t
    | str b => obtain ⟨t, rfl⟩ := rx; exact SeqAt.EqAt.bool_str a b t
    | _ => exact absurd (show false = true from fx) Bool.false_ne_true
  | int a =>
    obtain ⟨t', rfl⟩ := ry
    cases x with
    | non => cases rx; exact SeqAt.EqAt.int_none a t'
    | bl b => cases rx; exact SeqAt.EqAt.int_bool a t' b
    | int b => obtain ⟨t, rfl⟩ := rx; exact SeqAt.EqAt.int_int a t' b t
    | str b => obtain ⟨t, rfl⟩ := rx; exact SeqAt.EqAt.int_str a t' b t
    | _ => exact absurd (show false = true from fx) Bool.false_ne_true
  | str a =>
    obtain ⟨t', rfl⟩ := ry
    cases x with
    | non => cases rx; exact SeqAt.EqAt.str_none a t'
    | bl b => cases rx; exact SeqAt.EqAt.str_bool a t' b
    | int b => obtain ⟨t, rfl⟩ := rx; exact SeqAt.EqAt.str_int a t' b t
    | str b => obtain ⟨t, rfl⟩ := rx; exact SeqAt.EqAt.str_str a t' b t
    | _ => exact absurd (show false = true from fx) Bool.false_ne_true
  | _ => exact absurd (show false = true from fy) Bool.false_ne_true
/-- the items' answers, read off the values (a value's own answer does not lean on its token) -/
def eqU (x : V) (u : Value) : Bool := match u with
  | .none => eqV .non x
  | .bool b => eqV (.bl b) x
  | .int i _ => eqV (.int i) x
  | .str z _ => eqV (.str z) x
  | _ => false
theorem eqU_of {x y : V} {u : Value} (r : RelV y u) (f : flatV y = true) : eqU x u = eqV y x := by
  cases y with
  | non => cases r; rfl
  | bl b => cases r; rfl
  | int i => obtain ⟨t, rfl⟩ := r; rfl
  | str z => obtain ⟨t, rfl⟩ := r; rfl
  | _ => exact absurd (show false = true from f) Bool.false_ne_true
theorem any_eqU {x : V} : ∀ {xs : List V} {us : List Value}, Vals xs us → xs.all flatV = true → us.any (eqU x) = xs.any fun y => eqV y x
  | _, _, .nil, _ => rfl
  | y :: xs, u :: us, .cons r t, f => by
    rw [List.all_cons, Bool.and_eq_true] at f
    rw [List.any_cons, List.any_cons, eqU_of r f.1, any_eqU t f.2]
theorem mem_eqAt {A : Around} {s : Shared} {x : V} {v : Value} (rx : RelV x v) (fx : flatV x = true) : ∀ {xs : List V} {us : List Value}, Vals xs us → xs.all flatV = true → ∀ u ∈ us, SeqAt.EqAt A s u v (eqU x u)
  | _, _, .nil, _ => fun u hu => by cases hu
  | y :: xs, u :: us, .cons r t, f => fun u' hu => by
    rw [List.all_cons, Bool.and_eq_true] at f
    rcases List.mem_cons.mp hu with rfl | hu
    · rw [eqU_of r f.1]; exact eqAt_V r rx f.1 fx
    · exact mem_eqAt rx fx t f.2 u' hu
def inV (x : V) (xs : List V) : Bool := xs.any fun y => eqV y x
/-- x in a list or tuple of flat items -/
def rIn (K : PySem.W.Frag) (neg : Bool) : R2 := fun x y H Q => ∃ p xs, y = .ref p ∧ (SqL K H p xs ∨ SqT K H p xs) ∧ flatV x = true ∧ xs.all flatV = true ∧ Q (.bl (if neg then !inV x xs else inV x xs)) H
theorem op_in_seq : OpR X (compareOp .In) (rIn X.K false) := by
  intro pins s σ H x y v u Q I rx ry h
  obtain ⟨p, xs, rfl, hq, fx, fs, q⟩ := h
  cases ry
  rcases hq with hq | hq
  · obtain ⟨its, r, pl, hz⟩ := I.list hq
    refine SeqAt.in_listAt (eqU x) pl.isList (fun w hw => mem_eqAt rx fx r fs w (by simpa using hw)) ⟨.bl _, H, I, rfl, ?_⟩
    rw [show its.toArray.any (eqU x) = its.any (eqU x) by simp, any_eqU r fs]
    exact q
  · obtain ⟨its, r, pl, hz⟩ := I.tuple hq
    refine SeqAt.in_tupleAt (eqU x) pl (fun w hw => mem_eqAt rx fx r fs w (by simpa using hw)) ⟨.bl _, H, I, rfl, ?_⟩
    rw [show its.toArray.any (eqU x) = its.any (eqU x) by simp, any_eqU r fs]
    exact q
theorem op_notIn_seq : OpR X (compareOp .NotIn) (rIn X.K true) := by
  intro pins s σ H x y v u Q I rx ry h
  obtain ⟨p, xs, rfl, hq, fx, fs, q⟩ := h
  cases ry
  rcases hq with hq | hq
  · obtain ⟨its, r, pl, hz⟩ := I.list hq
    refine SeqAt.notIn_listAt (eqU x) pl.isList (fun w hw => mem_eqAt rx fx r fs w (by simpa using hw)) ⟨.bl _, H, I, rfl, ?_⟩
    rw [show its.toArray.any (eqU x) = its.any (eqU x) by simp, any_eqU r fs]
    exact q
  · obtain ⟨its, r, pl, hz⟩ := I.tuple hq
    refine SeqAt.notIn_tupleAt (eqU x) pl (fun w hw => mem_eqAt rx fx r fs w (by simpa using hw)) ⟨.bl _, H, I, rfl, ?_⟩
    rw [show its.toArray.any (eqU x) = its.any (eqU x) by simp, any_eqU r fs]
    exact q
/-! ### len, list(x), tuple(x) of any list or tuple that is read -/
theorem call_len_seq : CallR X (.builtin "len") (fun xs H Q => ∃ p ys, xs = [.ref p] ∧ (SqL X.K H p ys ∨ SqT X.K H p ys) ∧ Q (.int ys.length) H) := by
  intro pins s σ H xs us Q I r h
  obtain ⟨p, ys, rfl, hq, q⟩ := h
  obtain ⟨u, rfl, rx⟩ := vals1 r
  cases rx
  have hn := line63
  rcases hq with hq | hq
  · obtain ⟨its, r', pl, hz⟩ := I.list hq
    have hlen := r'.length
    exact Calls.call_len_list pl.isList (by simp only [List.size_toArray] <;> omega) ⟨.int ys.length, H, I.tok _, ⟨s.toks + 1, by rw [List.size_toArray, hlen]⟩, q⟩
  · obtain ⟨its, r', pl, hz⟩ := I.tuple hq
    have hlen := r'.length
    exact len_tuple pl (by simp only [List.size_toArray] <;> omega) ⟨.int ys.length, H, I.tok _, ⟨s.toks + 1, by rw [List.size_toArray, hlen]⟩, q⟩
theorem CallR.or {f : Value} {r r' : List V → Hp → VK → Prop} (h : CallR X f r) (h' : CallR X f r') : CallR X f (fun xs H Q => r xs H Q ∨ r' xs H Q) := by
  intro pins s σ H xs us Q I rs q
  rcases q with q | q
  · exact h pins s σ H xs us Q I rs q
  · exact h' pins s σ H xs us Q I rs q
theorem call_list_of : CallR X (.type "list") (fun xs H Q => ∃ p ys, xs = [.ref p] ∧ (SqL X.K H p ys ∨ SqT X.K H p ys) ∧ ∀ l, H l = none → Q (.ref l) (upd H l (.lst ys))) := by
  intro pins s σ H xs us Q I r h
  obtain ⟨p, ys, rfl, hq, q⟩ := h
  obtain ⟨u, rfl, rx⟩ := vals1 r
  cases rx
  have fin : ∀ (its : List Value), Vals ys its → ys.length ≤ sizeLine → ∀ (h' : Heap) (c' : Nat), (∀ b o', s.heap.get? b = some o' → h'.get? b = some o') →
      h'.get? s.heap.objs.size = some { cls := .type "list", dict := none, data := .seq its.toArray c', slots := #[] } → EP X pins σ Q (.ref s.heap.objs.size) { s with heap := h' } := fun its r' hz h' c' kp e =>
    ⟨.ref s.heap.objs.size, _, I.laid (t' := s.toks) kp (Nat.le_refl _) (show ObjOk X.prog X.w _ h' _ (.lst ys) from ⟨hz, its, c', r', e⟩), rfl, q _ (I.hok.fresh (Nat.le_refl _))⟩
  rcases hq with hq | hq
  · obtain ⟨its, r', pl, hz⟩ := I.list hq
    have hlen := r'.length
    obtain ⟨o, ho, hc, n, hd⟩ := pl.isList
    exact call_list_seq p (.inl rfl) ho hc hd (fun h' c' kp e => fin its r' hz h' c' kp e) (by simp only [List.size_toArray] <;> omega)
  · obtain ⟨its, r', pl, hz⟩ := I.tuple hq
    have hlen := r'.length
    obtain ⟨o, ho, hc, n, hd⟩ := pl
    exact call_list_seq p (.inr rfl) ho hc hd (fun h' c' kp e => fin its r' hz h' c' kp e) (by simp only [List.size_toArray] <;> omega)
theorem call_tuple_of : CallR X (.type "tuple") (fun xs H Q => ∃ p ys, xs = [.ref p] ∧ ((SqL X.K H p ys ∧ ∀ l, H l = none → Q (.ref l) (upd H l (.tup ys))) ∨ (SqT X.K H p ys ∧ Q (.ref p) H))) := by
  intro pins s σ H xs us Q I r h
  obtain ⟨p, ys, rfl, h⟩ := h
  obtain ⟨u, rfl, rx⟩ := vals1 r
  cases rx
  rcases h with ⟨hq, q⟩ | ⟨hq, q⟩
  · obtain ⟨its, r', pl, hz⟩ := I.list hq
    have hlen := r'.length
    refine call_tuple_list pl.isList (fun h' kp => ?_) (by simp only [List.size_toArray] <;> omega)
    have I1 : Inv X pins σ H { s with heap := h' } := I.kept (t' := s.toks) kp
    have I2 : Inv X pins σ (upd H h'.objs.size (.tup ys)) { s with heap := h'.push { cls := .type "tuple", data := .seq its.toArray } } :=
      I1.laid (t' := s.toks) (fun b o e => Heap.get?_push_of_some _ e) (Nat.le_refl _) (show ObjOk X.prog X.w _ _ _ (.tup ys) from ⟨hz, its, r', IsTup.new _ _⟩)
    exact ⟨.ref h'.objs.size, _, I2, rfl, q _ (I1.hok.fresh (Nat.le_refl _))⟩
  · obtain ⟨its, r', pl, hz⟩ := I.tuple hq
    exact call_tuple_same pl ⟨.ref p, H, I, rfl, q⟩

/-! ### the call of a builtin's method: o.m(..) -/
/-- the value is of that builtin type -/
def tyV (K : PySem.W.Frag) (T : String) (x : V) (H : Hp) : Prop := match x with
  | .str _ => T = "str"
  | .int _ => T = "int"
  | .ref p => (T = "list" ∧ ∃ xs, SqL K H p xs) ∨ (T = "tuple" ∧ ∃ o, K.lookup p = some o ∧ o.cls = .type "tuple" ∧ o.dict = none) ∨
      (T = "dict" ∧ ((∃ kvs, H p = some (.dK kvs)) ∨ ∃ kvs, H p = some (.dT kvs))) ∨ (T = "set" ∧ ∃ S n, H p = some (.set S n))
  | _ => False
theorem tyV_is {pins : List (Addr × Obj)} {σ : St} {H : Hp} {s : Shared} {T : String} {x : V} {v : Value} (I : Inv X pins σ H s) (r : RelV x v) (ty : tyV X.K T x H) :
    s.TypeIs v T ∧ ∀ a, v = .ref a → ∃ ob, s.heap.get? a = some ob ∧ ob.dict = none := by
  cases x with
  | str z =>
    obtain ⟨t, rfl⟩ := r
    cases (show T = "str" from ty)
    exact ⟨typeIs_str s z t, fun _ e => nomatch e⟩
  | int i =>
    obtain ⟨t, rfl⟩ := r
    cases (show T = "int" from ty)
    exact ⟨typeIs_int s i t, fun _ e => nomatch e⟩
  | ref p =>
    cases r
    rcases ty with ⟨rfl, xs, hq⟩ | ⟨rfl, o, hk, hc, hd⟩ | ⟨rfl, hk⟩ | ⟨rfl, S, n, hk⟩
    · obtain ⟨its, _, pl, _⟩ := I.list hq
      refine ⟨pl.isList.typeIs, fun a e => ?_⟩
      cases e
      obtain ⟨o, n, e, c, hd, _⟩ := pl
      exact ⟨o, e, hd⟩
    · refine ⟨⟨o, I.kIn p o hk, hc⟩, fun a e => ?_⟩
      cases e
      exact ⟨o, I.kIn _ o hk, hd⟩
    · have z : ∃ o, s.heap.get? p = some o ∧ o.ExactDict := by
        rcases hk with ⟨kvs, hk⟩ | ⟨kvs, hk⟩
        · obtain ⟨_, _, _, _, o, _, _, e, ex, _⟩ := I.hok p _ hk
          exact ⟨o, e, ex⟩
        · obtain ⟨_, _, _, _, o, _, _, e, ex, _⟩ := I.hok p _ hk
          exact ⟨o, e, ex⟩
      obtain ⟨o, e, ex⟩ := z
      refine ⟨⟨o, e, ex.1⟩, fun a e2 => ?_⟩
      cases e2
      exact ⟨o, e, ex.2.1⟩
    · obtain ⟨o, _, _, _, e, ex, _⟩ := I.hok p _ hk
      refine ⟨⟨o, e, ex.1⟩, fun a e2 => ?_⟩
      cases e2
      exact ⟨o, e, ex.2.1⟩
  | _ => exact False.elim ty
def tBM0 (K : PySem.W.Frag) (T : String) (r : V → List V → Hp → VK → Prop) (to : TE) : TE := fun σ H Q => to σ H fun x H1 => tyV K T x H1 ∧ r x [] H1 Q
def tBM (K : PySem.W.Frag) (T : String) (r : V → List V → Hp → VK → Prop) (to : TE) (t : TA) : TE := fun σ H Q => to σ H fun x H1 => tyV K T x H1 ∧ t σ H1 fun xs H2 => r x xs H2 Q
variable {o e : Expr} {es : List Expr} {to : TE} {t : TA} {name : Str} {apos cpos : Pos} {T id : String} {r : V → List V → Hp → VK → Prop}
theorem pe_bm (pa : PlainAttrs T) (slot : Slot T name id) (hty : typeOf (.builtin id) = pure (.type "method_descriptor")) (hm : MtR X id r) (ho : PE X o to) (ha : PA X (e :: es) t)
    (hbase : attributeBase o name X.env (eval o X.env) = eval o X.env := by rfl)
    (hfew : ((backTo cpos (starEach (e :: es) X.env)).all (fun x => !x.1) && (backToKw cpos (keywordEach [] X.env)).all (fun x => x.1.isSome)
      && decide ((e :: es).length + ([] : List Keyword).length + (if ([] : List Keyword).isEmpty then 0 else 1) < 30)) = true := by rfl)
    (hline : (apos.endLine == cpos.line) = true := by rfl) (hs : starEach (e :: es) X.env = (false, eval e X.env) :: starEach es X.env := by rfl) (hplain : (backTo cpos (starEach es X.env)).any (·.1) = false := by rfl) :
    PE X (.Call (.Attribute o name apos) (e :: es) [] cpos) (tBM X.K T r to t) := by
  intro pins s σ H Q I h
  refine wpAny_Call_method_late hbase hfew hline rfl (thn (ho pins s σ H _ I h) fun v s1 ⟨x, H1, I1, r1, ty, q1⟩ => ?_)
  obtain ⟨h1, h2⟩ := tyV_is I1 r1 ty
  refine ⟨T, id, pa, slot, hty, h1, h2, ?_⟩
  have hA := ha cpos pins s1 σ H1 _ I1 q1
  rw [hs] at hA ⊢
  refine Calls.callWith_builtin (by show (false || (backTo cpos (starEach es X.env)).any (·.1)) = false; rw [hplain] <;> rfl) (Calls.evalArgs_plain ?_)
  exact thn hA fun us s2 ⟨vs, H2, I2, r2, q2⟩ => hm pins s2 σ H2 x vs v us Q I2 r1 r2 q2
/- xs.append(e), list.index on a module's tuple .. are MtR facts of 06m -/
end
end L2

namespace L2
open PySem PySem.Spec PyProof.Rows

def MtM (X : Cx) (id : String) (r : V → List V → Hp → VK → Prop) : Prop :=
  ∀ (pins : List (Addr × Obj)) (s : Shared) (σ : St) (H : Hp) (x : V) (xs : List V) (v : Value) (us : List Value) (Q : VK), Inv X pins σ H s → RelV x v → Vals xs us → r x xs H Q →
    wpAny (model X.prog X.w) X.A (call (.builtin id) (v :: us)) (EP X pins σ Q) X.xe s

/-! ### lists of values -/
theorem Vals.one : ∀ {x : V} {us : List Value}, Vals [x] us → ∃ u, us = [u] ∧ RelV x u
  | _, _, .cons r .nil => ⟨_, rfl, r⟩
theorem Vals.two : ∀ {x y : V} {us : List Value}, Vals [x, y] us → ∃ u v, us = [u, v] ∧ RelV x u ∧ RelV y v
  | _, _, _, .cons r (.cons q .nil) => ⟨_, _, rfl, r, q⟩
theorem Vals.zero : ∀ {us : List Value}, Vals [] us → us = []
  | _, .nil => rfl
theorem Vals.dropLast {xs : List V} {us : List Value} (h : Vals xs us) : Vals xs.dropLast us.dropLast := by
  induction h with
  | nil => exact .nil
  | cons r t ih =>
    cases t with
    | nil => exact .nil
    | cons q t' => exact .cons r ih
theorem Vals.eraseIdx : ∀ {xs : List V} {us : List Value} (i : Nat), Vals xs us → Vals (xs.eraseIdx i) (us.eraseIdx i)
  | _, _, _, .nil => .nil
  | _, _, 0, .cons _ t => t
  | _, _, i + 1, .cons r t => .cons r (Vals.eraseIdx i t)
theorem Vals.reverse {xs : List V} {us : List Value} (h : Vals xs us) : Vals xs.reverse us.reverse := by
  induction h with
  | nil => exact .nil
  | cons r t ih => rw [List.reverse_cons, List.reverse_cons]; exact Vals.append ih (.cons r .nil)
theorem len_erase {α : Type} : ∀ (l : List α) (i : Nat), (l.eraseIdx i).length ≤ l.length
  | [], _ => Nat.le_refl _
  | _ :: _, 0 => Nat.le_succ _
  | _ :: r, i + 1 => Nat.succ_le_succ (len_erase r i)
section
variable {X : Cx} {pins : List (Addr × Obj)} {σ : St} {H : Hp} {s : Shared} {l b : Addr} {xs ys zs : List V}

/-! ### the two steps: a tracked list is rewritten, a new list is laid -/
theorem Inv.lset {its its' : List Value} {n : Nat} {f : Array Value → Array Value} {t' : Nat} (I : Inv X pins σ H s) (hH : H l = some (.lst xs))
    (e : s.heap.get? l = some { cls := .type "list", data := .seq its.toArray n }) (hf : f its.toArray = its'.toArray) (hv : Vals ys its') (hz : ys.length ≤ sizeLine) :
    Inv X pins σ (upd H l (.lst ys)) { s with heap := s.heap.update l (Obj.mapSeq f), toks := t' } := by
  have q := PySem.IsL.update e f
  rw [hf] at q
  refine I.write (x := l) (e := l) (by rw [hH]; exact trivial) (.inl rfl) (fun b' u hb hu => (Heap.get?_update_other s.heap (Obj.mapSeq f) (Ne.symm hb)).trans hu) ⟨_, q⟩ ?_
  exact ⟨hz, its', _, hv, q⟩
theorem Inv.lnew {its : List Value} {t' : Nat} (I : Inv X pins σ H s) (hv : Vals ys its) (hz : ys.length ≤ sizeLine) :
    Inv X pins σ (upd H s.heap.objs.size (.lst ys)) { s with heap := s.heap.push { cls := .type "list", data := .seq its.toArray }, toks := t' } :=
  I.laid (fun _ _ q => Heap.get?_push_of_some _ q) (Nat.le_refl _) ⟨hz, its, 0, hv, Heap.get?_push_size _ rfl⟩
theorem Inv.fresh (I : Inv X pins σ H s) : H s.heap.objs.size = none := I.hok.fresh (Nat.le_refl _)
theorem Inv.lstM (I : Inv X pins σ H s) (hH : H l = some (.lst xs)) : xs.length ≤ sizeLine ∧ ∃ (its : List Value) (n : Nat), Vals xs its ∧ xs.length = its.length ∧ s.heap.get? l = some { cls := .type "list", data := .seq its.toArray n } := by
  obtain ⟨z, its, n, r, e⟩ := I.hok l _ hH
  exact ⟨z, its, n, r, r.length, e⟩

theorem notLongL {n : Nat} (h : n ≤ sizeLine) : Builtin.List.listTooLong n = false := by
  unfold Builtin.List.listTooLong
  exact decide_eq_false (by omega)
end

section
variable {X : Cx}

/-! ### methods -/
def rAppend : V → List V → Hp → VK → Prop := fun x vs H Q => ∃ l xs y, x = .ref l ∧ vs = [y] ∧ H l = some (.lst xs) ∧ xs.length < sizeLine ∧ Q .non (upd H l (.lst (xs ++ [y])))
theorem mt_append : MtM X "list.append" rAppend := by
  intro pins s σ H x vs v us Q I rx rv h
  obtain ⟨l, xs, y, rfl, rfl, hH, hz, q⟩ := h
  cases rx
  obtain ⟨u, rfl, ru⟩ := rv.one
  obtain ⟨z, its, n, r, hl, e⟩ := I.lstM hH
  refine call_meets F.slot_list_append ⟨_, e, rfl⟩ F.entry_list_append (F.args_list_append_2 _ _) (PySem.list_append l its.toArray n u (by rw [List.size_toArray]; omega)) ⟨e, ?_⟩
  refine ⟨.non, _, I.lset (its' := its ++ [u]) hH e (by simp) (r.append (.cons ru .nil)) ?_, rfl, q⟩
  rw [List.length_append, List.length_singleton]
  omega

def rExtend : V → List V → Hp → VK → Prop := fun x vs H Q => ∃ l b xs zs, x = .ref l ∧ vs = [.ref b] ∧ H l = some (.lst xs) ∧ H b = some (.lst zs) ∧ xs.length + zs.length ≤ sizeLine ∧ Q .non (upd H l (.lst (xs ++ zs)))
theorem mt_extend : MtM X "list.extend" rExtend := by
  intro pins s σ H x vs v us Q I rx rv h
  obtain ⟨l, b, xs, zs, rfl, rfl, hH, hB, hz, q⟩ := h
  cases rx
  obtain ⟨u, rfl, ru⟩ := rv.one
  cases ru
  obtain ⟨z, its, n, r, hl, e⟩ := I.lstM hH
  obtain ⟨z2, its2, n2, r2, hl2, e2⟩ := I.lstM hB
  have hsz : its.toArray.size + its2.toArray.size ≤ sizeLine := by rw [List.size_toArray, List.size_toArray]; omega
  have hlong : ¬ (!its.toArray.isEmpty && Builtin.List.listTooLong (its.toArray.size + its2.toArray.size)) = true := by
    rw [notLongL hsz, Bool.and_false]
    exact Bool.false_ne_true
  refine call_meets F.slot_list_extend ⟨_, e, rfl⟩ F.entry_list_extend (F.args_list_extend_2 _ _)
    (AutoSeq1.list_extend_list_list_0 l its.toArray n b its2.toArray n2 hlong (by rw [List.size_toArray]; omega) (by omega)) ⟨e, e2, ?_⟩
  refine ⟨.non, _, I.lset (its' := its ++ its2) hH e (by simp) (r.append r2) ?_, rfl, q⟩
  rw [List.length_append]
  omega

def rPop : V → List V → Hp → VK → Prop := fun x vs H Q => ∃ l xs y, x = .ref l ∧ vs = [] ∧ H l = some (.lst xs) ∧ xs[xs.length - 1]? = some y ∧ Q y (upd H l (.lst xs.dropLast))
def rPopAt : V → List V → Hp → VK → Prop := fun x vs H Q => ∃ l xs i k y, x = .ref l ∧ vs = [.int i] ∧ H l = some (.lst xs) ∧ -(2 ^ 63) ≤ i ∧ i < 2 ^ 63 ∧ seqIndex? i xs.length = some k ∧ xs[k]? = some y ∧ Q y (upd H l (.lst (xs.eraseIdx k)))
theorem mt_popAt : MtM X "list.pop" rPopAt := by
  intro pins s σ H x vs v us Q I rx rv h
  obtain ⟨l, xs, i, k, y, rfl, rfl, hH, h1, h2, hk, hy, q⟩ := h
  cases rx
  obtain ⟨u, rfl, ru⟩ := rv.one
  obtain ⟨t, rfl⟩ := ru
  obtain ⟨z, its, n, r, hl, e⟩ := I.lstM hH
  obtain ⟨w, hw, rw'⟩ := r.get hy
  refine call_meets F.slot_list_pop ⟨_, e, rfl⟩ F.entry_list_pop (F.args_list_pop_2 _ _)
    (MeetsSeq.list_pop_at l its.toArray n i t k w (fitsIndex_both h1 h2) (by rw [List.size_toArray, ← hl]; exact hk) (by rw [← Array.getElem?_toList]; exact hw) (by rw [List.size_toArray]; omega)) ⟨e, ?_⟩
  refine ⟨y, _, I.lset (its' := its.eraseIdx k) hH e ?_ (r.eraseIdx k) ?_, rw', q⟩
  · show its.toArray.eraseIdxIfInBounds k = (its.eraseIdx k).toArray
    rw [List.eraseIdxIfInBounds_toArray]
  · have := len_erase xs k
    omega

def rReverse : V → List V → Hp → VK → Prop := fun x vs H Q => ∃ l xs, x = .ref l ∧ vs = [] ∧ H l = some (.lst xs) ∧ Q .non (upd H l (.lst xs.reverse))
def rClear : V → List V → Hp → VK → Prop := fun x vs H Q => ∃ l xs, x = .ref l ∧ vs = [] ∧ H l = some (.lst xs) ∧ Q .non (upd H l (.lst []))
/-! ### list + list, list += list, list * int -/
def rCat : R2 := fun x y H Q => ∃ l b xs zs, x = .ref l ∧ y = .ref b ∧ H l = some (.lst xs) ∧ H b = some (.lst zs) ∧ xs.length + zs.length ≤ sizeLine ∧ ∀ p, H p = none → Q (.ref p) (upd H p (.lst (xs ++ zs)))
theorem op_cat : OpR X (binaryOp .Add) rCat := by
  intro pins s σ H x y v u Q I rx ry h
  obtain ⟨l, b, xs, zs, rfl, rfl, hH, hB, hz, q⟩ := h
  cases rx
  cases ry
  obtain ⟨z, its, n, r, hl, e⟩ := I.lstM hH
  obtain ⟨z2, its2, n2, r2, hl2, e2⟩ := I.lstM hB
  refine PySem.P.add_list e e2 ?_ (by rw [List.size_toArray, List.size_toArray]; omega)
  have ea : its.toArray ++ its2.toArray = (its ++ its2).toArray := by simp
  rw [ea]
  exact ⟨.ref _, _, I.lnew (t' := s.toks) (r.append r2) (by rw [List.length_append]; omega), rfl, q _ I.fresh⟩
/-- a list times an int (a negative one is nothing) -/
def rRep : R2 := fun x y H Q => ∃ l k xs, x = .ref l ∧ y = .int k ∧ H l = some (.lst xs) ∧ -(2 ^ 63) ≤ k ∧ k < 2 ^ 63 ∧ xs.length * k.toNat ≤ sizeLine ∧
  ∀ p, H p = none → Q (.ref p) (upd H p (.lst (List.replicate k.toNat xs).flatten))
/-! ### del xs[i] -/
end

/-! ### xs[a:b] = ys -/
section
variable {prog : Program} {w : World} {A : Around} {E : Value → Shared → Prop} {s : Shared}
set_option maxRecDepth 100000 in
end

section
variable {X : Cx}
end
end L2

namespace L2
open PySem PySem.Spec PyProof.Rows

theorem Vals.ints : ∀ {ns : List Int} {us : List Value}, Vals (ns.map V.int) us → IntsAre us ns
  | [], us, h => by
    rw [List.map_nil] at h
    cases h
    exact IntsAre.nil
  | n :: ns, us, h => by
    rw [List.map_cons] at h
    cases h with
    | cons r t =>
      obtain ⟨k, rfl⟩ := r
      exact IntsAre.cons n k (Vals.ints t)
theorem vals_of_ints : ∀ {us : List Value} {ns : List Int}, IntsAre us ns → Vals (ns.map V.int) us
  | _, _, .nil => by rw [List.map_nil]; exact Paired.nil
  | _, _, .cons n t h => by rw [List.map_cons]; exact Paired.cons (show RelV (V.int n) (Value.int n t) from ⟨t, rfl⟩) (vals_of_ints h)
theorem Vals.strs : ∀ {xs : List Str} {us : List Value}, Vals (xs.map V.str) us → StrsAre us xs
  | [], us, h => by
    rw [List.map_nil] at h
    cases h
    exact StrsAre.nil
  | x :: xs, us, h => by
    rw [List.map_cons] at h
    cases h with
    | cons r t =>
      obtain ⟨k, rfl⟩ := r
      exact StrsAre.cons x k (Vals.strs t)
theorem vals_of_strs : ∀ {us : List Value} {xs : List Str}, StrsAre us xs → Vals (xs.map V.str) us
  | _, _, .nil => by rw [List.map_nil]; exact Paired.nil
  | _, _, .cons x t h => by rw [List.map_cons]; exact Paired.cons (show RelV (V.str x) (Value.str x t) from ⟨t, rfl⟩) (vals_of_strs h)
theorem Vals.bls : ∀ {bs : List Bool} {us : List Value}, Vals (bs.map V.bl) us → us = bs.map Value.bool
  | [], us, h => by
    rw [List.map_nil] at h
    cases h
    rfl
  | b :: bs, us, h => by
    rw [List.map_cons] at h
    cases h with
    | cons r t =>
      cases r
      rw [Vals.bls t, List.map_cons]
theorem Vals.ref1 {a : Addr} {us : List Value} (r : Vals [V.ref a] us) : us = [Value.ref a] := by
  cases r with
  | cons r t =>
    cases t
    cases r
    rfl
/-! ### the library's walks over a list of ints, kept objects alone -/
section
variable {prog : Program} {w : World} {A : Around} {E : Value → Shared → Prop} {s : Shared} {l : Addr} {its : List Value} {ns : List Int} {Q : Value → Shared → Prop}
theorem sum_raw (hh : A.handled = none) (hl : s.heap.IsList l its.toArray) (hi : IntsAre its ns)
    (h : ∀ h' tk t', (∀ b o, s.heap.get? b = some o → h'.get? b = some o) → Q (.int ns.sum t') { s with heap := h', toks := tk }) : wpAny (model prog w) A (call (.builtin "sum") [.ref l]) Q E s := by
  obtain ⟨xs, e⟩ := hi.allInts.items
  have hn : numsOf (intItems xs).toList = ns := by rw [← e]; exact hi.numsOf
  rw [nums_intItems] at hn
  rw [e] at hl
  refine PySem.sum_intListG hh hl fun h' tk t' hk => ?_
  have := h h' tk t' hk
  rw [preSum_eq, List.take_of_length_le (by simp), hn]; exact this
end

/-! ### the calls, by values (CallR of 03t; MtR of 06l) -/
section
variable {X : Cx}
/-- sum(xs) of a list of ints -/
def rSum (K : PySem.W.Frag) : List V → Hp → VK → Prop := fun vs H Q => ∃ (a : Addr) (ns : List Int), vs = [V.ref a] ∧ SqL K H a (ns.map V.int) ∧ Q (.int ns.sum) H
/-- max(xs), min(xs) of a list of ints -/
def rMax (K : PySem.W.Frag) : List V → Hp → VK → Prop := fun vs H Q => ∃ (a : Addr) (ns : List Int), vs = [V.ref a] ∧ SqL K H a (ns.map V.int) ∧ 0 < ns.length ∧ ∀ m, m ∈ ns → (∀ y, y ∈ ns → y ≤ m) → Q (.int m) H
def rMin (K : PySem.W.Frag) : List V → Hp → VK → Prop := fun vs H Q => ∃ (a : Addr) (ns : List Int), vs = [V.ref a] ∧ SqL K H a (ns.map V.int) ∧ 0 < ns.length ∧ ∀ m, m ∈ ns → (∀ y, y ∈ ns → m ≤ y) → Q (.int m) H
theorem cr_sum (hc : X.calm = true) : CallR X (.builtin "sum") (rSum X.K) := by
  intro pins s σ H vs us Q I r h
  obtain ⟨a, ns, rfl, hs, q⟩ := h
  obtain ⟨its, rv, hl, _⟩ := I.list hs
  rw [Vals.ref1 r]
  exact sum_raw (I.ok.hd hc) hl.isList rv.ints fun h' tk t' hk => ⟨.int _, H, I.kept hk, ⟨_, rfl⟩, q⟩
/-! sorted, sort (fewer than 64 items: the library's own bound) -/
def rSorted (K : PySem.W.Frag) : List V → Hp → VK → Prop := fun vs H Q => ∃ (a : Addr) (ns : List Int), vs = [V.ref a] ∧ SqL K H a (ns.map V.int) ∧ ns.length < 64 ∧
  ∀ (ns' : List Int) (p : Addr), ns'.Perm ns → ns'.Pairwise (· ≤ ·) → H p = none → Q (.ref p) (upd H p (.lst (ns'.map V.int)))
def rSortedS (K : PySem.W.Frag) : List V → Hp → VK → Prop := fun vs H Q => ∃ (a : Addr) (xs : List Str), vs = [V.ref a] ∧ SqL K H a (xs.map V.str) ∧ xs.length < 64 ∧
  ∀ (ys : List Str) (p : Addr), ys.Perm xs → sortedS ys = true → H p = none → Q (.ref p) (upd H p (.lst (ys.map V.str)))
theorem small64 {n : Nat} (h : n < 64) : n ≤ sizeLine := by rw [sizeLine_eq]; omega
theorem cr_sortedS : CallR X (.builtin "sorted") (rSortedS X.K) := by
  intro pins s σ H vs us Q I r h
  obtain ⟨a, xs, rfl, hs, h64, q⟩ := h
  obtain ⟨its, rv, hl, _⟩ := I.list hs
  rw [Vals.ref1 r]
  have hlen0 := rv.length
  rw [List.length_map] at hlen0
  refine PyProof.Rows.sorted_strs hl.isList rv.strs (by rw [← hlen0]; exact h64) fun out ys h1 h2 h3 => ?_
  obtain ⟨ep, he'⟩ := PyProof.Rows.sortedAll_at s.heap its out
  have hlen : (ys.map V.str).length ≤ sizeLine := by rw [List.length_map, h2.length_eq]; exact small64 h64
  exact ⟨.ref _, upd H (s.heap.objs.size + 1) (.lst (ys.map V.str)), I.laid (t' := s.toks) (fun _ _ => PyProof.Rows.sortedAll_old) (Nat.le_succ _) ⟨hlen, out.toList, ep, vals_of_strs h1, he'⟩, rfl, q ys _ h2 h3 (I.hok.fresh (Nat.le_succ _))⟩
/-- xs.sort(), ints -/
def rSort : V → List V → Hp → VK → Prop := fun x xs H Q => ∃ (a : Addr) (ns : List Int), x = V.ref a ∧ xs = [] ∧ H a = some (.lst (ns.map V.int)) ∧ ns.length < 64 ∧
  ∀ ns' : List Int, ns'.Perm ns → ns'.Pairwise (· ≤ ·) → Q .non (upd H a (.lst (ns'.map V.int)))
end

/-! ### list.index, flat items -/
section
variable {X : Cx}
def rIndex (K : PySem.W.Frag) : V → List V → Hp → VK → Prop := fun x xs H Q => ∃ (a : Addr) (ys : List V) (y : V) (j : Nat) (z : V), x = V.ref a ∧ xs = [y] ∧ SqL K H a ys ∧ flatV y = true ∧ ys.all flatV = true ∧ ys[j]? = some z ∧ eqV z y = true ∧
  (∀ (m : Nat) (z' : V), m < j → ys[m]? = some z' → eqV z' y = false) ∧ Q (.int (j : Nat)) H
theorem flat_at {ys : List V} (f : ys.all flatV = true) {j : Nat} {z : V} (h : ys[j]? = some z) : flatV z = true := List.all_eq_true.mp f z (List.mem_of_getElem? h)
theorem mt_index : MtR X "list.index" (rIndex X.K) := by
  intro pins s σ H x xs v us Q I rx rxs h
  obtain ⟨a, ys, y, j, z, rfl, rfl, hs, fy, fys, hz, hzj, hno, q⟩ := h
  cases rx
  cases rxs with
  | cons ry rt =>
    rename_i uy ut
    cases rt
    obtain ⟨its, rv, ⟨⟨cls, dd, data, sl⟩, n, ho, hc, hdn, hd⟩, hlen⟩ := I.list hs
    simp only at hc hd
    subst hc hd
    obtain ⟨u, hu, ru⟩ := rv.get hz
    obtain ⟨hjl, hje⟩ := List.getElem?_eq_some_iff.mp hu
    have hvl := rv.length
    have hj : j < its.toArray.size := by simpa using hjl
    have hsl := sizeLine_eq
    refine call_meets PySem.F.slot_list_index ⟨_, ho, rfl⟩ PySem.F.entry_list_index (PySem.F.args_list_index_2 _ _)
      (SeqAt.list_indexAt a its.toArray n dd sl uy (eqU y) j hj (by omega) ?_ ?_) ⟨ho, fun u' hu' => mem_eqAt ry fy rv fys u' (by simpa using hu'), ?_⟩
    · have e1 : its.toArray[j] = u := by simpa using hje
      rw [e1, eqU_of ru (flat_at fys hz)]
      exact hzj
    · intro m hm hmj
      have hml : m < its.length := by simpa using hm
      have hmy : m < ys.length := by omega
      have hy' : ys[m]? = some ys[m] := List.getElem?_eq_getElem hmy
      obtain ⟨u2, hu2, ru2⟩ := rv.get hy'
      obtain ⟨_, hme⟩ := List.getElem?_eq_some_iff.mp hu2
      have e1 : its.toArray[m] = u2 := by simpa using hme
      rw [e1, eqU_of ru2 (flat_at fys hy')]
      exact hno m _ hmj hy'
    · exact ⟨.int (j : Nat), H, I.tok _, ⟨_, rfl⟩, q⟩
end

/-! ### type(x) of an own instance; is, is not of a module's class -/
section
variable {X : Cx}
end

/-! ### any(xs), all(xs) of a list of bools -/
section
variable {X : Cx}
def rAny (K : PySem.W.Frag) : List V → Hp → VK → Prop := fun vs H Q => ∃ (a : Addr) (bs : List Bool), vs = [V.ref a] ∧ SqL K H a (bs.map V.bl) ∧ Q (.bl (bs.any id)) H
def rAll (K : PySem.W.Frag) : List V → Hp → VK → Prop := fun vs H Q => ∃ (a : Addr) (bs : List Bool), vs = [V.ref a] ∧ SqL K H a (bs.map V.bl) ∧ Q (.bl (bs.all id)) H
end

/-! ### == and != of data at any depth: none, bools, ints, texts, lists, tuples -/
mutual
inductive Dp (K : PySem.W.Frag) (H : Hp) : V → PyData → Prop
  | non : Dp K H .non .none
  | bl (b : Bool) : Dp K H (.bl b) (.bool b)
  | int (i : Int) : Dp K H (.int i) (.int i)
  | str (x : Str) : Dp K H (.str x) (.str x)
  | lst {a : Addr} {xs : List V} {ds : List PyData} : SqL K H a xs → DpAll K H xs ds → Dp K H (.ref a) (.list ds)
  | tup {a : Addr} {xs : List V} {ds : List PyData} : SqT K H a xs → DpAll K H xs ds → Dp K H (.ref a) (.tuple ds)
inductive DpAll (K : PySem.W.Frag) (H : Hp) : List V → List PyData → Prop
  | nil : DpAll K H [] []
  | cons {v : V} {vs : List V} {d : PyData} {ds : List PyData} : Dp K H v d → DpAll K H vs ds → DpAll K H (v :: vs) (d :: ds)
end
section
variable {X : Cx} {pins : List (Addr × Obj)} {σ : St} {H : Hp} {s : Shared}
mutual
theorem Dp.reads (I : Inv X pins σ H s) : ∀ (d : PyData) (v : V) (u : Value), Dp X.K H v d → RelV v u → ∃ as, Reads s.heap u d as
  | .none, _, _, h, r => by
    cases h
    cases r
    exact ⟨_, Reads.none⟩
  | .bool b, _, _, h, r => by
    cases h
    cases r
    exact ⟨_, Reads.bool b⟩
  | .int i, _, _, h, r => by
    cases h
    obtain ⟨t, rfl⟩ := r
    exact ⟨_, Reads.int i t⟩
  | .str x, _, _, h, r => by
    cases h
    obtain ⟨t, rfl⟩ := r
    exact ⟨_, Reads.str x t⟩
  | .list ds, _, _, h, r => by
    cases h with
    | lst hs ha =>
      cases r
      obtain ⟨its, rv, ⟨o, n, ho, hc, _, hd⟩, _⟩ := I.list hs
      obtain ⟨as, hr⟩ := Dp.readsAll I ds _ its ha rv
      exact ⟨_, Reads.list ho hc hd hr⟩
  | .tuple ds, _, _, h, r => by
    cases h with
    | tup hs ha =>
      cases r
      obtain ⟨its, rv, ⟨o, ho, hc, n, hd⟩, _⟩ := I.tuple hs
      obtain ⟨as, hr⟩ := Dp.readsAll I ds _ its ha rv
      exact ⟨_, Reads.tuple ho hc hd hr⟩
  | .dict _, _, _, h, _ => by cases h
theorem Dp.readsAll (I : Inv X pins σ H s) : ∀ (ds : List PyData) (vs : List V) (us : List Value), DpAll X.K H vs ds → Vals vs us → ∃ as, ReadsAll s.heap us ds as
  | [], _, _, h, r => by
    cases h
    cases r
    exact ⟨_, ReadsAll.nil⟩
  | d :: ds, _, _, h, r => by
    cases h with
    | cons h1 h2 =>
      cases r with
      | cons r1 r2 =>
        obtain ⟨as, q1⟩ := Dp.reads I d _ _ h1 r1
        obtain ⟨bs, q2⟩ := Dp.readsAll I ds _ _ h2 r2
        exact ⟨_, ReadsAll.cons q1 q2⟩
end
end
section
variable {X : Cx}
def rEqD (K : PySem.W.Frag) : R2 := fun x y H Q => ∃ d e, Dp K H x d ∧ Dp K H y e ∧ SeqAt.shaped d = true ∧ SeqAt.shaped e = true ∧ Q (.bl (PyData.eqv d e)) H
def rNeD (K : PySem.W.Frag) : R2 := fun x y H Q => ∃ d e, Dp K H x d ∧ Dp K H y e ∧ SeqAt.shaped d = true ∧ SeqAt.shaped e = true ∧ Q (.bl (!PyData.eqv d e)) H
theorem op_eqD (hu : X.A.units + 64 < cLine) : OpR X (compareOp .Eq) (rEqD X.K) := by
  intro pins s σ H x y v u Q I rx ry h
  obtain ⟨d, e, hd, he, sd, se, q⟩ := h
  obtain ⟨as, r1⟩ := Dp.reads I d x v hd rx
  obtain ⟨bs, r2⟩ := Dp.reads I e y u he ry
  exact SeqAt.compareEq_shaped r1 r2 sd se hu ⟨.bl _, H, I, rfl, q⟩
end
end L2

namespace L2
open PySem PySem.Spec PyProof.Rows
abbrev CellAt (h : Heap) (c : Addr) (v : Option Value) : Prop := h.IsCell c v
def relS (scope sc : Scope) : Scope :=
  { scope with names := scope.names.map fun (n, k) => if (k == .free && sc.kind == .function && sc.names.lookup n == some .cell) then (n, .cell) else (n, k) }

def cloFrom (cells : List (Str × Addr)) : List (Str × NameKind) → List (Str × Addr) → List (Str × Addr)
  | [], acc => acc
  | (n, k) :: r, acc => if k == .free then cloFrom cells r ((n, (cells.lookup n).getD 0) :: acc) else cloFrom cells r acc

theorem closure_loop (env : Env) (f : Str × NameKind → List (Str × Addr) → Sem (ForInStep (List (Str × Addr))))
    (hf : ∀ n k c, f (n, k) c = if k == .free then (do let a ← cellOf env n; pure (.yield ((n, a) :: c))) else pure (.yield c)) :
    ∀ (names : List (Str × NameKind)) (acc : List (Str × Addr)), (∀ y ∈ names, y.2 = .free → ∃ c, env.cells.lookup y.1 = some c) → forIn names acc f = pure (cloFrom env.cells names acc)
  | [], acc, _ => by rw [List.forIn_nil]; rfl
  | (n, k) :: r, acc, h => by
    rw [List.forIn_cons, hf]
    have ih := fun acc => closure_loop env f hf r acc fun y hy => h y (List.mem_cons_of_mem _ hy)
    unfold cloFrom
    by_cases hk : (k == NameKind.free) = true
    · rw [if_pos hk, if_pos hk]
      obtain ⟨c, hc⟩ := h (n, k) List.mem_cons_self (by simpa using hk)
      have e : cellOf env n = pure c := by unfold cellOf; rw [hc]
      rw [e]
      have e2 : (env.cells.lookup n).getD 0 = c := by rw [hc]; rfl
      rw [e2]
      exact ih _
    · rw [if_neg hk, if_neg hk]
      exact ih _
theorem closure_ok {scope : Scope} {env : Env} (h : ∀ y ∈ scope.names, y.2 = .free → ∃ c, env.cells.lookup y.1 = some c) : closureFor scope env = pure (cloFrom env.cells scope.names []) := by
  simp only [closureFor]
  rw [closure_loop env _ (fun n k c => rfl) scope.names [] h]
  rfl

theorem mem_lookup {α : Type} : ∀ {l : List (Str × α)} {n : Str} {c : α}, (n, c) ∈ l → ∃ c', l.lookup n = some c'
  | (k, v) :: r, n, c, h => by
    rw [List.lookup_cons]
    cases hb : n == k with
    | true => exact ⟨_, rfl⟩
    | false =>
      rcases List.mem_cons.mp h with e | h
      · cases e; simp at hb
      · exact mem_lookup h

theorem cloFrom_mem {cells : List (Str × Addr)} : ∀ {names : List (Str × NameKind)} {acc : List (Str × Addr)} {n : Str} {c : Addr}, (n, c) ∈ cloFrom cells names acc → (n, c) ∈ acc ∨ ((n, .free) ∈ names ∧ c = (cells.lookup n).getD 0)
  | [], _, _, _, h => .inl h
  | (m, k) :: r, acc, n, c, h => by
    unfold cloFrom at h
    split at h
    · rename_i hk
      have hk : k = .free := by simpa using hk
      rcases cloFrom_mem h with h | ⟨h1, h2⟩
      · rcases List.mem_cons.mp h with e | h
        · cases e; exact .inr ⟨hk ▸ List.mem_cons_self, rfl⟩
        · exact .inl h
      · exact .inr ⟨List.mem_cons_of_mem _ h1, h2⟩
    · rcases cloFrom_mem h with h | ⟨h1, h2⟩
      · exact .inl h
      · exact .inr ⟨List.mem_cons_of_mem _ h1, h2⟩
theorem cloFrom_acc {cells : List (Str × Addr)} : ∀ {names : List (Str × NameKind)} {acc : List (Str × Addr)} {p : Str × Addr}, p ∈ acc → p ∈ cloFrom cells names acc
  | [], _, _, h => h
  | (m, k) :: r, acc, p, h => by
    unfold cloFrom
    split
    · exact cloFrom_acc (List.mem_cons_of_mem _ h)
    · exact cloFrom_acc h
theorem cloFrom_has {cells : List (Str × Addr)} : ∀ {names : List (Str × NameKind)} {acc : List (Str × Addr)} {n : Str}, (n, .free) ∈ names → (n, (cells.lookup n).getD 0) ∈ cloFrom cells names acc
  | (m, k) :: r, acc, n, h => by
    unfold cloFrom
    rcases List.mem_cons.mp h with e | h
    · cases e
      exact cloFrom_acc List.mem_cons_self
    · split
      · exact cloFrom_has h
      · exact cloFrom_has h

theorem cells_mem : ∀ {names : List (Str × NameKind)} {h : Heap} {acc : List (Str × Addr)} {x : Str} {c : Addr}, (x, c) ∈ cellsFrom h.objs.size names acc →
    (x, c) ∈ acc ∨ ((x, .cell) ∈ names ∧ h.objs.size ≤ c ∧ CellAt (pushCells h names) c none)
  | [], _, _, _, _, h => .inl h
  | (n, k) :: r, h, acc, x, c, hm => by
    unfold cellsFrom at hm
    unfold pushCells
    split at hm
    · rename_i hk
      rw [if_pos hk]
      have hk : k = .cell := by simpa using hk
      rw [← Heap.size_push h { cls := .type "cell", data := .cell none }] at hm
      rcases cells_mem hm with hm | ⟨h1, h2, h3⟩
      · rcases List.mem_cons.mp hm with e | hm
        · cases e
          exact .inr ⟨hk ▸ List.mem_cons_self, Nat.le_refl _, _, pushCells_keeps r _ _ _ (Heap.get?_push_size _ rfl), rfl⟩
        · exact .inl hm
      · rw [Heap.size_push] at h2
        exact .inr ⟨List.mem_cons_of_mem _ h1, Nat.le_of_succ_le h2, h3⟩
    · rename_i hk
      rw [if_neg hk]
      rcases cells_mem hm with hm | ⟨h1, h2, h3⟩
      · exact .inl hm
      · exact .inr ⟨List.mem_cons_of_mem _ h1, h2, h3⟩
theorem cells_acc : ∀ {names : List (Str × NameKind)} {n : Nat} {acc : List (Str × Addr)} {p : Str × Addr}, p ∈ acc → p ∈ cellsFrom n names acc
  | [], _, _, _, h => h
  | (m, k) :: r, n, acc, p, h => by
    unfold cellsFrom
    split
    · exact cells_acc (List.mem_cons_of_mem _ h)
    · exact cells_acc h
theorem cells_has : ∀ {names : List (Str × NameKind)} {n : Nat} {acc : List (Str × Addr)} {x : Str}, (x, .cell) ∈ names → ∃ c, (x, c) ∈ cellsFrom n names acc
  | (m, k) :: r, n, acc, x, h => by
    unfold cellsFrom
    rcases List.mem_cons.mp h with e | h
    · cases e
      exact ⟨n, cells_acc List.mem_cons_self⟩
    · split
      · exact cells_has h
      · exact cells_has h
theorem cells_inj : ∀ {names : List (Str × NameKind)} {h : Heap} {acc : List (Str × Addr)} {x y : Str} {c : Addr}, (∀ p ∈ acc, p.2 < h.objs.size) → (∀ x y c, (x, c) ∈ acc → (y, c) ∈ acc → x = y) →
    (x, c) ∈ cellsFrom h.objs.size names acc → (y, c) ∈ cellsFrom h.objs.size names acc → x = y
  | [], _, _, _, _, _, _, hi, h1, h2 => hi _ _ _ h1 h2
  | (n, k) :: r, h, acc, x, y, c, hl, hi, h1, h2 => by
    unfold cellsFrom at h1 h2
    split at h1
    · rename_i hk
      rw [if_pos hk] at h2
      rw [← Heap.size_push h { cls := .type "cell", data := .cell none }] at h1 h2
      refine cells_inj (h := h.push _) (fun p hp => ?_) (fun x y c a b => ?_) h1 h2
      · rw [Heap.size_push]
        rcases List.mem_cons.mp hp with rfl | hp
        · exact Nat.lt_succ_self _
        · exact Nat.lt_succ_of_lt (hl p hp)
      · rcases List.mem_cons.mp a with e | a <;> rcases List.mem_cons.mp b with e' | b
        · cases e; cases e'; rfl
        · cases e; exact absurd (hl _ b) (Nat.lt_irrefl _)
        · cases e'; exact absurd (hl _ a) (Nat.lt_irrefl _)
        · exact hi _ _ _ a b
    · rename_i hk
      rw [if_neg hk] at h2
      exact cells_inj hl hi h1 h2

theorem newEnv_comp {M : Model} {A : Around} {E : Value → Shared → Prop} {s : Shared} {scope : Scope} {globals : Addr} {closure : List (Str × Addr)} {qual : Str} {func : Option Addr} {code : Value} {around : Env} {builtins : Addr} {Q : Env → Shared → Prop}
    (h : Q (newEnv scope s.heap.objs.size globals (cellsFrom (s.heap.objs.size + 1) scope.names closure) qual func code (some around) builtins)
      { s with heap := pushCells (s.heap.push { cls := .type "dict", data := .dict #[] }) scope.names }) :
    wpAny M A (newFunctionEnv scope globals closure [] qual func code (some around) builtins) Q E s := by
  simp only [newFunctionEnv, Option.isSome_some, if_true]
  refine wpAny_bind (wpAny_alloc ?_)
  refine wpAny_bind (wpAny_layCells _ (fun n k c => rfl) scope.names closure _ _ ?_)
  rw [show ({ s with heap := s.heap.push { cls := .type "dict", data := .dict #[] } } : Shared).heap.objs.size = s.heap.objs.size + 1 from Heap.size_push ..]
  rw [List.forIn_nil]
  exact wpAny_bind (wpAny_pure (wpAny_pure h))

/-- every name of the written scope, in the scope that runs -/
theorem lookup_relS {sc : Scope} : ∀ {names : List (Str × NameKind)} {x : Str} {k : NameKind},
    (names.map fun (n, k) => if (k == NameKind.free && sc.kind == .function && sc.names.lookup n == some .cell) then (n, NameKind.cell) else (n, k)).lookup x = some k →
    ∃ k', names.lookup x = some k' ∧ (k = k' ∨ (k' = .free ∧ k = .cell))
  | [], _, _, h => by simp at h
  | (n, k₀) :: r, x, k, h => by
    have ih := @lookup_relS sc r x k
    have h' : List.lookup x ((if (k₀ == NameKind.free && sc.kind == .function && sc.names.lookup n == some .cell) = true then (n, NameKind.cell) else (n, k₀)) :: (r.map _)) = some k := h
    cases hx : x == n with
    | true =>
      simp only [List.lookup_cons, hx]
      by_cases hc : (k₀ == NameKind.free && sc.kind == .function && sc.names.lookup n == some .cell) = true
      · rw [if_pos hc] at h'
        simp only [List.lookup_cons, hx] at h'
        cases h'
        simp only [Bool.and_eq_true, beq_iff_eq] at hc
        exact ⟨k₀, rfl, .inr ⟨hc.1.1, rfl⟩⟩
      · rw [if_neg hc] at h'
        simp only [List.lookup_cons, hx] at h'
        cases h'
        exact ⟨_, rfl, .inl rfl⟩
    | false =>
      simp only [List.lookup_cons, hx]
      by_cases hc : (k₀ == NameKind.free && sc.kind == .function && sc.names.lookup n == some .cell) = true
      · rw [if_pos hc] at h'
        simp only [List.lookup_cons, hx] at h'
        exact ih h'
      · rw [if_neg hc] at h'
        simp only [List.lookup_cons, hx] at h'
        exact ih h'
/-- the names of a comprehension's block: its own (with their places in N), or captured -/
structure BlkOk (N : List Str) (sc scope : Scope) (own : List (Str × Nat)) : Prop where
  kind : scope.kind = .function
  uniq : ∀ y ∈ scope.names, scope.names.lookup y.1 = some y.2
  ix : ∀ p ∈ own, N[p.2]? = some p.1
  free : ∀ y ∈ scope.names, y.2 = .free → sc.names.lookup y.1 = some .cell ∨ sc.names.lookup y.1 = some .free
  own : ∀ y ∈ scope.names, y.2 = .local ∨ y.2 = .cell → y.1 ∈ own.map (·.1) ∨ y.1 ∉ N
/-- the slots of the block's own names forgotten -/
def wipe (σ : St) : List Nat → St
  | [] => σ
  | v :: vs => (wipe σ vs).set v none
theorem wipe_length (σ : St) : ∀ vs : List Nat, (wipe σ vs).length = σ.length
  | [] => rfl
  | v :: vs => by unfold wipe; rw [List.length_set, wipe_length σ vs]
theorem wipe_some {σ : St} {i : Nat} {x : V} : ∀ {vs : List Nat}, (wipe σ vs)[i]? = some (some x) → σ[i]? = some (some x) ∧ i ∉ vs
  | [], h => ⟨h, by simp⟩
  | v :: vs, h => by
    unfold wipe at h
    by_cases hi : v = i
    · subst hi
      by_cases hv : v < (wipe σ vs).length
      · rw [List.getElem?_set_self hv] at h; cases h
      · rw [List.getElem?_eq_none (by simpa using hv)] at h; cases h
    · rw [List.getElem?_set_ne hi] at h
      obtain ⟨h1, h2⟩ := wipe_some h
      exact ⟨h1, by simp only [List.mem_cons, not_or]; exact ⟨fun e => hi e.symm, h2⟩⟩

/-- the context of a block that starts at s, its iterator's objects at fp -/
abbrev Cx.blk (X : Cx) (s : Shared) (H : Hp) (scope : Scope) (cenv : Env) (fp : List Addr) : Cx := { X with s_0 := s, H_0 := H, env := cenv, outer := X.stack, ex := fp, fn := fun x => scope.names.lookup x == some .cell, pn := [], xe := fun _ _ => False }
section
variable {X : Cx} {pins : List (Addr × Obj)} {σ : St} {H : Hp} {s : Shared}
theorem block_start {scope : Scope} {own : List (Str × Nat)} {fp : List Addr} (I : Inv X pins σ H s) (ok : BlkOk X.N X.env.scope scope own) (hN : X.N.Nodup) (hfp : ∀ b ∈ fp, FpOk X pins H b ∧ b < s.heap.objs.size) :
    Inv (X.blk s H scope (compEnvC scope (cellsFrom (s.heap.objs.size + 1) scope.names (cloFrom X.env.cells scope.names [])) s.heap.objs.size X.env) fp) [] (wipe σ (own.map (·.2))) H { s with heap := pushCells (s.heap.push { cls := .type "dict", data := .dict #[] }) scope.names } := by
  have hfree : ∀ y ∈ scope.names, y.2 = .free → ∃ c, X.env.cells.lookup y.1 = some c := fun y hy e => by
    rcases ok.free y hy e with k | k
    · exact I.ok.has _ (.inl k)
    · exact I.ok.has _ (.inr k)
  generalize hcenv : compEnvC scope (cellsFrom (s.heap.objs.size + 1) scope.names (cloFrom X.env.cells scope.names [])) s.heap.objs.size X.env = cenv
  have kp : ∀ b o, s.heap.get? b = some o → (pushCells (s.heap.push { cls := .type "dict", data := .dict #[] }) scope.names).get? b = some o := fun b o e => pushCells_keeps _ _ _ _ (Heap.get?_push_of_some _ e)
  have hL : cenv.locals = s.heap.objs.size := by rw [← hcenv]; rfl
  have hcl : cenv.cells = cellsFrom (s.heap.objs.size + 1) scope.names (cloFrom X.env.cells scope.names []) := by rw [← hcenv]; rfl
  have hsc : cenv.scope = relS scope X.env.scope := by rw [← hcenv]; rfl
  rw [← Heap.size_push s.heap { cls := .type "dict", data := .dict #[] }] at hcl
  have cm : ∀ {y c}, (y, c) ∈ cloFrom X.env.cells scope.names [] → X.env.cells.lookup y = some c ∧ c < s.heap.objs.size := fun {y c} hm => by
    rcases cloFrom_mem hm with hm | ⟨h1, rfl⟩
    · cases hm
    · obtain ⟨c, hc⟩ := hfree _ h1 rfl
      rw [hc]
      obtain ⟨w, z⟩ := I.cell _ _ hc
      exact ⟨rfl, z.lt⟩
  have mem : ∀ {y c}, cenv.cells.lookup y = some c → (X.env.cells.lookup y = some c ∧ c < s.heap.objs.size) ∨ (s.heap.objs.size + 1 ≤ c ∧ CellAt (pushCells (s.heap.push { cls := .type "dict", data := .dict #[] }) scope.names) c none) := fun {y c} e => by
    rw [hcl] at e
    rcases cells_mem (PySem.mem_of_lookup e) with hm | ⟨_, h2, h3⟩
    · exact .inl (cm hm)
    · rw [Heap.size_push] at h2; exact .inr ⟨h2, h3⟩
  have look : ∀ {y}, scope.names.lookup y = some .free → ∃ c, cenv.cells.lookup y = some c ∧ X.env.cells.lookup y = some c := fun {y} hl => by
    have hy : (y, NameKind.free) ∈ scope.names := PySem.mem_of_lookup hl
    obtain ⟨c', e'⟩ := mem_lookup (cells_acc (names := scope.names) (n := (s.heap.push { cls := .type "dict", data := .dict #[] }).objs.size) (cloFrom_has (cells := X.env.cells) (acc := []) hy))
    rw [← hcl] at e'
    refine ⟨c', e', ?_⟩
    rw [hcl] at e'
    rcases cells_mem (PySem.mem_of_lookup e') with hm | ⟨h1, _, _⟩
    · exact (cm hm).1
    · have := ok.uniq _ h1
      rw [hl] at this; cases this
  have okB : (X.blk s H scope cenv fp).Ok := by
    refine ⟨I.ok.mod, by show cenv.scope.kind = _; rw [hsc]; exact ok.kind, by show cenv.globals = _; rw [← hcenv]; exact I.ok.glob, by show cenv.builtins = _; rw [← hcenv]; exact I.ok.blt, by show s.heap.objs.size ≤ cenv.locals; rw [hL]; exact Nat.le_refl _,
      fun y z c e1 e2 => ?_, fun y hy => ?_, fun y c z e => ?_, I.ok.hd, I.ok.frames, .inl rfl, fun b hb => ⟨?_, fun y c e z => ?_⟩, I.bs, Nat.le_trans I.ok.bsz I.sz, fun b o e hb => ?_, fun b hb z => ?_, I.stack, I.stkFree⟩
    · have e1 : cenv.cells.lookup y = some c := e1
      have e2 : cenv.cells.lookup z = some c := e2
      rw [hcl] at e1 e2
      refine cells_inj (fun p hp => ?_) (fun y z c a b => I.ok.inj y z c (cm a).1 (cm b).1) (PySem.mem_of_lookup e1) (PySem.mem_of_lookup e2)
      rw [Heap.size_push]
      exact Nat.lt_succ_of_lt (cm (y := p.1) (c := p.2) hp).2
    · show ∃ c, cenv.cells.lookup y = some c
      have key : ∀ k, cenv.kindOf y = some k → (k = .cell ∨ k = .free) → ∃ c, cenv.cells.lookup y = some c := fun k hk hk' => by
        unfold Env.kindOf at hk
        rw [hsc] at hk
        obtain ⟨k', e, r⟩ := lookup_relS hk
        have : k' = .cell ∨ k' = .free := by
          rcases r with rfl | ⟨rfl, _⟩
          · exact hk'
          · exact .inr rfl
        rcases this with rfl | rfl
        · obtain ⟨c, hm⟩ := cells_has (n := (s.heap.push { cls := .type "dict", data := .dict #[] }).objs.size) (acc := cloFrom X.env.cells scope.names []) (PySem.mem_of_lookup e)
          obtain ⟨c', e'⟩ := mem_lookup hm
          exact ⟨c', by rw [hcl]; exact e'⟩
        · obtain ⟨c, h1, _⟩ := look e
          exact ⟨c, h1⟩
      rcases hy with hy | hy
      · exact key _ hy (.inl rfl)
      · exact key _ hy (.inr rfl)
    · have z : (scope.names.lookup y == some NameKind.cell) = true := z
      have z : scope.names.lookup y = some .cell := by simpa using z
      have e : cenv.cells.lookup y = some c := e
      rw [hcl] at e
      rcases cells_mem (PySem.mem_of_lookup e) with hm | ⟨_, h2, _⟩
      · rcases cloFrom_mem hm with hm | ⟨h1, _⟩
        · cases hm
        · have q := ok.uniq _ h1
          rw [z] at q; cases q
      · rw [Heap.size_push] at h2
        exact Nat.le_of_succ_le h2
    · show b ≠ cenv.locals
      rw [hL]; exact Nat.ne_of_lt (hfp b hb).2
    · have e : cenv.cells.lookup y = some c := e
      rcases mem e with ⟨h1, _⟩ | ⟨h1, _⟩
      · exact (hfp b hb).1.2.2.2.2.1 y c h1 z
      · have h2 : s.heap.objs.size + 1 ≤ b := by rw [← z]; exact h1
        exact absurd (Nat.lt_of_lt_of_le (hfp b hb).2 (Nat.le_of_succ_le h2)) (Nat.lt_irrefl _)
    · rcases (hfp b hb).1.2.2.2.1 with z | z
      · exact I.ok.noex b o e z
      · exact absurd (Nat.lt_of_lt_of_le (Heap.lt_size e) (Nat.le_trans I.ok.bsz z)) (Nat.lt_irrefl _)
    · rcases List.mem_cons.mp (I.stkSub b z) with z | z
      · exact (hfp b hb).1.2.1 z
      · exact (hfp b hb).1.2.2.1 z
  refine ⟨okB, rfl, I.bare, Un.kept kp, ⟨fun _ => none, ?_, fun i y av e1 e2 e3 => ?_⟩, fun y c e => ?_, ?_, fun y c e => ?_, fun p hp => ?_, I.hok.kept kp, by rw [wipe_length]; exact I.len⟩
  · show Heap.Ns _ cenv.locals _
    rw [hL]
    exact Heap.Ns.keeps (Heap.Ns.new ..) fun b o e => pushCells_keeps _ _ _ _ e
  · obtain ⟨e2, hne⟩ := wipe_some e2
    have hfr : scope.names.lookup y = some .free ∧ (cenv.kindOf y = some .cell ∨ cenv.kindOf y = some .free) := by
      have key : ∀ k, cenv.scope.names.lookup y = some k → k = .local ∨ k = .cell ∨ k = .free → scope.names.lookup y = some .free ∧ (cenv.kindOf y = some .cell ∨ cenv.kindOf y = some .free) := fun k hk hk' => by
        have hk0 := hk
        rw [hsc] at hk
        obtain ⟨k', e, r⟩ := lookup_relS hk
        have no : ¬ (k' = .local ∨ k' = .cell) := fun hh => by
          rcases ok.own _ (PySem.mem_of_lookup e) hh with e' | e'
          · obtain ⟨p, hp, hpy⟩ := List.mem_map.mp e'
            have e3 := ok.ix p hp
            have : p.1 = y := hpy
            rw [this] at e3
            exact hne (List.mem_map.mpr ⟨p, hp, nodup_ix hN e3 e1⟩)
          · exact e' (List.mem_of_getElem? e1)
        rcases r with rfl | ⟨rfl, rfl⟩
        · rcases hk' with rfl | rfl | rfl
          · exact absurd (.inl rfl) no
          · exact absurd (.inr rfl) no
          · exact ⟨e, .inr hk0⟩
        · exact ⟨e, .inl hk0⟩
      have e3 : Vis cenv.scope y := e3
      rcases e3 with e3 | e3 | e3
      · exact key _ e3 (.inl rfl)
      · exact key _ e3 (.inr (.inl rfl))
      · exact key _ e3 (.inr (.inr rfl))
    obtain ⟨m, hn, hl⟩ := I.loc
    have hvis : Vis X.env.scope y := (ok.free _ (PySem.mem_of_lookup hfr.1) rfl).elim (fun k => .inr (.inl k)) (fun k => .inr (.inr k))
    obtain ⟨w, r, q⟩ := hl i y av e1 e2 hvis
    refine ⟨w, r, .inr ⟨hfr.2, ?_⟩⟩
    obtain ⟨c, h1, h2⟩ := look hfr.1
    rcases q with ⟨k, _⟩ | ⟨_, c', e', z⟩
    · have k : X.env.scope.names.lookup y = some .local := k
      rcases ok.free _ (PySem.mem_of_lookup hfr.1) rfl with k' | k' <;> rw [show X.env.scope.names.lookup y = _ from k'] at k <;> cases k
    · rw [h2] at e'; cases e'
      exact ⟨c, h1, z.keeps kp⟩
  · have e : cenv.cells.lookup y = some c := e
    rcases mem e with ⟨h1, _⟩ | ⟨_, z⟩
    · obtain ⟨w, z⟩ := I.cell y c h1
      exact ⟨w, z.keeps kp⟩
    · exact ⟨_, z⟩
  · show H cenv.locals = none
    rw [hL]; exact I.hok.fresh (Nat.le_refl _)
  · have e : cenv.cells.lookup y = some c := e
    rcases mem e with ⟨h1, _⟩ | ⟨h1, _⟩
    · exact I.freeC y c h1
    · exact I.hok.fresh (Nat.le_of_succ_le h1)
  · exact absurd (show p ∈ ([] : List (Addr × Obj)) ++ [] from hp) (by simp)

/-- an item appended to a tracked list -/
theorem app_ok {E : Value → Shared → Prop} {D : Addr} {xs : List V} {y : V} {v : Value} {Q : Value → Shared → Prop} (I : Inv X pins σ H s) (hD : H D = some (.lst xs)) (hz : xs.length < sizeLine) (r : RelV y v)
    (h : ∀ s', Inv X pins σ (upd H D (.lst (xs ++ [y]))) s' → Q .none s') : wpAny (model X.prog X.w) X.A (call (.builtin "list.append") [.ref D, v]) Q E s := by
  obtain ⟨hz', its, n, ri, e⟩ := I.hok D _ hD
  have hl := ri.length
  refine append_at (hsz := by rw [List.size_toArray]; omega) e fun h' sb ho' => ?_
  refine h { s with heap := h' } (I.write (t' := s.toks) (by rw [hD]; trivial) (.inl rfl) (fun b u hb q => (sb.2 b hb).trans q) ⟨_, ho'⟩ ⟨by rw [List.length_append]; exact hz, its ++ [v], n + 1, ri.append (.cons r .nil), ?_⟩)
  rw [ho']
  simp

/-- a clause's tests -/
def PTs (X : Cx) (ifs : List Expr) (t : TT) : Prop :=
  ∀ (pins : List (Addr × Obj)) (s : Shared) (σ : St) (H : Hp) (Q : Bool → Hp → Prop), Inv X pins σ H s → t σ H Q →
    wpAny (model X.prog X.w) X.A (forIn ifs true fun c r => if r = true then do let ok ← isTrue c X.env (eval c X.env); pure (ForInStep.yield ok) else pure (ForInStep.yield r)) (TP X pins σ Q) X.xe s
def tYes : TT := fun _ H Q => Q true H
theorem pts_nil : PTs X [] tYes := fun _ _ _ H _ I h => wpAny_tests_nil ⟨H, I, h⟩
theorem pts_one {c : Expr} {t : TT} (h : PT X c t) : PTs X [c] t := fun pins s σ H Q I hw => wpAny_tests_one (h pins s σ H Q I hw)
end

theorem thnF {α : Type} {t : Sem α} {Q Q' : α → Shared → Prop} {M : Model} {A : Around} {E : Value → Shared → Prop} {s : Shared} (h : wpAny M A t Q (fun _ _ => False) s) (hQ : ∀ a s, Q a s → Q' a s) : wpAny M A t Q' E s := wpAny_mono h hQ fun _ _ z => False.elim z

/-- the loop of a list comprehension's block, the target of any form (codeAny_compLoop_tests asks a target that no tuple goes to; statement and proof follow it, PyProof/CompMap.lean:41-61, with the step letOwnedTupleGo kept) -/
theorem compLoop_any {prog : Program} {w : World} {A : Around} {R : Result → Shared → Prop} {s : Shared} {elt target iter : Expr} {ifs : List Expr} {scope : Scope} {pos : Pos} {it acc : Value} {env : Env} (I : Nat → Shared → Prop)
    (turn : ∀ n s, I n s → wpAny (model prog w) A (pyNext it) (fun r s₁ => match r with
      | none => R (.ok .next) s₁
      | some v => wpAny (model prog w) A (letOwnedTupleGo target it v) (fun _ s₁' => wpAny (model prog w) A (assign target env v) (fun _ s₂ =>
          wpAny (model prog w) A (forIn ifs true fun c r => if r = true then do let ok ← isTrue c env (eval c env); pure (ForInStep.yield ok) else pure (ForInStep.yield r)) (fun ok s₃ =>
            if ok = true then wpAny (model prog w) A (eval elt env) (fun x s₄ =>
              wpAny (model prog w) A (call (.builtin "list.append") [acc, x]) (fun _ s₅ => ∃ m, m < n ∧ I m s₅) (notedBy (model prog w) A env fun e s' => R (.error e) s') s₄) (notedBy (model prog w) A env fun e s' => R (.error e) s') s₃
            else ∃ m, m < n ∧ I m s₃) (notedBy (model prog w) A env fun e s' => R (.error e) s') s₂) (notedBy (model prog w) A env fun e s' => R (.error e) s') s₁') (notedBy (model prog w) A env fun e s' => R (.error e) s') s₁) (notedBy (model prog w) A env fun e s' => R (.error e) s') s)
    (n : Nat) (h : I n s) :
    codeAny (model prog w) A (.compLoop (.ListComp elt [⟨target, iter, ifs, 0⟩] scope pos) 0 it acc env) R s := by
  refine codeAny_loop rfl I (fun n s hI => ?_) n h
  show wpAny _ A ((compTurn (.ListComp elt [⟨target, iter, ifs, 0⟩] scope pos) 0 it acc env).onRaise (fun x => do noteFrame x env; theTreesLotGoes x)) _ _ s
  refine wpAny_noted ?_
  rw [compTurn_list]
  refine wpAny_bind (wpAny_standAt (wpAny_bind (wpAny_mono (turn n s hI) (fun r s₁ h₁ => ?_) fun _ _ h' => h')))
  cases r with
  | none => exact wpAny_pure h₁
  | some v =>
    refine wpAny_bind (wpAny_mono h₁ (fun _ s₁' h₁' => ?_) fun _ _ h' => h')
    refine wpAny_bind (wpAny_mono h₁' (fun _ s₂ h₂ => wpAny_bind (wpAny_mono h₂ (fun ok s₃ h₃ => ?_) fun _ _ h' => h')) fun _ _ h' => h')
    cases ok with
    | false => exact wpAny_pure ⟨rfl, h₃⟩
    | true =>
      exact wpAny_bind (wpAny_bind (wpAny_mono h₃ (fun x s₄ h₄ => wpAny_bind (wpAny_mono h₄ (fun _ s₅ h₅ => wpAny_pure (wpAny_pure ⟨rfl, h₅⟩)) fun _ _ h' => h')) fun _ _ h' => h'))

section
variable {X : Cx}
/-- [elt for target in iter if ..]: D the new list; W by the turn and a measure, Nx what a turn is to reach -/
def tLc (wi : TI) (g : TG) (tt : TT) (te : TE) (vs : List Nat) : TE := fun σ H Q => wi σ H fun J H1 => ∀ D, H1 D = none → ∃ W : Nat → Nat → Hp → Prop, (∃ m, W 0 m (upd H1 D (.lst []))) ∧ ∀ i m H, W i m H →
  (J.stop i H ∧ Q (.ref D) H) ∨ (J.go i H ∧ ∃ Nx : Hp → Prop, (∀ H', Nx H' → ∃ m', m' < m ∧ W (i + 1) m' H') ∧ ∀ x H', J.yld i H x H' → g x (wipe σ vs) H' fun σ2 H2 => wipe σ2 vs = wipe σ vs ∧ tt σ2 H2 fun b H3 =>
    if b = true then te σ2 H3 fun y H4 => ∃ acc, H4 D = some (.lst acc) ∧ acc.length < sizeLine ∧ Nx (upd H4 D (.lst (acc ++ [y]))) else Nx H3)
theorem lc_core {pins : List (Addr × Obj)} {s : Shared} {σ : St} {H : Hp} {Q : VK} {elt tg iter : Expr} {ifs : List Expr} {scope : Scope} {own : List (Str × Nat)} {pos pos' : Pos} {wi : TI} {g : TG} {tt : TT} {te : TE} {use : Option (Value → Sem Unit)} {Qf : Value → Shared → Prop}
    (hc : X.calm = true) (hN : X.N.Nodup) (I : Inv X pins σ H s) (hi : PI X tg iter wi) (ok : BlkOk X.N X.env.scope scope own)
    (hg : ∀ (s : Shared) (H : Hp) (C : Addr) (cl : List (Str × Addr)) (fp : List Addr), PG (X.blk s H scope (compEnvC scope cl C X.env) fp) tg g) (ht : ∀ (s : Shared) (H : Hp) (C : Addr) (cl : List (Str × Addr)) (fp : List Addr), PTs (X.blk s H scope (compEnvC scope cl C X.env) fp) ifs tt)
    (he : ∀ (s : Shared) (H : Hp) (C : Addr) (cl : List (Str × Addr)) (fp : List Addr), PE (X.blk s H scope (compEnvC scope cl C X.env) fp) elt te) (hs : ∀ x, foldedSetIterable iter X.env x = pure x)
    (h : tLc wi g tt te (own.map (·.2)) σ H Q)
    (hRR : ∀ D C s' m H', Inv X pins σ H' s' → Q (.ref D) H' → s'.heap.Ns C m → FpOk X pins H' C → compPost (model X.prog X.w) X.A X.xe use Qf (.ref D) C (.ok .next) s') :
    wpAny (model X.prog X.w) X.A (comprehension (.ListComp elt [⟨tg, iter, ifs, 0⟩] scope pos) scope X.env pos' (newList []) false (eval iter X.env) use) Qf X.xe s := by
  have hfree : ∀ y ∈ scope.names, y.2 = .free → ∃ c, X.env.cells.lookup y.1 = some c := fun y hy e => by
    rcases ok.free y hy e with k | k
    · exact I.ok.has _ (.inl k)
    · exact I.ok.has _ (.inr k)
  refine wpAny_comprehension_free (use := use) rfl hs (closure_ok hfree) ok.kind (fun y hy e => by rw [ok.uniq y hy, e])
    (thn (hi pins s σ H _ I h) fun xv s1 hx => thn hx fun itv s2 h2 => ?_)
  obtain ⟨it, fp, tn, J, H2, e, I2, T, st2, f2, q⟩ := h2
  subst e
  refine wpAny_newObj_type (newEnv_comp ?_) (by show 0 ≤ sizeLine; decide)
  generalize hD : s2.heap.objs.size = D
  have hDn : H2 D = none := I2.hok.fresh (Nat.le_of_eq hD)
  obtain ⟨W, ⟨m0, w0⟩, turn⟩ := q D hDn
  -- the new list
  generalize hs3 : ({ s2 with heap := s2.heap.push { cls := .type "list", data := .seq ([] : List Value).toArray } } : Shared) = s3
  have I3 : Inv X pins σ (upd H2 D (.lst [])) s3 := by
    rw [← hs3]
    refine I2.laid (t' := s2.toks) (fun b o e => Heap.get?_push_of_some _ e) (Nat.le_of_eq hD) ⟨Nat.zero_le _, [], 0, .nil, ?_⟩
    rw [← hD]
    exact Heap.get?_push_size _ rfl
  have h3 : s3.heap = s2.heap.push { cls := .type "list", data := .seq ([] : List Value).toArray } := by rw [← hs3]
  have sz : ∀ b ∈ fp, b < s2.heap.objs.size := fun b hb => by
    obtain ⟨o, e, _⟩ := T.obj _ _ st2 b hb
    exact Heap.lt_size e
  have f3 : ∀ b ∈ fp, FpOk X pins (upd H2 D (.lst [])) b ∧ b < s3.heap.objs.size := fun b hb => by
    have hlt := sz b hb
    refine ⟨⟨?_, (f2 b hb).2⟩, by rw [h3, Heap.size_push]; exact Nat.lt_succ_of_lt hlt⟩
    rw [upd_ne (by rw [← hD]; exact Nat.ne_of_lt hlt)]
    exact (f2 b hb).1
  have st3 : tn 0 s3.heap := T.keep _ _ _ st2 fun b _ o e => by rw [h3]; exact Heap.get?_push_of_some _ e
  have I4 := block_start I3 ok hN f3
  have pg := hg s3 (upd H2 D (.lst [])) s3.heap.objs.size (cellsFrom (s3.heap.objs.size + 1) scope.names (cloFrom X.env.cells scope.names [])) fp
  have pt := ht s3 (upd H2 D (.lst [])) s3.heap.objs.size (cellsFrom (s3.heap.objs.size + 1) scope.names (cloFrom X.env.cells scope.names [])) fp
  have pe := he s3 (upd H2 D (.lst [])) s3.heap.objs.size (cellsFrom (s3.heap.objs.size + 1) scope.names (cloFrom X.env.cells scope.names [])) fp
  show codeAny _ _ (.compStart (.ListComp elt [⟨tg, iter, ifs, 0⟩] scope pos) 0 (.ref it) (.ref D) (compEnvC scope (cellsFrom (s3.heap.objs.size + 1) scope.names (cloFrom X.env.cells scope.names [])) s3.heap.objs.size X.env)) (compPost (model X.prog X.w) X.A X.xe use Qf (.ref D) s3.heap.objs.size) { s3 with heap := pushCells (s3.heap.push { cls := .type "dict", data := .dict #[] }) scope.names }
  have nfp : ∀ b ∈ fp, (upd H2 D (.lst [])) b = none := fun b hb => (f3 b hb).1.1
  generalize hce : compEnvC scope (cellsFrom (s3.heap.objs.size + 1) scope.names (cloFrom X.env.cells scope.names [])) s3.heap.objs.size X.env = ce at I4 pg pt pe ⊢
  have cL : ce.locals = s3.heap.objs.size := by subst hce; rfl
  generalize hH3 : upd H2 D (.lst []) = H3 at I3 I4 pg pt pe w0 nfp f3
  generalize hs4 : ({ s3 with heap := pushCells (s3.heap.push { cls := .type "dict", data := .dict #[] }) scope.names } : Shared) = s4 at I4 ⊢
  have st4 : tn 0 s4.heap := T.keep _ _ _ st3 fun b _ o e => by rw [← hs4]; exact pushCells_keeps _ _ _ _ (Heap.get?_push_of_some _ e)
  have stat : ∀ {σ' : St} {H' : Hp} {s' : Shared}, Inv (X.blk s3 H3 scope ce fp) [] σ' H' s' → (∀ b ∈ fp, H' b = none) → ∀ b ∈ fp, FpOk (X.blk s3 H3 scope ce fp) [] H' b := fun {σ' H' s'} I' hn b hb =>
    ⟨hn b hb, (I'.ok.exf b hb).1, I'.ok.exfs b hb, .inl hb, fun x c e => (I'.ok.exf b hb).2 x c e, fun p hp => absurd (show p ∈ ([] : List (Addr × Obj)) ++ [] from hp) (by simp)⟩
  have loop : codeAny (model X.prog X.w) X.A (.compLoop (.ListComp elt [⟨tg, iter, ifs, 0⟩] scope pos) 0 (.ref it) (.ref D) ce) (compPost (model X.prog X.w) X.A X.xe use Qf (.ref D) s3.heap.objs.size) s4 := by
    refine compLoop_any (fun n s' => ∃ i H', Inv (X.blk s3 H3 scope ce fp) [] (wipe σ (own.map (·.2))) H' s' ∧ tn i s'.heap ∧ (∀ b ∈ fp, H' b = none) ∧ W i n H') ?_ m0 ⟨0, H3, I4, st4, nfp, w0⟩
    rintro n s5 ⟨i, H5, I5, st5, n5, w5⟩
    rcases turn i n H5 w5 with ⟨stop, qq⟩ | ⟨go, Nx, hNx, step⟩
    · have td := T.done (X.blk s3 H3 scope ce fp) rfl rfl rfl hc i [] s5 _ H5 (fun _ _ => False) I5 (stat I5 n5) st5 stop
      refine thnF td fun r s6 ⟨hr, I6⟩ => ?_
      subst hr
      -- back in the def's context
      have I7 : Inv X pins σ H5 s6 := I3.call' (ch := fp) I6.os I6.base I6.hok I6.bare fun b hb => ⟨(f3 b hb).1.2.2.2.1, (f3 b hb).1.2.1, (f3 b hb).1.2.2.2.2.1, (f3 b hb).1.2.2.2.2.2⟩
      have nC : H5 s3.heap.objs.size = none := by
        have z : H5 ce.locals = none := I6.free
        rw [cL] at z
        exact z
      obtain ⟨m, hn, _⟩ := I6.loc
      have hn : s6.heap.Ns ce.locals m := hn
      rw [cL] at hn
      exact hRR D s3.heap.objs.size s6 m H5 I7 qq hn (I3.fpOk (Nat.le_refl _) nC)
    · have ti := T.item (X.blk s3 H3 scope ce fp) rfl rfl rfl hc i [] s5 _ H5 (fun _ _ => False) I5 (stat I5 n5) st5 go
      refine thnF ti fun r s6 ⟨u, hr, h6⟩ => ?_
      subst hr
      refine thnF h6 fun _ s7 ⟨x, H7, I7, r7, y7, st7, n7⟩ => ?_
      have I7' := I7.pinned (stat I7 n7) (T.obj _ _ st7)
      refine thnF (pg _ s7 _ H7 x u _ I7' r7 (step x H7 y7)) fun _ s8 ⟨σ8, H8, I8, hw8, q8⟩ => ?_
      refine thnF (pt _ s8 σ8 H8 _ I8 q8) fun b s9 ⟨H9, I9, q9⟩ => ?_
      -- the turn's end
      have fin : ∀ {s' : Shared} {H' : Hp}, Inv (X.blk s3 H3 scope ce fp) ([] ++ pinsAt fp s7.heap) σ8 H' s' → Nx H' → ∃ m, m < n ∧ ∃ i H', Inv (X.blk s3 H3 scope ce fp) [] (wipe σ (own.map (·.2))) H' s' ∧ tn i s'.heap ∧ (∀ b ∈ fp, H' b = none) ∧ W i m H' := fun {s' H'} I' nx => by
        obtain ⟨m', hm, w'⟩ := hNx H' nx
        have pin' : ∀ b ∈ fp, ∀ o, s7.heap.get? b = some o → s'.heap.get? b = some o ∧ H' b = none := fun b hb o e =>
          let z := I'.pin (b, o) (List.mem_append_right _ (List.mem_append_right _ (mem_pinsAt hb e)))
          ⟨z.1, z.2.1⟩
        have hl : (wipe σ (own.map (·.2))).length = σ8.length := by rw [← hw8, wipe_length]
        refine ⟨m', hm, i + 1, H', (I'.unpinned (pins := [])).weak hl (fun j v e => ?_), T.keep _ _ _ st7 fun b hb o e => (pin' b hb o e).1, fun b hb => ?_, w'⟩
        · rw [← hw8] at e
          exact (wipe_some e).1
        · obtain ⟨o, e, _⟩ := T.obj _ _ st7 b hb
          exact (pin' b hb o e).2
      cases b with
      | false =>
        simp only [Bool.false_eq_true, if_false] at q9 ⊢
        exact fin I9 q9
      | true =>
        simp only [if_true] at q9 ⊢
        refine thnF (pe _ s9 σ8 H9 _ I9 q9) fun z s10 ⟨yv, H10, I10, r10, acc, hD10, hz10, nx⟩ => ?_
        exact app_ok (X := X.blk s3 H3 scope ce fp) I10 hD10 hz10 r10 fun s11 I11 => fin I11 nx
  exact codeAny_compStart_list loop (T.self X.A 0 _ _ _ st4 loop)
/-- as a value -/
theorem pe_lc {elt tg iter : Expr} {ifs : List Expr} {scope : Scope} {own : List (Str × Nat)} {pos : Pos} {wi : TI} {g : TG} {tt : TT} {te : TE} (hc : X.calm = true) (hN : X.N.Nodup) (hi : PI X tg iter wi) (ok : BlkOk X.N X.env.scope scope own)
    (hg : ∀ (s : Shared) (H : Hp) (C : Addr) (cl : List (Str × Addr)) (fp : List Addr), PG (X.blk s H scope (compEnvC scope cl C X.env) fp) tg g) (ht : ∀ (s : Shared) (H : Hp) (C : Addr) (cl : List (Str × Addr)) (fp : List Addr), PTs (X.blk s H scope (compEnvC scope cl C X.env) fp) ifs tt)
    (he : ∀ (s : Shared) (H : Hp) (C : Addr) (cl : List (Str × Addr)) (fp : List Addr), PE (X.blk s H scope (compEnvC scope cl C X.env) fp) elt te) (hs : ∀ x, foldedSetIterable iter X.env x = pure x := by intro _; rfl) :
    PE X (.ListComp elt [⟨tg, iter, ifs, 0⟩] scope pos) (tLc wi g tt te (own.map (·.2))) := by
  intro pins s σ H Q I h
  rw [eval_ListComp]
  refine lc_core hc hN I hi ok hg ht he hs h fun D C s' m H' I' q hn f => ⟨m, hn, fun h'' sb => ?_⟩
  obtain ⟨f0, f1, f2, f3, f4, f5⟩ := f
  exact ⟨.ref D, H', I'.turned (t' := s'.toks) (fun b o hb e => (sb.2 b hb).trans e) f0 f1 f3 f4 f5, rfl, q⟩
end

/-! ### the forms one uses -/
/-- over a range: Pv by the turn and the heap (the new list at D within) -/
theorem lc_range {lo : Int} {n : Nat} {g : TG} {tt : TT} {te : TE} {vs : List Nat} {σ : St} {H1 : Hp} {D : Addr} {Qd : Hp → Prop} (Pv : Nat → Hp → Prop) (h0 : Pv 0 (upd H1 D (.lst [])))
    (hs : ∀ i H, i < n → Pv i H → g (.int (lo + i)) (wipe σ vs) H fun σ2 H2 => wipe σ2 vs = wipe σ vs ∧ tt σ2 H2 fun b H3 =>
      if b = true then te σ2 H3 fun y H4 => ∃ acc, H4 D = some (.lst acc) ∧ acc.length < sizeLine ∧ Pv (i + 1) (upd H4 D (.lst (acc ++ [y]))) else Pv (i + 1) H3) (hd : ∀ H, Pv n H → Qd H) :
    ∃ W : Nat → Nat → Hp → Prop, (∃ m, W 0 m (upd H1 D (.lst []))) ∧ ∀ i m H, W i m H →
      ((Itr lo n).stop i H ∧ Qd H) ∨ ((Itr lo n).go i H ∧ ∃ Nx : Hp → Prop, (∀ H', Nx H' → ∃ m', m' < m ∧ W (i + 1) m' H') ∧ ∀ x H', (Itr lo n).yld i H x H' → g x (wipe σ vs) H' fun σ2 H2 => wipe σ2 vs = wipe σ vs ∧ tt σ2 H2 fun b H3 =>
        if b = true then te σ2 H3 fun y H4 => ∃ acc, H4 D = some (.lst acc) ∧ acc.length < sizeLine ∧ Nx (upd H4 D (.lst (acc ++ [y]))) else Nx H3) := by
  refine ⟨fun i m H => m = n - i ∧ i ≤ n ∧ Pv i H, ⟨n, by simp, Nat.zero_le _, h0⟩, ?_⟩
  rintro i m H ⟨rfl, hi, p⟩
  by_cases hlt : i < n
  · refine .inr ⟨hlt, Pv (i + 1), fun H' p' => ⟨n - (i + 1), by omega, rfl, hlt, p'⟩, fun x H' y => ?_⟩
    obtain ⟨e, y⟩ := y
    subst e y
    exact hs i _ hlt p
  · have e : i = n := by omega
    subst e
    exact .inl ⟨Nat.le_refl _, hd H p⟩
/-- over a tuple -/
theorem lc_tup {K : PySem.W.Frag} {a : Addr} {xs : List V} {g : TG} {tt : TT} {te : TE} {vs : List Nat} {σ : St} {H1 : Hp} {D : Addr} {Qd : Hp → Prop} (Pv : Nat → Hp → Prop) (h0 : Pv 0 (upd H1 D (.lst []))) (hl : ∀ i H, i ≤ xs.length → Pv i H → SqT K H a xs)
    (hs : ∀ i x H, xs[i]? = some x → Pv i H → g x (wipe σ vs) H fun σ2 H2 => wipe σ2 vs = wipe σ vs ∧ tt σ2 H2 fun b H3 =>
      if b = true then te σ2 H3 fun y H4 => ∃ acc, H4 D = some (.lst acc) ∧ acc.length < sizeLine ∧ Pv (i + 1) (upd H4 D (.lst (acc ++ [y]))) else Pv (i + 1) H3) (hd : ∀ H, Pv xs.length H → Qd H) :
    ∃ W : Nat → Nat → Hp → Prop, (∃ m, W 0 m (upd H1 D (.lst []))) ∧ ∀ i m H, W i m H →
      ((Itt K a).stop i H ∧ Qd H) ∨ ((Itt K a).go i H ∧ ∃ Nx : Hp → Prop, (∀ H', Nx H' → ∃ m', m' < m ∧ W (i + 1) m' H') ∧ ∀ x H', (Itt K a).yld i H x H' → g x (wipe σ vs) H' fun σ2 H2 => wipe σ2 vs = wipe σ vs ∧ tt σ2 H2 fun b H3 =>
        if b = true then te σ2 H3 fun y H4 => ∃ acc, H4 D = some (.lst acc) ∧ acc.length < sizeLine ∧ Nx (upd H4 D (.lst (acc ++ [y]))) else Nx H3) := by
  refine ⟨fun i m H => m = xs.length - i ∧ i ≤ xs.length ∧ Pv i H, ⟨xs.length, by simp, Nat.zero_le _, h0⟩, ?_⟩
  rintro i m H ⟨rfl, hi, p⟩
  have q := hl i H hi p
  by_cases hlt : i < xs.length
  · refine .inr ⟨⟨xs, xs[i], q, by simp [hlt]⟩, Pv (i + 1), fun H' p' => ⟨xs.length - (i + 1), by omega, rfl, hlt, p'⟩, fun x H' y => ?_⟩
    obtain ⟨e, y⟩ := y
    subst e
    exact hs i x _ (y xs q) p
  · have e : i = xs.length := by omega
    subst e
    exact .inl ⟨⟨xs, q, Nat.le_refl _⟩, hd H p⟩
def blkC (N : List Str) (sc scope : Scope) (own : List (Str × Nat)) : Bool :=
  (match scope.kind with | .function => true | _ => false) && (scope.names.all fun y => decide (scope.names.lookup y.1 = some y.2)) && (own.all fun p => decide (N[p.2]? = some p.1)) &&
    (scope.names.all fun y => match y.2 with
      | .free => (match sc.names.lookup y.1 with | some .cell => true | some .free => true | _ => false)
      | .local => decide (y.1 ∈ own.map (·.1)) || decide (y.1 ∉ N)
      | .cell => decide (y.1 ∈ own.map (·.1)) || decide (y.1 ∉ N)
      | _ => true)
theorem blkOk_by {N : List Str} {sc scope : Scope} {own : List (Str × Nat)} (h : blkC N sc scope own = true) : BlkOk N sc scope own := by
  unfold blkC at h
  simp only [Bool.and_eq_true, List.all_eq_true, decide_eq_true_eq] at h
  obtain ⟨⟨⟨h1, h2⟩, h3⟩, h4⟩ := h
  refine ⟨?_, h2, h3, fun y hy e => ?_, fun y hy e => ?_⟩
  · split at h1
    · assumption
    · cases h1
  · have q := h4 y hy
    simp only [e] at q
    split at q <;> first | exact .inl (by assumption) | exact .inr (by assumption) | cases q
  · have q := h4 y hy
    rcases e with e | e <;> (simp only [e, Bool.or_eq_true, decide_eq_true_eq] at q; exact q)
end L2

namespace L2
open PySem PySem.Spec PyProof.Rows

section
variable {prog : Program} {w : World} {A : Around} {R : Result → Shared → Prop} {s : Shared} {elt t0 i0 t1 i1 : Expr} {ifs0 ifs1 : List Expr} {scope : Scope} {pos : Pos} {it acc : Value} {env : Env}
end

section
variable {X : Cx}
/-- [elt for tg in iter if .. for tg1 in iter1 if ..]: behind the first clause's store and tests the second source's own loop, from which Nx is reached. vs: the block's names; vs1: those of the second target -/
def tLc2 (wi : TI) (g : TG) (tt : TT) (wi1 : TI) (g1 : TG) (tt1 : TT) (te : TE) (vs vs1 : List Nat) : TE := fun σ H Q => wi σ H fun J H1 => ∀ D, H1 D = none → ∃ W : Nat → Nat → Hp → Prop, (∃ m, W 0 m (upd H1 D (.lst []))) ∧ ∀ i m H, W i m H →
  (J.stop i H ∧ Q (.ref D) H) ∨ (J.go i H ∧ ∃ Nx : Hp → Prop, (∀ H', Nx H' → ∃ m', m' < m ∧ W (i + 1) m' H') ∧ ∀ x H', J.yld i H x H' → g x (wipe σ vs) H' fun σ2 H2 => wipe σ2 vs = wipe σ vs ∧ tt σ2 H2 fun b H3 =>
    if b = true then wi1 σ2 H3 fun J1 H4 => ∃ W1 : Nat → Nat → Hp → Prop, (∃ m, W1 0 m H4) ∧ ∀ j k H, W1 j k H →
      (J1.stop j H ∧ Nx H) ∨ (J1.go j H ∧ ∃ Nx1 : Hp → Prop, (∀ H', Nx1 H' → ∃ k', k' < k ∧ W1 (j + 1) k' H') ∧ ∀ x H', J1.yld j H x H' → g1 x (wipe σ2 vs1) H' fun σ3 H5 => wipe σ3 vs1 = wipe σ2 vs1 ∧ tt1 σ3 H5 fun b H6 =>
        if b = true then te σ3 H6 fun y H7 => ∃ acc, H7 D = some (.lst acc) ∧ acc.length < sizeLine ∧ Nx1 (upd H7 D (.lst (acc ++ [y]))) else Nx1 H6)
    else Nx H3)
end
end L2

namespace L2
open PySem PySem.Spec PyProof.Rows

/-! ### lists of pairs as tables -/
section
variable {κ : Type} [DecidableEq κ]
def valV (kvs : List (κ × V)) (k : κ) : Option V := (kvs.find? fun kv => decide (kv.1 = k)).map (·.2)
/-- in its place, or at the end -/
def putK (kvs : List (κ × V)) (k : κ) (v : V) : List (κ × V) :=
  if (kvs.any fun kv => decide (kv.1 = k)) = true then kvs.map (fun kv => if kv.1 = k then (kv.1, v) else kv) else kvs ++ [(k, v)]
def dropK (kvs : List (κ × V)) (k : κ) : List (κ × V) := kvs.filter fun kv => decide (kv.1 ≠ k)

theorem valV_pos {p : κ × V} {r : List (κ × V)} {k : κ} (e : p.1 = k) : valV (p :: r) k = some p.2 := by simp [valV, List.find?_cons, e]
theorem valV_neg {p : κ × V} {r : List (κ × V)} {k : κ} (e : ¬ p.1 = k) : valV (p :: r) k = valV r k := by simp [valV, List.find?_cons, e]
theorem valV_any (k : κ) : ∀ kvs : List (κ × V), (kvs.any fun kv => decide (kv.1 = k)) = (valV kvs k).isSome
  | [] => rfl
  | p :: r => by
    rw [List.any_cons]
    by_cases e : p.1 = k
    · simp only [valV_pos e, decide_eq_true e, Bool.true_or, Option.isSome_some]
    · rw [valV_neg e, decide_eq_false e, Bool.false_or]; exact valV_any k r
theorem RelO.isSome_eq {o : Option V} {u : Option Value} (r : RelO o u) : o.isSome = u.isSome := by
  cases o with
  | none => cases u with
    | none => rfl
    | some _ => exact (show False from r).elim
  | some _ => cases u with
    | none => exact (show False from r).elim
    | some _ => rfl
theorem RelO.getD {o : Option V} {u : Option Value} {d : V} {d' : Value} (r : RelO o u) (rd : RelV d d') : RelV (o.getD d) (u.getD d') := by
  cases o with
  | none => cases u with
    | none => exact rd
    | some _ => exact (show False from r).elim
  | some _ => cases u with
    | none => exact (show False from r).elim
    | some _ => exact r

theorem KV.any {kvs : List (κ × V)} {vs : List (κ × Value)} (r : KV kvs vs) (k : κ) : (kvs.any fun kv => decide (kv.1 = k)) = vs.any fun kv => decide (kv.1 = k) := by
  unfold KV at r
  induction r with
  | nil => rfl
  | cons h t ih => rw [List.any_cons, List.any_cons, ih, h.1]
theorem KV.repl {kvs : List (κ × V)} {vs : List (κ × Value)} (r : KV kvs vs) (k : κ) {y : V} {u : Value} (ry : RelV y u) :
    KV (kvs.map fun kv => if kv.1 = k then (kv.1, y) else kv) (vs.map fun kv => if kv.1 = k then (kv.1, u) else kv) := by
  unfold KV at r ⊢
  induction r with
  | nil => exact .nil
  | @cons p q ps qs h t ih =>
    rw [List.map_cons, List.map_cons]
    refine .cons ?_ ih
    obtain ⟨h1, h2⟩ := h
    by_cases e : p.1 = k
    · rw [if_pos e, if_pos (h1.symm.trans e)]; exact ⟨h1, ry⟩
    · rw [if_neg e, if_neg (fun z => e (h1.trans z))]; exact ⟨h1, h2⟩
theorem KV.put {kvs : List (κ × V)} {vs : List (κ × Value)} (r : KV kvs vs) (k : κ) {y : V} {u : Value} (ry : RelV y u) : KV (putK kvs k y) (stored vs k u) := by
  unfold putK stored
  rw [r.any k]
  by_cases e : (vs.any fun kv => decide (kv.1 = k)) = true
  · rw [if_pos e, if_pos e]; exact r.repl k ry
  · rw [if_neg e, if_neg e]; exact Paired.snoc r ⟨rfl, ry⟩
theorem KV.drop {kvs : List (κ × V)} {vs : List (κ × Value)} (r : KV kvs vs) (k : κ) : KV (dropK kvs k) (without vs k) := by
  unfold KV at r ⊢
  unfold dropK without
  induction r with
  | nil => exact .nil
  | @cons p q ps qs h t ih =>
    obtain ⟨h1, h2⟩ := h
    rw [List.filter_cons, List.filter_cons]
    by_cases e : p.1 = k
    · have a : ¬ decide (p.1 ≠ k) = true := by simp [e]
      have b : ¬ decide (q.1 ≠ k) = true := by simp [h1.symm.trans e]
      rw [if_neg a, if_neg b]; exact ih
    · have e' : ¬ q.1 = k := fun z => e (h1.trans z)
      have a : decide (p.1 ≠ k) = true := by simp [e]
      have b : decide (q.1 ≠ k) = true := by simp [e']
      rw [if_pos a, if_pos b]; exact .cons ⟨h1, h2⟩ ih
theorem KV.keys {kvs : List (κ × V)} {vs : List (κ × Value)} (r : KV kvs vs) : kvs.map (·.1) = vs.map (·.1) := by
  unfold KV at r
  induction r with
  | nil => rfl
  | cons h t ih => rw [List.map_cons, List.map_cons, ih, h.1]
theorem KV.length {kvs : List (κ × V)} {vs : List (κ × Value)} (r : KV kvs vs) : kvs.length = vs.length := Paired.length r
end


/-! ### a tracked dict, its keys ints and texts or tuples of these -/
theorem kV_is {P : Program} {w : World} {k : Key} {u : Value} (r : RelV (kV k) u) : (mixKind P w).is k u = true := by
  cases k with
  | inl i => obtain ⟨t, e⟩ := (show ∃ t, u = Value.int i t from r); subst e; exact mixKind_int P w i t
  | inr x => obtain ⟨t, e⟩ := (show ∃ t, u = Value.str x t from r); subst e; exact mixKind_str P w x t
/-- raw entries of a dict with tuple keys -/
abbrev KT (H : Hp) : List (List Key × V) → List (List Key × Addr × Value) → Prop := Paired fun p q => p.1 = q.1 ∧ H q.2.1 = some (.tup (p.1.map kV)) ∧ RelV p.2 q.2.2
theorem KT.val {H : Hp} {kvs : List (List Key × V)} {xs : List (List Key × Addr × Value)} (r : KT H kvs xs) (k : List Key) : RelO (valV kvs k) ((atKey xs k).map (·.2)) := by
  induction r with
  | nil => exact True.intro
  | @cons p q ps qs h t ih =>
    obtain ⟨h1, _, h2⟩ := h
    by_cases e : p.1 = k
    · have e' : q.1 = k := h1.symm.trans e
      have b : atKey (q :: qs) k = some q.2 := by simp [atKey, List.find?_cons, e']
      rw [valV_pos e, b]; exact h2
    · have e' : ¬ q.1 = k := fun z => e (h1.trans z)
      have b : atKey (q :: qs) k = atKey qs k := by simp [atKey, List.find?_cons, e']
      rw [valV_neg e, b]; exact ih
theorem KT.repl {H : Hp} {kvs : List (List Key × V)} {xs : List (List Key × Addr × Value)} (r : KT H kvs xs) (k : List Key) {y : V} {u : Value} (ry : RelV y u) :
    KT H (kvs.map fun kv => if kv.1 = k then (kv.1, y) else kv) (xs.map (putAt k u)) := by
  induction r with
  | nil => exact .nil
  | @cons p q ps qs h t ih =>
    rw [List.map_cons, List.map_cons]
    refine .cons ?_ ih
    obtain ⟨h1, h2, h3⟩ := h
    unfold putAt
    by_cases e : p.1 = k
    · rw [if_pos e, if_pos (h1.symm.trans e)]; exact ⟨h1, h2, ry⟩
    · rw [if_neg e, if_neg (fun z => e (h1.trans z))]; exact ⟨h1, h2, h3⟩
theorem KT.put {H : Hp} {kvs : List (List Key × V)} {xs : List (List Key × Addr × Value)} (r : KT H kvs xs) (k : List Key) {b : Addr} {y : V} {u : Value} (hb : H b = some (.tup (k.map kV))) (ry : RelV y u) :
    KT H (putK kvs k y) (storedH xs k b u) := by
  have e : (kvs.any fun kv => decide (kv.1 = k)) = (atKey xs k).isSome := by
    rw [valV_any, (r.val k).isSome_eq, Option.isSome_map]
  unfold putK storedH
  rw [e]
  by_cases q : (atKey xs k).isSome = true
  · rw [if_pos q, if_pos q]; exact r.repl k ry
  · rw [if_neg q, if_neg q]; exact Paired.snoc r ⟨rfl, hb, ry⟩
theorem KT.keeps {H H' : Hp} {kvs : List (List Key × V)} {xs : List (List Key × Addr × Value)} (r : KT H kvs xs) (ht : ∀ b ys, H b = some (.tup ys) → H' b = some (.tup ys)) : KT H' kvs xs :=
  Paired.mapP r fun _ _ z => ⟨z.1, ht _ _ z.2.1, z.2.2⟩

section
variable {P : Program} {w : World} {H : Hp} {h : Heap} {a : Addr}
end

/-- what the dict at a holds at the key y -/
def DGet (H : Hp) (a : Addr) (y : V) (r : Option V) : Prop :=
  (∃ kvs k, Rd H a (.dK kvs) ∧ y = kV k ∧ r = valV kvs k) ∨ ∃ kvs k b, Rd H a (.dT kvs) ∧ y = .ref b ∧ H b = some (.tup (k.map kV)) ∧ r = valV kvs k
/-- the heap behind a[y] = v -/
def DPut (H : Hp) (a : Addr) (y v : V) (H' : Hp) : Prop :=
  (∃ kvs k, H a = some (.dK kvs) ∧ y = kV k ∧ kvs.length < sizeLine ∧ H' = upd H a (.dK (putK kvs k v))) ∨
  ∃ kvs k b, H a = some (.dT kvs) ∧ y = .ref b ∧ H b = some (.tup (k.map kV)) ∧ kvs.length < sizeLine ∧ H' = upd H a (.dT (putK kvs k v))
theorem DGet.k {H : Hp} {a : Addr} {kvs : List (Key × V)} {k : Key} (e : H a = some (.dK kvs)) : DGet H a (kV k) (valV kvs k) := .inl ⟨kvs, k, .inl e, rfl, rfl⟩
theorem DGet.t {H : Hp} {a b : Addr} {kvs : List (List Key × V)} {k : List Key} (e : H a = some (.dT kvs)) (eb : H b = some (.tup (k.map kV))) : DGet H a (.ref b) (valV kvs k) := .inr ⟨kvs, k, b, .inl e, rfl, eb, rfl⟩
theorem DPut.k {H : Hp} {a : Addr} {kvs : List (Key × V)} {k : Key} {v : V} (e : H a = some (.dK kvs)) (hl : kvs.length < sizeLine) : DPut H a (kV k) v (upd H a (.dK (putK kvs k v))) := .inl ⟨kvs, k, e, rfl, hl, rfl⟩
theorem DPut.t {H : Hp} {a b : Addr} {kvs : List (List Key × V)} {k : List Key} {v : V} (e : H a = some (.dT kvs)) (eb : H b = some (.tup (k.map kV))) (hl : kvs.length < sizeLine) :
    DPut H a (.ref b) v (upd H a (.dT (putK kvs k v))) := .inr ⟨kvs, k, b, e, rfl, eb, hl, rfl⟩


section
variable {X : Cx} {pins : List (Addr × Obj)} {σ : St} {H : Hp} {s : Shared} {a : Addr} {y v : V} {u r : Value} {o : Option V} {A : Around} {E : Value → Shared → Prop}

end

section
variable {X : Cx} {pins : List (Addr × Obj)} {σ : St} {H : Hp} {s : Shared} {a : Addr} {kvs : List (Key × V)} {k : Key} {u : Value} {A : Around} {E : Value → Shared → Prop}
end


/-! ### readings and rules -/
/-- the element of a subscription, not a slice -/
def NoSl (i : Expr) : Prop := ∀ ov iv, subscripted i false ov iv = operate [ov, iv] (getItem ov iv)
/-- d[y] -/
def tDGet (td ty : TE) : TE := fun σ H Q => td σ H fun x H1 => ty σ H1 fun y H2 => ∃ a v, x = .ref a ∧ DGet H2 a y (some v) ∧ Q v H2
/-- y in d, y not in d -/
def tDIn (ty td : TE) : TE := fun σ H Q => ty σ H fun y H1 => td σ H1 fun x H2 => ∃ a o, x = .ref a ∧ DGet H2 a y o ∧ Q (.bl o.isSome) H2
def tDNotIn (ty td : TE) : TE := fun σ H Q => ty σ H fun y H1 => td σ H1 fun x H2 => ∃ a o, x = .ref a ∧ DGet H2 a y o ∧ Q (.bl (!o.isSome)) H2
/-- d[y] = v -/
def sDPut (td ty tv : TE) : TS := fun D σ H => tv σ H fun v H1 => td σ H1 fun x H2 => ty σ H2 fun y H3 => ∃ a H4, x = .ref a ∧ DPut H3 a y v H4 ∧ D.nx σ H4
/-- d[y] op= v -/
def sDAug (td ty tv : TE) (rd : V → V → Hp → VK → Prop) : TS := fun D σ H => td σ H fun x H1 => ty σ H1 fun y H2 => ∃ a v, x = .ref a ∧ DGet H2 a y (some v) ∧
  tv σ H2 fun y2 H3 => rd v y2 H3 fun z H4 => ∃ H5, DPut H4 a y z H5 ∧ D.nx σ H5
/-- del d[y] -/
def sDDel (td ty : TE) : TS := fun D σ H => td σ H fun x H1 => ty σ H1 fun y H2 => ∃ a kvs k, x = .ref a ∧ H2 a = some (.dK kvs) ∧ y = kV k ∧ (valV kvs k).isSome = true ∧ D.nx σ (upd H2 a (.dK (dropK kvs k)))

section
variable {X : Cx} {o i e value : Expr} {pos pos' tpos : Pos} {td ty tv : TE}
end


/-! ### displays -/
/-- {}, to be a dict of the kind that is wanted -/
def tDNewK : TE := fun _ H Q => ∀ p, H p = none → Q (.ref p) (upd H p (.dK []))
def tDNewT : TE := fun _ H Q => ∀ p, H p = none → Q (.ref p) (upd H p (.dT []))
section
variable {X : Cx} {pos : Pos}
end

/-- the pairs of a display, from the left -/
def tPairs : List (TE × TE) → St → Hp → (List (V × V) → Hp → Prop) → Prop
  | [], _, H, Q => Q [] H
  | (tk, tv) :: r, σ, H, Q => tk σ H fun x H1 => tv σ H1 fun y H2 => tPairs r σ H2 fun ps H3 => Q ((x, y) :: ps) H3
abbrev VV : List (V × V) → List (Value × Value) → Prop := Paired fun p q => RelV p.1 q.1 ∧ RelV p.2 q.2
def PPs (X : Cx) (pos : Pos) (keys : List (Option Expr)) (values : List Expr) (trs : List (TE × TE)) : Prop :=
  ∀ (pins : List (Addr × Obj)) (s : Shared) (σ : St) (H : Hp) (Q : List (V × V) → Hp → Prop), Inv X pins σ H s → tPairs trs σ H Q →
    wpAny (model X.prog X.w) X.A (evalPairs (pairTrees keys values X.env pos)) (fun vs s' => ∃ ps H', Inv X pins σ H' s' ∧ VV ps vs ∧ Q ps H') X.xe s
def mergeK (kvs more : List (Key × V)) : List (Key × V) := more.foldl (fun acc kv => putK acc kv.1 kv.2) kvs
/-- {k: v, ..} with keys ints and texts; the new dict stands empty while the pairs are made -/
def tDisp (trs : List (TE × TE)) : TE := fun σ H Q => ∀ p, H p = none → tPairs trs σ (upd H p (.dK [])) fun ps H2 => H2 p = some (.dK []) ∧ ∃ kvs : List (Key × V), ps = kvs.map (fun kv => (kV kv.1, kv.2)) ∧ kvs.length ≤ 15 ∧ Q (.ref p) (upd H2 p (.dK (mergeK [] kvs)))
/-! ### methods -/
/-- a method call o.m(e) of a built-in, with one argument: what must be seen of the text -/
structure M1 (X : Cx) (o : Expr) (m : Str) (apos : Pos) (e : Expr) (cpos : Pos) : Prop where
  base : attributeBase o m X.env (eval o X.env) = eval o X.env
  few : ((backTo cpos (starEach [e] X.env)).all (fun x => !x.1) && (backToKw cpos (keywordEach [] X.env)).all (fun x => x.1.isSome)
    && decide (([e] : List Expr).length + ([] : List Keyword).length + (if ([] : List Keyword).isEmpty then 0 else 1) < 30)) = true
  line : (apos.endLine == cpos.line) = true
  trees : backTo cpos (starEach [e] X.env) = [(false, eval e X.env)]
structure M2 (X : Cx) (o : Expr) (m : Str) (apos : Pos) (e f : Expr) (cpos : Pos) : Prop where
  base : attributeBase o m X.env (eval o X.env) = eval o X.env
  few : ((backTo cpos (starEach [e, f] X.env)).all (fun x => !x.1) && (backToKw cpos (keywordEach [] X.env)).all (fun x => x.1.isSome)
    && decide (([e, f] : List Expr).length + ([] : List Keyword).length + (if ([] : List Keyword).isEmpty then 0 else 1) < 30)) = true
  line : (apos.endLine == cpos.line) = true
  trees : backTo cpos (starEach [e, f] X.env) = [(false, eval e X.env), (false, eval f X.env)]

/-- a is a dict, whatever its keys -/
def IsD (H : Hp) (a : Addr) : Prop := (∃ kvs, Rd H a (.dK kvs)) ∨ ∃ kvs, Rd H a (.dT kvs)
section
variable {X : Cx} {pins : List (Addr × Obj)} {σ : St} {H : Hp} {s : Shared} {a : Addr} {y d : V} {u r : Value} {o : Option V} {A : Around} {E : Value → Shared → Prop}
end

def tDGet1 (td ty : TE) : TE := fun σ H Q => td σ H fun x H1 => ∃ a, x = .ref a ∧ IsD H1 a ∧ ty σ H1 fun y H2 => ∃ o, DGet H2 a y o ∧ Q (o.getD .non) H2
def tDGet2 (td ty tx : TE) : TE := fun σ H Q => td σ H fun x H1 => ∃ a, x = .ref a ∧ IsD H1 a ∧ ty σ H1 fun y H2 => tx σ H2 fun z H3 => ∃ o, DGet H3 a y o ∧ Q (o.getD z) H3
/-- d.pop(k): there; d.pop(k, x): there or not -/
def tDPop1 (td ty : TE) : TE := fun σ H Q => td σ H fun x H1 => ∃ a, x = .ref a ∧ IsD H1 a ∧ ty σ H1 fun y H2 => ∃ kvs k v, H2 a = some (.dK kvs) ∧ y = kV k ∧ valV kvs k = some v ∧ Q v (upd H2 a (.dK (dropK kvs k)))
def tDPop2 (td ty tx : TE) : TE := fun σ H Q => td σ H fun x H1 => ∃ a, x = .ref a ∧ IsD H1 a ∧ ty σ H1 fun y H2 => tx σ H2 fun z H3 => ∃ kvs k, H3 a = some (.dK kvs) ∧ y = kV k ∧
  (∀ v, valV kvs k = some v → Q v (upd H3 a (.dK (dropK kvs k)))) ∧ (valV kvs k = none → Q z H3)
section
variable {X : Cx} {o e f : Expr} {apos cpos : Pos} {td ty tx : TE}
end

/-! ### dict(d): a copy -/
section
variable {X : Cx} {pins : List (Addr × Obj)} {σ : St} {H : Hp} {s : Shared} {a : Addr} {kvs : List (Key × V)} {A : Around} {E : Value → Shared → Prop}
end


section
variable {X : Cx} {pins : List (Addr × Obj)} {σ : St} {H : Hp} {s : Shared} {a : Addr} {y : V} {u : Value} {A : Around} {E : Value → Shared → Prop}
end
end L2

namespace L2
open PySem PySem.Spec PyProof.Rows

section
variable {prog : Program} {w : World} {A : Around} {E : Value → Shared → Prop}
end

section
variable {X : Cx}
theorem pairs_of {pins : List (Addr × Obj)} {σ : St} {H : Hp} {s : Shared} (I : Inv X pins σ H s) : ∀ {ps : List Addr} {kvs : List (Key × V)}, Paired (fun p kv => SqT X.K H p [kV kv.1, kv.2]) ps kvs →
    ∃ prs : List (Key × Value), KV kvs prs ∧ prs.length = ps.length ∧ ∀ (j : Nat) (q : Key × Value), prs[j]? = some q → ∃ (b : Addr) (u : Value), ps[j]? = some b ∧ IsTup s.heap b #[u, q.2] ∧ keyIs q.1 u = true
  | _, _, .nil => ⟨[], .nil, rfl, fun j q e => by simp at e⟩
  | _, _, .cons (a := p) (b := kv) h t => by
    obtain ⟨prs, r, hl, hp⟩ := pairs_of I t
    obtain ⟨its, rv, ht, _⟩ := I.tuple h
    obtain ⟨u, y, ei, ru, ry⟩ := vals2 rv
    subst ei
    refine ⟨(kv.1, y) :: prs, .cons ⟨rfl, ry⟩ r, by rw [List.length_cons, List.length_cons, hl], fun j q e => ?_⟩
    cases j with
    | zero =>
      have e' : (kv.1, y) = q := Option.some.inj e
      subst e'
      exact ⟨p, u, rfl, ht, kV_is (P := X.prog) (w := X.w) ru⟩
    | succ j =>
      obtain ⟨b, u', e1, e2, e3⟩ := hp j q (by simpa using e)
      exact ⟨b, u', by simpa using e1, e2, e3⟩
end
end L2

namespace L2
open PySem PySem.Spec PyProof.Rows

section
variable {X : Cx} {pins : List (Addr × Obj)} {σ : St} {H : Hp} {s : Shared} {h' : Heap}
/-- several records of ours have turned -/
theorem Inv.turnedL {t' : Nat} {ch : List Addr} (I : Inv X pins σ H s) (k : ∀ b o, b ∉ ch → s.heap.get? b = some o → h'.get? b = some o) (hf : ∀ b ∈ ch, FpOk X pins H b) : Inv X pins σ H { s with heap := h', toks := t' } := by
  have nit : ∀ b u, H b = some u → b ∉ ch := fun b u e z => by
    have q := (hf b z).1
    rw [q] at e; cases e
  refine I.step (g' := s.gens) (d' := s.drawn) (ch := ch) (fun b hb => ⟨(hf b hb).2.2.2.1, (hf b hb).2.1, (hf b hb).2.2.2.2.1, (hf b hb).2.2.2.2.2⟩) (fun b o _ _ hc e _ => k b o hc e) (fun b o _ _ hc e _ => ⟨o.slots, k b o hc e⟩)
    (fun _ _ _ _ n => n) (fun b o hc e => ⟨o, k b o hc e⟩) (fun _ _ e => e) (fun _ _ _ e => e) (fun b ps e => ⟨#[], by rw [e]; simp⟩) (fun m hm => ?_) (fun b u e => ?_) I.bare
  · obtain ⟨o, es, ep, ho, r⟩ := hm
    exact ⟨o, es, ep, k _ o (fun z => (hf _ z).2.1 rfl) ho, r⟩
  · refine (I.hok b u e).stay (fun c v hc q => k c v ?_ q) (fun _ q => q) fun _ _ q => q
    rcases hc with z | z
    · rw [z]; exact nit b u e
    · exact nit c _ z
/-- .. and one new object is laid -/
theorem Inv.turnedNew {t' : Nat} {ch : List Addr} {T : Addr} {ob : HO} (I : Inv X pins σ H s) (k : ∀ b o, b ∉ ch → s.heap.get? b = some o → h'.get? b = some o) (hf : ∀ b ∈ ch, FpOk X pins H b) (hT : s.heap.objs.size ≤ T)
    (new : ObjOk X.prog X.w (upd H T ob) h' T ob) : Inv X pins σ (upd H T ob) { s with heap := h', toks := t' } := by
  have hn : H T = none := I.hok.fresh hT
  have nit : ∀ b u, H b = some u → b ∉ ch := fun b u e z => by
    have q := (hf b z).1
    rw [q] at e; cases e
  refine I.step (g' := s.gens) (d' := s.drawn) (ch := ch) (fun b hb => ⟨(hf b hb).2.2.2.1, (hf b hb).2.1, (hf b hb).2.2.2.2.1, (hf b hb).2.2.2.2.2⟩) (fun b o _ _ hc e _ => k b o hc e) (fun b o _ _ hc e _ => ⟨o.slots, k b o hc e⟩)
    (fun b o _ e n => ?_) (fun b o hc e => ⟨o, k b o hc e⟩) (fun b xs e => ?_) (fun b o u e => ?_) (fun b ps e => ⟨#[], ?_⟩) (fun m hm => ?_) (fun b u e => ?_) I.bare
  · rw [upd_ne (Nat.ne_of_lt (Nat.lt_of_lt_of_le (Heap.lt_size e) hT))]; exact n
  · rw [upd_ne (ne_of_none e hn)]; exact e
  · rw [upd_ne (ne_of_none e hn)]; exact e
  · rw [upd_ne (ne_of_none e hn), e]; simp
  · obtain ⟨o, es, ep, ho, r⟩ := hm
    exact ⟨o, es, ep, k _ o (fun z => (hf _ z).2.1 rfl) ho, r⟩
  · by_cases hb : b = T
    · subst hb
      rw [upd_same] at e
      cases e
      exact new
    · rw [upd_ne hb] at e
      refine (I.hok b u e).stay (fun c v hc q => k c v ?_ q) (fun c q => by rw [upd_ne (ne_of_none q hn)]; exact q) fun c xs q => by rw [upd_ne (ne_of_none q hn)]; exact q
      rcases hc with z | z
      · rw [z]; exact nit b u e
      · exact nit c _ z

/-! ### locking a thing while a statement runs -/
end
/-- the statement runs while the thing at d is locked (read, not written); d and what stands there are the reading's choice -/
def tLock (t : TS) : TS := fun D σ H => ∃ d u, H d = some u ∧ Mut (some u) ∧ ∀ od, t ⟨fun σ' H' => H' d = some (.frz od u) ∧ D.nx σ' (upd H' d u), fun v H' => H' d = some (.frz od u) ∧ D.rt v (upd H' d u), fun σ' H' => H' d = some (.frz od u) ∧ D.bk σ' (upd H' d u), fun σ' H' => H' d = some (.frz od u) ∧ D.ct σ' (upd H' d u)⟩ σ (upd H d (.frz od u))
def tLockE (t : TE) : TE := fun σ H Q => ∃ d u, H d = some u ∧ Mut (some u) ∧ ∀ od, t σ (upd H d (.frz od u)) fun v H' => H' d = some (.frz od u) ∧ Q v (upd H' d u)
section
variable {X : Cx}
/-! ### one iterator just laid -/
end

/-! ### range with a step -/
/-- lo, lo + c, .. (n of them) -/
def Itc (lo c : Int) (n : Nat) : It := ⟨fun i _ => i < n, fun i H x H' => H' = H ∧ x = .int (lo + (i : Nat) * c), fun i _ => n ≤ i⟩
/-- range(i, j, c): small bounds, n items -/
def RgC (i j c : Int) (n : Nat) : Prop := c ≠ 0 ∧ c.natAbs < 1073741824 ∧ Builtin.Range.small i j c = true ∧ Builtin.Range.rangeSize i j c = n
theorem RgC.neg {i j : Int} (ha : -(2 ^ 62) ≤ i) (ha' : i < 2 ^ 62) (hb : -(2 ^ 62) ≤ j) (hb' : j < 2 ^ 62) : RgC i j (-1) (i - j).toNat :=
  ⟨by decide, by decide, PySem.W.small_down ha ha' hb hb', PySem.W.rangeSize_downNat i j⟩
def iRng3 (ta : TA) : TI := fun σ H R => ta σ H fun vs H1 => ∃ (i j c : Int) (n : Nat), vs = [.int i, .int j, .int c] ∧ RgC i j c n ∧ R (Itc i c n) H1
section
variable {X : Cx} {tg : Expr}
end
/-! ### reversed(list) -/
/-- the list at a (n items at the start, which the loop leaves there), from its end -/
def Itv (K : PySem.W.Frag) (a : Addr) (n : Nat) : It :=
  ⟨fun i H => i < n ∧ ∃ (xs : List V) (x : V), SqL K H a xs ∧ xs[n - 1 - i]? = some x, fun i H x H' => H' = H ∧ ∀ xs, SqL K H a xs → xs[n - 1 - i]? = some x, fun i _ => n ≤ i⟩
def iRev (K : PySem.W.Frag) (ta : TA) : TI := fun σ H R => ta σ H fun vs H1 => ∃ (a : Addr) (xs : List V), vs = [.ref a] ∧ SqL K H1 a xs ∧ R (Itv K a xs.length) H1
section
variable {X : Cx} {tg : Expr}
end

/-! ### a str -/
def Its (x : Str) : It := ⟨fun i _ => i < x.cps.size, fun i H v H' => H' = H ∧ ∃ c, x.cps[i]? = some c ∧ v = .str ⟨#[c]⟩, fun i _ => x.cps.size ≤ i⟩
def iStr (te : TE) : TI := fun σ H R => te σ H fun v H1 => ∃ x, v = .str x ∧ R (Its x) H1
/-! ### a dict's keys: any dict's entries -/
section
variable {prog : Program} {w : World} {A : Around} {E : Value → Shared → Prop} {s : Shared}
end

/-! ### a locked dict -/
section
variable {X : Cx} {pins : List (Addr × Obj)} {σ : St} {H : Hp} {s : Shared} {d : Addr} {o : Obj}
end

/-- the keys of the locked dict at d, in their order -/
def Itk (d : Addr) (o : Obj) (kvs : List (Key × V)) : It :=
  ⟨fun i H => H d = some (.frz o (.dK kvs)) ∧ i < kvs.length, fun i H x H' => H' = H ∧ ∃ k v, kvs[i]? = some (k, v) ∧ x = kV k, fun i H => H d = some (.frz o (.dK kvs)) ∧ kvs.length ≤ i⟩
/-- .. of tuple keys: the key's own tuple -/
def Itkt (d : Addr) (o : Obj) (kvs : List (List Key × V)) : It :=
  ⟨fun i H => H d = some (.frz o (.dT kvs)) ∧ i < kvs.length, fun i H x H' => H' = H ∧ ∃ (k : List Key) (v : V) (q : Addr), kvs[i]? = some (k, v) ∧ x = .ref q ∧ H q = some (.tup (k.map kV)), fun i H => H d = some (.frz o (.dT kvs)) ∧ kvs.length ≤ i⟩
/-- the values -/
def Itd (d : Addr) (o : Obj) (kvs : List (Key × V)) : It :=
  ⟨fun i H => H d = some (.frz o (.dK kvs)) ∧ i < kvs.length, fun i H x H' => H' = H ∧ ∃ k, kvs[i]? = some (k, x), fun i H => H d = some (.frz o (.dK kvs)) ∧ kvs.length ≤ i⟩
/-- the pairs, each a new tuple -/
def Iti (d : Addr) (o : Obj) (kvs : List (Key × V)) : It :=
  ⟨fun i H => H d = some (.frz o (.dK kvs)) ∧ i < kvs.length, fun i H x H' => ∃ T k v, kvs[i]? = some (k, v) ∧ x = .ref T ∧ H T = none ∧ H' = upd H T (.tup [kV k, v]), fun i H => H d = some (.frz o (.dK kvs)) ∧ kvs.length ≤ i⟩
section
variable {P : Program} {w : World} {K : PySem.W.Frag} {tg : Expr} {d : Addr} {o : Obj} {es : Array DictEntry} {ep : Nat}
end

/-! ### for k in d, d.keys(), d.values(), d.items() -/
/-- the dict is locked (tLock, or by the caller) -/
def iKeys (td : TE) : TI := fun σ H R => td σ H fun x H1 => ∃ d o, x = .ref d ∧ ((∃ kvs, H1 d = some (.frz o (.dK kvs)) ∧ R (Itk d o kvs) H1) ∨ ∃ kvs, H1 d = some (.frz o (.dT kvs)) ∧ R (Itkt d o kvs) H1)
def iVals (td : TE) : TI := fun σ H R => td σ H fun x H1 => ∃ d o kvs, x = .ref d ∧ H1 d = some (.frz o (.dK kvs)) ∧ R (Itd d o kvs) H1
def iItems (td : TE) : TI := fun σ H R => td σ H fun x H1 => ∃ d o kvs, x = .ref d ∧ H1 d = some (.frz o (.dK kvs)) ∧ R (Iti d o kvs) H1
def iKeysM (td : TE) : TI := fun σ H R => td σ H fun x H1 => ∃ d o kvs, x = .ref d ∧ H1 d = some (.frz o (.dK kvs)) ∧ R (Itk d o kvs) H1
section
variable {X : Cx} {tg e : Expr} {td : TE} {apos cpos : Pos}
end

/-! ### enumerate(list) -/
/-- the list at a as it stands at each turn, each item in a new pair -/
def Ite (K : PySem.W.Frag) (a : Addr) : It :=
  ⟨fun i H => ∃ (xs : List V) (x : V), SqL K H a xs ∧ xs[i]? = some x, fun i H v H' => ∃ T x, v = .ref T ∧ H T = none ∧ H' = upd H T (.tup [.int (i : Nat), x]) ∧ ∀ xs, SqL K H a xs → xs[i]? = some x, fun i H => ∃ xs : List V, SqL K H a xs ∧ xs.length ≤ i⟩
def iEnum (K : PySem.W.Frag) (ta : TA) : TI := fun σ H R => ta σ H fun vs H1 => ∃ a xs, vs = [.ref a] ∧ SqL K H1 a xs ∧ R (Ite K a) H1
/-! ### zip(list, list) -/
theorem boot_zip5 : bootBuiltins "zip" = some (.type "zip") := by decide +kernel
/-- the lists at a and b as they stand at each turn, the items in new pairs -/
def Itz (K : PySem.W.Frag) (a b : Addr) : It :=
  ⟨fun i H => ∃ (xs ys : List V) (x y : V), SqL K H a xs ∧ SqL K H b ys ∧ xs[i]? = some x ∧ ys[i]? = some y,
    fun i H v H' => ∃ T x y, v = .ref T ∧ H T = none ∧ H' = upd H T (.tup [x, y]) ∧ (∀ xs, SqL K H a xs → xs[i]? = some x) ∧ ∀ ys, SqL K H b ys → ys[i]? = some y,
    fun i H => ∃ xs ys : List V, SqL K H a xs ∧ SqL K H b ys ∧ (xs.length ≤ i ∨ ys.length ≤ i)⟩
def iZip (K : PySem.W.Frag) (ta : TA) : TI := fun σ H R => ta σ H fun vs H1 => ∃ a b xs ys, vs = [.ref a, .ref b] ∧ SqL K H1 a xs ∧ SqL K H1 b ys ∧ R (Itz K a b) H1
end L2

section 
namespace Bits
open PySem PyProof.Rows

end Bits
end 

section 
namespace TL
open PySem PySem.Builtin PySem.Builtin.Str PySem.StrLaws

abbrev tl (x : Str) : List Nat := x.cps.toList
theorem len_tl (x : Str) : x.length = (tl x).length := by simp [tl, Str.length]
theorem tl_append (x y : Str) : tl (x ++ y) = tl x ++ tl y := by
  show (x ++ y).cps.toList = _
  rw [Str.cps_append, Array.toList_append]
/-! ### the list functions -/
/-- S stands at the head of l -/
def pre (S l : List Nat) : Bool := l.take S.length == S
/-- l cut at each S from the left; k signs are still to be passed over -/
def spl (S : List Nat) : Nat → List Nat → List Nat → List (List Nat)
  | _, acc, [] => [acc]
  | 0, acc, c :: r => if pre S (c :: r) = true then acc :: spl S (S.length - 1) [] r else spl S 0 (acc ++ [c]) r
  | k + 1, acc, _ :: r => spl S k acc r
/-- what stands before the first S, and behind it -/
def par (S : List Nat) : List Nat → List Nat → Option (List Nat × List Nat)
  | _, [] => none
  | acc, c :: r => if pre S (c :: r) = true then some (acc, (c :: r).drop S.length) else par S (acc ++ [c]) r

/-! ### the model's split and partition are these -/
/-! ### computing spl and par -/
/-- joined lists -/
def joinL (S : List Nat) : List (List Nat) → List Nat
  | [] => []
  | [p] => p
  | p :: q :: r => p ++ (S ++ joinL S (q :: r))
theorem tl_join (y : Str) : ∀ parts : List Str, tl (Str.join y parts) = joinL (tl y) (parts.map tl)
  | [] => rfl
  | [_] => rfl
  | x :: z :: r => by
    show tl (x ++ y ++ Str.join y (z :: r)) = tl x ++ (tl y ++ joinL (tl y) ((z :: r).map tl))
    rw [tl_append, tl_append, tl_join y (z :: r), List.append_assoc]
theorem join_eq (y : Str) (parts : List Str) : Txt.join y parts = Str.join y parts := glued_eq_join y parts
/-! ### digits -/
/-- the signs of a number -/
def numL (n : Nat) : List Nat := (Nat.toDigits 10 n).map Char.toNat
/-! ### words: x.split() -/
def wstep (st : List (List Nat) × List Nat) (c : Nat) : List (List Nat) × List Nat :=
  if Unicode.isSpace c = true then (if st.2 = [] then st else (st.1 ++ [st.2], [])) else (st.1, st.2 ++ [c])
def wfin (st : List (List Nat) × List Nat) : List (List Nat) := if st.2 = [] then st.1 else st.1 ++ [st.2]
end TL
end 

namespace L2
open PySem PySem.Spec PyProof.Rows

theorem strs_of_vals : ∀ {ys : List Str} {us : List Value}, Vals (ys.map V.str) us → StrsAre us ys
  | [], _, .nil => .nil
  | y :: ys, _, .cons r t => by
    obtain ⟨k, rfl⟩ := r
    exact .cons y k (strs_of_vals t)

/-- a new list of texts, tracked -/
def rNewStrs (ys : List Str) : Hp → VK → Prop := fun H Q => ∀ p, H p = none → Q (.ref p) (upd H p (.lst (ys.map V.str)))

section
variable {X : Cx} {pins : List (Addr × Obj)} {σ : St} {H : Hp} {s : Shared} {Q : VK}
end

section
variable {X : Cx}

/-- sep.join(a list | a tuple of texts) -/
theorem mt_join : MtR X "str.join" (fun x xs H Q => ∃ a p, ∃ ys : List Str, x = .str a ∧ xs = [.ref p] ∧ (SqL X.K H p (ys.map V.str) ∨ SqT X.K H p (ys.map V.str)) ∧
    (ys.map (·.length)).sum + ys.length * a.length ≤ 16777216 ∧ Q (.str (Txt.join a ys)) H) := by
  intro pins s σ H x xs v us Q I rx rs h
  obtain ⟨a, p, ys, rfl, rfl, hp, hz, h⟩ := h
  obtain ⟨t, rfl⟩ := rx
  cases rs with
  | cons r1 rs =>
    cases rs
    cases r1
    rcases hp with hp | hp
    · obtain ⟨its, r, ⟨o, n, ho, hc, _, hd⟩, _⟩ := I.list hp
      exact PyProof.Rows.join_list (items := its.toArray) ⟨o, ho, hc, n, hd⟩ (by rw [List.toList_toArray]; exact strs_of_vals r) hz fun t' k => ⟨.str _, H, I.tok k, ⟨t', rfl⟩, h⟩
    · obtain ⟨its, r, ht, _⟩ := I.tuple hp
      exact PyProof.Rows.join_tuple (items := its.toArray) ht (by rw [List.toList_toArray]; exact strs_of_vals r) hz fun t' k => ⟨.str _, H, I.tok k, ⟨t', rfl⟩, h⟩

/-! ### of a text alone -/
/-! ### of a text and a text -/
end

section
variable {X : Cx} {o e : Expr} {to te : TE}
def tM0 (r : V → List V → Hp → VK → Prop) (to : TE) : TE := fun σ H Q => to σ H fun x H1 => (∃ a, x = .str a) ∧ r x [] H1 Q
def tM1 (r : V → List V → Hp → VK → Prop) (to te : TE) : TE := fun σ H Q => to σ H fun x H1 => (∃ a, x = .str a) ∧ te σ H1 fun y H2 => r x [y] H2 Q
theorem pe_m1 {id : String} {name : Str} {apos pos : Pos} {r : V → List V → Hp → VK → Prop} (slot : Slot "str" name id) (ty : typeOf (.builtin id) = pure (.type "method_descriptor")) (rule : MtR X id r) (ho : PE X o to) (he : PE X e te)
    (hs : starEach [e] X.env = [(false, eval e X.env)] := by rfl) (hbase : attributeBase o name X.env (eval o X.env) = eval o X.env := by rfl) (hline : (apos.endLine == pos.line) = true := by rfl) :
    PE X (.Call (.Attribute o name apos) [e] [] pos) (tM1 r to te) := by
  intro pins s σ H Q I h
  refine PySem.Call_method1 hbase hs hline (thn (ho pins s σ H _ I h) fun v s1 ⟨x, H1, I1, r1, q1⟩ => ?_)
  obtain ⟨⟨a, rfl⟩, q1⟩ := q1
  obtain ⟨t, rfl⟩ := _root_.id r1
  refine ⟨"str", _, F.plainAttrs_str, slot, ty, typeIs_str _ _ _, (fun _ e => nomatch e), Calls.callWith_builtin rfl (Calls.evalArgs_plain (Calls.spliced_cons ?_))⟩
  exact thn (he pins s1 σ H1 _ I1 q1) fun u s2 ⟨y, H2, I2, r2, q2⟩ => Calls.spliced_nil (rule pins s2 σ H2 _ [y] _ [u] Q I2 r1 (.cons r2 .nil) q2)

theorem pe_join {apos pos : Pos} (ho : PE X o to) (he : PE X e te) (hs : starEach [e] X.env = [(false, eval e X.env)] := by rfl) (hbase : attributeBase o "join" X.env (eval o X.env) = eval o X.env := by rfl) (hline : (apos.endLine == pos.line) = true := by rfl) :
    PE X (.Call (.Attribute o "join" apos) [e] [] pos) (tM1 (fun x xs H Q => ∃ a p, ∃ ys : List Str, x = .str a ∧ xs = [.ref p] ∧ (SqL X.K H p (ys.map V.str) ∨ SqT X.K H p (ys.map V.str)) ∧
      (ys.map (·.length)).sum + ys.length * a.length ≤ 16777216 ∧ Q (.str (Txt.join a ys)) H) to te) :=
  pe_m1 F.slot_str_join F.type_str_join mt_join ho he hs hbase hline
end
end L2

namespace L2
open PySem PySem.Spec PyProof.Rows

section
variable {X : Cx}
end

/-! ### slices of a text -/
theorem IsPart.raw {v : Value} {o : Option Int} (p : IsPart v o) : ∃ l : Option (Int × Tok), v = partValue l ∧ l.map (·.1) = o := by
  cases p with
  | none => exact ⟨none, rfl, rfl⟩
  | int i t => exact ⟨some (i, t), rfl, rfl⟩

/-- a part, clipped, as the text's slice reckons it -/
def clipS (n d : Nat) : Option Int → Int
  | none => (d : Int)
  | some i => max 0 (min (if i < 0 then i + (n : Int) else i) (n : Int))
theorem clipS_eq (n d : Nat) (o : Option Int) : clipS n d o = ((HT.sIx n d o : Nat) : Int) := by
  cases o with
  | none => rfl
  | some v =>
    show max (0 : Int) (min (if v < 0 then v + (n : Int) else v) (n : Int)) = (((if v < 0 then (v + (n : Int)).toNat else min v.toNat n) : Nat) : Int)
    by_cases hv : v < 0
    · simp only [if_pos hv]
      omega
    · simp only [if_neg hv]
      omega
theorem sidx_clip (a b : Option Int) (n : Nat) : Builtin.Str.strSliceIndices a b 1 n = sliceRange (clipS n 0 a) (clipS n n b) 1 := by
  have h1 : ((1 : Int) > 0) = True := by simp
  cases a <;> cases b <;> first
    | rfl
    | (simp only [Builtin.Str.strSliceIndices, clipS, h1, if_true]; rfl)
    | simp [Builtin.Str.strSliceIndices, clipS]
theorem sidx (a b : Option Int) (n : Nat) : Builtin.Str.strSliceIndices a b 1 n = (List.range (HT.sIx n n b - HT.sIx n 0 a)).map (fun k => HT.sIx n 0 a + k) := by
  rw [sidx_clip, clipS_eq, clipS_eq]
  generalize HT.sIx n 0 a = p
  generalize HT.sIx n n b = q
  simp only [sliceRange, show ((1 : Int) > 0) = True from by simp, if_true]
  by_cases hlt : (p : Int) < q
  · have e3 : (((q : Int) - p + 1 - 1) / 1).toNat = q - p := by first | omega | (simp; done) | (simp; omega)
    simp only [hlt, if_true, e3]
    refine List.map_congr_left fun k _ => ?_
    omega
  · have : q - p = 0 := by omega
    simp [hlt, this]

/-- z[lo:hi] -/
def cutS (z : Str) (lo hi : Option Int) : Str :=
  ⟨((z.cps.toList.drop (HT.sIx z.length 0 lo)).take (HT.sIx z.length z.length hi - HT.sIx z.length 0 lo)).toArray⟩
theorem sliceText_cut (z : Str) (lo hi : Option Int) : PySem.StrLaws.sliceText z lo hi = cutS z lo hi := by
  have h1 : HT.sIx z.length 0 lo ≤ z.length := HT.sIx_le _ _ (Nat.zero_le _) _
  have h2 : HT.sIx z.length z.length hi ≤ z.length := HT.sIx_le _ _ (Nat.le_refl _) _
  have hp : HT.sIx z.length 0 lo ≤ max (HT.sIx z.length 0 lo) (HT.sIx z.length z.length hi) := Nat.le_max_left _ _
  have hq : max (HT.sIx z.length 0 lo) (HT.sIx z.length z.length hi) ≤ z.length := Nat.max_le.mpr ⟨h1, h2⟩
  have hd : max (HT.sIx z.length 0 lo) (HT.sIx z.length z.length hi) - HT.sIx z.length 0 lo = HT.sIx z.length z.length hi - HT.sIx z.length 0 lo := by omega
  have e : Builtin.Str.strSliceIndices lo hi 1 z.length =
      Builtin.Str.strSliceIndices (some ((HT.sIx z.length 0 lo : Nat) : Int)) (some ((max (HT.sIx z.length 0 lo) (HT.sIx z.length z.length hi) : Nat) : Int)) 1 z.length := by
    rw [PySem.StrLaws.strSliceIndices_plain hp hq, hd, sidx]
  have e2 : PySem.StrLaws.sliceText z lo hi =
      PySem.StrLaws.sliceText z (some ((HT.sIx z.length 0 lo : Nat) : Int)) (some ((max (HT.sIx z.length 0 lo) (HT.sIx z.length z.length hi) : Nat) : Int)) := by
    unfold PySem.StrLaws.sliceText
    rw [e]
  rw [e2, PySem.StrLaws.sliceText_nat z hp hq, hd]
  rfl
theorem cutS_length (z : Str) (lo hi : Option Int) : (cutS z lo hi).length ≤ z.length := by
  show (((z.cps.toList.drop (HT.sIx z.length 0 lo)).take (HT.sIx z.length z.length hi - HT.sIx z.length 0 lo)).toArray).size ≤ z.cps.size
  rw [List.size_toArray, List.length_take, List.length_drop, Array.length_toList]
  omega
def rSlS : V → Option Int → Option Int → Hp → VK → Prop := fun x lo hi H Q => ∃ z, x = .str z ∧ z.length ≤ sizeLine ∧ Q (.str (cutS z lo hi)) H
theorem sl_str {X : Cx} : SlR X rSlS := by
  intro pins s σ H x v vl vu lo hi sl Q I rx hs pl pu h
  obtain ⟨z, rfl, hz, q⟩ := h
  obtain ⟨t, rfl⟩ := rx
  obtain ⟨os, hos, hcs, hds⟩ := hs
  obtain ⟨l, rfl, rfl⟩ := IsPart.raw pl
  obtain ⟨u, rfl, rfl⟩ := IsPart.raw pu
  refine ⟨"str", _, F.slot_str_getitem.lookup, typeIs_str _ _ _, ?_⟩
  refine wpAny_getItem_str_slice (l := l) (u := u) (st := none) ⟨os, hos, hcs, hds⟩ rfl ?_
  have hl : (PySem.StrLaws.sliceText z (l.map (·.1)) (u.map (·.1))).length ≤ sizeLine := by
    rw [sliceText_cut]
    exact Nat.le_trans (cutS_length z _ _) hz
  rw [← sliceText_cut] at q
  unfold PySem.StrLaws.sliceText at q hl
  show Made.post (if ((1 : Int) == 1 && (Builtin.Str.strSliceIndices (l.map (·.1)) (u.map (·.1)) 1 z.length).length == z.length) = true then Made.val (.str z t)
    else Made.str ⟨((Builtin.Str.strSliceIndices (l.map (·.1)) (u.map (·.1)) 1 z.length).filterMap (z.cps[·]?)).toArray⟩) (EP X pins σ Q) s
  by_cases c : ((1 : Int) == 1 && (Builtin.Str.strSliceIndices (l.map (·.1)) (u.map (·.1)) 1 z.length).length == z.length) = true
  · rw [if_pos c] at q ⊢
    exact ⟨.str z, H, I, ⟨t, rfl⟩, q⟩
  · rw [if_neg c] at q hl ⊢
    exact ⟨hl, .str _, H, I.tok _, ⟨_, rfl⟩, q⟩
end L2

namespace Att
open PySem PySem.W PySem.Calls PyProof.Rows

/-! ### the script -/
theorem ints_of_wellAll {P : Params} {h : Heap} : ∀ (ns : List Int) (vs : List Value), WellAll P h vs (ns.map WData.int) → IntsAre vs ns := by
  intro ns
  induction ns with
  | nil =>
    intro vs w
    rw [List.map_nil] at w
    cases w
    exact .nil
  | cons n ns ih =>
    intro vs w
    rw [List.map_cons] at w
    cases w with
    | cons a b =>
      cases a
      exact .cons _ _ (ih _ b)

theorem script_of {l : OpenLaw} {n : Nat} (hn : l.most = some n) {P : Params} {h : Heap} {args : List WData} {vals : List Value}
    (hpre : l.row.toRowW.claim.pre args = true) (hwl : WellAll P h vals args) :
    ∃ a vs ns, vals = [Value.ref a] ∧ args = [WData.list (ns.map WData.int)] ∧ h.get? a = some { cls := .type "list", data := .seq vs.toArray } ∧ IntsAre vs ns ∧ ns.length ≤ n := by
  have hsh : WShape.hasAll [] args [.list .int] = true := (pre_splitW hpre).1
  have hc : l.pre.holds [] { args := args } = true := (pre_splitW hpre).2
  obtain ⟨d, r, rfl, h1, h2⟩ := hasAllW_cons hsh
  obtain rfl := hasAllW_nil h2
  obtain ⟨xs, rfl, h3⟩ := hasW_list h1
  obtain ⟨ns, rfl⟩ := items_int h3
  have hlen : ns.length ≤ n := by
    unfold OpenLaw.pre at hc
    have h4 : (WTm.not (.lt (.lit (.int (n : Int))) (.len (.arg 0)))).holds [] { args := [.list (ns.map .int)] } = true := by
      have h4 := (holds_andW hc).1
      rw [hn] at h4
      exact h4
    have h5 := condW_of h4 (w_not (w_lt w_lit (w_len_list (w_arg rfl))))
    rw [List.length_map] at h5
    refine Nat.le_of_not_lt fun q => ?_
    have q' : (n : Int) < ((ns.length : Nat) : Int) := by omega
    first
      | (rw [decide_eq_true q'] at h5; exact absurd h5 (by decide))
      | (simp at h5; omega)
  cases hwl with
  | cons w1 w2 =>
    cases w2
    cases w1 with
    | list ho hall => exact ⟨_, _, ns, rfl, rfl, ho, ints_of_wellAll ns _ hall, hlen⟩

theorem post_true (l : OpenLaw) (args : List WData) : l.row.toRowW.claim.post args (.bool true) args = true :=
  postW_of (r := l.row.toRowW) (X := (true == true))
    (show WShape.has [] (.bool true) .bool = true by first | rfl | decide | simp [WShape.has, WShape.arms, WShape.armsAll])
    (show (WTm.eq .res (.lit (.bool true))).value [] { args := args, res := some (.bool true), after := args } = some (.bool (true == true)) from w_eq_bool (w_res rfl) w_lit) rfl

/-! ### the attachment: holds_open's last premise (the goal 'hc' behind k_head) from a wpAny of the law's body -/
/-- the same from a codeAny of the CALL (for a layer whose function contracts speak of calls) -/
theorem attach_call {l : OpenLaw} {n : Nat} {q : Program} {loose : List Str} {XP : (Str → Option Value) → Heap → Prop} {YP : World → Heap → Prop} {d : DefRec}
    (hn : l.most = some n) (hdf : d.params.defaults = [])
    (call : ∀ (w : World) (s₀ s₁ : Shared) (mg mb : Str → Option Value) (fa : Addr) (o : Obj) (pm cd doc : Value) (a : Addr) (vs : List Value) (ns : List Int),
      Ground q loose [] XP w s₀ mg mb s₁.heap → YP w s₁.heap →
      s₁.heap.get? fa = some o → o.data = .func (docDef d.name d.params d.body d.scope pm cd doc) → s₁.heap.CodeRec cd d.name → mg d.name = some (.ref fa) →
      s₁.heap.get? a = some { cls := .type "list", data := .seq vs.toArray } → IntsAre vs ns → ns.length ≤ n → s₁.gens = #[] →
      codeAny (model l.prog w) callerA (.call (.ref fa) ⟨[.ref a], []⟩) (fun r s' => r = .ok (.ret (.bool true)) ∧ OldK s₁.heap s'.heap ∧ s'.os = s₁.os ∧ AllBare s'.gens) s₁) :
    WalkO q loose XP YP l.row.toRowW d [] (fun f vs => PySem.call f vs) := by
  intro w s₀ s₁ mg mb G Y fa o pm cd doc dV kV ho hd hcd hD hmg hg args vals as hpre hlay hrd hwl hlo
  obtain rfl : dV = .none := Dflts.none hD hdf
  obtain rfl : kV = .none := Dflts.noKw hD
  obtain ⟨a, vs, ns, rfl, rfl, hobj, hints, hlen⟩ := script_of hn hpre hwl
  refine enter_call (codeAny_mono (call w s₀ s₁ mg mb fa o pm cd doc a vs ns G Y ho (fd_plain hd) hcd hmg hobj hints hlen hg) fun r s' hq => ?_)
  obtain ⟨rfl, h2, h3, h4⟩ := hq
  exact ⟨.inl ⟨.bool true, .bool true, [], rfl, fun _ => rfl, .bool true, post_true l _, fun _ => ⟨List.Pairwise.nil, fun _ hm => (nomatch hm)⟩⟩, h2, h3, h4⟩

/-! ### rules over ANY heap (no ledger) from facts about the written part K: the library's own take a ledger (News) for what they write -/
section
variable {prog : Program} {w : World} {A : Around} {E : Value → Shared → Prop} {s : Shared} {K : Frag}

/-! the whole heap as the ledger: makes every rule that writes through a ledger a rule over any heap -/
def noObjs (h : Heap) : Heap := { h with objs := #[] }
def ledger (h : Heap) (L d : Addr) : List (Addr × Obj) := (List.range h.objs.size).filterMap fun a => if a = L ∨ a = d then none else (h.get? a).map fun o => (a, o)
end
end Att

namespace L2
open PySem PySem.Spec PyProof.Rows

theorem vals_ints : ∀ {vs : List Value} {ns : List Int}, IntsAre vs ns → Vals (ns.map V.int) vs
  | _, _, .nil => .nil
  | _, _, .cons n t h => .cons ⟨t, rfl⟩ (vals_ints h)

/-- nothing is tracked but the script, known to the object (or it is an object of the module) -/
def Only (H : Hp) : Prop := ∀ b, H b = none ∨ ∃ o xs, H b = some (.frz o (.lst xs))

/-- THE HEAD: the law's promise, at the heap behind the top. F, the promise of the law's def, may use that base is part of the heap (so K.In base, base.Ns mainGlobals mg stand in Mod) -/
theorem law_call {P : Program} {w : World} {K : PySem.W.Frag} {mg mb : Str → Option Value} {CX : CXT} {k : Nat} {fa a : Addr} {fd : FuncData} {x : Str} {sp : Sp} {s₁ : Shared} {vs : List Value} {ns : List Int}
    (KX : K.In s₁.heap) (hns : s₁.heap.Ns mainGlobals mg) (hb : s₁.heap.Ns builtinsNs mb) (hbb : ∀ x : Str, x ≠ "__name__" → mb x = bootBuiltins x) (hlim : s₁.heap.NoLimit) (hg : s₁.gens = #[])
    (ha : s₁.heap.get? a = some { cls := .type "list", data := .seq vs.toArray }) (hi : IntsAre vs ns) (hl : ns.length ≤ sizeLine) (hr : Room k callerA)
    (F : ∀ base : Heap, K.In base → base.Ns mainGlobals mg → FnOk P w K mg base CX k fa fd [x] sp) (hbind : ∀ (s : Shared) (u : Value), BindsTo s fd ⟨[u], []⟩ [(x, u)])
    (hsp : ∀ H : Hp, Only H → SqL K H a (ns.map V.int) → sp [.ref a] H (fun v _ => v = .bl true) fun _ _ _ => False)
    (hCX : ∀ H e s', CX [] H s₁ (fun _ _ _ => False) e s' → False) :
    codeAny (model P w) callerA (.call (.ref fa) ⟨[.ref a], []⟩) (fun r s' => r = .ok (.ret (.bool true)) ∧ OldK s₁.heap s'.heap ∧ s'.os = s₁.os ∧ AllBare s'.gens) s₁ := by
  have rv := vals_ints hi
  have lenV := hi.length
  -- from an abstract heap in which nothing but the script may be tracked
  have core : ∀ H : Hp, Only H → SqL K H a (ns.map V.int) → HOk P w H s₁.heap → (∀ b, H b ≠ none → b = a) → (H a ≠ none → K.lookup a = none) →
      codeAny (model P w) callerA (.call (.ref fa) ⟨[.ref a], []⟩) (fun r s' => r = .ok (.ret (.bool true)) ∧ OldK s₁.heap s'.heap ∧ s'.os = s₁.os ∧ AllBare s'.gens) s₁ := by
    intro H hO hS hok hA hK
    have base_of : ∀ {b : Addr} {o : Obj}, s₁.heap.get? b = some o → H b = none → (hidT s₁.heap H).get? b = some o := fun e n => hidT_get e n
    have noA : ∀ {b : Addr} {o : Obj} {es : Array DictEntry} {ep : Nat}, s₁.heap.get? b = some o → o.data = .dict es ep → H b = none := fun {b o es ep} e d => by
      cases q : H b with
      | none => rfl
      | some u =>
        have e' : b = a := hA b (by rw [q]; simp)
        subst e'
        rw [ha] at e; cases e
        have d' : Data.seq vs.toArray _ = Data.dict es ep := d
        cases d'
    have nsK : ∀ {b : Addr} {m : Str → Option Value}, s₁.heap.Ns b m → (hidT s₁.heap H).Ns b m := fun {b m} ⟨o, es, ep, e, d, r⟩ => ⟨o, es, ep, base_of e (noA e d), d, r⟩
    have hKb : K.In (hidT s₁.heap H) := fun b o e => base_of (KX b o e) (by
      cases q : H b with
      | none => rfl
      | some u =>
        have e' : b = a := hA b (by rw [q]; simp)
        subst e'
        rw [hK (by rw [q]; simp)] at e; cases e)
    have hM : Mod K mg (hidT s₁.heap H) := ⟨hKb, nsK hns, ⟨mb, nsK hb, hbb⟩, let ⟨mc, h1, h2⟩ := hlim; ⟨mc, nsK h1, h2⟩⟩
    have e0 : Env0 P w K mg (hidT s₁.heap H) callerA [] s₁ H := ⟨rfl, hM, fun b o e => of_hidT e, Nat.le_of_eq (hidT_size _ _), trivial, fun b hb => absurd (show b ∈ ([] : List Addr) from hb) (by simp), hok, .of_eq hg⟩
    refine codeAny_mono ((F _ hKb (nsK hns)).run callerA [] s₁ H ⟨[.ref a], []⟩ [.ref a] [.ref a] _ _ hr e0 (hbind s₁ (.ref a)) (.cons rfl .nil) (hsp H hO hS)) fun r s' h => ?_
    cases r with
    | error e => exact (hCX H e s' h).elim
    | ok fl =>
      cases fl with
      | next => exact False.elim h
      | brk => exact False.elim h
      | cont => exact False.elim h
      | ret u =>
        obtain ⟨v, H', os, bare, un, hok', r', q⟩ := h
        have q' : v = .bl true := q
        subst q'
        obtain rfl : u = Value.bool true := r'
        refine ⟨rfl, OldK.of_keep fun b o e => ?_, os, bare⟩
        cases q : H b with
        | none => exact un.keep b o e q (by intro z; exact absurd (show b ∈ ([] : List Addr) from z) (by simp)) (by simp)
        | some u =>
          rcases hO b with z | ⟨ob, xs, z⟩
          · rw [q] at z; cases z
          · have z2 := un.frzs b ob _ z
            obtain ⟨e1, _⟩ := hok b _ z
            obtain ⟨e2, _⟩ := hok' b _ z2
            rw [e] at e1; cases e1
            exact e2
  cases hk : K.lookup a with
  | some o =>
    -- the script is one of the module's own objects
    have e := KX a o hk
    rw [ha] at e
    cases e
    refine core (fun _ => none) (fun _ => .inl rfl) (.inr ⟨_, vs.toArray, _, hk, rfl, rfl, rfl, by rw [List.size_toArray, lenV]; exact hl, by simpa using rv⟩) (fun b u z => by have z' : (none : Option HO) = some u := z; cases z') (fun b z => absurd rfl z) fun z => absurd rfl z
  | none =>
    refine core (fun b => if b = a then some (.frz { cls := .type "list", data := .seq vs.toArray } (.lst (ns.map V.int))) else none) (fun b => ?_) (.inl (.inr ⟨{ cls := .type "list", data := .seq vs.toArray }, if_pos rfl⟩)) (fun b u z => ?_) (fun b z => ?_) fun _ => hk
    · by_cases hb : b = a
      · exact .inr ⟨_, _, if_pos hb⟩
      · exact .inl (if_neg hb)
    · by_cases hb : b = a
      · have z' := (if_pos hb).symm.trans z
        cases z'
        subst hb
        exact ⟨ha, by rw [List.length_map]; exact hl, vs, _, rv, ha⟩
      · have z' := (if_neg hb).symm.trans z
        cases z'
    · by_cases hb : b = a
      · exact hb
      · exact absurd (if_neg hb) z
end L2

namespace L2
open PySem PySem.Spec PyProof.Rows

abbrev KOf {K : PySem.W.Frag} {h : Heap} (_ : K.In h) : PySem.W.Frag := K

/-- the goal that k_head leaves (case hc), from the law's promise. F gives the function object fd (K's own) once, then the promise over every base -/
theorem walk_of {l : PySem.W.OpenLaw} {n k : Nat} {q : Program} {loose : List Str} {XP : (Str → Option Value) → Heap → Prop} {YP : World → Heap → Prop} {d : DefRec} {K : Params → PySem.W.Frag} {CX : World → CXT} {sp : World → Sp} {x : Str}
    (hn : l.most = some n) (hn2 : n ≤ sizeLine) (hdf : d.params.defaults = []) (hr : Room k callerA)
    (hY : ∀ (w : World) (h : Heap), YP w h → (K w.params).In h)
    (F : ∀ (w : World) (mg : Str → Option Value) (fa : Addr) (h : Heap), (K w.params).In h → h.Ns mainGlobals mg → mg d.name = some (.ref fa) →
      ∃ fd : FuncData, (∀ (s : Shared) (u : Value), BindsTo s fd ⟨[u], []⟩ [(x, u)]) ∧
        ∀ base : Heap, (K w.params).In base → base.Ns mainGlobals mg → FnOk l.prog w (K w.params) mg base (CX w) k fa fd [x] (sp w))
    (hsp : ∀ (w : World) (H : Hp) (a : Addr) (ns : List Int), ns.length ≤ n → Only H → SqL (K w.params) H a (ns.map V.int) → sp w [.ref a] H (fun v _ => v = .bl true) fun _ _ _ => False)
    (hCX : ∀ (w : World) (H : Hp) (s : Shared) (e : Value) (s' : Shared), CX w [] H s (fun _ _ _ => False) e s' → False) :
    PySem.W.WalkO q loose XP YP l.row.toRowW d [] (fun f vs => PySem.call f vs) := by
  refine Att.attach_call hn hdf fun w s₀ s₁ mg mb fa o pm cd doc a vs ns G Y ho hd hcd hmg hobj hints hlen hg => ?_
  have KX := hY w _ Y
  obtain ⟨fd, hb, hF⟩ := F w mg fa _ KX G.T.g hmg
  exact law_call KX G.T.g G.T.b G.T.builtins G.T.nolimit hg hobj hints (Nat.le_trans hlen hn2) hr hF hb (fun H hO hS => hsp w H a ns hlen hO hS) fun H e s' => hCX w H s₁ e s'
end L2

/-! SHORT WORDS over the layer: a def of the text, its body, what a loop and a test want. -/
namespace L2
open PySem PySem.Spec PyProof.Rows

/-! ### the text by places -/
/-- the j-th statement of a class's body -/
def inClass (s : Stmt) (j : Nat) : Stmt := match s with
  | .ClassDef _ _ _ body _ _ _ _ _ _ _ => body.getD j (.Pass ⟨0, 0, 0, 0⟩)
  | _ => .Pass ⟨0, 0, 0, 0⟩
def defArgs (s : Stmt) : Arguments := match s with
  | .FunctionDef _ a _ _ _ _ _ _ _ _ => a
  | _ => { posonlyargs := [], args := [], vararg := none, kwonlyargs := [], kw_defaults := [], kwarg := none, defaults := [] }
def defBody (s : Stmt) : List Stmt := match s with
  | .FunctionDef _ _ b _ _ _ _ _ _ _ => b
  | _ => []
def defScope (s : Stmt) : Scope := match s with
  | .FunctionDef _ _ _ _ _ _ sc _ _ _ => sc
  | _ => { kind := .function, names := [], isGenerator := false, isCoroutine := false }

/-! ### no exception leaves a def -/
abbrev CX0 : CXT := fun _ _ _ _ _ _ => False
abbrev E0 : XK := fun _ _ _ => False
theorem pass0 {X : Cx} : Passes CX0 X E0 := fun _ _ _ _ _ _ _ h => h.elim

/-! ### a def (or method) of the text as it stands behind the top -/
structure Fun (K : PySem.W.Frag) (x qual : Str) (st : Stmt) (f : Addr) (fd : FuncData) : Prop where
  ex : ∃ (oc : Value) (od : Option Addr) (kV doc pm : Value) (an : Option Addr) (cdv ct : Value) (osl : Array (Option Value)),
    fd = PySem.W.fnOf x qual (defArgs st) (defBody st) (defScope st) .none kV doc pm an cdv ct ∧ K.lookup f = some ⟨oc, od, .func fd, osl⟩ ∧ PySem.W.codeIn K cdv qual = true
  kp : PySem.W.keepIn K (.ref f) = true
section
variable {P : Program} {w : World} {K : PySem.W.Frag} {mg : Str → Option Value} {base : Heap}
/-- THE RULE for a def: its body as a term of rules, and the reading of that term -/
theorem Fun.ok {x qual : Str} {st : Stmt} {f : Addr} {fd : FuncData} {N ps : List Str} {k : Nat} {sp : Sp} (F : Fun K x qual st f fd) (S : FnScope N ps (defScope st)) (len : ∀ vs H Q E, sp vs H Q E → vs.length = ps.length)
    (hbody : ∀ (cdv : Value) (A : Around) (outer : List Env) (s : Shared) (H : Hp) (vs : List V) (Q : VK) (E : XK), Room k (A.deeper (envOfC qual (defScope st) s.heap.objs.size f cdv)) → sp vs H Q E →
      ∃ t, PSs (cxOf CX0 P w K mg base N qual (defScope st) f cdv A outer s H E).nox (defBody st) t ∧ t { nx := fun _ H' => Q .non H', rt := Q } (start N vs) H) : FnOk P w K mg base CX0 (k + 1) f fd ps sp := by
  obtain ⟨oc, od, kV, doc, pm, an, cdv, ct, osl, rfl, lk, hcd⟩ := F.ex
  refine fn_of lk hcd S len fun A outer s H vs Q E hr hsp => ?_
  obtain ⟨t, h, q⟩ := hbody cdv A outer s H vs Q E hr hsp
  exact ⟨t, h.nox, q⟩
/-- how its arguments bind (no defaults): h is «fun _ _ _ _ _ _ us hl => match us, hl with | [_, _], _ => rfl», one _ a parameter -/
theorem Fun.binds {x qual : Str} {st : Stmt} {f : Addr} {fd : FuncData} {ps : List Str} (F : Fun K x qual st f fd)
    (h : ∀ (kV doc pm : Value) (an : Option Addr) (cdv ct : Value) (us : List Value), us.length = ps.length → bindArgs (PySem.W.fnOf x qual (defArgs st) (defBody st) (defScope st) .none kV doc pm an cdv ct) ⟨us, []⟩ = pure (ps.zip us)) : Binds K fd ps [] := by
  obtain ⟨oc, od, kV, doc, pm, an, cdv, ct, osl, rfl, lk, hcd⟩ := F.ex
  exact .all (h kV doc pm an cdv ct)
theorem fun_mk {x qual : Str} {st : Stmt} {f : Addr} {oc : Value} {od an : Option Addr} {osl : Array (Option Value)} {kV doc pm cdv ct : Value} (l : K.lookup f = some ⟨oc, od, .func (PySem.W.fnOf x qual (defArgs st) (defBody st) (defScope st) .none kV doc pm an cdv ct), osl⟩)
    (c : PySem.W.codeIn K cdv qual = true) (k : PySem.W.keepIn K (.ref f) = true) : Fun K x qual st f (PySem.W.fnOf x qual (defArgs st) (defBody st) (defScope st) .none kV doc pm an cdv ct) := ⟨⟨oc, od, kV, doc, pm, an, cdv, ct, osl, rfl, l, c⟩, k⟩
end
theorem small1000 {n : Nat} (h : n ≤ 1000) : n < sizeLine := Nat.lt_of_le_of_lt h (by decide)

/-! ### expressions in short: the name that stands in the i-th slot -/
section
variable {X : Cx}
theorem pv (i : Nat) {x : Str} {pos : Pos} (hN : X.N[i]? = some x := by rfl) (hv : Vis X.env.scope x := by first | exact Or.inl rfl | exact Or.inr (Or.inl rfl) | exact Or.inr (Or.inr rfl)) (hd : (x == ("__debug__" : Str)) = false := by decide)
    (hcd : (x == ("__classdict__" : Str)) = false := by decide) : PE X (.Name x pos) (tVar i) := pe_var hN hv hd hcd
end

/-! ### tests -/
theorem iteF {A B : Prop} (h : B) : if false = true then A else B := by
  rw [if_neg Bool.false_ne_true]
  exact h
theorem iteT {A B : Prop} (h : A) : if true = true then A else B := by
  rw [if_pos rfl]
  exact h
theorem ite2 {c A B : Prop} [Decidable c] (h1 : c → A) (h2 : ¬ c → B) : if c then A else B := by
  by_cases h : c
  · rw [if_pos h]
    exact h1 h
  · rw [if_neg h]
    exact h2 h
theorem iteNS {c A B : Prop} [Decidable c] (hc : c) (h : B) : if (!decide c) = true then A else B := by
  rw [decide_eq_true hc]
  exact iteF h

/-! ### heaps -/
/-- all that was tracked is as it was -/
def Same (H H' : Hp) : Prop := ∀ b o, H b = some o → H' b = some o
theorem Same.refl (H : Hp) : Same H H := fun _ _ h => h
theorem Same.trans {H H1 H2 : Hp} (a : Same H H1) (b : Same H1 H2) : Same H H2 := fun c o h => b c o (a c o h)
theorem Same.free {H H' : Hp} (e : Same H H') {l : Addr} (h : H' l = Option.none) : H l = Option.none := by
  cases q : H l with
  | none => rfl
  | some o =>
    rw [e l o q] at h
    cases h
theorem Same.seq {K : PySem.W.Frag} {H H' : Hp} {a : Addr} {xs : List V} (e : Same H H') (h : SqL K H a xs) : SqL K H' a xs := by
  rcases h with (h | ⟨o, h⟩) | h
  · exact .inl (.inl (e _ _ h))
  · exact .inl (.inr ⟨o, e _ _ h⟩)
  · exact .inr h

/-! ### a dict's pairs: keys that differ -/
section
variable {κ : Type} [DecidableEq κ]
end
/-! ### lists -/
/-- a new instance and its __init__ leave all that was tracked as it was -/
theorem Same.made {H H1 : Hp} {x dx C : Addr} (nx : H x = Option.none) (nd : H dx = Option.none) (k : ∀ b o, (upd (upd H dx (.own x)) x (.ins C dx [])) b = some o → b ≠ x → H1 b = some o) : Same H H1 := fun b o e =>
  k b o (by rw [upd_ne (ne_of_none e nx), upd_ne (ne_of_none e nd)]; exact e) (ne_of_none e nx)
end L2

set_option maxHeartbeats 4000000
/-! Tuples walked by zip and enumerate, over the raw heap. -/
namespace ZT
open PySem PySem.Spec PyProof.Rows
section
variable {prog : Program} {w : World} {A : Around} {E : Value → Shared → Prop} {s : Shared}

/-- the next item of a tuple's iterator -/
theorem next_item {c t : Addr} {k : Nat} {ys : Array Value} {v : Value} {R : Value → Shared → Prop} (ci : s.heap.IsTupleIter c t k) (ct : s.heap.IsTuple t ys) (cv : ys[k]? = some v)
    (hR : ∀ g, g.IsTupleIter c t (k + 1) → Heap.SameBut c s.heap g → R v { s with heap := g }) : wpAny (model prog w) A (Builtin.SmallTypes.nextOf (.ref c)) R E s := by
  obtain ⟨oc, c1, c2, c3⟩ := id ci
  obtain ⟨ot, t1, _, m, t3⟩ := ct
  unfold Builtin.SmallTypes.nextOf
  refine wpAny_bind (wpAny_callSpecial?_slot (name := Str.ofString "__next__") ci.typeIs F.slot_tuple_iterator_next (wpAny_call_entry F.slot_tuple_iterator_next ci.typeIs F.entry_tuple_iterator_next ?_ (F.args_tuple_iterator_next_1 _)))
  show wpAny _ _ (field (.ref c) 0 >>= _) _ _ s
  refine wpAny_bind (wpAny_field c1 c3 (x := .ref t) rfl ?_)
  show wpAny _ _ (if (Value.ref t == Value.none) = true then _ else _) _ _ s
  rw [if_neg (show ¬ ((Value.ref t == Value.none) = true) from Bool.false_ne_true)]
  show wpAny _ _ (field (.ref c) 1 >>= _) _ _ s
  refine wpAny_bind (wpAny_field c1 c3 (x := .int k 0) rfl ?_)
  show wpAny _ _ (seqItems? (.ref t) >>= _) _ _ s
  refine wpAny_bind (wpAny_seqItems t1 t3 ?_)
  simp only [Int.toNat_natCast, cv]
  refine wpAny_bind (wpAny_setField c1 c3 (by simp) (wpAny_pure ⟨v, rfl, wpAny_pure (hR _ ?_ (Heap.SameBut.update ..))⟩))
  refine ⟨_, Heap.get?_update_self _ c1 (Obj.isFreed_of_fields (Obj.data_mapFields c3 _)), (Obj.cls_mapFields ..).trans c2, ?_⟩
  rw [Obj.data_mapFields c3]
  simp [rawInt]
/-- its end -/
theorem next_end {c t : Addr} {k : Nat} {ys : Array Value} {R : Value → Shared → Prop} (nh : A.handled = none) (ci : s.heap.IsTupleIter c t k) (ct : s.heap.IsTuple t ys) (cv : ys[k]? = none)
    (hX : ∀ g e, Heap.ExtBut c s.heap g → (∃ o, g.get? e = some o ∧ o.cls = .type "StopIteration") → E (.ref e) { s with heap := g }) : wpAny (model prog w) A (Builtin.SmallTypes.nextOf (.ref c)) R E s := by
  obtain ⟨oc, c1, c2, c3⟩ := id ci
  obtain ⟨ot, t1, _, m, t3⟩ := ct
  unfold Builtin.SmallTypes.nextOf
  refine wpAny_bind (wpAny_callSpecial?_slot (name := Str.ofString "__next__") ci.typeIs F.slot_tuple_iterator_next (wpAny_call_entry F.slot_tuple_iterator_next ci.typeIs F.entry_tuple_iterator_next ?_ (F.args_tuple_iterator_next_1 _)))
  show wpAny _ _ (field (.ref c) 0 >>= _) _ _ s
  refine wpAny_bind (wpAny_field c1 c3 (x := .ref t) rfl ?_)
  show wpAny _ _ (if (Value.ref t == Value.none) = true then _ else _) _ _ s
  rw [if_neg (show ¬ ((Value.ref t == Value.none) = true) from Bool.false_ne_true)]
  show wpAny _ _ (field (.ref c) 1 >>= _) _ _ s
  refine wpAny_bind (wpAny_field c1 c3 (x := .int k 0) rfl ?_)
  show wpAny _ _ (seqItems? (.ref t) >>= _) _ _ s
  refine wpAny_bind (wpAny_seqItems t1 t3 ?_)
  simp only [Int.toNat_natCast, cv]
  refine wpAny_bind (wpAny_rule (wpAny_bind (wpAny_setField c1 c3 (by simp) ?_)))
  show wpAny _ _ (newExc (.type "StopIteration") [] >>= _) _ _ _
  refine wpAny_bind ?_
  simp only [newExc, newTuple]
  refine wpAny_bind (wpAny_newObj_type ?_ (by size_fits))
  refine wpAny_bind (m := firstArgMember _ _) (wpAny_of_eq (a := Value.none) (by first | rfl | (simp only [firstArgMember]; rfl)) ?_)
  refine wpAny_newObj_type ?_ (by size_fits)
  simp only [raiseNew]
  refine wpAny_bind (wpAny_handled ?_)
  first | rw [show A.in1.handled = none from nh] | rw [nh]
  refine wpAny_bind (wpAny_pure (wpAny_throw ?_))
  exact hX _ _ (((Heap.SameBut.update ..).extBut.push _).push _) ⟨_, Heap.get?_push_size _ rfl, rfl⟩
/-- a tuple's iterator draws its items -/
theorem draws (nh : A.handled = none) {c t : Addr} (ne : t ≠ c) (ys : Array Value) : Draws prog w A c [c, t] ys.size (fun i v => ys[i]? = some v) (fun i h => h.IsTupleIter c t i ∧ h.IsTuple t ys) where
  live := fun i h st => let ⟨⟨o, q, _⟩, _⟩ := st; ⟨o, q⟩
  frame := fun i h h' st k => ⟨st.1.at fun o q => k c (by simp) o q, st.2.at fun o q => k t (by simp) o q⟩
  item := fun i s Q E hi st hQ => by
    refine next_item st.1 st.2 (v := ys[i]) (by simp [hi]) fun g g1 g2 => ?_
    exact hQ _ g s.toks (by simp [hi]) ⟨g1, st.2.extBut g2.extBut ne⟩ g2
  done := fun s Q E st hE => next_end nh st.1 st.2 (by simp) fun g e x y => hE g e x y
/-- one turn of zip over two tuples -/
theorem zip_item {z U O c d l m : Addr} {i j : Nat} {xs ys : Array Value} {x y a b : Value} {R : Value → Shared → Prop} (D : ZipApart z U O c d l m)
    (hz : IsZip s.heap z U O .none) (hU : IsPair s.heap U (.ref c) (.ref d)) (hO : IsPair s.heap O a b) (h1 : s.heap.IsTupleIter c l i) (h2 : s.heap.IsTupleIter d m j) (t1 : s.heap.IsTuple l xs) (t2 : s.heap.IsTuple m ys) (hx : xs[i]? = some x) (hy : ys[j]? = some y)
    (hR : ∀ g, IsZip g z U O (rawInt s.heap.objs.size) → IsPair g O x y → g.IsTupleIter c l (i + 1) → g.IsTupleIter d m (j + 1) → IsPair g s.heap.objs.size x y → g.objs.size = s.heap.objs.size + 1 →
      (∀ p o, p ≠ z → p ≠ O → p ≠ c → p ≠ d → s.heap.get? p = some o → g.get? p = some o) → R (.ref s.heap.objs.size) { s with heap := g }) :
    wpAny (model prog w) A (Builtin.«zip.__next__» ⟨[.ref z], []⟩) (fun fin s' => ∃ v, fin = .done (.ret v) ∧ R v s') E s := by
  show wpAny _ _ (field (.ref z) 2 >>= _) _ _ _
  refine wpAny_bind (wpAny_field hz rfl (x := .bool false) rfl ?_)
  show wpAny _ _ (field (.ref z) 3 >>= _) _ _ _
  refine wpAny_bind (wpAny_field hz rfl (x := .ref U) rfl ?_)
  refine wpAny_bind (wpAny_seqItems hU rfl ?_)
  show wpAny _ _ (Builtin.SmallTypes.ownedTupleIsFree (.ref z) >>= _) _ _ _
  refine wpAny_bind ?_
  unfold Builtin.SmallTypes.ownedTupleIsFree
  refine wpAny_bind (wpAny_field hz rfl (x := .none) rfl (wpAny_pure ?_))
  simp only [if_true]
  refine wpAny_bind (wpAny_rule ?_)
  refine wpAny_bind (wpAny_field hz rfl (x := .ref O) rfl ?_)
  refine wpAny_bind (wpAny_setField_rec hz (by simp) fun g1 z1 s1 => ?_)
  replace z1 : IsZip g1 z U O .ellipsis := z1
  refine wpAny_bind ?_
  simp only [List.zipIdx_cons, List.zipIdx_nil, List.forIn_cons, List.forIn_nil]
  refine wpAny_bind (wpAny_bind (wpAny_onRaise ?_))
  show wpAny _ _ (Builtin.SmallTypes.nextOf (.ref c) >>= _) _ _ _
  refine wpAny_bind (next_item (h1.extBut s1.extBut D.i1z) (t1.extBut s1.extBut D.l1z) hx fun g2 c2 s2 => wpAny_pure ?_)
  have O2 : IsPair g2 O a b := s2.extBut _ _ D.TOi1 (s1.extBut _ _ D.TOz hO)
  refine wpAny_bind (wpAny_seqItems O2 rfl ?_)
  refine wpAny_bind (wpAny_updateSeq_pair O2 fun g3 O3 s3 => ?_)
  replace O3 : IsPair g3 O x b := O3
  refine wpAny_bind (wpAny_letGo (wpAny_pure ?_))
  refine wpAny_bind (wpAny_bind (wpAny_onRaise ?_))
  show wpAny _ _ (Builtin.SmallTypes.nextOf (.ref d) >>= _) _ _ _
  refine wpAny_bind (next_item (((h2.extBut s1.extBut D.i2z).extBut s2.extBut D.i12.symm).extBut s3.extBut D.TOi2.symm) (((t2.extBut s1.extBut D.l2z).extBut s2.extBut D.l2i1).extBut s3.extBut D.l2TO) hy fun g4 d4 s4 => wpAny_pure ?_)
  have O4 : IsPair g4 O x b := s4.extBut _ _ D.TOi2 O3
  refine wpAny_bind (wpAny_seqItems O4 rfl ?_)
  refine wpAny_bind (wpAny_updateSeq_pair O4 fun g5 O5 s5 => ?_)
  replace O5 : IsPair g5 O x y := O5
  refine wpAny_bind (wpAny_letGo (wpAny_pure (wpAny_pure ?_)))
  refine wpAny_bind (wpAny_seqItems O5 rfl ?_)
  refine wpAny_bind (wpAny_newTuple ?_)
  have sz : g5.objs.size = s.heap.objs.size := by rw [s5.1, s4.1, s3.1, s2.1, s1.1]
  have z5 : IsZip g5 z U O .ellipsis := s5.extBut _ _ D.TOz.symm (s4.extBut _ _ D.i2z.symm (s3.extBut _ _ D.TOz.symm (s2.extBut _ _ D.i1z.symm z1)))
  have k5 : ∀ p o, p ≠ z → p ≠ O → p ≠ c → p ≠ d → s.heap.get? p = some o → g5.get? p = some o := fun p o p1 p2 p3 p4 e =>
    s5.extBut _ _ p2 (s4.extBut _ _ p4 (s3.extBut _ _ p2 (s2.extBut _ _ p3 (s1.extBut _ _ p1 e))))
  have c5 : g5.IsTupleIter c l (i + 1) := ((c2.extBut s3.extBut D.TOi1.symm).extBut s4.extBut D.i12).extBut s5.extBut D.TOi1.symm
  have d5 : g5.IsTupleIter d m (j + 1) := d4.extBut s5.extBut D.TOi2.symm
  have zl : z < g5.objs.size := Heap.lt_size z5
  show wpAny _ _ (Builtin.SmallTypes.ownedTupleHandOut (.ref z) (.ref g5.objs.size) >>= _) _ _ _
  refine wpAny_bind ?_
  unfold Builtin.SmallTypes.ownedTupleHandOut
  have z6 : IsZip (g5.push { cls := .type "tuple", data := .seq #[x, y] }) z U O .ellipsis := Heap.get?_push_of_some _ z5
  refine wpAny_bind (wpAny_setField_rec z6 (by simp) fun g7 z7 s7 => ?_)
  replace z7 : IsZip g7 z U O (rawInt g5.objs.size) := z7
  refine wpAny_setField_rec z7 (by simp) fun g8 z8 s8 => ?_
  replace z8 : IsZip g8 z U O (rawInt g5.objs.size) := z8
  have up : ∀ p o, p ≠ z → g5.get? p = some o → g8.get? p = some o := fun p o p1 e => s8.extBut _ _ p1 (s7.extBut _ _ p1 (Heap.get?_push_of_some _ e))
  have T8 : IsPair g8 g5.objs.size x y := s8.extBut _ _ (Nat.ne_of_gt zl) (s7.extBut _ _ (Nat.ne_of_gt zl) (Heap.get?_push_size _ rfl))
  have n8 : g8.objs.size = g5.objs.size + 1 := by rw [s8.1, s7.1, Heap.size_push]
  rw [sz] at z8 T8 n8
  refine wpAny_pure ⟨_, rfl, ?_⟩
  show R (.ref g5.objs.size) _
  rw [sz]
  exact hR g8 z8 (up _ _ D.TOz O5) (c5.at fun o e => up _ o D.i1z e) (d5.at fun o e => up _ o D.i2z e) T8 n8 fun p o p1 p2 p3 p4 e => up p o p1 (k5 p o p1 p2 p3 p4 e)
/-- the end of zip over two tuples of one length: the first one's end is met first -/
theorem zip_end {z U O c d l m : Addr} {i j : Nat} {xs ys : Array Value} {a b : Value} {R : Fin → Shared → Prop} (nh : A.handled = none) (D : ZipApart z U O c d l m)
    (hz : IsZip s.heap z U O .none) (hU : IsPair s.heap U (.ref c) (.ref d)) (hO : IsPair s.heap O a b) (h1 : s.heap.IsTupleIter c l i) (t1 : s.heap.IsTuple l xs) (hx : xs[i]? = none)
    (hX : ∀ g e, (∀ p o, p ≠ z → p ≠ c → s.heap.get? p = some o → g.get? p = some o) → (∃ o, g.get? e = some o ∧ o.cls = .type "StopIteration") → E (.ref e) { s with heap := g }) :
    wpAny (model prog w) A (Builtin.«zip.__next__» ⟨[.ref z], []⟩) R E s := by
  show wpAny _ _ (field (.ref z) 2 >>= _) _ _ _
  refine wpAny_bind (wpAny_field hz rfl (x := .bool false) rfl ?_)
  show wpAny _ _ (field (.ref z) 3 >>= _) _ _ _
  refine wpAny_bind (wpAny_field hz rfl (x := .ref U) rfl ?_)
  refine wpAny_bind (wpAny_seqItems hU rfl ?_)
  show wpAny _ _ (Builtin.SmallTypes.ownedTupleIsFree (.ref z) >>= _) _ _ _
  refine wpAny_bind ?_
  unfold Builtin.SmallTypes.ownedTupleIsFree
  refine wpAny_bind (wpAny_field hz rfl (x := .none) rfl (wpAny_pure ?_))
  simp only [if_true]
  refine wpAny_bind (wpAny_rule ?_)
  refine wpAny_bind (wpAny_field hz rfl (x := .ref O) rfl ?_)
  refine wpAny_bind (wpAny_setField_rec hz (by simp) fun g1 z1 s1 => ?_)
  replace z1 : IsZip g1 z U O .ellipsis := z1
  refine wpAny_bind ?_
  simp only [List.zipIdx_cons, List.zipIdx_nil, List.forIn_cons, List.forIn_nil]
  refine wpAny_bind (wpAny_bind (wpAny_onRaise ?_))
  show wpAny _ _ (Builtin.SmallTypes.nextOf (.ref c) >>= _) _ _ _
  refine wpAny_bind (next_end nh (h1.extBut s1.extBut D.i1z) (t1.extBut s1.extBut D.l1z) hx fun g2 e s2 he => ?_)
  obtain ⟨oe, e1, e2⟩ := he
  have z2 : IsZip g2 z U O .ellipsis := s2 _ _ D.i1z.symm z1
  have ez : e ≠ z := fun q => by
    subst q
    rw [z2] at e1
    cases e1
    simp at e2
  exact wpAny_setField_rec z2 (by simp) fun g3 _ s3 => hX g3 e (fun p o p1 p2 q => s3.extBut _ _ p1 (s2 _ _ p2 (s1.extBut _ _ p1 q))) ⟨oe, s3.extBut _ _ ez e1, e2⟩
theorem pyNext_zip_item {z U O c d l m : Addr} {i j : Nat} {xs ys : Array Value} {x y a b : Value} {R : Option Value → Shared → Prop} (D : ZipApart z U O c d l m)
    (hz : IsZip s.heap z U O .none) (hU : IsPair s.heap U (.ref c) (.ref d)) (hO : IsPair s.heap O a b) (h1 : s.heap.IsTupleIter c l i) (h2 : s.heap.IsTupleIter d m j) (t1 : s.heap.IsTuple l xs) (t2 : s.heap.IsTuple m ys) (hx : xs[i]? = some x) (hy : ys[j]? = some y)
    (hR : ∀ g, IsZip g z U O (rawInt s.heap.objs.size) → IsPair g O x y → g.IsTupleIter c l (i + 1) → g.IsTupleIter d m (j + 1) → IsPair g s.heap.objs.size x y → g.objs.size = s.heap.objs.size + 1 →
      (∀ p o, p ≠ z → p ≠ O → p ≠ c → p ≠ d → s.heap.get? p = some o → g.get? p = some o) → R (some (.ref s.heap.objs.size)) { s with heap := g }) :
    wpAny (model prog w) A (pyNext (.ref z)) R E s := by
  have ty : s.TypeIs (.ref z) "zip" := ⟨_, hz, rfl⟩
  unfold pyNext
  exact wpAny_bind (wpAny_attempt (wpAny_callSpecial?_slot (name := Str.ofString "__next__") ty F.slot_zip_next (wpAny_call_entry F.slot_zip_next ty F.entry_zip_next
    (zip_item D hz hU hO h1 h2 t1 t2 hx hy fun g q1 q2 q3 q4 q5 q6 q7 => wpAny_pure (hR g q1 q2 q3 q4 q5 q6 q7)) (F.args_zip_next_1 _))))
theorem pyNext_zip_end {z U O c d l m : Addr} {i j : Nat} {xs ys : Array Value} {a b : Value} {R : Option Value → Shared → Prop} (nh : A.handled = none) (D : ZipApart z U O c d l m)
    (hz : IsZip s.heap z U O .none) (hU : IsPair s.heap U (.ref c) (.ref d)) (hO : IsPair s.heap O a b) (h1 : s.heap.IsTupleIter c l i) (t1 : s.heap.IsTuple l xs) (hx : xs[i]? = none)
    (hR : ∀ g, (∀ p o, p ≠ z → p ≠ c → s.heap.get? p = some o → g.get? p = some o) → R none { s with heap := g }) : wpAny (model prog w) A (pyNext (.ref z)) R E s := by
  have ty : s.TypeIs (.ref z) "zip" := ⟨_, hz, rfl⟩
  unfold pyNext
  refine wpAny_bind (wpAny_attempt (wpAny_callSpecial?_slot (name := Str.ofString "__next__") ty F.slot_zip_next (wpAny_call_entry F.slot_zip_next ty F.entry_zip_next
    (zip_end (ys := ys) (j := j) nh D hz hU hO h1 t1 hx fun g e k he => ?_) (F.args_zip_next_1 _))))
  obtain ⟨o, o1, o2⟩ := he
  refine wpAny_bind (wpAny_isInstance (T := "StopIteration") (b := true) ⟨o, o1, o2⟩ isSubtype_stop ?_)
  exact wpAny_pure (hR _ k)
end
/-- the objects of zip(t, u) -/
abbrev zt1 (h : Heap) (l : Addr) : Heap := h.push { cls := .type "tuple_iterator", data := .fields #[.ref l, .int 0 0] }
abbrev zt2 (h : Heap) (l m : Addr) : Heap := (zt1 h l).push { cls := .type "tuple_iterator", data := .fields #[.ref m, .int 0 0] }
abbrev zt3 (h : Heap) (l m : Addr) : Heap := (zt2 h l m).push { cls := .type "tuple", data := .seq #[.ref h.objs.size, .ref (zt1 h l).objs.size] }
abbrev zt4 (h : Heap) (l m : Addr) : Heap := (zt3 h l m).push { cls := .type "tuple", data := .seq #[.none, .none] }
abbrev zt5 (h : Heap) (l m : Addr) : Heap := (zt4 h l m).push { cls := .type "zip", data := .fields #[.none, .bool false, .bool false, .ref (zt2 h l m).objs.size, .ref (zt3 h l m).objs.size] }
theorem zip_new (l m : Addr) (xs ys : Array Value) : Meets (Builtin.«zip.__new__» ⟨[.type "zip", .ref l, .ref m], []⟩) (fun _ R s => s.heap.IsTuple l xs ∧ s.heap.IsTuple m ys ∧ R (.ok (.ret (.ref (zt4 s.heap l m).objs.size))) { s with heap := zt5 s.heap l m }) :=
  .of_wp fun prog w A R s h => by
    obtain ⟨hp, g, d, tk, os⟩ := s
    obtain ⟨t1, t2, h⟩ := h
    have hsub := sub_zip
    have q1 : Heap.IsTuple (Shared.heap ⟨hp, g, d, tk, os⟩) l xs := t1
    have q2 : Heap.IsTuple (Shared.heap ⟨hp.push { cls := .type "tuple_iterator", data := .fields #[.ref l, .int 0 0] }, g, d, tk, os⟩) m ys := Heap.IsTuple.push t2 _
    wp_walk using wpAny_pyIter_tuple q1, wpAny_pyIter_tuple q2
    exact ⟨_, rfl, h⟩
section
variable {prog : Program} {w : World} {A : Around} {E : Value → Shared → Prop} {s : Shared}
theorem call_zip {l m : Addr} {xs ys : Array Value} {R : Value → Shared → Prop} (t1 : s.heap.IsTuple l xs) (t2 : s.heap.IsTuple m ys)
    (h : ∀ g, IsZip g (s.heap.objs.size + 4) (s.heap.objs.size + 2) (s.heap.objs.size + 3) .none → IsPair g (s.heap.objs.size + 2) (.ref s.heap.objs.size) (.ref (s.heap.objs.size + 1)) → IsPair g (s.heap.objs.size + 3) .none .none →
      g.IsTupleIter s.heap.objs.size l 0 → g.IsTupleIter (s.heap.objs.size + 1) m 0 → (∀ p o, s.heap.get? p = some o → g.get? p = some o) → R (.ref (s.heap.objs.size + 4)) { s with heap := g }) :
    wpAny (model prog w) A (call (.type "zip") [.ref l, .ref m]) R E s := by
  refine callType_new F.called_zip (by decide) (F.typeCall_zip_2 _ _) (F.newCall_zip_2 _ _) (fun obj => F.args_object_init_3 obj _ _) F.entry_zip_new (zip_new l m xs ys) ⟨t1, t2, ?_⟩
  have n1 : (zt1 s.heap l).objs.size = s.heap.objs.size + 1 := Heap.size_push ..
  have n2 : (zt2 s.heap l m).objs.size = s.heap.objs.size + 2 := by rw [Heap.size_push, n1]
  have n3 : (zt3 s.heap l m).objs.size = s.heap.objs.size + 3 := by rw [Heap.size_push, n2]
  have n4 : (zt4 s.heap l m).objs.size = s.heap.objs.size + 4 := by rw [Heap.size_push, n3]
  have p5 : (zt5 s.heap l m).get? (zt4 s.heap l m).objs.size = some _ := Heap.get?_push_size _ rfl
  have p4 : (zt5 s.heap l m).get? (zt3 s.heap l m).objs.size = some _ := Heap.get?_push_of_some _ (Heap.get?_push_size _ rfl)
  have p3 : (zt5 s.heap l m).get? (zt2 s.heap l m).objs.size = some _ := Heap.get?_push_of_some _ (Heap.get?_push_of_some _ (Heap.get?_push_size _ rfl))
  have p2 : (zt5 s.heap l m).get? (zt1 s.heap l).objs.size = some _ := Heap.get?_push_of_some _ (Heap.get?_push_of_some _ (Heap.get?_push_of_some _ (Heap.get?_push_size _ rfl)))
  have p1 : (zt5 s.heap l m).get? s.heap.objs.size = some _ := Heap.get?_push_of_some _ (Heap.get?_push_of_some _ (Heap.get?_push_of_some _ (Heap.get?_push_of_some _ (Heap.get?_push_size _ rfl))))
  show _ ∧ _
  rw [n2, n3, n4] at p5
  rw [n1, n2] at p3
  rw [n3] at p4
  rw [n1] at p2
  rw [n4]
  exact ⟨⟨_, p5, rfl⟩, h _ p5 p3 p4 ⟨_, p1, rfl, rfl⟩ ⟨_, p2, rfl, rfl⟩ fun p o q => Heap.get?_push_of_some _ (Heap.get?_push_of_some _ (Heap.get?_push_of_some _ (Heap.get?_push_of_some _ (Heap.get?_push_of_some _ q))))⟩
end
theorem enum_new (t : Addr) (ys : Array Value) : Meets (Builtin.«enumerate.__new__» ⟨[.type "enumerate", .ref t], []⟩) (fun _ R s => s.heap.IsTuple t ys ∧
    R (.ok (.ret (.ref (zt1 s.heap t).objs.size))) { s with heap := (zt1 s.heap t).push { cls := .type "enumerate", data := .fields #[.none, .bool false, .ref s.heap.objs.size, rawInt 0, .none, .none] } }) :=
  .of_wp fun prog w A R s h => by
    obtain ⟨hp, g, d, tk, os⟩ := s
    obtain ⟨t1, h⟩ := h
    have hsub := sub_enumerate
    have q1 : Heap.IsTuple (Shared.heap ⟨hp, g, d, tk, os⟩) t ys := t1
    wp_walk
    refine wpAny_stack_any fun st => wpAny_pure ?_
    split
    · rename_i c _ _ _ _ _
      cases (c == Value.type "enumerate")
      · wp_walk using wpAny_pyIter_tuple q1
        exact ⟨_, rfl, h⟩
      · wp_walk using wpAny_pyIter_tuple q1
        exact ⟨_, rfl, h⟩
    · wp_walk using wpAny_pyIter_tuple q1
      exact ⟨_, rfl, h⟩
section
variable {prog : Program} {w : World} {A : Around} {E : Value → Shared → Prop} {s : Shared}
theorem call_enum {t : Addr} {ys : Array Value} {R : Value → Shared → Prop} (t1 : s.heap.IsTuple t ys)
    (h : ∀ g, IsEnum g (s.heap.objs.size + 1) s.heap.objs.size 0 .none → g.IsTupleIter s.heap.objs.size t 0 → (∀ p o, s.heap.get? p = some o → g.get? p = some o) → R (.ref (s.heap.objs.size + 1)) { s with heap := g }) :
    wpAny (model prog w) A (call (.type "enumerate") [.ref t]) R E s := by
  refine callType_new F.called_enumerate (by decide) (F.typeCall_enumerate_1 _) (F.newCall_enumerate_1 _) (fun obj => F.args_object_init_2 obj _) F.entry_enumerate_new (enum_new t ys) ⟨t1, ?_⟩
  have n1 : (zt1 s.heap t).objs.size = s.heap.objs.size + 1 := Heap.size_push ..
  show _ ∧ _
  rw [n1]
  have e1 : IsEnum ((zt1 s.heap t).push { cls := .type "enumerate", data := .fields #[.none, .bool false, .ref s.heap.objs.size, rawInt 0, .none, .none] }) (s.heap.objs.size + 1) s.heap.objs.size 0 .none := by
    have q := Heap.get?_push_size (zt1 s.heap t) (o := { cls := .type "enumerate", data := .fields #[.none, .bool false, .ref s.heap.objs.size, rawInt 0, .none, .none] }) rfl
    rw [n1] at q
    exact q
  exact ⟨⟨_, e1, rfl⟩, h _ e1 ⟨_, Heap.get?_push_of_some _ (Heap.get?_push_size _ rfl), rfl, rfl⟩ fun p o q => Heap.get?_push_of_some _ (Heap.get?_push_of_some _ q)⟩
end
end ZT

/-! More rules: pairs of texts, deep membership, sorting of pairs, isinstance, zip and enumerate over tuples. -/
namespace L2
open PySem PySem.Spec PyProof.Rows
theorem Same.seqT {K : PySem.W.Frag} {H H' : Hp} {a : Addr} {xs : List V} (e : Same H H') (h : SqT K H a xs) : SqT K H' a xs := by
  rcases h with (h | ⟨o, h⟩) | h
  · exact .inl (.inl (e _ _ h))
  · exact .inl (.inr ⟨o, e _ _ h⟩)
  · exact .inr h
theorem same_new {H : Hp} {p : Addr} (h : H p = none) (o : HO) : Same H (upd H p o) := fun b u q => by rw [upd_ne (ne_of_none q h)]; exact q
/-! ### pairs of texts -/
abbrev SS := Str × Str
def IsPr (K : PySem.W.Frag) (H : Hp) (v : V) (p : SS) : Prop := ∃ a, v = .ref a ∧ SqT K H a [.str p.1, .str p.2]
abbrev Prs (K : PySem.W.Frag) (H : Hp) : List V → List SS → Prop := Paired (IsPr K H)
theorem IsPr.same {K : PySem.W.Frag} {H H' : Hp} {v : V} {p : SS} (h : IsPr K H v p) (e : Same H H') : IsPr K H' v p := let ⟨a, q, r⟩ := h; ⟨a, q, e.seqT r⟩
theorem Prs.same {K : PySem.W.Frag} {H H' : Hp} {vs : List V} {ps : List SS} (h : Prs K H vs ps) (e : Same H H') : Prs K H' vs ps := Paired.mapP h fun _ _ q => q.same e
/-- tuples stay, whatever is written -/
def KeepT (H H' : Hp) : Prop := (∀ b xs, H b = some (.tup xs) → H' b = some (.tup xs)) ∧ ∀ b o u, H b = some (.frz o u) → H' b = some (.frz o u)
theorem KeepT.seqT {K : PySem.W.Frag} {H H' : Hp} {a : Addr} {xs : List V} (e : KeepT H H') (h : SqT K H a xs) : SqT K H' a xs := by
  rcases h with (h | ⟨o, h⟩) | h
  · exact .inl (.inl (e.1 _ _ h))
  · exact .inl (.inr ⟨o, e.2 _ _ _ h⟩)
  · exact .inr h
theorem IsPr.keep {K : PySem.W.Frag} {H H' : Hp} {v : V} {p : SS} (h : IsPr K H v p) (e : KeepT H H') : IsPr K H' v p := let ⟨a, q, r⟩ := h; ⟨a, q, e.seqT r⟩
theorem Prs.keep {K : PySem.W.Frag} {H H' : Hp} {vs : List V} {ps : List SS} (h : Prs K H vs ps) (e : KeepT H H') : Prs K H' vs ps := Paired.mapP h fun _ _ q => q.keep e
theorem Same.keepT {H H' : Hp} (e : Same H H') : KeepT H H' := ⟨fun _ _ h => e _ _ h, fun _ _ _ h => e _ _ h⟩
theorem KeepT.trans {H H1 H2 : Hp} (a : KeepT H H1) (b : KeepT H1 H2) : KeepT H H2 := ⟨fun _ _ h => b.1 _ _ (a.1 _ _ h), fun _ _ _ h => b.2 _ _ _ (a.2 _ _ _ h)⟩
theorem keepT_upd {H : Hp} {l : Addr} {xs : List V} (h : H l = some (.lst xs)) (o : HO) : KeepT H (upd H l o) :=
  ⟨fun b ys q => by rw [upd_ne (ne_of q h (by intro z; cases z))]; exact q, fun b ob u q => by rw [upd_ne (ne_of q h (by intro z; cases z))]; exact q⟩
section
variable {X : Cx} {pins : List (Addr × Obj)} {σ : St} {H : Hp} {s : Shared}
theorem Inv.pr (I : Inv X pins σ H s) {v : V} {u : Value} {p : SS} (h : IsPr X.K H v p) (r : RelV v u) : ∃ a t t', u = .ref a ∧ s.heap.IsTuple a #[.str p.1 t, .str p.2 t'] := by
  obtain ⟨a, rfl, hq⟩ := h
  cases r
  obtain ⟨its, rv, hp, _⟩ := I.tuple hq
  cases rv with
  | cons r1 rr =>
    cases rr with
    | cons r2 rr =>
      cases rr
      obtain ⟨t, rfl⟩ := r1
      obtain ⟨t', rfl⟩ := r2
      exact ⟨a, t, t', rfl, hp⟩
end
/-- the pair that a value is -/
def prOf (h : Heap) : Value → Option SS
  | .ref a => match h.get? a with
    | some o => (match o.data with
      | .seq its _ => (match its.toList with
        | [.str x _, .str y _] => some (x, y)
        | _ => none)
      | _ => none)
    | none => none
  | _ => none
theorem prOf_of {h : Heap} {a : Addr} {x y : Str} {t t' : Tok} (q : h.IsTuple a #[.str x t, .str y t']) : prOf h (.ref a) = some (x, y) := by
  obtain ⟨o, h1, h2, n, h3⟩ := q
  simp [prOf, h1, h3]
def rInP (K : PySem.W.Frag) (neg : Bool) : R2 := fun x y H Q => ∃ q vs ps px, y = .ref q ∧ (SqL K H q vs ∨ SqT K H q vs) ∧ Prs K H vs ps ∧ IsPr K H x px ∧ Q (.bl (if neg then !decide (px ∈ ps) else decide (px ∈ ps))) H
section
variable {X : Cx} {pins : List (Addr × Obj)} {σ : St} {H : Hp} {s : Shared}
theorem any_pr (I : Inv X pins σ H s) (px : SS) : ∀ {vs : List V} {its : List Value} {ps : List SS}, Vals vs its → Prs X.K H vs ps → (its.any fun u => decide (prOf s.heap u = some px)) = decide (px ∈ ps)
  | _, _, _, .nil, .nil => by simp
  | _, _, _, .cons r t, .cons (b := p) q u => by
    obtain ⟨a, t1, t2, rfl, hp⟩ := I.pr q r
    rw [List.any_cons, any_pr I px t u, prOf_of hp]
    by_cases c : p = px
    · subst c
      simp
    · have c' : ¬ px = p := fun z => c z.symm
      simp [c, c']
end
section
variable {X : Cx}
end
/-! ### sorted, of a list of pairs of texts, any length -/
def prKey (p : SS) : List (Int ⊕ List Nat) := [.inr p.1.cps.toList, .inr p.2.cps.toList]
def prLt (p q : SS) : Bool := lexLt itemOrd (prKey p) (prKey q)
def rSortedP (K : PySem.W.Frag) : List V → Hp → VK → Prop := fun vs H Q => ∃ (a : Addr) (xs : List V) (ps : List SS), vs = [V.ref a] ∧ SqL K H a xs ∧ Prs K H xs ps ∧
  ∀ (xs' : List V) (ps' : List SS) (p : Addr), Prs K H xs' ps' → ps'.Perm ps → ps'.Pairwise (fun p q => prLt q p = false) → H p = none → Q (.ref p) (upd H p (.lst xs'))
section
variable {X : Cx} {pins : List (Addr × Obj)} {σ : St} {H : Hp} {s : Shared}
theorem tups_pr (I : Inv X pins σ H s) : ∀ {vs : List V} {its : List Value} {ps : List SS}, Vals vs its → Prs X.K H vs ps → ∃ fs, TupsOf s.heap (fun _ => true) its fs
  | _, _, _, .nil, .nil => ⟨[], .nil⟩
  | _, _, _, .cons r t, .cons (b := p) q u => by
    obtain ⟨fs, h⟩ := tups_pr I t u
    obtain ⟨a, t1, t2, rfl, o, h1, h2, n, h3⟩ := I.pr q r
    exact ⟨_, .cons ⟨a, o, _, n, rfl, h1, h2, h3, rfl, (fun z => nomatch z), (fun _ => ⟨_, _, rfl⟩)⟩ h⟩
theorem key_pr {h : Heap} {a : Addr} {x y : Str} {t t' : Tok} (q : h.IsTuple a #[.str x t, .str y t']) : G.tupKeyC h (fun _ => true) (.ref a) = some (prKey (x, y)) := by
  obtain ⟨o, h1, h2, n, h3⟩ := q
  simp [G.tupKeyC, G.isTupObj, tupKey, h1, h2, h3, tupItems, prKey]
theorem all_pr (I : Inv X pins σ H s) : ∀ {vs : List V} {its : List Value} {ps : List SS}, Vals vs its → Prs X.K H vs ps → ∀ u ∈ its, ∃ v p, absV u = some v ∧ RelV v u ∧ IsPr X.K H v p ∧ prOf s.heap u = some p ∧ G.tupKeyC s.heap (fun _ => true) u = some (prKey p)
  | _, _, _, .nil, .nil => fun u hu => by cases hu
  | _, _, _, .cons r t, .cons (b := p) q w => fun u hm => by
    rcases List.mem_cons.mp hm with rfl | hm
    · obtain ⟨a, t1, t2, e, hp⟩ := I.pr q r
      exact ⟨_, p, r.abs, r, q, by rw [e]; exact prOf_of hp, by rw [e]; exact key_pr hp⟩
    · exact all_pr I t w u hm
theorem map_pr (I : Inv X pins σ H s) : ∀ {vs : List V} {its : List Value} {ps : List SS}, Vals vs its → Prs X.K H vs ps → its.map (fun u => (prOf s.heap u).getD default) = ps
  | _, _, _, .nil, .nil => rfl
  | _, _, _, .cons r t, .cons (b := p) q w => by
    obtain ⟨a, t1, t2, e, hp⟩ := I.pr q r
    rw [List.map_cons, map_pr I t w, e, prOf_of hp]
    rfl
theorem vals_back {f : Value → V} : ∀ {us : List Value}, (∀ u ∈ us, RelV (f u) u) → Vals (us.map f) us
  | [], _ => .nil
  | u :: us, h => .cons (h u (List.mem_cons_self ..)) (vals_back fun w hw => h w (List.mem_cons_of_mem _ hw))
theorem prs_back {K : PySem.W.Frag} {f : Value → V} {g : Value → SS} : ∀ {us : List Value}, (∀ u ∈ us, IsPr K H (f u) (g u)) → Prs K H (us.map f) (us.map g)
  | [], _ => .nil
  | u :: us, h => .cons (h u (List.mem_cons_self ..)) (prs_back fun w hw => h w (List.mem_cons_of_mem _ hw))
end
section
variable {X : Cx}
theorem cr_sortedP : CallR X (.builtin "sorted") (rSortedP X.K) := by
  intro pins s σ H vs us Q I r h
  obtain ⟨a, xs, ps, rfl, hs, hp, q⟩ := h
  obtain ⟨its, rv, hl, hz⟩ := I.list hs
  rw [Vals.ref1 r]
  obtain ⟨fs, ht⟩ := tups_pr I rv hp
  have al := all_pr I rv hp
  have hlen := rv.length
  refine G.sorted_tups (shape := fun _ => true) hl.isList ht (fun v hv => by obtain ⟨_, p, _, _, _, _, z⟩ := al v hv; exact ⟨_, z⟩) (by omega) fun st' h1 h2 _ => ?_
  obtain ⟨ep, he'⟩ := PyProof.Rows.sortedAll_at s.heap its ((arrOf st').map (·.2))
  have hperm : (arrOf st').toList.Perm (its.zip its) := by rw [← pairsOf_toList]; exact Array.perm_iff_toList_perm.mp h1
  have hmem : ∀ p, p ∈ (arrOf st').toList → p.1 = p.2 ∧ p.1 ∈ its := fun p hp' => mem_zip_self (hperm.mem_iff.mp hp')
  have hout : ((arrOf st').map (·.2)).toList = (arrOf st').toList.map (·.1) := by
    rw [Array.toList_map]
    exact List.map_congr_left fun p hp' => (hmem p hp').1.symm
  have hin : ∀ u ∈ ((arrOf st').map (·.2)).toList, u ∈ its := fun u hu => by
    rw [hout] at hu
    obtain ⟨p, hp', rfl⟩ := List.mem_map.mp hu
    exact (hmem p hp').2
  have hfst : (its.zip its).map (·.1) = its := by rw [List.map_fst_zip (Nat.le_refl _)]
  have hpu : ((arrOf st').map (·.2)).toList.Perm its := by
    rw [hout]
    have := hperm.map (·.1)
    rw [hfst] at this
    exact this
  generalize hus : ((arrOf st').map (·.2)).toList = out at hin hpu
  have fv : ∀ u ∈ out, RelV ((absV u).getD .non) u := fun u hu => by
    obtain ⟨v, p, e1, e2, _⟩ := al u (hin u hu)
    rw [e1]
    exact e2
  have fp : ∀ u ∈ out, IsPr X.K H ((absV u).getD .non) ((prOf s.heap u).getD default) := fun u hu => by
    obtain ⟨v, p, e1, e2, e3, e4, _⟩ := al u (hin u hu)
    rw [e1, e4]
    exact e3
  have hv' : Vals (out.map fun u => (absV u).getD .non) out := vals_back fv
  have hl' : (out.map fun u => (absV u).getD .non).length ≤ sizeLine := by rw [List.length_map, hpu.length_eq, ← hlen]; exact hz
  refine ⟨.ref _, upd H (s.heap.objs.size + 1) (.lst (out.map fun u => (absV u).getD .non)), I.laid (t' := s.toks) (fun _ _ => PyProof.Rows.sortedAll_old) (Nat.le_succ _) ⟨hl', out, ep, hv', ?_⟩, rfl, q _ (out.map fun u => (prOf s.heap u).getD default) _ (prs_back fp) ?_ ?_ (I.hok.fresh (Nat.le_succ _))⟩
  · rw [← hus, Array.toArray_toList]
    exact he'
  · have := hpu.map (fun u => (prOf s.heap u).getD default)
    rw [map_pr I rv hp] at this
    exact this
  · rw [← hus, hout, List.map_map, List.pairwise_map, List.pairwise_iff_getElem]
    intro i j hi hj hij
    have hi' : i < (arrOf st').size := by simpa using hi
    have hj' : j < (arrOf st').size := by simpa using hj
    have k := h2 i j (Nat.le_of_lt hij) (by rw [← h1.size_eq]; exact hj')
    obtain ⟨_, p1, _, _, _, e1, k1⟩ := al _ (hmem (arrOf st')[i] (by simp)).2
    obtain ⟨_, p2, _, _, _, e2, k2⟩ := al _ (hmem (arrOf st')[j] (by simp)).2
    have g1 : KK (G.tupKindC s.heap (fun _ => true)) (arrOf st') i = prKey p1 := by
      unfold KK
      rw [getElem?_pos (arrOf st') i hi']
      show (G.tupKeyC s.heap (fun _ => true) (arrOf st')[i].1).getD [] = prKey p1
      rw [k1]
      rfl
    have g2 : KK (G.tupKindC s.heap (fun _ => true)) (arrOf st') j = prKey p2 := by
      unfold KK
      rw [getElem?_pos (arrOf st') j hj']
      show (G.tupKeyC s.heap (fun _ => true) (arrOf st')[j].1).getD [] = prKey p2
      rw [k2]
      rfl
    rw [g1, g2] at k
    simp only [Function.comp, Array.getElem_toList, e1, e2, Option.getD_some]
    exact k
/-! ### isinstance -/
def tyIs (K : PySem.W.Frag) (H : Hp) : V → String → Prop
  | .str _, T => T = "str"
  | .int _, T => T = "int"
  | .ref a, T => T = "tuple" ∧ ∃ xs, SqT K H a xs
  | _, _ => False
def rIsi (K : PySem.W.Frag) : List V → Hp → VK → Prop := fun vs H Q => ∃ x Tx T, vs = [x, .ty T] ∧ tyIs K H x Tx ∧ (T = "tuple" ∨ T = "str" ∨ T = "int" ∨ T = "bool") ∧ Q (.bl (decide (Tx = T))) H
theorem boot_isi : bootBuiltins "isinstance" = some (.builtin "isinstance") := by decide +kernel
theorem boot_tuple : bootBuiltins "tuple" = some (.type "tuple") := by decide +kernel
theorem boot_str : bootBuiltins "str" = some (.type "str") := by decide +kernel
theorem boot_int : bootBuiltins "int" = some (.type "int") := by decide +kernel
theorem boot_bool : bootBuiltins "bool" = some (.type "bool") := by decide +kernel
theorem cr_isi : CallR X (.builtin "isinstance") (rIsi X.K) := by
  intro pins s σ H vs us Q I r h
  obtain ⟨x, Tx, T, rfl, hx, hT, q⟩ := h
  cases r with
  | cons r1 rr =>
    cases rr with
    | cons r2 rr =>
      cases rr
      cases r2
      cases x with
      | str z =>
        obtain ⟨t, rfl⟩ := r1
        have e : Tx = "str" := hx
        subst e
        rcases hT with rfl | rfl | rfl | rfl
        · exact call_isinstance (isinstance_false_str (by decide) F.isi_meta_tuple (by rw [isSubtype_type]; kernel_rfl)) ⟨.bl _, H, I.tok _, rfl, q⟩
        · exact call_isinstance_yes (typeIs_str _ _ _) F.isi_meta_str F.isi_self_str ⟨.bl _, H, I, rfl, q⟩
        · exact call_isinstance (isinstance_false_str (by decide) F.isi_meta_int (by rw [isSubtype_type]; kernel_rfl)) ⟨.bl _, H, I.tok _, rfl, q⟩
        · exact call_isinstance (isinstance_false_str (by decide) F.isi_meta_bool (by rw [isSubtype_type]; kernel_rfl)) ⟨.bl _, H, I.tok _, rfl, q⟩
      | int z =>
        obtain ⟨t, rfl⟩ := r1
        have e : Tx = "int" := hx
        subst e
        rcases hT with rfl | rfl | rfl | rfl
        · exact call_isinstance (isinstance_false_int (by decide) F.isi_meta_tuple (by rw [isSubtype_type]; kernel_rfl)) ⟨.bl _, H, I.tok _, rfl, q⟩
        · exact call_isinstance (isinstance_false_int (by decide) F.isi_meta_str (by rw [isSubtype_type]; kernel_rfl)) ⟨.bl _, H, I.tok _, rfl, q⟩
        · exact call_isinstance_yes (typeIs_int _ _ _) F.isi_meta_int F.isi_self_int ⟨.bl _, H, I, rfl, q⟩
        · exact call_isinstance (isinstance_false_int (by decide) F.isi_meta_bool (by rw [isSubtype_type]; kernel_rfl)) ⟨.bl _, H, I.tok _, rfl, q⟩
      | ref a =>
        cases r1
        obtain ⟨e, xs, hq⟩ := hx
        subst e
        obtain ⟨its, rv, ⟨o, h1, h2, h3⟩, _⟩ := I.tuple hq
        rcases hT with rfl | rfl | rfl | rfl
        · exact call_isinstance_yes (Tx := "tuple") ⟨o, h1, h2⟩ F.isi_meta_tuple (by rw [isSubtype_type]; kernel_rfl) ⟨.bl _, H, I, rfl, q⟩
        · exact call_isinstance (isinstance_false_tuple (by decide) F.isi_meta_str (by rw [isSubtype_type]; kernel_rfl)) ⟨⟨o, h1, h2⟩, .bl _, H, I.tok _, rfl, q⟩
        · exact call_isinstance (isinstance_false_tuple (by decide) F.isi_meta_int (by rw [isSubtype_type]; kernel_rfl)) ⟨⟨o, h1, h2⟩, .bl _, H, I.tok _, rfl, q⟩
        · exact call_isinstance (isinstance_false_tuple (by decide) F.isi_meta_bool (by rw [isSubtype_type]; kernel_rfl)) ⟨⟨o, h1, h2⟩, .bl _, H, I.tok _, rfl, q⟩
      | _ => exact absurd hx id
end
/-! ### enumerate(tuple) -/
def IteT (K : PySem.W.Frag) (a : Addr) : It :=
  ⟨fun i H => ∃ (xs : List V) (x : V), SqT K H a xs ∧ xs[i]? = some x, fun i H v H' => ∃ T x, v = .ref T ∧ H T = none ∧ H' = upd H T (.tup [.int (i : Nat), x]) ∧ ∀ xs, SqT K H a xs → xs[i]? = some x, fun i H => ∃ xs : List V, SqT K H a xs ∧ xs.length ≤ i⟩
theorem iter_ne {h : Heap} {t c : Addr} {k : Nat} {ys : Array Value} (ct : h.IsTuple t ys) (ci : h.IsTupleIter c t k) : t ≠ c := fun e => by
  subst e
  obtain ⟨o, h1, h2, _⟩ := ct
  obtain ⟨o', k1, k2, _⟩ := ci
  rw [h1] at k1
  cases k1
  rw [h2] at k2
  injection k2 with k2
  exact absurd k2 (by decide)
theorem enum_ne {h : Heap} {e it t : Addr} {i : Int} {old : Value} {ys : Array Value} (he : IsEnum h e it i old) (ct : h.IsTuple t ys) : e ≠ t := fun q => by
  subst q
  obtain ⟨o, h1, h2, _⟩ := ct
  rw [he] at h1
  cases h1
  injection h2 with h2
  exact absurd h2 (by decide)
theorem turn_enumT {P : Program} {w : World} {K : PySem.W.Frag} {elts : List Expr} {kk : Nat} {tpos : Pos} (a e it : Addr) :
    Turn P w K (.Tuple elts kk tpos) (IteT K a) [e, it] e (fun i h => (∃ old, IsEnum h e it ((i : Nat) : Int) old) ∧ h.IsTupleIter it a i ∧ e ≠ it) where
  mem := by simp
  obj := fun i h st b hb => by
    obtain ⟨⟨old, he⟩, ⟨o, ho, hc, hd⟩, _⟩ := st
    have e' : b = e ∨ b = it := by simpa using hb
    rcases e' with z | z
    · rw [z]; exact ⟨_, he, fun v q => nomatch q⟩
    · rw [z]; exact ⟨o, ho, fun v q => by rw [hd] at q; cases q⟩
  keep := fun i h h' st k => let ⟨⟨old, he⟩, hi, hne⟩ := st; ⟨⟨old, k e (by simp) _ he⟩, hi.at fun o q => k it (by simp) o q, hne⟩
  item := by
    intro X hP hw hK hc i pins s σ H E I hf st hg
    subst hP hw hK
    obtain ⟨⟨old, he⟩, hit, hne⟩ := st
    obtain ⟨xs, x, hq, hx⟩ := hg
    obtain ⟨its, rv, p, hz⟩ := I.tuple hq
    obtain ⟨u, hu, ru⟩ := rv.get hx
    have hel : e < s.heap.objs.size := Heap.lt_size he
    have hil : it < s.heap.objs.size := by obtain ⟨_, q, _⟩ := hit; exact Heap.lt_size q
    have hlt : i < its.toArray.size := by
      have := (List.getElem?_eq_some_iff.mp hu).1
      simpa using this
    have nt : e ≠ a := enum_ne he p
    refine wpAny_pyNext_enum_itemD (ZT.draws (A := X.A.in1) (I.ok.hd hc) (iter_ne p hit) its.toArray) he ⟨hit, p⟩ hlt hne (by simp [hne, nt]) fun x' h' tk hx' ho st' hT hsz hk => ?_
    have ex : x' = u := by
      have e1 : its[i]? = some x' := by simpa using hx'
      rw [hu] at e1
      exact (Option.some.inj e1).symm
    subst ex
    refine ⟨_, rfl, wpAny_letOwnedTupleGo_enum (s := { s with heap := h', toks := tk + 1 }) ho fun h'' he' sb => ?_⟩
    have hT2 : h''.get? s.heap.objs.size = some { cls := .type "tuple", data := .seq #[.int i tk, x'] } := (sb.2 _ (Nat.ne_of_gt hel)).trans hT
    have new : ObjOk X.prog X.w (upd H s.heap.objs.size (.tup [.int (i : Nat), x])) h'' s.heap.objs.size (.tup [.int (i : Nat), x]) :=
      ⟨by show 2 ≤ sizeLine; decide, [.int i tk, x'], .cons ⟨_, rfl⟩ (.cons ru .nil), ⟨_, hT2, rfl, _, rfl⟩⟩
    have I1 : Inv X pins σ (upd H s.heap.objs.size (.tup [.int (i : Nat), x])) { s with heap := h'', toks := tk + 1 } :=
      I.turnedNew (ch := [e, it]) (fun b ob hb q => (sb.2 b (fun z => hb (by simp [z]))).trans (hk b ob (fun z => hb (by simp [z])) (fun z => hb (by simp [z])) q)) hf (Nat.le_refl _) new
    refine ⟨.ref s.heap.objs.size, _, I1, rfl, ⟨_, x, rfl, I.hok.fresh (Nat.le_refl _), rfl, fun ys hy => by rw [I.tuple_inj hy hq]; exact hx⟩, ⟨⟨x', ?_⟩, st'.1.at fun o q => (sb.2 it (Ne.symm hne)).trans q, hne⟩, fun b hb => ?_⟩
    · have e1 : ((i + 1 : Nat) : Int) = (i : Int) + 1 := by omega
      rw [e1]; exact he'
    · have hb' : b < s.heap.objs.size := by
        have e' : b = e ∨ b = it := by simpa using hb
        rcases e' with z | z
        · rw [z]; exact hel
        · rw [z]; exact hil
      rw [upd_ne (Nat.ne_of_lt hb')]
      exact (hf b hb).1
  done := by
    intro X hP hw hK hc i pins s σ H E I hf st hg
    subst hP hw hK
    obtain ⟨⟨old, he⟩, hit, hne⟩ := st
    obtain ⟨xs, hq, hx⟩ := hg
    obtain ⟨its, rv, p, hz⟩ := I.tuple hq
    obtain ⟨f0, f1, f2, f3, f4, f5⟩ := hf it (by simp)
    have hl := rv.length
    have hend : its.toArray[i]? = none := by simp; omega
    have hT : s.TypeIs (.ref e) "enumerate" := ⟨_, he, rfl⟩
    unfold pyNext
    refine wpAny_bind (wpAny_attempt (wpAny_callSpecial?_slot (name := Str.ofString "__next__") hT F.slot_enumerate_next (wpAny_call_entry F.slot_enumerate_next hT F.entry_enumerate_next ?_ (F.args_enumerate_next_1 _))))
    show wpAny _ _ (field (.ref e) 2 >>= _) _ _ _
    refine wpAny_bind (wpAny_field he rfl (x := .ref it) rfl ?_)
    refine wpAny_bind (ZT.next_end (A := X.A.in1) (I.ok.hd hc) hit p hend fun h' x he' hx' => ?_)
    obtain ⟨o, ho, hcl⟩ := hx'
    refine wpAny_bind (wpAny_isInstance (T := "StopIteration") (b := true) ⟨o, ho, hcl⟩ isSubtype_stop ?_)
    exact wpAny_pure ⟨rfl, I.turned (t' := s.toks) (fun b o hb q => he' b o hb q) f0 f1 f3 f4 f5⟩
  self := fun A i s Q E st h => let ⟨⟨_, he⟩, _⟩ := st; wpAny_pyIter_enum he h
def iEnumT (K : PySem.W.Frag) (ta : TA) : TI := fun σ H R => ta σ H fun vs H1 => ∃ a xs, vs = [.ref a] ∧ SqT K H1 a xs ∧ R (IteT K a) H1
theorem pi_enumT {X : Cx} {e : Expr} {ta : TA} {p pos tpos : Pos} {elts : List Expr} {kk : Nat} (hg : Gl X "enumerate") (hm : X.mg "enumerate" = none) (ha : PA X [e] ta) (hs : starEach [e] X.env = [(false, eval e X.env)] := by rfl) :
    PI X (.Tuple elts kk tpos) (.Call (.Name "enumerate" p) [e] [] pos) (iEnumT X.K ta) := by
  intro pins s σ H R I h
  refine Call_ (ld_blt I hg hm boot_enumerate (PyProof.Rows.callWith_type1 (thn (ha pos pins s σ H _ I h) fun us s1 ⟨vs, H1, I1, r1, q1⟩ => ?_) hs rfl))
  obtain ⟨a, xs, ex, hq, q⟩ := q1
  subst ex
  cases r1 with
  | cons r rr =>
    cases rr
    cases r
    obtain ⟨its, rv, p', hz⟩ := I1.tuple hq
    refine ZT.call_enum p' fun h' he hit hk => wpAny_pyIter_enum he ?_
    have I2 : Inv X pins σ H1 { s1 with heap := h' } := I1.kept (t' := s1.toks) hk
    refine ⟨s1.heap.objs.size + 1, [s1.heap.objs.size + 1, s1.heap.objs.size], _, _, H1, rfl, I2, turn_enumT a (s1.heap.objs.size + 1) s1.heap.objs.size, ⟨⟨.none, he⟩, hit, Nat.succ_ne_self _⟩, fun b hb => ?_, q⟩
    have e' : b = s1.heap.objs.size + 1 ∨ b = s1.heap.objs.size := by simpa using hb
    have hle : s1.heap.objs.size ≤ b := by
      rcases e' with z | z
      · rw [z]; exact Nat.le_add_right _ _
      · rw [z]; exact Nat.le_refl _
    exact I1.fpOk hle (I1.hok.fresh hle)
/-! ### zip(tuple, tuple), of one length -/
def ItzT (K : PySem.W.Frag) (a b : Addr) : It :=
  ⟨fun i H => ∃ (xs ys : List V) (x y : V), SqT K H a xs ∧ SqT K H b ys ∧ xs[i]? = some x ∧ ys[i]? = some y,
    fun i H v H' => ∃ T x y, v = .ref T ∧ H T = none ∧ H' = upd H T (.tup [x, y]) ∧ (∀ xs, SqT K H a xs → xs[i]? = some x) ∧ ∀ ys, SqT K H b ys → ys[i]? = some y,
    fun i H => ∃ xs : List V, SqT K H a xs ∧ xs.length ≤ i⟩
theorem turn_zipT {P : Program} {w : World} {K : PySem.W.Frag} {elts : List Expr} {kk : Nat} {tpos : Pos} {a b z U O c d : Addr} (D : ZipApart z U O c d a b) :
    Turn P w K (.Tuple elts kk tpos) (ItzT K a b) [z, U, O, c, d] z (fun i h => IsZip h z U O .none ∧ IsPair h U (.ref c) (.ref d) ∧ (∃ x y, IsPair h O x y) ∧ h.IsTupleIter c a i ∧ h.IsTupleIter d b i) where
  mem := by simp
  obj := fun i h st p hp => by
    obtain ⟨hz, hU, ⟨x, y, hO⟩, ⟨o1, e1, _, d1⟩, ⟨o2, e2, _, d2⟩⟩ := st
    have e' : p = z ∨ p = U ∨ p = O ∨ p = c ∨ p = d := by simpa using hp
    rcases e' with q | q | q | q | q
    · rw [q]; exact ⟨_, hz, fun v q => nomatch q⟩
    · rw [q]; exact ⟨_, hU, fun v q => nomatch q⟩
    · rw [q]; exact ⟨_, hO, fun v q => nomatch q⟩
    · rw [q]; exact ⟨o1, e1, fun v q => by rw [d1] at q; cases q⟩
    · rw [q]; exact ⟨o2, e2, fun v q => by rw [d2] at q; cases q⟩
  keep := fun i h h' st k => by
    obtain ⟨hz, hU, ⟨x, y, hO⟩, h1, h2⟩ := st
    exact ⟨k z (by simp) _ hz, k U (by simp) _ hU, ⟨x, y, k O (by simp) _ hO⟩, h1.at fun o q => k c (by simp) o q, h2.at fun o q => k d (by simp) o q⟩
  item := by
    intro X hP hw hK hc i pins s σ H E I hf st hg
    subst hP hw hK
    obtain ⟨hz, hU, ⟨x0, y0, hO⟩, h1, h2⟩ := st
    obtain ⟨xs, ys, x, y, hqx, hqy, hx, hy⟩ := hg
    obtain ⟨its, rv, p, _⟩ := I.tuple hqx
    obtain ⟨its2, rv2, p2, _⟩ := I.tuple hqy
    obtain ⟨u, hu, ru⟩ := rv.get hx
    obtain ⟨u2, hu2, ru2⟩ := rv2.get hy
    have hzl : z < s.heap.objs.size := Heap.lt_size hz
    refine ZT.pyNext_zip_item D hz hU hO h1 h2 p p2 (x := u) (y := u2) (by simpa using hu) (by simpa using hu2) fun h' z' O' h1' h2' hT hsz hk => ?_
    refine ⟨_, rfl, wpAny_letOwnedTupleGo_zip (s := { s with heap := h' }) z' fun h'' z'' sb => ?_⟩
    have hT2 : h''.get? s.heap.objs.size = some { cls := .type "tuple", data := .seq #[u, u2] } := (sb.2 _ (Nat.ne_of_gt hzl)).trans hT
    have new : ObjOk X.prog X.w (upd H s.heap.objs.size (.tup [x, y])) h'' s.heap.objs.size (.tup [x, y]) :=
      ⟨by show 2 ≤ sizeLine; decide, [u, u2], .cons ru (.cons ru2 .nil), ⟨_, hT2, rfl, _, rfl⟩⟩
    have I1 : Inv X pins σ (upd H s.heap.objs.size (.tup [x, y])) { s with heap := h'' } :=
      I.turnedNew (t' := s.toks) (ch := [z, U, O, c, d]) (fun p o hb q => (sb.2 p (fun q' => hb (by simp [q']))).trans (hk p o (fun q' => hb (by simp [q'])) (fun q' => hb (by simp [q'])) (fun q' => hb (by simp [q'])) (fun q' => hb (by simp [q'])) q)) hf (Nat.le_refl _) new
    refine ⟨.ref s.heap.objs.size, _, I1, rfl, ⟨_, x, y, rfl, I.hok.fresh (Nat.le_refl _), rfl, fun l hl => by rw [I.tuple_inj hl hqx]; exact hx, fun l hl => by rw [I.tuple_inj hl hqy]; exact hy⟩, ⟨z'', ?_, ⟨u, u2, ?_⟩, ?_, ?_⟩, fun p hpm => ?_⟩
    · exact (sb.2 _ D.TIz).trans (hk _ _ D.TIz D.TITO D.TIi1 D.TIi2 hU)
    · exact (sb.2 _ D.TOz).trans O'
    · exact h1'.at fun o q => (sb.2 _ D.i1z).trans q
    · exact h2'.at fun o q => (sb.2 _ D.i2z).trans q
    · have hlt : p < s.heap.objs.size := by
        have e' : p = z ∨ p = U ∨ p = O ∨ p = c ∨ p = d := by simpa using hpm
        rcases e' with q | q | q | q | q
        · rw [q]; exact hzl
        · rw [q]; exact Heap.lt_size hU
        · rw [q]; exact Heap.lt_size hO
        · rw [q]; obtain ⟨_, e1, _⟩ := h1; exact Heap.lt_size e1
        · rw [q]; obtain ⟨_, e2, _⟩ := h2; exact Heap.lt_size e2
      rw [upd_ne (Nat.ne_of_lt hlt)]
      exact (hf p hpm).1
  done := by
    intro X hP hw hK hc i pins s σ H E I hf st hg
    subst hP hw hK
    obtain ⟨hz, hU, ⟨x0, y0, hO⟩, h1, h2⟩ := st
    obtain ⟨xs, hqx, hend⟩ := hg
    obtain ⟨its, rv, p, _⟩ := I.tuple hqx
    have l1 := rv.length
    exact ZT.pyNext_zip_end (j := i) (ys := #[]) (I.ok.hd hc) D hz hU hO h1 p (by simp; omega) fun h' hk => ⟨rfl, I.turnedL (t' := s.toks) (ch := [z, U, O, c, d]) (fun p o hb q =>
      hk p o (fun q' => hb (by simp [q'])) (fun q' => hb (by simp [q'])) q) hf⟩
  self := fun A i s Q E st h => wpAny_pyIter_zip st.1 h
def iZipT (K : PySem.W.Frag) (ta : TA) : TI := fun σ H R => ta σ H fun vs H1 => ∃ a b xs ys, vs = [.ref a, .ref b] ∧ SqT K H1 a xs ∧ SqT K H1 b ys ∧ R (ItzT K a b) H1
theorem pi_zipT {X : Cx} {e e2 : Expr} {ta : TA} {p pos tpos : Pos} {elts : List Expr} {kk : Nat} (hg : Gl X "zip") (hm : X.mg "zip" = none) (ha : PA X [e, e2] ta)
    (hs : starEach [e, e2] X.env = (false, eval e X.env) :: starEach [e2] X.env := by rfl) (hpl : (backTo pos (starEach [e2] X.env)).any (·.1) = false := by rfl) :
    PI X (.Tuple elts kk tpos) (.Call (.Name "zip" p) [e, e2] [] pos) (iZipT X.K ta) := by
  intro pins s σ H R I h
  refine Call_ (ld_blt I hg hm boot_zip5 (PyProof.Rows.callWith_type1 (thn (ha pos pins s σ H _ I h) fun us s1 ⟨vs, H1, I1, r1, q1⟩ => ?_) hs hpl))
  obtain ⟨a, b, xs, ys, ex, hqx, hqy, q⟩ := q1
  subst ex
  cases r1 with
  | cons r rr =>
    cases rr with
    | cons r' rr =>
      cases rr
      cases r
      cases r'
      obtain ⟨its, rv, p1, _⟩ := I1.tuple hqx
      obtain ⟨its2, rv2, p2, _⟩ := I1.tuple hqy
      have la : a < s1.heap.objs.size := p1.lt
      have lb : b < s1.heap.objs.size := p2.lt
      refine ZT.call_zip p1 p2 fun h' hz hU hO h1 h2 hk => wpAny_pyIter_zip hz ?_
      have I2 : Inv X pins σ H1 { s1 with heap := h' } := I1.kept (t' := s1.toks) hk
      refine ⟨s1.heap.objs.size + 4, [s1.heap.objs.size + 4, s1.heap.objs.size + 2, s1.heap.objs.size + 3, s1.heap.objs.size, s1.heap.objs.size + 1], _, _, H1, rfl, I2, turn_zipT (PySem.W.ktu_apart s1.heap.objs.size a b la lb), ⟨hz, hU, ⟨_, _, hO⟩, h1, h2⟩, fun p hpm => ?_, q⟩
      have e' : p = s1.heap.objs.size + 4 ∨ p = s1.heap.objs.size + 2 ∨ p = s1.heap.objs.size + 3 ∨ p = s1.heap.objs.size ∨ p = s1.heap.objs.size + 1 := by simpa using hpm
      have hle : s1.heap.objs.size ≤ p := by
        rcases e' with z | z | z | z | z
        · rw [z]; exact Nat.le_add_right _ _
        · rw [z]; exact Nat.le_add_right _ _
        · rw [z]; exact Nat.le_add_right _ _
        · rw [z]; exact Nat.le_refl _
        · rw [z]; exact Nat.le_add_right _ _
      exact I1.fpOk hle (I1.hok.fresh hle)
end L2
namespace L2
open PySem
theorem boot_isinstance : bootBuiltins "isinstance" = some (.builtin "isinstance") := boot_isi
theorem boot_len : bootBuiltins "len" = some (.builtin "len") := PySem.boot_len
theorem boot_sum : bootBuiltins "sum" = some (.builtin "sum") := by decide +kernel
theorem boot_min : bootBuiltins "min" = some (.builtin "min") := by decide +kernel
theorem boot_sorted : bootBuiltins "sorted" = some (.builtin "sorted") := by decide +kernel
theorem boot_list : bootBuiltins "list" = some (.type "list") := by decide +kernel
end L2

/-! Words of small letters. -/
namespace Wd
open PySem L2
abbrev lett : Str := "abcdefghijklmnopqrstuvwxyz"
abbrev own12 : List Str := ["web", "put", "take", "tie", "untie", "show", "first", "next", "all", "count", "sizes", "biggest"]
abbrev own4 : List Str := ["fill", "tied", "apart", "cover"]
def own16 : List Str := own12 ++ own4
/-- small letters alone -/
def Lt (x : Str) : Prop := ∀ c ∈ x.cps.toList, 97 ≤ c ∧ c ≤ 122
structure Word (x : Str) : Prop where
  lo : 1 ≤ x.length
  hi : x.length ≤ 8
  lt : Lt x
theorem len_tl (x : Str) : x.length = x.cps.toList.length := rfl
theorem lett_all : ∀ k : Nat, k < 26 → (lett.cps.toList)[k]? = some (97 + k) := by decide +kernel
theorem lett_at {r : Int} (h0 : 0 ≤ r) (h1 : r < 26) : atI lett.cps.toList r = some (97 + r.toNat) := by
  obtain ⟨k, rfl⟩ := Int.eq_ofNat_of_zero_le h0
  rw [Int.toNat_natCast]
  exact atI_nat (lett_all k (by omega))
theorem lett_len : lett.length ≤ sizeLine := by decide +kernel
theorem sign_lt {k : Nat} (h : k < 26) : Lt ⟨#[97 + k]⟩ := fun c hc => by
  have e : c = 97 + k := by simpa using hc
  omega
theorem sign_len (k : Nat) : (⟨#[k]⟩ : Str).length = 1 := rfl
theorem sign_word {k : Nat} (h : k < 26) : Word ⟨#[97 + k]⟩ := ⟨Nat.le_refl _, by rw [sign_len]; decide, sign_lt h⟩
theorem app_lt {x y : Str} (hx : Lt x) (hy : Lt y) : Lt (x ++ y) := fun c hc => by
  have e : (x ++ y).cps.toList = x.cps.toList ++ y.cps.toList := by
    show (x.cps ++ y.cps).toList = _
    rw [Array.toList_append]
  rw [e] at hc
  rcases List.mem_append.mp hc with h | h
  · exact hx c h
  · exact hy c h
theorem app_len (x y : Str) : (x ++ y).length = x.length + y.length := by
  show (x.cps ++ y.cps).size = x.cps.size + y.cps.size
  rw [Array.size_append]
theorem cut_lt {x : Str} (hx : Lt x) (lo hi : Option Int) : Lt (cutS x lo hi) := fun c hc => by
  have e : (cutS x lo hi).cps.toList = (x.cps.toList.drop (HT.sIx x.length 0 lo)).take (HT.sIx x.length x.length hi - HT.sIx x.length 0 lo) := by
    unfold cutS
    simp
  rw [e] at hc
  exact hx c (List.mem_of_mem_drop (List.mem_of_mem_take hc))
theorem cut_len (x : Str) (hi : Option Int) : (cutS x none hi).length = HT.sIx x.length x.length hi := by
  have h := HT.sIx_le x.length x.length (Nat.le_refl _) hi
  unfold cutS
  show (((x.cps.toList.drop (HT.sIx x.length 0 none)).take (HT.sIx x.length x.length hi - HT.sIx x.length 0 none)).toArray).size = _
  rw [List.size_toArray, List.length_take, List.length_drop, Array.length_toList, HT.sIx_none]
  show min (HT.sIx x.length x.length hi - 0) (x.length - 0) = _
  omega
theorem cut8 (x : Str) : (cutS x none (some 8)).length = min 8 x.length := by
  rw [cut_len]
  exact HT.sIx_nat x.length x.length 8
theorem cut1 (x : Str) : (cutS x none (some (-1))).length = x.length - 1 := by
  rw [cut_len]
  have e : HT.sIx x.length x.length (some (-1)) = ((-1 : Int) + (x.length : Int)).toNat := by
    unfold HT.sIx
    dsimp only
    rw [if_pos (by decide)]
  rw [e]
  omega
theorem cut8_word {x : Str} (h : 1 ≤ x.length) (hx : Lt x) : Word (cutS x none (some 8)) := ⟨by rw [cut8]; omega, by rw [cut8]; omega, cut_lt hx _ _⟩
theorem own_ok : ∀ x ∈ own16, 3 ≤ x.length ∧ x.length ≤ 7 ∧ ∀ c ∈ x.cps.toList, 97 ≤ c ∧ c ≤ 122 := by decide +kernel
theorem own_len : own16.length = 16 := by decide
/-- signs joined without a part between -/
theorem join_word {ys : List Str} (h1 : 1 ≤ ys.length) (h8 : ys.length ≤ 8) (hy : ∀ y ∈ ys, ∃ k, k < 26 ∧ y = ⟨#[97 + k]⟩) : Word (Txt.join ("" : Str) ys) := by
  have key : ∀ zs : List Str, (∀ y ∈ zs, ∃ k, k < 26 ∧ y = (⟨#[97 + k]⟩ : Str)) → (TL.joinL [] (zs.map TL.tl)).length = zs.length ∧ ∀ c ∈ TL.joinL [] (zs.map TL.tl), 97 ≤ c ∧ c ≤ 122 := by
    intro zs
    induction zs with
    | nil => exact fun _ => ⟨rfl, fun c hc => by cases hc⟩
    | cons x r ih =>
      intro h
      obtain ⟨k, hk, rfl⟩ := h x (List.mem_cons_self ..)
      have ih' := ih fun y hy => h y (List.mem_cons_of_mem _ hy)
      cases r with
      | nil =>
        refine ⟨rfl, fun c hc => ?_⟩
        have e : c = 97 + k := by simpa [TL.joinL, TL.tl] using hc
        omega
      | cons y r =>
        have e : TL.joinL [] (((⟨#[97 + k]⟩ : Str) :: y :: r).map TL.tl) = (97 + k) :: TL.joinL [] ((y :: r).map TL.tl) := rfl
        rw [e]
        refine ⟨by rw [List.length_cons, ih'.1]; rfl, fun c hc => ?_⟩
        rcases List.mem_cons.mp hc with rfl | hc
        · omega
        · exact ih'.2 c hc
  have e : (Txt.join ("" : Str) ys).cps.toList = TL.joinL [] (ys.map TL.tl) := by
    rw [TL.join_eq]
    exact TL.tl_join ("" : Str) ys
  obtain ⟨k1, k2⟩ := key ys hy
  exact ⟨by rw [len_tl, e, k1]; exact h1, by rw [len_tl, e, k1]; exact h8, fun c hc => k2 c (by rw [← e]; exact hc)⟩
/-- the words that are tried in turn -/
def turnW (t : Nat) : Str := (⟨#[97 + t % 26]⟩ : Str) ++ (⟨#[97 + t / 26]⟩ : Str)
theorem turn_word {t : Nat} (h : t < 676) : Word (turnW t) := ⟨by unfold turnW; rw [app_len, sign_len, sign_len]; decide, by unfold turnW; rw [app_len, sign_len, sign_len]; decide, app_lt (sign_lt (Nat.mod_lt _ (by decide))) (sign_lt (by omega))⟩
theorem turn_inj {s t : Nat} (h : turnW s = turnW t) : s = t := by
  have e : (turnW s).cps = (turnW t).cps := by rw [h]
  have e2 : (#[97 + s % 26, 97 + s / 26] : Array Nat) = #[97 + t % 26, 97 + t / 26] := e
  have e3 : [97 + s % 26, 97 + s / 26] = [97 + t % 26, 97 + t / 26] := by simpa using congrArg Array.toList e2
  injection e3 with a b
  injection b with b _
  omega
/-- a list without doubles within another is not longer -/
theorem nodup_le {α : Type} [DecidableEq α] : ∀ {xs ys : List α}, xs.Nodup → (∀ x ∈ xs, x ∈ ys) → xs.length ≤ ys.length
  | [], _, _, _ => Nat.zero_le _
  | x :: r, ys, h, hs => by
    have h1 := List.nodup_cons.mp h
    have hx : x ∈ ys := hs x (List.mem_cons_self ..)
    have ih := nodup_le (ys := ys.erase x) h1.2 fun y hy => by
      have ne : y ≠ x := fun e => h1.1 (e ▸ hy)
      exact (List.mem_erase_of_ne ne).mpr (hs y (List.mem_cons_of_mem _ hy))
    rw [List.length_erase_of_mem hx] at ih
    have hl : 0 < ys.length := List.length_pos_of_mem hx
    rw [List.length_cons]
    omega
/-- so many tries fail at most -/
theorem turns_le {t : Nat} {ys : List Str} (h : ∀ s, s < t → turnW s ∈ ys) : t ≤ ys.length := by
  have nd : ((List.range t).map turnW).Nodup := by
    rw [List.nodup_iff_pairwise_ne, List.pairwise_map]
    exact List.Pairwise.imp (fun hne e => hne (turn_inj e)) (List.nodup_iff_pairwise_ne.mp List.nodup_range)
  have := nodup_le (ys := ys) nd fun x hx => by
    obtain ⟨s, hs, rfl⟩ := List.mem_map.mp hx
    exact h s (List.mem_range.mp hs)
  rw [List.length_map, List.length_range] at this
  exact this
end Wd

/-! The rules once more, behind structures: what a rule speaks of is not opened while a long term is read. -/
namespace L2
open PySem PySem.Spec PyProof.Rows
structure SE (X : Cx) (e : Expr) (t : TE) : Prop where
  o : PE X e t
structure SA (X : Cx) (es : List Expr) (t : TA) : Prop where
  o : PA X es t
structure ST (X : Cx) (e : Expr) (t : TT) : Prop where
  o : PT X e t
structure SW (X : Cx) (e : Expr) (t : TT) : Prop where
  o : PW X e t
structure SS1 (X : Cx) (st : Stmt) (t : TS) : Prop where
  o : PS X st t
structure SB (X : Cx) (sts : List Stmt) (t : TS) : Prop where
  o : PSs X sts t
structure SG (X : Cx) (tg : Expr) (g : TG) : Prop where
  o : PG X tg g
structure SH (X : Cx) (ts : List Expr) (g : TGs) : Prop where
  o : PGs X ts g
structure SI (X : Cx) (tg it : Expr) (wi : TI) : Prop where
  o : PI X tg it wi
structure SU (X : Cx) (ifs : List Expr) (t : TT) : Prop where
  o : PTs X ifs t
structure SO (X : Cx) (e : Option Expr) (t : TO) : Prop where
  o : PO X e t
section
variable {X : Cx} {a b e o i : Expr} {ta tb te to ti : TE} {pos p p2 apos tpos : Pos} {t u : TS} {tA tB' tt : TT} {st : Stmt} {rest : List Stmt} {es : List Expr} {tas : TA}
theorem SB.use {D : Ends} {σ : St} {H : Hp} (h : SB X rest t) (q : t D σ H) : ∃ t, PSs X rest t ∧ t D σ H := ⟨t, h.o, q⟩
theorem bcons (h1 : SS1 X st t) (h2 : SB X rest u) : SB X (st :: rest) (tSeq t u) := ⟨pss_cons h1.o h2.o⟩
theorem bone (h1 : SS1 X st t) : SB X [st] t := ⟨pss_one h1.o⟩
theorem bnil : SB X [] tNext := ⟨pss_nil⟩
theorem bset {n : Nat} {x : Str} (hN : X.N.Nodup) (hi : X.N[n]? = some x) (hx : Loc X.env.scope x) (he : SE X e te) (hs : swapsWith e (some (.Name x p)) pos.line X.env = pure false) (hf : X.fn x = true ∨ X.env.scope.names.lookup x = some .local) : SS1 X (.Assign [.Name x p] e pos) (tAsg te (gName n)) := ⟨ps_set hN hi hx he.o hs hf⟩
theorem basg {tg : Expr} {g : TG} (he : SE X e te) (hg : SG X tg g) (hs : swapsWithSole [tg] e pos.line X.env = pure false) (hw : swappedStores [tg] e X.env = pure none) (h1 : (assignEach [tg] X.env).map (·.2) = [assign tg X.env]) : SS1 X (.Assign [tg] e pos) (tAsg te g) := ⟨ps_asg he.o hg.o hs hw h1⟩
theorem bwhile {body : List Stmt} {tb : TS} (hp : PassesOwn (model X.prog X.w) X.A X.env X.xe) (hc : ST X a tA) (hb : SB X body tb) : SS1 X (.While a body [] pos) (tWhile tA tb) := ⟨ps_while hp hc.o hb.o⟩
theorem bfor {tg it : Expr} {body : List Stmt} {wi : TI} {g : TG} {tb : TS} (hp : PassesOwn (model X.prog X.w) X.A X.env X.xe) (hc : X.calm = true) (hi : SI X tg it wi) (hg : SG X tg g) (hb : SB X body tb) (hs : ∀ x, foldedSetIterable it X.env x = pure x) : SS1 X (.For tg it body [] pos) (tFor wi g tb) := ⟨ps_for hp hc hi.o hg.o hb.o hs⟩
theorem bifs {xs ys : List Stmt} (hc : ST X a tA) (ha : SB X xs t) (hb : SB X ys u) : SS1 X (.If a xs ys pos) (tIfS tA t u) := ⟨ps_if hc.o ha.o hb.o⟩
theorem bret (he : SE X e te) : SS1 X (.Return (some e) pos) (tRet te) := ⟨ps_ret he.o⟩
theorem bexpr (he : SE X e te) (hs : swapsWith e none pos.line X.env = pure false) : SS1 X (.Expr e pos) (tDrop te) := ⟨ps_expr he.o hs⟩
theorem eint {i : Int} {j : Nat} : SE X (.Constant (.int i) j pos) (tC (.int i)) := ⟨pe_int⟩
theorem ebl {b : Bool} {j : Nat} : SE X (.Constant (.bool b) j pos) (tC (.bl b)) := ⟨pe_bl⟩
theorem estr {x : Str} {j : Nat} : SE X (.Constant (.str x) j pos) (tC (.str x)) := ⟨pe_str⟩
theorem ev (n : Nat) {x : Str} (hN : X.N[n]? = some x) (hv : Vis X.env.scope x) (hd : (x == ("__debug__" : Str)) = false) (hcd : (x == ("__classdict__" : Str)) = false) : SE X (.Name x pos) (tVar n) := ⟨pv n hN hv hd hcd⟩
theorem eop {op : Operator} {r : R2} (ho : OpR X (binaryOp op) r) (ha : SE X a ta) (hb : SE X b tb) : SE X (.BinOp a op b pos) (tOp r ta tb) := ⟨pe_op ho ha.o hb.o⟩
theorem eun {op : UnaryOp} {r : V → Hp → VK → Prop} (ho : UnR X (unaryOp op) r) (ha : SE X a ta) : SE X (.UnaryOp op a pos) (tUn r ta) := ⟨pe_un ho ha.o⟩
theorem anil : SA X [] tNil := ⟨pa_nil⟩
theorem acons (ha : SE X e te) (hr : SA X es tas) (hs : starEach (e :: es) X.env = (false, eval e X.env) :: starEach es X.env) : SA X (e :: es) (tCons te tas) := ⟨pa_cons ha.o hr.o hs⟩
theorem elst (h : SA X es tas) : SE X (.List es pos) (tLst tas) := ⟨pe_lst h.o⟩
theorem etup {k : Nat} (h : SA X es tas) : SE X (.Tuple es k pos) (tTup tas) := ⟨pe_tup h.o⟩
theorem eix {r : R2} (hr : IxR X r) (ha : SE X a ta) (hb : SE X b tb) (hs : PlainIx b) : SE X (.Subscript a b pos) (tOp r ta tb) := ⟨pe_ix hr ha.o hb.o hs⟩
theorem onone : SO X none tNoPart := ⟨po_none⟩
theorem osome (h : SE X e te) : SO X (some e) (tPart te) := ⟨po_some h.o⟩
theorem eslice {lo hi : Option Expr} {tl th : TO} {r : V → Option Int → Option Int → Hp → VK → Prop} (hr : SlR X r) (he : SE X e te) (hl : SO X lo tl) (hu : SO X hi th) : SE X (.Subscript e (.Slice lo hi none p2) pos) (tSl r te tl th) := ⟨pe_slice hr he.o hl.o hu.o⟩
theorem ecallB {x : Str} {id : String} {r : List V → Hp → VK → Prop} (hc : CallR X (.builtin id) r) (hg : Gl X x) (hm : X.mg x = none) (hv : bootBuiltins x = some (.builtin id)) (ha : SA X (e :: es) tas) (hn : x ≠ "__name__") (hdb : (x == ("__debug__" : Str)) = false)
    (he : starEach (e :: es) X.env = (false, eval e X.env) :: starEach es X.env) (hpl : (backTo pos (starEach es X.env)).any (·.1) = false) : SE X (.Call (.Name x p) (e :: es) [] pos) (tCB r tas) := ⟨pe_callB hc hg hm hv ha.o hn hdb he hpl⟩
theorem ecallT {x : Str} {T : String} {r : List V → Hp → VK → Prop} (hc : CallR X (.type T) r) (hg : Gl X x) (hm : X.mg x = none) (hv : bootBuiltins x = some (.type T)) (ha : SA X (e :: es) tas) (hn : x ≠ "__name__") (hdb : (x == ("__debug__" : Str)) = false)
    (he : starEach (e :: es) X.env = (false, eval e X.env) :: starEach es X.env) (hpl : (backTo pos (starEach es X.env)).any (·.1) = false) : SE X (.Call (.Name x p) (e :: es) [] pos) (tCB r tas) := ⟨pe_callTy hc hg hm hv ha.o hn hdb he hpl⟩
theorem ecall {x : Str} {CX : CXT} {k : Nat} {f : Addr} {fd : FuncData} {ps : List Str} {sp : Sp} {dvs : List V} {ds : List Value} {E : XK} (F : FnOk X.prog X.w X.K X.mg X.base CX k f fd ps sp) (hr : Room k X.A) (hg : Gl X x) (hm : X.mg x = some (.ref f)) (hk : PySem.W.keepIn X.K (.ref f) = true) (hb : Binds X.K fd ps ds) (hd : Vals dvs ds) (hx : Passes CX X E)
    (ha : SA X (e :: es) tas) (hdb : (x == ("__debug__" : Str)) = false) (he : starEach (e :: es) X.env = (false, eval e X.env) :: starEach es X.env) (hpl : (backTo pos (starEach es X.env)).any (·.1) = false) : SE X (.Call (.Name x p) (e :: es) [] pos) (tCall sp dvs E tas) := ⟨pe_call F hr hg hm hk hb hd hx ha.o hdb he hpl⟩
theorem ecmp {op : CmpOp} {r : R2} (ho : OpR X (compareOp op) r) (ha : SE X a ta) (hb : SE X b tb) (hm : behindInMarks op b = false) : SE X (.Compare a [op] [b] pos) (tOp r ta tb) := ⟨pe_cmpR ho ha.o hb.o hm⟩
theorem ebltn {x : Str} {v : V} {u : Value} (hg : Gl X x) (hm : X.mg x = none) (hv : bootBuiltins x = some u) (r : RelV v u) (hn : x ≠ "__name__") (hd : (x == ("__debug__" : Str)) = false) : SE X (.Name x pos) (tC v) := ⟨pe_bltn hg hm hv r hn hd⟩
theorem eand {es : List Expr} (ha : SE X a ta) (hb : SE X (.BoolOp .And (b :: es) pos) tb) : SE X (.BoolOp .And (a :: b :: es) pos) (tAndV ta tb) := ⟨pe_and ha.o hb.o⟩
theorem eone {op : BoolOp} (h : SE X a ta) : SE X (.BoolOp op [a] pos) ta := ⟨pe_one h.o⟩
theorem enot (h : SE X a ta) : SE X (.UnaryOp .Not a pos) (tNotV ta) := ⟨pe_not h.o⟩
theorem ejoin (ho : SE X o to) (he : SE X e te) (hs : starEach [e] X.env = [(false, eval e X.env)]) (hbase : attributeBase o "join" X.env (eval o X.env) = eval o X.env) (hline : (apos.endLine == pos.line) = true) :
    SE X (.Call (.Attribute o "join" apos) [e] [] pos) (tM1 (fun x xs H Q => ∃ a p, ∃ ys : List Str, x = .str a ∧ xs = [.ref p] ∧ (SqL X.K H p (ys.map V.str) ∨ SqT X.K H p (ys.map V.str)) ∧ (ys.map (·.length)).sum + ys.length * a.length ≤ 16777216 ∧ Q (.str (Txt.join a ys)) H) to te) := ⟨pe_join ho.o he.o hs hbase hline⟩
theorem ebm {name : Str} {T id : String} {r : V → List V → Hp → VK → Prop} (pa : PlainAttrs T) (slot : Slot T name id) (hty : typeOf (.builtin id) = pure (.type "method_descriptor")) (hm : MtR X id r) (ho : SE X o to) (ha : SA X (e :: es) tas)
    (hbase : attributeBase o name X.env (eval o X.env) = eval o X.env)
    (hfew : ((backTo pos (starEach (e :: es) X.env)).all (fun x => !x.1) && (backToKw pos (keywordEach [] X.env)).all (fun x => x.1.isSome) && decide ((e :: es).length + ([] : List Keyword).length + (if ([] : List Keyword).isEmpty then 0 else 1) < 30)) = true)
    (hline : (apos.endLine == pos.line) = true) (hs : starEach (e :: es) X.env = (false, eval e X.env) :: starEach es X.env) (hplain : (backTo pos (starEach es X.env)).any (·.1) = false) : SE X (.Call (.Attribute o name apos) (e :: es) [] pos) (tBM X.K T r to tas) := ⟨pe_bm pa slot hty hm ho.o ha.o hbase hfew hline hs hplain⟩
theorem elc {elt tg it : Expr} {ifs : List Expr} {scope : Scope} {own : List (Str × Nat)} {wi : TI} {g : TG} (hc : X.calm = true) (hN : X.N.Nodup) (hi : SI X tg it wi) (ok : BlkOk X.N X.env.scope scope own)
    (hg : ∀ (s : Shared) (H : Hp) (C : Addr) (cl : List (Str × Addr)) (fp : List Addr), SG (X.blk s H scope (compEnvC scope cl C X.env) fp) tg g) (ht : ∀ (s : Shared) (H : Hp) (C : Addr) (cl : List (Str × Addr)) (fp : List Addr), SU (X.blk s H scope (compEnvC scope cl C X.env) fp) ifs tt)
    (he : ∀ (s : Shared) (H : Hp) (C : Addr) (cl : List (Str × Addr)) (fp : List Addr), SE (X.blk s H scope (compEnvC scope cl C X.env) fp) elt te) (hs : ∀ x, foldedSetIterable it X.env x = pure x) : SE X (.ListComp elt [⟨tg, it, ifs, 0⟩] scope pos) (tLc wi g tt te (own.map (·.2))) :=
  ⟨pe_lc hc hN hi.o ok (fun s H C cl fp => (hg s H C cl fp).o) (fun s H C cl fp => (ht s H C cl fp).o) (fun s H C cl fp => (he s H C cl fp).o) hs⟩
theorem tcmp {op : CmpOp} {r : R2} (ho : OpR X (compareOp op) r) (ha : SE X a ta) (hb : SE X b tb) (hm : behindInMarks op b = false) : ST X (.Compare a [op] [b] pos) (tTest (tOp r ta tb)) := ⟨pt_cmpR ho ha.o hb.o hm⟩
theorem tval (h : SE X e te) (he : ∀ whole, isTrue e X.env whole = (do let v ← whole; standAt e.pos; holding [v] (truthy v))) : ST X e (tB te) := ⟨pt_val h.o he⟩
theorem tnot (h : ST X a tA) : ST X (.UnaryOp .Not a pos) (tNot tA) := ⟨pt_not h.o⟩
theorem tw (h : SW X e tA) : ST X e tA := ⟨h.o.pt⟩
theorem wor {es : List Expr} (ha : ST X a tA) (hb : SW X (.BoolOp .Or (b :: es) pos) tB') : SW X (.BoolOp .Or (a :: b :: es) pos) (tOr tA tB') := ⟨pw_or ha.o hb.o⟩
theorem wor1 (ha : ST X a tA) : SW X (.BoolOp .Or [a] pos) tA := ⟨pw_or1 ha.o⟩
theorem wand {es : List Expr} (ha : ST X a tA) (hb : SW X (.BoolOp .And (b :: es) pos) tB') : SW X (.BoolOp .And (a :: b :: es) pos) (tAnd tA tB') := ⟨pw_and ha.o hb.o⟩
theorem wand1 (ha : ST X a tA) : SW X (.BoolOp .And [a] pos) tA := ⟨pw_and1 ha.o⟩
theorem gname {n : Nat} {x : Str} (hN : X.N.Nodup) (hi : X.N[n]? = some x) (hx : Loc X.env.scope x) (hf : X.fn x = true ∨ X.env.scope.names.lookup x = some .local) : SG X (.Name x pos) (gName n) := ⟨pg_name hN hi hx hf⟩
theorem gtup {k n : Nat} {g : TGs} (hc : X.calm = true) (h : SH X es g) (hn : (assignEach es X.env).length = n) (hst : (assignEach es X.env).findIdx? (·.1) = none) : SG X (.Tuple es k pos) (gTup X.K n g) := ⟨pg_tup hc h.o hn hst⟩
theorem gsnil : SH X [] gNil := ⟨pgs_nil⟩
theorem gscons {g : TG} {gs : TGs} (h1 : SG X e g) (h2 : SH X es gs) (hs : (assignEach (e :: es) X.env).map (·.2) = assign e X.env :: (assignEach es X.env).map (·.2)) : SH X (e :: es) (gCons g gs) := ⟨pgs_cons h1.o h2.o hs⟩
theorem gsub {g : TSet} (ho : SE X o to) (hi : SE X i ti) (hs : PSet X g)
    (ha : ∀ v, assign (.Subscript o i pos) X.env v = (do
      let ov ← holding [v] (eval o X.env)
      let iv ← holding [v, ov] (eval i X.env)
      standAt pos
      holding [v, ov, iv] (setItem ov iv v)
      release [v, ov, iv] [])) : SG X (.Subscript o i pos) (gSub to ti g) := ⟨pg_sub ho.o hi.o hs ha⟩
theorem irange1 {tg : Expr} (hg : Gl X "range") (hm : X.mg "range" = none) (ha : SA X [a] tas) (hs : starEach [a] X.env = [(false, eval a X.env)]) : SI X tg (.Call (.Name "range" p) [a] [] pos) (iRng1 tas) := ⟨pi_range1 hg hm ha.o hs⟩
theorem ilist {tg : Expr} (h : SE X e te) : SI X tg e (iList X.K te) := ⟨pi_list h.o⟩
theorem itup {tg : Expr} (h : SE X e te) : SI X tg e (iTup X.K te) := ⟨pi_tup h.o⟩
theorem ienumT {k : Nat} (hg : Gl X "enumerate") (hm : X.mg "enumerate" = none) (ha : SA X [e] tas) (hs : starEach [e] X.env = [(false, eval e X.env)]) : SI X (.Tuple es k tpos) (.Call (.Name "enumerate" p) [e] [] pos) (iEnumT X.K tas) := ⟨pi_enumT hg hm ha.o hs⟩
theorem izipT {k : Nat} {e2 : Expr} (hg : Gl X "zip") (hm : X.mg "zip" = none) (ha : SA X [e, e2] tas) (hs : starEach [e, e2] X.env = (false, eval e X.env) :: starEach [e2] X.env) (hpl : (backTo pos (starEach [e2] X.env)).any (·.1) = false) : SI X (.Tuple es k tpos) (.Call (.Name "zip" p) [e, e2] [] pos) (iZipT X.K tas) := ⟨pi_zipT hg hm ha.o hs hpl⟩
theorem unil : SU X [] tYes := ⟨pts_nil⟩
theorem uone (h : ST X e tt) : SU X [e] tt := ⟨pts_one h.o⟩
end
theorem tyes {σ : St} {H : Hp} {F G : Hp → Prop} (h : F H) : tYes σ H (fun b H3 => if b = true then F H3 else G H3) := by
  show (if true = true then F H else G H)
  rw [if_pos rfl]
  exact h
end L2

/-! Webs, plainly: names in order, pairs in order. -/
namespace Wm
open PySem PySem.Spec L2 Wd PyProof.Rows
def sLt (a b : Str) : Prop := a.cps.toList < b.cps.toList
instance (a b : Str) : Decidable (sLt a b) := inferInstanceAs (Decidable (a.cps.toList < b.cps.toList))
theorem sLt_irr (a : Str) : ¬ sLt a a := List.lt_irrefl _
theorem sLt_trans {a b c : Str} (h : sLt a b) (k : sLt b c) : sLt a c := List.lt_trans h k
theorem sLt_tot {a b : Str} (h : ¬ sLt a b) (k : ¬ sLt b a) : a = b := ext_toList (List.le_antisymm (List.not_lt.mp k) (List.not_lt.mp h))
theorem sLt_ne {a b : Str} (h : sLt a b) : a ≠ b := fun e => sLt_irr a (by rw [← e] at h; exact h)
theorem le_lt {a b c : Str} (h : ¬ sLt b a) (k : sLt b c) : sLt a c := List.lt_of_le_of_lt (List.not_lt.mp h) k
theorem rising : ∀ {p : Str} {l : List Str}, risingS p l = true → (p :: l).Pairwise (fun a b => ¬ sLt b a)
  | p, [], _ => List.pairwise_singleton _ _
  | p, x :: r, h => by
    have h' : (!ltCps x.cps.toList p.cps.toList && risingS x r) = true := h
    rw [Bool.and_eq_true] at h'
    have hx : ¬ sLt x p := by
      have := h'.1
      rw [ltCps_eq] at this
      simpa [sLt] using this
    have ih := rising h'.2
    refine List.pairwise_cons.mpr ⟨fun y hy => ?_, ih⟩
    rcases List.mem_cons.mp hy with rfl | hy
    · exact hx
    · have := List.rel_of_pairwise_cons ih hy
      exact fun z => hx (le_lt this z)
theorem sorted_le {l : List Str} (h : sortedS l = true) : l.Pairwise (fun a b => ¬ sLt b a) := by
  cases l with
  | nil => exact List.Pairwise.nil
  | cons x r => exact rising h
theorem strict {l : List Str} (h : sortedS l = true) (n : l.Nodup) : l.Pairwise sLt := by
  have h1 := sorted_le h
  have h2 := List.nodup_iff_pairwise_ne.mp n
  refine List.Pairwise.imp₂ ?_ h1 h2
  intro a b k ne
  exact Classical.byContradiction fun c => ne (sLt_tot c k)
theorem inj {l : List Str} (h : l.Pairwise sLt) {i j : Nat} {x : Str} (hi : l[i]? = some x) (hj : l[j]? = some x) : i = j := by
  rw [List.pairwise_iff_getElem] at h
  obtain ⟨i1, i2⟩ := List.getElem?_eq_some_iff.mp hi
  obtain ⟨j1, j2⟩ := List.getElem?_eq_some_iff.mp hj
  rcases Nat.lt_trichotomy i j with k | k | k
  · have := h i j i1 j1 k
    rw [i2, j2] at this
    exact absurd this (sLt_irr x)
  · exact k
  · have := h j i j1 i1 k
    rw [i2, j2] at this
    exact absurd this (sLt_irr x)
theorem at_lt {l : List Str} (h : l.Pairwise sLt) {i j : Nat} {x y : Str} (hij : i < j) (hi : l[i]? = some x) (hj : l[j]? = some y) : sLt x y := by
  rw [List.pairwise_iff_getElem] at h
  obtain ⟨i1, i2⟩ := List.getElem?_eq_some_iff.mp hi
  obtain ⟨j1, j2⟩ := List.getElem?_eq_some_iff.mp hj
  have := h i j i1 j1 hij
  rw [i2, j2] at this
  exact this
/-! pairs -/
theorem prKey_inj {p q : SS} (h : prKey p = prKey q) : p = q := by
  unfold prKey at h
  injection h with h1 h2
  injection h2 with h2 _
  injection h1 with h1
  injection h2 with h2
  exact Prod.ext (ext_toList h1) (ext_toList h2)
theorem prLt_irr (p : SS) : prLt p p = false := lex_irrefl (O := itemOrd) (prKey p)
theorem prLt_tot {p q : SS} (h : prLt p q = false) (k : prLt q p = false) : p = q := prKey_inj (lex_total (O := itemOrd) _ _ h k)
/-- in order, each once -/
abbrev Asc (l : List SS) : Prop := l.Pairwise (fun p q => prLt p q = true)
theorem asc_of {l : List SS} (h : l.Pairwise (fun p q => prLt q p = false)) (n : l.Nodup) : Asc l := by
  refine List.Pairwise.imp₂ ?_ h (List.nodup_iff_pairwise_ne.mp n)
  intro a b k ne
  cases e : prLt a b with
  | true => rfl
  | false => exact absurd (prLt_tot e k) ne
theorem Asc.nodup {l : List SS} (h : Asc l) : l.Nodup := List.nodup_iff_pairwise_ne.mpr (List.Pairwise.imp (fun {a b} k e => by rw [e, prLt_irr] at k; cases k) h)
structure WebOk (names : List Str) (ties : List SS) : Prop where
  ns : names.Pairwise sLt
  nw : ∀ x ∈ names, Word x ∧ x ∉ own16
  ts : Asc ties
  ti : ∀ p ∈ ties, p.1 ∈ names ∧ p.2 ∈ names ∧ sLt p.1 p.2
/-! all pairs of names in order, as pairs_of makes them -/
def pairsL : List Str → List SS
  | [] => []
  | x :: r => r.map (fun y => (x, y)) ++ pairsL r
theorem mem_pairs : ∀ {l : List Str} {p : SS}, l.Pairwise sLt → (p ∈ pairsL l ↔ p.1 ∈ l ∧ p.2 ∈ l ∧ sLt p.1 p.2)
  | [], p, _ => by simp [pairsL]
  | x :: r, p, h => by
    have h1 := List.pairwise_cons.mp h
    have ih := mem_pairs (p := p) h1.2
    have e : pairsL (x :: r) = r.map (fun y => (x, y)) ++ pairsL r := rfl
    rw [e, List.mem_append, ih]
    constructor
    · rintro (k | ⟨k1, k2, k3⟩)
      · obtain ⟨y, hy, e⟩ := List.mem_map.mp k
        subst e
        exact ⟨List.mem_cons_self .., List.mem_cons_of_mem _ hy, h1.1 y hy⟩
      · exact ⟨List.mem_cons_of_mem _ k1, List.mem_cons_of_mem _ k2, k3⟩
    · rintro ⟨k1, k2, k3⟩
      rcases List.mem_cons.mp k1 with e1 | k1
      · rcases List.mem_cons.mp k2 with e2 | k2
        · rw [e1, e2] at k3; exact absurd k3 (sLt_irr x)
        · exact .inl (List.mem_map.mpr ⟨p.2, k2, Prod.ext e1.symm rfl⟩)
      · rcases List.mem_cons.mp k2 with e2 | k2
        · have := h1.1 p.1 k1
          rw [e2] at k3
          exact absurd (sLt_trans k3 this) (sLt_irr _)
        · exact .inr ⟨k1, k2, k3⟩
theorem len_pairs : ∀ l : List Str, 2 * (pairsL l).length = l.length * (l.length - 1)
  | [] => rfl
  | x :: r => by
    have ih := len_pairs r
    have e : (pairsL (x :: r)).length = r.length + (pairsL r).length := by
      show (r.map (fun y => (x, y)) ++ pairsL r).length = _
      rw [List.length_append, List.length_map]
    rw [e, List.length_cons]
    cases hn : r.length with
    | zero =>
      rw [hn] at ih
      simp at ih ⊢
      all_goals omega
    | succ n =>
      rw [hn] at ih
      have e2 : (n + 1 + 1) * (n + 1 + 1 - 1) = (n + 1) * (n + 1 - 1) + 2 * (n + 1) := by
        simp only [Nat.add_sub_cancel]
        rw [Nat.mul_comm (n + 1 + 1) (n + 1), Nat.mul_comm 2 (n + 1), ← Nat.mul_add]
      omega
/-- the ties of a web turned over -/
def over (names : List Str) (ties : List SS) : List SS := (pairsL names).filter fun p => !decide (p ∈ ties)
end Wm

/-! Comprehensions over zip and enumerate of tuples; equal data. -/
namespace L2
open PySem PySem.Spec PyProof.Rows
theorem lc_zipT {K : PySem.W.Frag} {a b : Addr} {xs ys : List V} {g : TG} {tt : TT} {te : TE} {vs : List Nat} {σ : St} {H1 : Hp} {D : Addr} {Qd : Hp → Prop} (Pv : Nat → Hp → Prop) (h0 : Pv 0 (upd H1 D (.lst []))) (hl : ∀ i H, i ≤ xs.length → Pv i H → SqT K H a xs ∧ SqT K H b ys) (he : xs.length = ys.length)
    (hs : ∀ i x y H T, xs[i]? = some x → ys[i]? = some y → H T = none → Pv i H → g (.ref T) (wipe σ vs) (upd H T (.tup [x, y])) fun σ2 H2 => wipe σ2 vs = wipe σ vs ∧ tt σ2 H2 fun b H3 =>
      if b = true then te σ2 H3 fun y H4 => ∃ acc, H4 D = some (.lst acc) ∧ acc.length < sizeLine ∧ Pv (i + 1) (upd H4 D (.lst (acc ++ [y]))) else Pv (i + 1) H3) (hd : ∀ H, Pv xs.length H → Qd H) :
    ∃ W : Nat → Nat → Hp → Prop, (∃ m, W 0 m (upd H1 D (.lst []))) ∧ ∀ i m H, W i m H →
      ((ItzT K a b).stop i H ∧ Qd H) ∨ ((ItzT K a b).go i H ∧ ∃ Nx : Hp → Prop, (∀ H', Nx H' → ∃ m', m' < m ∧ W (i + 1) m' H') ∧ ∀ x H', (ItzT K a b).yld i H x H' → g x (wipe σ vs) H' fun σ2 H2 => wipe σ2 vs = wipe σ vs ∧ tt σ2 H2 fun b H3 =>
        if b = true then te σ2 H3 fun y H4 => ∃ acc, H4 D = some (.lst acc) ∧ acc.length < sizeLine ∧ Nx (upd H4 D (.lst (acc ++ [y]))) else Nx H3) := by
  refine ⟨fun i m H => m = xs.length - i ∧ i ≤ xs.length ∧ Pv i H, ⟨xs.length, by simp, Nat.zero_le _, h0⟩, ?_⟩
  rintro i m H ⟨rfl, hi, p⟩
  obtain ⟨q1, q2⟩ := hl i H hi p
  by_cases hlt : i < xs.length
  · have e1 : xs[i]? = some xs[i] := List.getElem?_eq_getElem hlt
    have e2 : ys[i]? = some (ys[i]'(by omega)) := List.getElem?_eq_getElem (by omega)
    refine .inr ⟨⟨xs, ys, _, _, q1, q2, e1, e2⟩, Pv (i + 1), fun H' p' => ⟨xs.length - (i + 1), by omega, rfl, hlt, p'⟩, ?_⟩
    rintro v H' ⟨T, x, y, rfl, nT, rfl, hx, hy⟩
    exact hs i x y H T (hx xs q1) (hy ys q2) nT p
  · have e : i = xs.length := by omega
    subst e
    exact .inl ⟨⟨xs, q1, Nat.le_refl _⟩, hd H p⟩
/-- equal data: texts, numbers, tuples of such -/
def Eqd (K : PySem.W.Frag) (H : Hp) : Nat → V → V → Prop
  | 0, _, _ => False
  | n + 1, x, y => ((∃ z, x = .str z ∧ y = .str z) ∨ ∃ i, x = .int i ∧ y = .int i) ∨ ∃ a b xs ys, x = .ref a ∧ y = .ref b ∧ SqT K H a xs ∧ SqT K H b ys ∧ Paired (Eqd K H n) xs ys
theorem Eqd.same {K : PySem.W.Frag} {H H' : Hp} (e : Same H H') : ∀ {n : Nat} {x y : V}, Eqd K H n x y → Eqd K H' n x y
  | 0, _, _, h => h
  | n + 1, _, _, h => by
    rcases h with h | ⟨a, b, xs, ys, h1, h2, h3, h4, h5⟩
    · exact .inl h
    · exact .inr ⟨a, b, xs, ys, h1, h2, e.seqT h3, e.seqT h4, Paired.mapP h5 fun _ _ q => Eqd.same e q⟩
theorem Eqd.up {K : PySem.W.Frag} {H : Hp} : ∀ {n : Nat} {x y : V}, Eqd K H n x y → Eqd K H (n + 1) x y
  | 0, _, _, h => h.elim
  | n + 1, _, _, h => by
    rcases h with h | ⟨a, b, xs, ys, h1, h2, h3, h4, h5⟩
    · exact .inl h
    · exact .inr ⟨a, b, xs, ys, h1, h2, h3, h4, Paired.mapP h5 fun _ _ q => Eqd.up q⟩
theorem Paired.get {α β : Type} {F : α → β → Prop} : ∀ {l : List α} {m : List β} {i : Nat} {x : α} {y : β}, Paired F l m → l[i]? = some x → m[i]? = some y → F x y
  | _, _, _, _, _, .nil, h, _ => by simp at h
  | _, _, 0, _, _, .cons r _, h, k => by
    simp at h k
    subst h k
    exact r
  | _, _, i + 1, _, _, .cons _ t, h, k => Paired.get (i := i) t (by simpa using h) (by simpa using k)
theorem Eqd.strs {K : PySem.W.Frag} {H : Hp} {n : Nat} : ∀ xs : List Str, Paired (Eqd K H (n + 1)) (xs.map V.str) (xs.map V.str)
  | [] => .nil
  | x :: r => .cons (.inl (.inl ⟨x, rfl, rfl⟩)) (Eqd.strs r)
theorem Eqd.prs {K : PySem.W.Frag} {H : Hp} {n : Nat} : ∀ {vs us : List V} {ps : List SS}, Prs K H vs ps → Prs K H us ps → Paired (Eqd K H (n + 2)) vs us
  | _, _, _, .nil, .nil => .nil
  | _, _, _, .cons ⟨a, ea, ha⟩ t, .cons ⟨b, eb, hb⟩ u => .cons (.inr ⟨a, b, _, _, ea, eb, ha, hb, .cons (.inl (.inl ⟨_, rfl, rfl⟩)) (.cons (.inl (.inl ⟨_, rfl, rfl⟩)) .nil)⟩) (Eqd.prs t u)
end L2

/-! first, *others = a list; enumerate(list, start=1). -/
namespace L2
open PySem PySem.W PySem.Spec PyProof.Rows
section
variable {prog : Program} {w : World} {A : Around} {E : Value → Shared → Prop} {s : Shared}
end
def gStar (K : PySem.W.Frag) (t : TGs) : TG := fun v σ H Q => ∃ a x xs, v = .ref a ∧ SqL K H a (x :: xs) ∧ xs.length ≤ 16000 ∧ ∀ D, H D = none → t [x, .ref D] σ (upd H D (.lst xs)) Q
section
variable {X : Cx} {e : Expr} {es : List Expr} {pos p : Pos}
end
end L2

/-! len(set(words)) of a list of texts. -/
namespace SetT
open PySem PySem.Spec PyProof.Rows
def put1 (acc : List Str) (x : Str) : List Str := if x ∈ acc then acc else acc ++ [x]
/-- each text once, where it is met first -/
def dd (l : List Str) : List Str := l.foldl put1 []
theorem dd_snoc (l : List Str) (x : Str) : dd (l ++ [x]) = put1 (dd l) x := by unfold dd; rw [List.foldl_append]; rfl
theorem mem_put1 {acc : List Str} {x y : Str} : y ∈ put1 acc x ↔ y ∈ acc ∨ y = x := by
  unfold put1
  split
  · exact ⟨.inl, fun h => h.elim id fun e => by rw [e]; assumption⟩
  · simp
theorem len_put1 (acc : List Str) (x : Str) : (put1 acc x).length = if decide (x ∈ acc) then acc.length else acc.length + 1 := by
  unfold put1
  by_cases h : x ∈ acc <;> simp [h]
theorem dd_le : ∀ (n : Nat) (l : List Str), l.length = n → (dd l).length ≤ n
  | 0, l, h => by
    have : l = [] := List.eq_nil_of_length_eq_zero h
    subst this
    exact Nat.le_refl _
  | n + 1, l, h => by
    rcases List.eq_nil_or_concat l with e | ⟨r, x, e⟩
    · subst e; simp at h
    · rw [List.concat_eq_append] at e
      subst e
      have hr : r.length = n := by simpa using h
      have ih := dd_le n r hr
      rw [dd_snoc, len_put1]
      split <;> omega
section
variable {prog : Program} {w : World} {A : Around} {R : Result → Shared → Prop} {c : Addr} {fp wr : List Addr} {G : Array GenState → Array GenState → Prop} {P : Nat → Value → Prop} {St : Nat → Shared → Prop} {xs : List Str}
abbrev HasOf (h : Heap) (prog : Program) (w : World) (S : Addr) (l : List Str) : Prop := h.SetOf (PySem.strKind prog w) S (fun k => decide (k ∈ dd l)) (dd l).length
theorem loop (W : WalksS prog w A.in1 c fp wr G xs.length P St) (S : Addr) (nS : S ∉ fp) (hv : ∀ i v, P i v → ∃ x t, xs[i]? = some x ∧ v = .str x t) (hb : xs.length + 1 < scanBound) :
    ∀ (k i : Nat) (s : Shared), xs.length - i = k → i ≤ xs.length → St i s → HasOf s.heap prog w S (xs.take i) →
      (∀ s', Moved (S :: wr) G s s' → HasOf s'.heap prog w S xs → R (.ok (.ret .none)) s') → codeAny (model prog w) A (.builtin "set.update.loop" ⟨[.ref S, .ref c], []⟩) R s := by
  have nw : S ∉ wr := fun h => nS (W.sub _ h)
  have sub : ∀ b ∈ wr, b ∈ S :: wr := fun b hb => List.mem_cons_of_mem _ hb
  have stay : ∀ {l : List Str} {s s' : Shared}, HasOf s.heap prog w S l → (∀ o, s.heap.get? S = some o → s'.heap.get? S = some o) → HasOf s'.heap prog w S l := fun {l s s'} h k => by
    obtain ⟨o, es, ep, t, ho, rest⟩ := h
    exact ⟨o, es, ep, t, k _ ho, rest⟩
  intro k
  induction k with
  | zero =>
    intro i s hk hi st hS hR
    have e : i = xs.length := by omega
    subst e
    rw [List.take_length] at hS
    refine codeAny_builtin PyProof.Rows.F.entry_set_update_loop ?_
    rw [Around.under_plainId PyProof.Rows.F.plain_set_update_loop _]
    show wpAny _ A.in1 (pyNext (.ref c) >>= _) _ _ s
    refine wpAny_bind (W.done s _ _ st fun s' hm => ?_)
    show wpAny _ A.in1 (ret Value.none) _ _ s'
    exact wpAny_pure (hR s' (hm.mono sub) (stay hS fun o q => hm.heap S _ nw q))
  | succ k ih =>
    intro i s hk hi st hS hR
    have lt : i < xs.length := by omega
    refine codeAny_builtin PyProof.Rows.F.entry_set_update_loop ?_
    rw [Around.under_plainId PyProof.Rows.F.plain_set_update_loop _]
    show wpAny _ A.in1 (pyNext (.ref c) >>= _) _ _ s
    refine wpAny_bind (W.item i s _ _ lt st fun v s' hP st' hm => ?_)
    obtain ⟨x, t, hx, rfl⟩ := hv i v hP
    have hS' := stay (s' := s') hS fun o q => hm.heap S _ nw q
    show wpAny _ A.in1 (holding [Value.str x t] (setAdd S (.str x t)) >>= _) _ _ s'
    refine wpAny_bind (wpAny_holding ?_)
    unfold setAdd
    refine wpAny_holding ?_
    have hk1 : (PySem.strKind prog w).is x (.str x t) = true := by simp [PySem.strKind, Value.isStrOf]
    refine wpAny_bind ((PySem.strKind prog w).pyHash (k := x) hk1 ?_)
    have room : (dd (xs.take i)).length + 1 < scanBound := by
      have := dd_le _ (xs.take i) rfl
      rw [List.length_take] at this
      omega
    refine wpAny_setAddHashed_of (knd := PySem.strKind prog w) (s := { s' with toks := s'.toks + 1 }) hk1 rfl hS' room fun h' sb hS2 => ?_
    have tk : xs.take (i + 1) = xs.take i ++ [x] := by rw [List.take_succ, hx]; rfl
    have hSi : HasOf h' prog w S (xs.take (i + 1)) := by
      refine SetOf_congr hS2 (fun k' => ?_) ?_
      · rw [tk, dd_snoc]
        by_cases c1 : k' ∈ dd (xs.take i) <;> by_cases c2 : k' = x <;> simp [mem_put1, c1, c2]
      · rw [tk, dd_snoc, len_put1]
    refine wpAny_pure ⟨plainId_quiet PyProof.Rows.F.plain_set_update_loop _, ih (i + 1) _ (by omega) lt (W.frame _ s' _ _ st' (Nat.le_succ _) fun b hb o e => ?_) hSi fun s'' hm'' hS'' => ?_⟩
    · rw [sb.2 b fun h : b = S => nS (by rw [← h]; exact hb)]; exact e
    · refine hR s'' (Moved.trans W.gtrans ((hm.mono sub).then_heap (Nat.le_succ _) fun b o hb e => ?_) hm'') hS''
      rw [sb.2 b fun h : b = S => hb (by rw [h]; exact List.mem_cons_self)]; exact e
end
abbrev newS (led : Bool) : Obj := { cls := .type "set", dict := none, data := .set #[] 0 (.fresh 0 0 led) }
section
variable {prog : Program} {w : World} {A : Around} {E : Value → Shared → Prop} {s : Shared}
end
end SetT

/-! enumerate(list, start=1) -/
namespace EnK
open PySem PySem.Spec PyProof.Rows
open AutoSeq1 (wpAny_loadPart')
abbrev k1 (t : Tok) : List (Str × Value) := [(Str.ofString "start", Value.int 1 t)]
theorem tc (a : Value) (t : Tok) : checkTypeCall "enumerate" ⟨[a], k1 t⟩ = pure () := by kernel_rfl
section
variable {prog : Program} {w : World} {A : Around} {E : Value → Shared → Prop} {s : Shared}
end
end EnK

namespace L2
open PySem PySem.Spec PyProof.Rows
section
variable {prog : Program} {w : World} {A : Around} {E : Value → Shared → Prop} {s : Shared}
end
/-- the list at a, each item in a new pair behind its number, from 1 on -/
def Ite1 (K : PySem.W.Frag) (a : Addr) : It :=
  ⟨fun i H => ∃ (xs : List V) (x : V), SqL K H a xs ∧ xs[i]? = some x, fun i H v H' => ∃ T x, v = .ref T ∧ H T = none ∧ H' = upd H T (.tup [.int ((i + 1 : Nat) : Int), x]) ∧ ∀ xs, SqL K H a xs → xs[i]? = some x, fun i H => ∃ xs : List V, SqL K H a xs ∧ xs.length ≤ i⟩
def iEnum1 (K : PySem.W.Frag) (ta : TA) : TI := fun σ H R => ta σ H fun vs H1 => ∃ a xs, vs = [.ref a] ∧ SqL K H1 a xs ∧ R (Ite1 K a) H1
section
variable {X : Cx} {e : Expr} {tas : TA} {es : List Expr} {pos p tpos kp cp : Pos} {k j : Nat}
end
/-! ### len(set(words)) -/
def tLenSet (K : PySem.W.Frag) (ta : TA) : TE := fun σ H Q => ta σ H fun vs H1 => ∃ a xs, vs = [.ref a] ∧ SqL K H1 a (xs.map V.str) ∧ xs.length ≤ 4000 ∧ Q (.int (SetT.dd xs).length) H1
section
variable {X : Cx} {e : Expr} {tas : TA} {pos p pos2 p2 : Pos}
end
/-! ### more rules behind structures -/
section
variable {X : Cx} {a b c e o : Expr} {ta tb tc te to : TE} {pos p apos : Pos} {st : Stmt}
theorem eglob {x : Str} {v : V} {u : Value} (hg : Gl X x) (hm : X.mg x = some u) (r : RelV v u) (hd : (x == ("__debug__" : Str)) = false) : SE X (.Name x pos) (tC v) := ⟨pe_glob hg hm r hd⟩
theorem bnever : SS1 X st tNever := ⟨ps_never⟩
end
/-! ### within a comprehension's block: the same rules, the module's objects by a letter -/
section
variable {X : Cx} {K : PySem.W.Frag} {e o : Expr} {te to : TE} {es : List Expr} {tas : TA} {pos apos : Pos}
theorem call_len_seqK (hK : X.K = K) : CallR X (.builtin "len") (fun xs H Q => ∃ p ys, xs = [.ref p] ∧ (SqL K H p ys ∨ SqT K H p ys) ∧ Q (.int ys.length) H) := by subst hK; exact call_len_seq
theorem op_in_seqK (hK : X.K = K) : OpR X (compareOp .In) (rIn K false) := by subst hK; exact op_in_seq
theorem op_notIn_seqK (hK : X.K = K) : OpR X (compareOp .NotIn) (rIn K true) := by subst hK; exact op_notIn_seq
theorem ebmK {name : Str} {T id : String} {r : V → List V → Hp → VK → Prop} (hK : X.K = K) (pa : PlainAttrs T) (slot : Slot T name id) (hty : typeOf (.builtin id) = pure (.type "method_descriptor")) (hm : MtR X id r) (ho : SE X o to) (ha : SA X (e :: es) tas)
    (hbase : attributeBase o name X.env (eval o X.env) = eval o X.env)
    (hfew : ((backTo pos (starEach (e :: es) X.env)).all (fun x => !x.1) && (backToKw pos (keywordEach [] X.env)).all (fun x => x.1.isSome) && decide ((e :: es).length + ([] : List Keyword).length + (if ([] : List Keyword).isEmpty then 0 else 1) < 30)) = true)
    (hline : (apos.endLine == pos.line) = true) (hs : starEach (e :: es) X.env = (false, eval e X.env) :: starEach es X.env) (hplain : (backTo pos (starEach es X.env)).any (·.1) = false) : SE X (.Call (.Attribute o name apos) (e :: es) [] pos) (tBM K T r to tas) := by
  subst hK
  exact ebm pa slot hty hm ho ha hbase hfew hline hs hplain
end
end L2

/-! f-strings of texts, a starred list within a list display, deep comparison of texts. -/
namespace L2
open PySem PySem.Spec PyProof.Rows
/-- an f-string's parts from the left, out the text so far -/
abbrev TJ := Str → St → Hp → VK → Prop
structure SJ (X : Cx) (es : List Expr) (t : TJ) : Prop where
  o : ∀ (out : Str) (pins : List (Addr × Obj)) (s : Shared) (σ : St) (H : Hp) (Q : VK), Inv X pins σ H s → t out σ H Q → wpAny (model X.prog X.w) X.A (joinParts out (evalEach es X.env)) (EP X pins σ Q) X.xe s
def tJNil : TJ := fun out σ H Q => out.length ≤ sizeLine ∧ Q (.str out) H
def tJCons (te : TE) (tj : TJ) : TJ := fun out σ H Q => te σ H fun v H1 => ∃ y : Str, v = .str y ∧ (out ++ y).length ≤ sizeLine ∧ tj (out ++ y) σ H1 Q
def tFv (te : TE) : TE := fun σ H Q => te σ H fun v H1 => ∃ y : Str, v = .str y ∧ y.length ≤ sizeLine ∧ Q (.str y) H1
def tJs (tj : TJ) : TE := fun σ H Q => tj Str.empty σ H Q
section
variable {X : Cx} {e a b : Expr} {es : List Expr} {te : TE} {tj : TJ} {tas : TA} {pos p : Pos}
/-- a starred list in a display -/
def tStar (K : PySem.W.Frag) (te : TE) (tr : TA) : TA := fun σ H Q => te σ H fun x H1 => ∃ a xs, x = .ref a ∧ SqL K H1 a xs ∧ tr σ H1 fun ys H2 => Q (xs ++ ys) H2
theorem vals_app : ∀ {xs ys : List V} {us vs : List Value}, Vals xs us → Vals ys vs → Vals (xs ++ ys) (us ++ vs)
  | _, _, _, _, .nil, h => h
  | _, _, _, _, .cons r t, h => .cons r (vals_app t h)
end
/-! ### deep facts of texts -/
def prD (p : SS) : PyData := .tuple [.str p.1, .str p.2]
def webD (ns : List Str) (ts : List SS) : PyData := .tuple [.tuple (ns.map PyData.str), .tuple (ts.map prD)]
end L2

/-! Texts of webs. -/
namespace Tm
open PySem L2 Wd Wm PyProof.Rows
def RowNames (row : Str) (words : List Str) : Prop := row.length ≤ 10000 ∧ ((row.length = 0 ∧ words = []) ∨ (row.length ≠ 0 ∧ Txt.split row " " = words))
def RowTie (row : Str) (p : SS) : Prop := row.length ≤ 10000 ∧ (Txt.split row " " = [p.1, p.2] ∨ Txt.split row " " = [p.2, p.1])
structure TextOf (text : Str) (names : List Str) (ties : List SS) : Prop where
  len : text.length ≤ 1000000
  ex : ∃ row0 rows words ps, Txt.split text "\n" = row0 :: rows ∧ rows.length ≤ 1000 ∧ RowNames row0 words ∧ words.Perm names ∧ Paired RowTie rows ps ∧ ps.Perm ties
theorem tl_sp : TL.tl (" " : Str) = [32] := by decide +kernel
theorem tl_nl : TL.tl ("\n" : Str) = [10] := by decide +kernel
theorem tl_joinT (y : Str) (ws : List Str) : (Txt.join y ws).cps.toList = TL.joinL (TL.tl y) (ws.map TL.tl) := by
  rw [TL.join_eq]
  exact TL.tl_join y ws
/-- the rows of a text have no line end within -/
def NoNl (x : Str) : Prop := 10 ∉ x.cps.toList
end Tm

/-! The text of a web, written two ways. -/
namespace Sm
open PySem PySem.Spec L2 Wd Wm Tm PyProof.Rows
def rowOf (p : SS) : Str := Txt.join (" " : Str) [p.1, p.2]
def shown (names : List Str) (ties : List SS) : Str := Txt.join ("\n" : Str) (Txt.join (" " : Str) names :: ties.map rowOf)
def fN (n : Str) : List Nat := 32 :: n.cps.toList
def fT (p : SS) : List Nat := 10 :: (rowOf p).cps.toList
theorem joinL_sp : ∀ (x : List Nat) (ls : List (List Nat)), TL.joinL [32] (x :: ls) = x ++ ls.flatMap (fun l => 32 :: l)
  | x, [] => by simp [TL.joinL]
  | x, y :: r => by
    show x ++ ([32] ++ TL.joinL [32] (y :: r)) = _
    rw [joinL_sp y r]
    simp
theorem joinL_nl : ∀ (x : List Nat) (ls : List (List Nat)), TL.joinL [10] (x :: ls) = x ++ ls.flatMap (fun l => 10 :: l)
  | x, [] => by simp [TL.joinL]
  | x, y :: r => by
    show x ++ ([10] ++ TL.joinL [10] (y :: r)) = _
    rw [joinL_nl y r]
    simp
theorem flat_map {α : Type} (f : α → List Nat) (c : Nat) (l : List α) : (l.map f).flatMap (fun x => c :: x) = l.flatMap (fun x => c :: f x) := by
  induction l with
  | nil => rfl
  | cons x r ih => simp [ih]
theorem shown_tl (names : List Str) (ties : List SS) : (shown names ties).cps.toList = (names.flatMap fN).drop 1 ++ ties.flatMap fT := by
  unfold shown
  rw [tl_joinT, tl_nl, List.map_cons, joinL_nl]
  congr 1
  · show (Txt.join (" " : Str) names).cps.toList = _
    rw [tl_joinT, tl_sp]
    cases names with
    | nil => rfl
    | cons x r =>
      rw [List.map_cons, joinL_sp, flat_map]
      simp [fN]
      rfl
  · rw [List.map_map, flat_map]
    rfl
theorem cut_from_s (z : Str) (k : Nat) (h : k ≤ z.length) : (cutS z (some (k : Int)) none).cps.toList = z.cps.toList.drop k := by
  unfold cutS
  rw [HT.sIx_nat, HT.sIx_none]
  have e : min k z.length = k := by omega
  rw [e]
  show (List.take (z.length - k) (List.drop k z.cps.toList)).toArray.toList = _
  rw [List.take_of_length_le (by rw [List.length_drop]; exact Nat.le_refl _)]
theorem no_ties {names : List Str} {ties : List SS} (h : WebOk names ties) (e : names = []) : ties = [] := by
  cases ties with
  | nil => rfl
  | cons p r =>
    have := (h.ti p (List.mem_cons_self ..)).1
    rw [e] at this
    cases this
/-- what is written with all its blanks, its first blank off -/
theorem written {names : List Str} {ties : List SS} (h : WebOk names ties) {z : Str} (hz : z.cps.toList = names.flatMap fN ++ ties.flatMap fT) : cutS z (some (if (!decide (names = [])) = true then (1 : Int) else 0)) none = shown names ties := by
  apply ext_toList
  rw [shown_tl]
  by_cases e : names = []
  · have e2 := no_ties h e
    subst e
    subst e2
    have : cutS z (some (if (!decide (([] : List Str) = [])) = true then (1 : Int) else 0)) none = cutS z (some ((0 : Nat) : Int)) none := rfl
    rw [this, cut_from_s _ _ (Nat.zero_le _), hz]
    rfl
  · have c : (!decide (names = [])) = true := by simp [e]
    rw [c]
    have : cutS z (some (if true = true then (1 : Int) else 0)) none = cutS z (some ((1 : Nat) : Int)) none := rfl
    cases names with
    | nil => exact absurd rfl e
    | cons x r =>
      rw [this, cut_from_s z 1 (by rw [len_tl, hz]; simp [fN]), hz]
      simp [fN]
end Sm

/-! t + u of any tuples; t[::-1] and xs[::-1]; more loops. -/
namespace L2
open PySem PySem.Spec PyProof.Rows
theorem fm_congr {α β : Type} {f g : α → Option β} : ∀ {l : List α}, (∀ x ∈ l, f x = g x) → l.filterMap f = l.filterMap g
  | [], _ => rfl
  | x :: r, h => by
    have h2 := fm_congr (f := f) (g := g) (l := r) fun y hy => h y (List.mem_cons_of_mem _ hy)
    rw [List.filterMap_cons, List.filterMap_cons, h x (List.mem_cons_self ..), h2]
theorem rev_pick {α : Type} : ∀ r : List α, (List.range r.length).filterMap (fun m => r.reverse[r.length - 1 - m]?) = r
  | [] => rfl
  | a :: t => by
    have ih := rev_pick t
    rw [List.length_cons, List.range_succ_eq_map, List.filterMap_cons, List.filterMap_map]
    have e0 : (a :: t).reverse[t.length + 1 - 1 - 0]? = some a := by
      rw [List.reverse_cons]
      simp
    rw [e0]
    simp only
    congr 1
    refine Eq.trans (fm_congr fun m hm => ?_) ih
    have hm' : m < t.length := List.mem_range.mp hm
    show (a :: t).reverse[t.length + 1 - 1 - (m + 1)]? = t.reverse[t.length - 1 - m]?
    have e : t.length + 1 - 1 - (m + 1) = t.length - 1 - m := by omega
    rw [e, List.reverse_cons, List.getElem?_append_left (by rw [List.length_reverse]; omega)]
theorem rev_pick' {α : Type} (l : List α) : (List.range l.length).filterMap (fun m => l[l.length - 1 - m]?) = l.reverse := by
  have := rev_pick l.reverse
  rw [List.length_reverse, List.reverse_reverse] at this
  exact this
theorem pick_rev (xs : Array Value) : ((List.range xs.size).filterMap fun (m : Nat) => xs[(((xs.size : Int) - 1) + (m : Int) * (-1)).toNat]?).toArray = xs.toList.reverse.toArray := by
  congr 1
  rw [← rev_pick' xs.toList]
  simp only [Array.length_toList]
  refine fm_congr fun m hm => ?_
  have hm' : m < xs.size := List.mem_range.mp hm
  have e : (((xs.size : Int) - 1) + (m : Int) * (-1)).toNat = xs.size - 1 - m := by omega
  rw [e]
  simp
section
variable {prog : Program} {w : World} {A : Around} {E : Value → Shared → Prop} {s : Shared}
theorem sliceApplied_rev {sl : Addr} {t : Tok} {n : Nat} {Q : Int × Int × Nat → Shared → Prop} (hs : s.heap.IsSliceOf sl .none .none (.int (-1) t)) (h : Q ((n : Int) - 1, -1, n) s) :
    wpAny (model prog w) A (Builtin.Slice.sliceApplied (.ref sl) (pure (n : Int))) Q E s := by
  obtain ⟨os, hos, hcs, hds⟩ := id hs
  unfold Builtin.Slice.sliceApplied Builtin.Slice.sliceFields
  refine wpAny_bind (wpAny_bind (wpAny_field hos hds (x := .none) rfl (wpAny_bind (wpAny_field hos hds (x := .none) rfl (wpAny_bind (wpAny_field hos hds (x := .int (-1) t) rfl (wpAny_pure ?_)))))))
  refine wpAny_bind (slicePart_int ?_)
  show wpAny _ _ (if ((-1 : Int) == 0) = true then _ else _) _ _ s
  rw [if_neg (by decide)]
  refine wpAny_bind (slicePart_none (wpAny_bind (slicePart_none (wpAny_bind (wpAny_pure ?_)))))
  show wpAny _ _ (pure ((n : Int) - 1, (-1 : Int), Builtin.Slice.slicePlaces ((n : Int) - 1) (-1) (-1))) _ _ s
  have e : Builtin.Slice.slicePlaces ((n : Int) - 1) (-1) (-1) = n := by
    unfold Builtin.Slice.slicePlaces
    rw [if_neg (by decide)]
    split
    · have e : (- -1 : Int) = 1 := by decide
      rw [e, Int.ediv_one]
      omega
    · omega
  rw [e]
  exact wpAny_pure h
theorem getItem_tuple_rev {t sl : Addr} {items : Array Value} {tk : Tok} {Q : Value → Shared → Prop} (ht : IsTup s.heap t items) (hs : s.heap.IsSliceOf sl .none .none (.int (-1) tk))
    (h : Q (.ref s.heap.objs.size) { s with heap := s.heap.push { cls := .type "tuple", data := .seq items.toList.reverse.toArray } })
    (hsz : items.size ≤ sizeLine) : wpAny (model prog w) A (getItem (.ref t) (.ref sl)) Q E s := by
  have htake : sizeOk (.seq items.toList.reverse.toArray) := by
    show items.toList.reverse.toArray.size ≤ sizeLine
    rw [List.size_toArray, List.length_reverse, Array.length_toList]
    exact hsz
  obtain ⟨os, hos, hcs, hds⟩ := id hs
  have hTs : s.TypeIs (.ref sl) "slice" := ⟨os, hos, hcs⟩
  unfold getItem
  try with_reducible refine wpAny_holding ?_
  first | refine wpAny_bind (wpAny_pure ?_) | skip
  refine wpAny_bind (wpAny_sequenceKey ht.typeIs (by decide) ?_)
  refine wpAny_bind (wpAny_callSpecial?_slot (name := Str.ofString "__getitem__") ht.typeIs PyProof.Rows.slot_tuple_getitem
    (wpAny_call_entry PyProof.Rows.slot_tuple_getitem ht.typeIs entry_tuple_getitem ?_ (args_tuple_getitem _ _)))
  show wpAny _ _ (Builtin.Tuple.tupleItemsOf (.ref t) >>= _) _ _ s
  refine wpAny_bind (tupleItemsOf_ ht ?_)
  refine wpAny_bind (wpAny_typeOf hTs ?_)
  rw [if_pos (by decide)]
  refine wpAny_bind (sliceApplied_rev (n := items.size) hs ?_)
  have hno : ¬ ((((items.size : Int) - 1) == 0 && (-1 : Int) == 1 && items.size == items.size) = true) := by
    intro q
    rw [Bool.and_eq_true, Bool.and_eq_true] at q
    exact absurd q.1.2 (by decide)
  show wpAny _ _ (if (((items.size : Int) - 1) == 0 && (-1 : Int) == 1 && items.size == items.size) = true then _ else _) _ _ s
  rw [if_neg hno, pick_rev]
  first
    | exact wpAny_bind (m := Builtin.Tuple.tupleExact _) (wpAny_newObj_type (wpAny_pure ⟨_, rfl, wpAny_pure h⟩) htake)
    | exact wpAny_bind (m := Builtin.Tuple.tupleExact _) (wpAny_newObj_type (wpAny_bind (wpAny_pure (wpAny_pure ⟨_, rfl, wpAny_pure h⟩))) htake)
    | exact wpAny_bind (wpAny_bind (m := Builtin.Tuple.tupleExact _) (wpAny_newObj_type (wpAny_pure (wpAny_pure ⟨_, rfl, wpAny_pure h⟩)) htake))
    | exact wpAny_bind (wpAny_bind (m := Builtin.Tuple.tupleExact _) (wpAny_newObj_type (wpAny_pure ⟨_, rfl, wpAny_pure h⟩) htake))
end
theorem vals_rev : ∀ {xs : List V} {us : List Value}, Vals xs us → Vals xs.reverse us.reverse
  | _, _, .nil => .nil
  | _, _, .cons r t => by
    rw [List.reverse_cons, List.reverse_cons]
    exact vals_app (vals_rev t) (.cons r .nil)
def tRevT (K : PySem.W.Frag) (te ts : TE) : TE := fun σ H Q => te σ H fun x H1 => ts σ H1 fun i H2 => i = .int (-1) ∧ ∃ a xs, x = .ref a ∧ SqT K H2 a xs ∧ ∀ p, H2 p = none → Q (.ref p) (upd H2 p (.tup xs.reverse))
def tRevL (K : PySem.W.Frag) (te ts : TE) : TE := fun σ H Q => te σ H fun x H1 => ts σ H1 fun i H2 => i = .int (-1) ∧ ∃ a xs, x = .ref a ∧ SqL K H2 a xs ∧ ∀ p, H2 p = none → Q (.ref p) (upd H2 p (.lst xs.reverse))
section
variable {X : Cx} {e st : Expr} {te ts : TE} {pos p2 : Pos}
theorem erevT (he : SE X e te) (hs : SE X st ts) : SE X (.Subscript e (.Slice none none (some st) p2) pos) (tRevT X.K te ts) := by
  refine ⟨fun pins s σ H Q I h => ?_⟩
  refine Subscript_ (thn (he.o pins s σ H _ I h) fun v s1 ⟨x, H1, I1, r1, q1⟩ => ?_)
  refine wpAny_Slice ?_
  rw [evalPart_none, evalPart_some]
  refine wpAny_pure (wpAny_pure (thn (hs.o pins s1 σ H1 _ I1 q1) fun u s2 ⟨i, H2, I2, r2, q2⟩ => ?_))
  obtain ⟨rfl, a, xs, rfl, hx, q⟩ := q2
  obtain ⟨t, rfl⟩ := r2
  cases r1
  have I4 : Inv X pins σ H2 { s2 with heap := s2.heap.push { cls := .type "slice", data := .fields #[.none, .none, .int (-1) t] } } := I2.kept (t' := s2.toks) fun b ob q => Heap.get?_push_of_some _ q
  obtain ⟨its, r, ht, hz⟩ := I4.tuple hx
  have hlen := r.length
  show wpAny (model X.prog X.w) X.A (subscriptTail e (.Slice none none (some st) p2) (.ref a) (.ref s2.heap.objs.size)) (EP X pins σ Q) X.xe { s2 with heap := s2.heap.push { cls := .type "slice", data := .fields #[.none, .none, .int (-1) t] } }
  refine tail_any (ops := [.ref a, .ref s2.heap.objs.size]) ht.typeIs PyProof.Rows.slot_tuple_getitem.lookup ?_ (by with_unfolding_all rfl)
  refine getItem_tuple_rev ht (Heap.IsSliceOf.new ..) ?_ (by rw [List.size_toArray, ← hlen]; exact hz)
  refine ⟨.ref _, _, I4.laid (t' := s2.toks) (o := .tup xs.reverse) (fun b ob q => Heap.get?_push_of_some _ q) (Nat.le_refl _) ?_, rfl, q _ (I4.hok.fresh (Nat.le_refl _))⟩
  exact ⟨by rw [List.length_reverse]; exact hz, its.reverse, vals_rev r, IsTup.new _ _⟩
/-! ### t + u -/
def rCatA (K : PySem.W.Frag) : R2 := fun x y H Q => ∃ a b xs ys, x = .ref a ∧ y = .ref b ∧ SqT K H a xs ∧ SqT K H b ys ∧ xs.length + ys.length ≤ sizeLine ∧ ∀ r H', Same H H' → SqT K H' r (xs ++ ys) → Q (.ref r) H'
end
end L2

/-! Webs by some of their names, without some of them. -/
namespace Km
open PySem PySem.Spec L2 Wd Wm PyProof.Rows
def kN (names xs : List Str) : List Str := names.filter fun n => decide (n ∈ xs)
def kT (ties : List SS) (xs : List Str) : List SS := ties.filter fun p => decide (p.1 ∈ xs) && decide (p.2 ∈ xs)
def nN (names xs : List Str) : List Str := names.filter fun n => !decide (n ∈ xs)
def nT (ties : List SS) (xs : List Str) : List SS := ties.filter fun p => !decide (p.1 ∈ xs) && !decide (p.2 ∈ xs)
theorem filt_congr {α : Type} {f g : α → Bool} : ∀ {l : List α}, (∀ x ∈ l, f x = g x) → l.filter f = l.filter g
  | [], _ => rfl
  | x :: r, h => by
    have h2 := filt_congr (f := f) (g := g) (l := r) fun y hy => h y (List.mem_cons_of_mem _ hy)
    rw [List.filter_cons, List.filter_cons, h x (List.mem_cons_self ..), h2]
theorem mem_kN {names xs : List Str} {n : Str} : n ∈ kN names xs ↔ n ∈ names ∧ n ∈ xs := by unfold kN; rw [List.mem_filter]; simp
theorem mem_nN {names xs : List Str} {n : Str} : n ∈ nN names xs ↔ n ∈ names ∧ n ∉ xs := by unfold nN; rw [List.mem_filter]; simp
theorem mem_kT {ties : List SS} {xs : List Str} {p : SS} : p ∈ kT ties xs ↔ p ∈ ties ∧ p.1 ∈ xs ∧ p.2 ∈ xs := by unfold kT; rw [List.mem_filter]; simp
theorem nN_sub (names xs : List Str) : (nN names xs).Sublist names := List.filter_sublist
theorem kT_kN {names : List Str} {ties : List SS} (h : WebOk names ties) (xs : List Str) : kT ties (kN names xs) = kT ties xs := by
  refine filt_congr fun p hp => ?_
  have z := h.ti p hp
  have e1 : decide (p.1 ∈ kN names xs) = decide (p.1 ∈ xs) := decide_eq_decide.mpr (by rw [mem_kN]; exact ⟨fun q => q.2, fun q => ⟨z.1, q⟩⟩)
  have e2 : decide (p.2 ∈ kN names xs) = decide (p.2 ∈ xs) := decide_eq_decide.mpr (by rw [mem_kN]; exact ⟨fun q => q.2, fun q => ⟨z.2.1, q⟩⟩)
  rw [e1, e2]
theorem kN_nN (names xs : List Str) : kN names (nN names xs) = nN names xs := by
  refine filt_congr fun n hn => ?_
  have : decide (n ∈ nN names xs) = !decide (n ∈ xs) := by
    rw [Bool.eq_iff_iff]; simp [mem_nN, hn]
  exact this
theorem kT_nN {names : List Str} {ties : List SS} (h : WebOk names ties) (xs : List Str) : kT ties (nN names xs) = nT ties xs := by
  refine filt_congr fun p hp => ?_
  have z := h.ti p hp
  have e1 : decide (p.1 ∈ nN names xs) = !decide (p.1 ∈ xs) := by rw [Bool.eq_iff_iff]; simp [mem_nN, z.1]
  have e2 : decide (p.2 ∈ nN names xs) = !decide (p.2 ∈ xs) := by rw [Bool.eq_iff_iff]; simp [mem_nN, z.2.1]
  rw [e1, e2]
theorem ndp {names : List Str} {ties : List SS} (h : WebOk names ties) : names.Nodup := List.nodup_iff_pairwise_ne.mpr (List.Pairwise.imp (fun {a b} k => sLt_ne k) h.ns)
theorem ties_le {names : List Str} {ties : List SS} (h : WebOk names ties) (h14 : names.length ≤ 14) : ties.length ≤ 98 := by
  have sub : ∀ p ∈ ties, p ∈ pairsL names := fun p hp => (mem_pairs h.ns).mpr (h.ti p hp)
  have l1 := nodup_le h.ts.nodup sub
  have l2 := len_pairs names
  have l3 : names.length * (names.length - 1) ≤ 14 * 13 := Nat.mul_le_mul h14 (by omega)
  omega
/-! ### together -/
theorem parts (names one : List Str) : ∀ {ties : List SS}, (∀ p ∈ ties, p.1 ∈ names ∧ p.2 ∈ names) → (kT ties one).length + (kT ties (nN names one)).length + (ties.filter fun p => !decide (decide (p.1 ∈ one) = decide (p.2 ∈ one))).length = ties.length
  | [], _ => rfl
  | p :: r, h => by
    have ih := parts names one (ties := r) fun q hq => h q (List.mem_cons_of_mem _ hq)
    have z := h p (List.mem_cons_self ..)
    unfold kT at ih ⊢
    rw [List.filter_cons, List.filter_cons, List.filter_cons, List.length_cons]
    have e1 : decide (p.1 ∈ nN names one) = !decide (p.1 ∈ one) := by rw [Bool.eq_iff_iff]; simp [mem_nN, z.1]
    have e2 : decide (p.2 ∈ nN names one) = !decide (p.2 ∈ one) := by rw [Bool.eq_iff_iff]; simp [mem_nN, z.2]
    rw [e1, e2]
    generalize r.filter (fun p => decide (p.1 ∈ one) && decide (p.2 ∈ one)) = A at ih ⊢
    generalize r.filter (fun p => decide (p.1 ∈ nN names one) && decide (p.2 ∈ nN names one)) = B at ih ⊢
    generalize r.filter (fun p => !decide (decide (p.1 ∈ one) = decide (p.2 ∈ one))) = C at ih ⊢
    by_cases c1 : p.1 ∈ one <;> by_cases c2 : p.2 ∈ one <;> simp [c1, c2] <;> omega
end Km

/-! tuple.index, min and max of texts, a dict of the module, dicts by pairs, list(range(n)). -/
namespace L2
open PySem PySem.Spec PyProof.Rows
section
variable {prog : Program} {w : World} {A : Around} {E : Value → Shared → Prop} {s : Shared}
theorem index_loop {x : Value} {items : Array Value} {e : Value → Bool} {j : Nat} (hj : j < items.size) (hit : e items[j] = true) (hno : ∀ m (hm : m < items.size), m < j → e items[m] = false) (he : ∀ y, y ∈ items → SeqAt.EqAt A s y x (e y)) {Q : Option PySem.Fin × Unit → Shared → Prop}
    (h : Q (some (.done (.ret (.int j s.toks))), ()) { s with toks := s.toks + 1 }) : ∀ (k i : Nat), j - i = k → i ≤ j → ∀ n, j < i + n →
    wpAny (model prog w) A (forIn (List.range' i n 1) ((none, ()) : Option PySem.Fin × Unit) fun (i : Nat) (__s : Option PySem.Fin × Unit) => (match items[i]? with
                    | some y => do
                      let __do_lift ← eqBool y x
                      if __do_lift = true then do
                          let __do_lift ← retInt ((i : Nat) : Int)
                          pure (ForInStep.done (some __do_lift, ()))
                        else pure (ForInStep.yield (none, ()))
                    | x => pure (ForInStep.yield (none, ())) : Sem (ForInStep (Option PySem.Fin × Unit)))) Q E s := by
  intro k
  induction k with
  | zero =>
    intro i hk hi n hn
    have ei : i = j := by omega
    subst ei
    obtain ⟨n', rfl⟩ : ∃ n', n = n' + 1 := ⟨n - 1, by omega⟩
    rw [List.range'_succ, List.forIn_cons]
    refine wpAny_bind ?_
    rw [Array.getElem?_eq_getElem hj]
    refine wpAny_bind (he _ (Array.getElem_mem hj) prog w E _ ?_)
    rw [hit]
    simp only [if_true]
    exact wpAny_bind (wpAny_bind (wpAny_mkInt (wpAny_pure (wpAny_pure (wpAny_pure h)))))
  | succ k ih =>
    intro i hk hi n hn
    have hlt : i < items.size := by omega
    obtain ⟨n', rfl⟩ : ∃ n', n = n' + 1 := ⟨n - 1, by omega⟩
    rw [List.range'_succ, List.forIn_cons]
    refine wpAny_bind ?_
    rw [Array.getElem?_eq_getElem hlt]
    refine wpAny_bind (he _ (Array.getElem_mem hlt) prog w E _ ?_)
    rw [hno i hlt (by omega)]
    simp only [Bool.false_eq_true, if_false]
    exact wpAny_pure (ih (i + 1) (by omega) (by omega) n' (by omega))
def s2 (a b : Str) : Nat → Str
  | 0 => a
  | _ => b
end
section
variable {X : Cx}
/-- names.index(x), names unlike texts -/
def rIndexT (K : PySem.W.Frag) : V → List V → Hp → VK → Prop := fun x xs H Q => ∃ (a : Addr) (ys : List Str) (y : Str) (j : Nat), x = V.ref a ∧ xs = [.str y] ∧ SqT K H a (ys.map V.str) ∧ ys[j]? = some y ∧ (∀ m, m < j → ys[m]? ≠ some y) ∧ Q (.int (j : Nat)) H
end
/-! ### a dict of the module, read by a text -/
def TopD (K : PySem.W.Frag) (w : World) (a : Addr) : Prop := ∃ es n, K.lookup a = some ⟨.type "dict", none, .dict es n, #[]⟩ ∧ PySem.W.KeysLit w.params es.toList
def tTop (K : PySem.W.Frag) (a : Addr) (ti : TE) : TE := fun σ H Q => ti σ H fun y H1 => ∃ x v u, y = .str x ∧ PySem.W.nsIn K a x = some (some u) ∧ RelV v u ∧ Q v H1
section
variable {X : Cx} {o i e value : Expr} {pos pos' tpos p : Pos} {td ty tv te ti : TE}
/-! ### dicts by pairs -/
/-! ### list(range(n)) -/
def tLrange (ta : TA) : TE := fun σ H Q => ta σ H fun vs H1 => ∃ n : Nat, vs = [.int n] ∧ n ≤ 1000 ∧ ∀ l, H1 l = none → Q (.ref l) (upd H1 l (.lst ((List.range n).map fun k => V.int (k : Nat))))
end
end L2
namespace L2
open PySem
/-- the scope of the comprehension that a def returns -/
def retComp (st : Stmt) : Scope := match (defBody st).getLast? with
  | some (.Return (some (.ListComp _ _ sc _)) _) => sc
  | _ => defScope st
section
variable {X : Cx} {K : PySem.W.Frag}
end
section
open PyProof.Rows
variable {X : Cx} {K : PySem.W.Frag}
end
/-! ### a tuple that is known to have no dict: its methods -/
def TupD (H : Hp) (a : Addr) : Prop := ∃ o xs, H a = some (.frz o (.tup xs)) ∧ o.dict = none
theorem TupD.keep {H H' : Hp} {a : Addr} (h : TupD H a) (k : KeepT H H') : TupD H' a := let ⟨o, xs, e, d⟩ := h; ⟨o, xs, k.2 _ _ _ e, d⟩
def tBD (r : V → List V → Hp → VK → Prop) (to : TE) (t : TA) : TE := fun σ H Q => to σ H fun x H1 => (∃ a, x = .ref a ∧ TupD H1 a) ∧ t σ H1 fun xs H2 => r x xs H2 Q
section
open PySem.Spec PyProof.Rows
variable {X : Cx} {K : PySem.W.Frag} {o e : Expr} {es : List Expr} {to : TE} {tas : TA} {name : Str} {apos pos : Pos} {id : String} {r : V → List V → Hp → VK → Prop}
end
end L2

/-! Rows as bits, kinds of rows. -/
namespace Bm
open PySem PySem.Spec L2 Wd Wm Km PyProof.Rows
/-! ### bits as sums -/
def sb (f : Nat → Bool) : Nat → Nat
  | 0 => 0
  | n + 1 => sb f n + (if f n = true then 2 ^ n else 0)
/-! ### the model's own -/
/-! ### kinds -/
inductive Kd
  | T | A | C
def Kd.s : Kd → Str
  | .T => "tied"
  | .A => "apart"
  | .C => "cover"
def Tie (ties : List SS) (a b : Str) : Prop := (a, b) ∈ ties ∨ (b, a) ∈ ties
instance (ties : List SS) (a b : Str) : Decidable (Tie ties a b) := inferInstanceAs (Decidable (_ ∨ _))
theorem Tie.symm {ties : List SS} {a b : Str} (h : Tie ties a b) : Tie ties b a := h.elim .inr .inl
theorem tie_irr {names : List Str} {ties : List SS} (h : WebOk names ties) (a : Str) : ¬ Tie ties a a := by
  rintro (z | z) <;> exact sLt_irr _ (h.ti _ z).2.2
/-- a row is of a kind -/
def isK (ties : List SS) : Kd → List Str → Prop
  | .T, xs => ∀ a ∈ xs, ∀ b ∈ xs, a ≠ b → Tie ties a b
  | .A, xs => ∀ a ∈ xs, ∀ b ∈ xs, ¬ Tie ties a b
  | .C, xs => ∀ p ∈ ties, p.1 ∈ xs ∨ p.2 ∈ xs
open Classical in
noncomputable def isB (ties : List SS) (kd : Kd) (xs : List Str) : Bool := decide (isK ties kd xs)
theorem isB_iff {ties : List SS} {kd : Kd} {xs : List Str} : isB ties kd xs = true ↔ isK ties kd xs := by unfold isB; simp
/-! ### rows by bits -/
def adj (names : List Str) (ties : List SS) (a : Str) : Nat := sb (fun j => match names[j]? with | some b => decide (Tie ties a b) | none => false) names.length
def rowL (names : List Str) (r : Nat) : List Str := (List.range names.length).filterMap fun k => if r.testBit k = true then names[k]? else none
/-- one place keeps to the kind, by bits -/
def okAt (kd : Kd) (r b k : Nat) : Bool := match kd with
  | .T => !(r.testBit k && !decide (r - (r &&& b) = 2 ^ k))
  | .A => !(r.testBit k && !decide (r &&& b = 0))
  | .C => !(!r.testBit k && !decide (b - (b &&& r) = 0))
/-! ### rows that grow -/
end Bm

/-! Kinds, as the program asks for them. -/
namespace L2
open PySem
section
variable {X : Cx} {tg it : Expr} {wi wi' : TI}
end
end L2
namespace Gm
open PySem PySem.Spec L2 Wd Wm Km Bm PyProof.Rows
/-- the table's keys -/
abbrev k2 (a b : Str) : List Key := [.inr a, .inr b]
def Tbl (ties : List SS) (kvs : List (List Key × V)) : Prop := ∀ a b, (valV kvs (k2 a b)).isSome = decide (Tie ties a b)
/-- tied wants ties, apart none -/
def want : Kd → Bool
  | .T => true
  | _ => false
def goB (ties : List SS) (kd : Kd) (x : Str) (ys : List Str) : Bool := (ys.map fun y => decide (V.bl (decide (Tie ties x y)) = V.bl (want kd))).all id
theorem goB_iff {ties : List SS} {kd : Kd} {x : Str} {ys : List Str} : goB ties kd x ys = true ↔ ∀ y ∈ ys, decide (Tie ties x y) = want kd := by
  unfold goB
  rw [List.all_eq_true]
  constructor
  · intro h y hy
    have := h _ (List.mem_map.mpr ⟨y, hy, rfl⟩)
    have := of_decide_eq_true this
    injection this
  · intro h b hb
    obtain ⟨y, hy, rfl⟩ := List.mem_map.mp hb
    exact decide_eq_true (by rw [h y hy])
def goAll (ties : List SS) (kd : Kd) (xs : List Str) (i : Nat) : List Bool := (List.range i).map fun k => goB ties kd (xs.getD k "") (xs.take k)
end Gm

/-! Greatest rows, least covers. -/
namespace Hm
open PySem PySem.Spec L2 Wd Wm Km Bm Gm PyProof.Rows
theorem isK_congr {ties : List SS} {kd : Kd} {xs ys : List Str} (h : ∀ x, x ∈ xs ↔ x ∈ ys) : isK ties kd xs ↔ isK ties kd ys := by
  cases kd with
  | T => exact ⟨fun q a ha b hb => q a ((h a).mpr ha) b ((h b).mpr hb), fun q a ha b hb => q a ((h a).mp ha) b ((h b).mp hb)⟩
  | A => exact ⟨fun q a ha b hb => q a ((h a).mpr ha) b ((h b).mpr hb), fun q a ha b hb => q a ((h a).mp ha) b ((h b).mp hb)⟩
  | C => exact ⟨fun q p hp => (q p hp).imp (h _).mp (h _).mp, fun q p hp => (q p hp).imp (h _).mpr (h _).mpr⟩
def less (xs : List Str) (x : Str) : List Str := xs.filter fun y => !decide (y = x)
/-- whether a kind's rows shrink -/
def shr : Kd → Bool
  | .C => true
  | _ => false
/-- the row with one place other -/
def other (kd : Kd) (xs : List Str) (x : Str) : List Str := match kd with
  | .C => less xs x
  | _ => x :: xs
/-- greatest (of covers least) -/
def isM (names : List Str) (ties : List SS) (kd : Kd) (xs : List Str) : Prop := isK ties kd xs ∧ ∀ x ∈ names, decide (x ∈ xs) = shr kd → ¬ isK ties kd (other kd xs x)
open Classical in
noncomputable def mB (names : List Str) (ties : List SS) (kd : Kd) (xs : List Str) : Bool := decide (isM names ties kd xs)
theorem mB_iff {names : List Str} {ties : List SS} {kd : Kd} {xs : List Str} : mB names ties kd xs = true ↔ isM names ties kd xs := by unfold mB; simp
/-! ### as the program asks -/
theorem go_more {names : List Str} {ties : List SS} {kd : Kd} {xs : List Str} {x : Str} (h : WebOk names ties) (hk : kd ≠ .C) (hx : x ∉ xs) (q : isK ties kd xs) : goB ties kd x xs = true ↔ isK ties kd (x :: xs) := by
  rw [goB_iff]
  cases kd with
  | C => exact absurd rfl hk
  | T =>
    constructor
    · intro g a ha b hb ne
      rcases List.mem_cons.mp ha with rfl | ha' <;> rcases List.mem_cons.mp hb with rfl | hb'
      · exact absurd rfl ne
      · exact of_decide_eq_true (g b hb')
      · exact Tie.symm (of_decide_eq_true (g a ha'))
      · exact q a ha' b hb' ne
    · intro g y hy
      exact decide_eq_true (g x (List.mem_cons_self ..) y (List.mem_cons_of_mem _ hy) fun e => hx (e ▸ hy))
  | A =>
    constructor
    · intro g a ha b hb
      rcases List.mem_cons.mp ha with rfl | ha' <;> rcases List.mem_cons.mp hb with rfl | hb'
      · exact tie_irr h _
      · exact of_decide_eq_false (g b hb')
      · exact fun t => of_decide_eq_false (g a ha') t.symm
      · exact q a ha' b hb'
    · intro g y hy
      exact decide_eq_false (g x (List.mem_cons_self ..) y (List.mem_cons_of_mem _ hy))
theorem not_of {names : List Str} {ties : List SS} {kd : Kd} {xs : List Str} (q : isB ties kd xs = false) : mB names ties kd xs = false := by
  refine Bool.eq_false_iff.mpr fun z => ?_
  rw [isB_iff.mpr (mB_iff.mp z).1] at q
  cases q
end Hm

/-! reversed(tuple). -/
namespace RT
open PySem PySem.Spec PyProof.Rows
theorem owner_rev : Manifest.owners.lookup (String.ofList ['d', 'e', 's', 'r', 'e', 'v', 'e', 'r'].reverse) = some Manifest.sig_reversed := by kernel_rfl
theorem slot_next : Slot "reversed" "__next__" "reversed.__next__" :=
  .of (owner := "reversed") (n := "__next__") (by rw [typeLookup_type, builtinLookup_eq_fast]; kernel_rfl) (by decide +kernel) (by decide +kernel) (by decide +kernel)
    (by first | exact .inl (by decide +kernel) | exact .inr (by decide +kernel)) (by rw [isSubtype_type]; kernel_rfl)
theorem entry_next : entryFor table "reversed.__next__" = some Builtin.«reversed.__next__» := entryFor_of_tree (by kernel_rfl)
theorem args_next (a : Value) : argsOk "reversed.__next__" ⟨[a], []⟩ := by
  unfold argsOk; rw [signature?_of (id := "reversed.__next__") (n := ['_', '_', 't', 'x', 'e', 'n', '_', '_']) (o := ['d', 'e', 's', 'r', 'e', 'v', 'e', 'r']) (by kernel_rfl) owner_rev]; kernel_rfl
def IsRv (h : Heap) (a t : Addr) (i : Int) : Prop := ∃ o, h.get? a = some o ∧ o.cls = .type "reversed" ∧ o.data = .fields #[.ref t, rawInt i]
section
variable {prog : Program} {w : World} {A : Around} {E : Value → Shared → Prop} {s : Shared}
theorem IsRv.typeIs {a t : Addr} {i : Int} (x : IsRv s.heap a t i) : s.TypeIs (.ref a) "reversed" := let ⟨o, ho, hc, _⟩ := x; ⟨o, ho, hc⟩
theorem IsRv.at {h h' : Heap} {a t : Addr} {i : Int} (x : IsRv h a t i) (e : ∀ o, h.get? a = some o → h'.get? a = some o) : IsRv h' a t i := let ⟨o, ho, r⟩ := x; ⟨o, e _ ho, r⟩
theorem next_item {it t : Addr} {i : Nat} {items : Array Value} {x : Value} {Q : Option Value → Shared → Prop} (hit : IsRv s.heap it t (i : Int)) (ht : IsTup s.heap t items) (hx : items[i]? = some x) (hz : items.size ≤ sizeLine)
    (hQ : ∀ h' tk, IsRv h' it t ((i : Int) - 1) → Heap.SameBut it s.heap h' → Q (some x) { s with heap := h', toks := tk }) : wpAny (model prog w) A (pyNext (.ref it)) Q E s := by
  obtain ⟨o, ho, hc, hd⟩ := id hit
  have hi : i < items.size := (Array.getElem?_eq_some_iff.mp hx).1
  unfold pyNext
  refine wpAny_bind (wpAny_attempt (wpAny_callSpecial?_slot (name := Str.ofString "__next__") hit.typeIs slot_next
    (wpAny_call_entry slot_next hit.typeIs entry_next ?_ (args_next _))))
  unfold Builtin.«reversed.__next__»
  refine wpAny_bind (wpAny_of_eq (a := (Value.ref it, [])) rfl ?_)
  try dsimp only
  refine wpAny_bind (wpAny_field ho hd (x := .ref t) rfl ?_)
  refine wpAny_bind (wpAny_field ho hd (x := rawInt (i : Int)) rfl ?_)
  show wpAny _ _ (if (i : Int) < 0 then _ else _) _ _ s
  rw [if_neg (by omega)]
  refine wpAny_bind (wpAny_specialOf ht.typeIs PyProof.Rows.slot_tuple_getitem.lookup ?_)
  try dsimp only
  rw [if_neg (by simp)]
  refine wpAny_bind (wpAny_mkInt ?_)
  refine wpAny_bind (wpAny_attempt (getItem_tuple ht (by omega) (by rw [sizeLine_eq] at hz; omega) (j := i) (seqIndex_of (by omega) (by omega)) hx ?_))
  refine wpAny_bind (wpAny_field ho hd (x := rawInt (i : Int)) rfl ?_)
  show wpAny _ _ (setField (.ref it) 1 (rawInt ((i : Int) - 1)) >>= _) _ _ _
  refine wpAny_bind (wpAny_setField ho hd (by simp) ?_)
  refine wpAny_pure ⟨x, rfl, wpAny_pure (hQ _ _ ?_ (Heap.SameBut.update ..))⟩
  exact ⟨_, Heap.get?_update_self _ ho (Obj.isFreed_of_fields (Obj.data_mapFields hd _)), (Obj.cls_mapFields ..).trans hc, by
    rw [Obj.data_mapFields hd]; simp⟩
theorem next_end {it t : Addr} {Q : Option Value → Shared → Prop} (hh : A.handled = none) (hit : IsRv s.heap it t (-1))
    (hQ : ∀ h', Heap.ExtBut it s.heap h' → Q none { s with heap := h' }) : wpAny (model prog w) A (pyNext (.ref it)) Q E s := by
  obtain ⟨o, ho, hc, hd⟩ := id hit
  unfold pyNext
  refine wpAny_bind (wpAny_attempt (wpAny_callSpecial?_slot (name := Str.ofString "__next__") hit.typeIs slot_next
    (wpAny_call_entry slot_next hit.typeIs entry_next ?_ (args_next _))))
  unfold Builtin.«reversed.__next__»
  refine wpAny_bind (wpAny_of_eq (a := (Value.ref it, [])) rfl ?_)
  try dsimp only
  refine wpAny_bind (wpAny_field ho hd (x := .ref t) rfl ?_)
  refine wpAny_bind (wpAny_field ho hd (x := rawInt (-1)) rfl ?_)
  show wpAny _ _ (if (-1 : Int) < 0 then _ else _) _ _ s
  rw [if_pos (by decide)]
  refine wpAny_bind (wpAny_rule ?_)
  refine wpAny_bind (wpAny_bind (wpAny_setField ho hd (by simp) ?_))
  have ho1 := Heap.get?_update_self (Obj.mapFields (fun x => x.set! 1 (rawInt (-1)))) ho (Obj.isFreed_of_fields (Obj.data_mapFields hd _))
  refine wpAny_setField (Heap.get?_update_self _ ho (Obj.isFreed_of_fields (Obj.data_mapFields hd _))) (Obj.data_mapFields hd _) (by simp) ?_
  refine wpAny_bind ?_
  unfold Builtin.SmallTypes.stopIteration
  show wpAny _ _ (newExc (.type "StopIteration") [] >>= _) _ _ _
  refine wpAny_bind ?_
  simp only [newExc, newTuple]
  refine wpAny_bind (wpAny_newObj_type ?_ (by size_fits))
  refine wpAny_bind (m := firstArgMember _ _) (wpAny_of_eq (a := Value.none) (by first | rfl | (simp only [firstArgMember]; rfl)) ?_)
  refine wpAny_newObj_type ?_ (by size_fits)
  simp only [raiseNew]
  refine wpAny_bind (wpAny_handled ?_)
  first | rw [show A.in1.handled = none from hh] | rw [hh]
  refine wpAny_bind (wpAny_pure (wpAny_throw ?_))
  refine wpAny_bind (wpAny_isInstance (T := "StopIteration") (b := true) ⟨_, Heap.get?_push_size _ rfl, rfl⟩ isSubtype_stop ?_)
  refine wpAny_pure (hQ _ ?_)
  intro b o' hb e
  exact Heap.get?_push_of_some _ (Heap.get?_push_of_some _ ((Heap.SameBut.update ..).extBut b o' hb ((Heap.SameBut.update ..).extBut b o' hb e)))
end
end RT
namespace L2
open PySem PySem.Spec PyProof.Rows RT
/-- the tuple at a, from its end -/
def Itw (K : PySem.W.Frag) (a : Addr) (n : Nat) : It :=
  ⟨fun i H => i < n ∧ ∃ (xs : List V) (x : V), SqT K H a xs ∧ xs[n - 1 - i]? = some x, fun i H x H' => H' = H ∧ ∀ xs, SqT K H a xs → xs[n - 1 - i]? = some x, fun i _ => n ≤ i⟩
def iRevT (K : PySem.W.Frag) (ta : TA) : TI := fun σ H R => ta σ H fun vs H1 => ∃ (a : Addr) (xs : List V), vs = [.ref a] ∧ SqT K H1 a xs ∧ R (Itw K a xs.length) H1
section
variable {X : Cx} {tg e : Expr} {tas : TA} {p pos : Pos}
end
end L2

/-! sorted(tuple of texts). -/
namespace L2
open PySem PySem.Spec PyProof.Rows
section
variable {X : Cx}
def rSortedT (K : PySem.W.Frag) : List V → Hp → VK → Prop := fun vs H Q => ∃ (a : Addr) (xs : List Str), vs = [V.ref a] ∧ SqT K H a (xs.map V.str) ∧ xs.length < 64 ∧
  ∀ (ys : List Str) (p : Addr), ys.Perm xs → sortedS ys = true → H p = none → Q (.ref p) (upd H p (.lst (ys.map V.str)))
end
end L2

/-! what fills a row; kinds in the web turned over, and of the others. -/
namespace Fm
open PySem L2 Wd Wm Km Bm Gm Hm PyProof.Rows
/-! ### filling -/
def stF (ties : List SS) (kd : Kd) (held : List Str) (x : Str) : List Str := if (!decide (x ∈ held) && goB ties kd x held) = true then held ++ [x] else held
def fillL (ties : List SS) (kd : Kd) (ns held : List Str) : List Str := ns.foldl (stF ties kd) held
structure Hd (names : List Str) (ties : List SS) (kd : Kd) (row held : List Str) : Prop where
  nd : held.Nodup
  sub : ∀ x ∈ held, x ∈ names
  k : isK ties kd held
  sup : ∀ x ∈ row, x ∈ held
theorem snoc_iff {x y : Str} {held : List Str} : y ∈ x :: held ↔ y ∈ held ++ [x] := by simp [or_comm]
theorem Hd.step {names : List Str} {ties : List SS} {kd : Kd} {row held : List Str} {x : Str} (w : WebOk names ties) (hk : kd ≠ .C) (h : Hd names ties kd row held) (hx : x ∈ names) : Hd names ties kd row (stF ties kd held x) := by
  unfold stF
  by_cases c : (!decide (x ∈ held) && goB ties kd x held) = true
  · rw [if_pos c]
    rw [Bool.and_eq_true] at c
    have nx : x ∉ held := by simpa using c.1
    refine ⟨?_, fun y hy => ?_, (isK_congr fun y => snoc_iff).mp ((go_more w hk nx h.k).mp c.2), fun y hy => List.mem_append_left _ (h.sup y hy)⟩
    · refine List.nodup_append.mpr ⟨h.nd, List.nodup_cons.mpr ⟨List.not_mem_nil, List.nodup_nil⟩, fun a ha b hb e => ?_⟩
      rw [List.mem_singleton.mp hb] at e
      exact nx (e ▸ ha)
    · rcases List.mem_append.mp hy with hy | hy
      · exact h.sub y hy
      · rw [List.mem_singleton.mp hy]; exact hx
  · rw [if_neg c]
    exact h
theorem Hd.fill {names : List Str} {ties : List SS} {kd : Kd} {row : List Str} (w : WebOk names ties) (hk : kd ≠ .C) : ∀ {ns held : List Str}, (∀ x ∈ ns, x ∈ names) → Hd names ties kd row held → Hd names ties kd row (fillL ties kd ns held)
  | [], held, _, h => h
  | x :: ns, held, hn, h => Hd.fill w hk (ns := ns) (held := stF ties kd held x) (fun y hy => hn y (List.mem_cons_of_mem _ hy)) (h.step w hk (hn x (List.mem_cons_self ..)))
theorem Hd.start {names : List Str} {ties : List SS} {kd : Kd} {row : List Str} (w : WebOk names ties) (s : row.Sublist names) (k : isK ties kd row) : Hd names ties kd row row := ⟨(ndp w).sublist s, fun x hx => s.subset hx, k, fun x hx => hx⟩
theorem Hd.len {names : List Str} {ties : List SS} {kd : Kd} {row held : List Str} (h : Hd names ties kd row held) : held.length ≤ names.length := nodup_le h.nd h.sub
/-! ### turned over -/
/-! ### the others -/
/-! ### fewer, alone -/
theorem shr_no {kd : Kd} (hk : kd ≠ .C) : shr kd = false := by
  cases kd with
  | C => exact absurd rfl hk
  | T => rfl
  | A => rfl
theorem alone {names : List Str} {ties : List SS} {kd : Kd} (hk : kd ≠ .C) {row : List Str} (k : isK ties kd row) : mB (kN names row) (kT ties row) kd row = true := by
  refine mB_iff.mpr ⟨?_, fun x hx c => ?_⟩
  · cases kd with
    | C => exact absurd rfl hk
    | T =>
      intro a ha b hb e
      rcases k a ha b hb e with t | t
      · exact .inl (mem_kT.mpr ⟨t, ha, hb⟩)
      · exact .inr (mem_kT.mpr ⟨t, hb, ha⟩)
    | A =>
      intro a ha b hb t
      rcases t with t | t
      · exact k a ha b hb (.inl (mem_kT.mp t).1)
      · exact k a ha b hb (.inr (mem_kT.mp t).1)
  · rw [shr_no hk] at c
    exact absurd (mem_kN.mp hx).2 (of_decide_eq_false c)
/-! ### taking out -/
noncomputable def stC (ties : List SS) (row : List Str) (x : Str) : List Str := if isB ties .C (less row x) = true then less row x else row
noncomputable def thinL (ties : List SS) (ns row : List Str) : List Str := ns.foldl (stC ties) row
/-- what comes of filling -/
noncomputable def filL (names : List Str) (ties : List SS) (kd : Kd) (row : List Str) : List Str := match kd with
  | .C => thinL ties names.reverse row
  | _ => kN names (fillL ties kd names row)
end Fm

/-! t < u, t > u of tuples of texts; t[a:b], the whole, too. -/
namespace LS
open PySem PySem.Spec PyProof.Rows
/-- the order of tuples of texts -/
def lexS : List Str → List Str → Bool
  | [], [] => false
  | [], _ :: _ => true
  | _ :: _, [] => false
  | x :: xs, y :: ys => if x = y then lexS xs ys else decide (x.cps.toList < y.cps.toList)
section
open PySem.SeqAt
open PySem.AutoSeq1 (wpAny_loadPart')
open PySem.MeetsSeq PySem.MeetsSeq2 PySem.MeetsSeq3
end
section
variable {prog : Program} {w : World} {A : Around} {E : Value → Shared → Prop} {s : Shared}
open HT in
end
end LS
namespace L2
open PySem PySem.Spec PyProof.Rows
section
variable {X : Cx}
def rLtS (K : PySem.W.Frag) : R2 := fun x y H Q => ∃ a b xs ys, x = .ref a ∧ y = .ref b ∧ SqT K H a (xs.map V.str) ∧ SqT K H b (ys.map V.str) ∧ Q (.bl (LS.lexS xs ys)) H
def rGtS (K : PySem.W.Frag) : R2 := fun x y H Q => ∃ a b xs ys, x = .ref a ∧ y = .ref b ∧ SqT K H a (xs.map V.str) ∧ SqT K H b (ys.map V.str) ∧ Q (.bl (LS.lexS ys xs)) H
/-- t[a:b], the whole, too -/
def rSlA (K : PySem.W.Frag) : V → Option Int → Option Int → Hp → VK → Prop := fun x lo hi H Q => ∃ a xs, x = .ref a ∧ SqT K H a xs ∧ ∀ r H', Same H H' → SqT K H' r (cutV xs lo hi) → Q (.ref r) H'
end
end L2

/-! dict(zip(t, u)) of two tuples. -/
namespace ZT
open PySem PySem.Spec PyProof.Rows
open PySem.Builtin.SmallTypes
/-- a zip whose last tuple is still about -/
abbrev IsZ2 (h : Heap) (z U O q : Addr) (bb : Bool) : Prop := h.get? z = some ⟨.type "zip", none, .fields #[rawInt q, .bool bb, .bool false, .ref U, .ref O], #[]⟩
section
variable {prog : Program} {w : World} {A : Around} {E : Value → Shared → Prop} {s : Shared}
/-- the zip at any turn; its last tuple is not at S -/
def ZS (h : Heap) (z U O S : Addr) : Prop := IsZip h z U O .none ∨ ∃ (q : Addr) (bb : Bool) (x y : Value), IsZ2 h z U O q bb ∧ IsPair h q x y ∧ q ≠ S
theorem ZS.ne {h : Heap} {z U O q : Addr} {bb : Bool} {x y : Value} (hz : IsZ2 h z U O q bb) (hq : IsPair h q x y) : q ≠ z := fun e => by
  subst e
  have := hz.symm.trans hq
  simp at this
end
end ZT
namespace L2
open PySem PySem.Spec PyProof.Rows ZT
section
variable {prog : Program} {w : World} {A : Around} {E : Value → Shared → Prop}
end
def dzK (xs : List Str) (ys : List V) : List (Key × V) := (xs.map Sum.inr).zip ys
section
variable {X : Cx} {e e2 : Expr} {p p2 pos pos2 : Pos} {tas : TA}
/-- dict(zip(t, u)), t texts, each once -/
def tDzip (K : PySem.W.Frag) (ta : TA) : TE := fun σ H Q => ta σ H fun vs H1 => ∃ (a b : Addr) (xs : List Str) (ys : List V), vs = [.ref a, .ref b] ∧ SqT K H1 a (xs.map V.str) ∧ SqT K H1 b ys ∧ xs.length = ys.length ∧ xs.Nodup ∧ ∀ l, H1 l = none → Q (.ref l) (upd H1 l (.dK (dzK xs ys)))
end
end L2

/-! a, b = a list; d[k]. -/
namespace L2
open PySem PySem.W PySem.Spec PyProof.Rows
section
variable {prog : Program} {w : World} {A : Around} {E : Value → Shared → Prop} {s : Shared}
end
/-- (a, b, ..) = a list of that length -/
def gTupL (K : PySem.W.Frag) (n : Nat) (t : TGs) : TG := fun v σ H Q => ∃ a xs, v = .ref a ∧ SqL K H a xs ∧ xs.length = n ∧ t xs σ H Q
section
variable {X : Cx} {es : List Expr} {pos p : Pos}
variable {o i : Expr} {td ty : TE}
end
end L2

/-! a filled row is greatest, least in the order of tuples; by other names. -/
namespace Fn
open PySem L2 Wd Wm Km Bm Gm Hm Fm LS
/-! ### what filling does -/
/-! ### the first one -/
/-! ### by other names -/
structure Ren (ρ : Str → Str) (names : List Str) : Prop where
  mono : ∀ x ∈ names, ∀ y ∈ names, sLt x y → sLt (ρ x) (ρ y)
theorem Ren.inj {ρ : Str → Str} {names : List Str} (h : Ren ρ names) {x y : Str} (hx : x ∈ names) (hy : y ∈ names) (e : ρ x = ρ y) : x = y := by
  refine sLt_tot (fun k => ?_) fun k => ?_
  · have := h.mono x hx y hy k
    rw [e] at this
    exact sLt_irr _ this
  · have := h.mono y hy x hx k
    rw [e] at this
    exact sLt_irr _ this
theorem Ren.mem {ρ : Str → Str} {names : List Str} (h : Ren ρ names) {x : Str} {xs : List Str} (hx : x ∈ names) (sub : ∀ y ∈ xs, y ∈ names) : ρ x ∈ xs.map ρ ↔ x ∈ xs := by
  constructor
  · intro k
    obtain ⟨y, hy, e⟩ := List.mem_map.mp k
    rw [← h.inj (sub y hy) hx e]
    exact hy
  · exact fun k => List.mem_map.mpr ⟨x, k, rfl⟩
def renT (ρ : Str → Str) (ties : List SS) : List SS := ties.map fun p => (ρ p.1, ρ p.2)
/-- the name in the place of a name -/
def renOf (names ms : List Str) (x : Str) : Str := ((names.zip ms).find? fun p => decide (p.1 = x)).elim "" (·.2)
end Fn

/-! an own exception leaves a def; it is met by the caller. -/
namespace Xc
open PySem PySem.Spec PyProof.Rows
abbrev frs (l : List Env) : List Addr := l.filterMap (·.frame)
/-- what an exception's way through the frames fs changes: the record at e, the frames' slots, the records at ts -/
structure Way (fs : List Addr) (e : Addr) (ts : List Addr) (h h' : Heap) : Prop where
  keep : ∀ b o, b ≠ e → b ∉ fs → b ∉ ts → h.get? b = some o → h'.get? b = some o
  slot : ∀ b o, b ∈ fs → b ≠ e → b ∉ ts → h.get? b = some o → ∃ sl, h'.get? b = some { o with slots := sl }
/-- the record of a traceback that is not in flight -/
def Tb (h : Heap) (T : Addr) : Prop := ∃ o ts, h.get? T = some o ∧ o.data = .fields ts ∧ ts[3]? = some .none
abbrev exO (C : Addr) (vs : Array Value) (dd : Option Addr) : Obj := { cls := .ref C, dict := dd, data := .fields vs }
section
variable {M : Model} {A : Around} {E : Value → Shared → Prop} {s : Shared}
/-- a new entry, then not in flight -/
theorem entry {base : Heap} {env : Env} {outer : List Env} {L e C : Addr} {dd : Option Addr} {vs : Array Value} {head : Value} {hn : Bool} {Q : Unit → Shared → Prop}
    (hfr : A.frames = some (env :: outer)) (hl : s.heap.FunFrames base (env :: outer)) (hf : env.frame = some L) (he : s.heap.get? e = some (exO C vs dd)) (hz : 1 < vs.size)
    (h : ∀ h' T, Way (frs (env :: outer)) e [] s.heap h' → s.heap.get? T = none → h'.get? e = some (exO C (vs.setIfInBounds 1 (.ref T)) dd) → Tb h' T → T ≠ e → Q () { s with heap := h' }) :
    wpAny M A (do let a ← frameOf env; let pl ← entryPlaceOf L hn; let b ← EntryCells.newEntry head a .none (rawInt L) .none pl; setField (.ref e) 1 b) (fun _ s' => wpAny M A (setFlight (.ref e) none) Q E s') E s := by
  have hene : e ∉ frs (env :: outer) := fun hm => by
    obtain ⟨_, o, ho, hnf⟩ := hl.mem hm
    rw [he] at ho; injection ho with ho; subst ho; exact hnf vs rfl
  refine wpAny_bind (wpAny_frameOf_fun hfr hl hf fun h₁ hs₁ => ?_)
  refine wpAny_bind (wpAny_entryPlaceOf fun pl hpl => ?_)
  unfold EntryCells.newEntry newFields
  refine wpAny_bind (wpAny_newObj_type ?_ (hpl.sizeOk5 _ _ _ _ _))
  have he₁ : h₁.get? e = some (exO C vs dd) := (hs₁.2.1 e hene).trans he
  generalize hob : ({ cls := .type "traceback", dict := none, data := .fields ([head, .ref L, .none, rawInt L, .none] ++ (if pl.isEmpty then List.replicate 6 Value.none else pl)).toArray } : Obj) = ob
  have he₂ := Heap.get?_push_of_some (h := h₁) ob he₁
  have hT₂ : (h₁.push ob).get? h₁.objs.size = some ob := Heap.get?_push_size h₁ (by rw [← hob]; rfl)
  refine wpAny_setField he₂ rfl hz ?_
  have hTe : h₁.objs.size ≠ e := Nat.ne_of_gt (Heap.lt_size he₁)
  have he₃ : ((h₁.push ob).update e (Obj.mapFields (·.setIfInBounds 1 (Value.ref h₁.objs.size)))).get? e = some (exO C (vs.setIfInBounds 1 (.ref h₁.objs.size)) dd) := Heap.get?_update_self _ he₂ rfl
  have hT₃ : ((h₁.push ob).update e (Obj.mapFields (·.setIfInBounds 1 (Value.ref h₁.objs.size)))).get? h₁.objs.size = some ob := (Heap.get?_update_other _ _ (Ne.symm hTe)).trans hT₂
  have hdT : ob.data = .fields ([head, .ref L, .none, rawInt L, .none] ++ (if pl.isEmpty then List.replicate 6 Value.none else pl)).toArray := by rw [← hob]
  unfold setFlight
  refine wpAny_bind (wpAny_field he₃ rfl (x := .ref h₁.objs.size) (by simp [hz]) ?_)
  rw [if_pos (show (Value.ref h₁.objs.size != Value.none) = true from by simp)]
  have h3s : 3 < ([head, .ref L, .none, rawInt L, .none] ++ (if pl.isEmpty then List.replicate 6 Value.none else pl)).toArray.size := by simp only [List.size_toArray, List.length_append, List.length_cons, List.length_nil] <;> omega
  refine wpAny_setField hT₃ hdT h3s (h _ h₁.objs.size ?_ ?_ ?_ ?_ hTe)
  · have keep : ∀ b o, b ≠ e → h₁.get? b = some o → (((h₁.push ob).update e (Obj.mapFields (·.setIfInBounds 1 (Value.ref h₁.objs.size)))).update h₁.objs.size (Obj.mapFields (·.setIfInBounds 3 ((none : Option Addr).elim Value.none fun f => rawInt f)))).get? b = some o := fun b o hbe hb => by
      have hbT : h₁.objs.size ≠ b := Nat.ne_of_gt (Heap.lt_size hb)
      rw [Heap.get?_update_other _ _ hbT, Heap.get?_update_other _ _ (Ne.symm hbe)]
      exact Heap.get?_push_of_some _ hb
    refine ⟨fun b o hbe hbf _ hb => keep b o hbe ((hs₁.2.1 b hbf).trans hb), fun b o _ hbe _ hb => ?_⟩
    obtain ⟨sl, hs⟩ := hs₁.2.2 b o hb
    exact ⟨sl, keep b _ hbe hs⟩
  · exact Heap.get?_none_of_le (by rw [hs₁.1]; exact Nat.le_refl _)
  · rw [Heap.get?_update_other _ _ hTe]
    exact he₃
  · refine ⟨_, _, Heap.get?_update_self _ hT₃ (Obj.isFreed_of_fields (Obj.data_mapFields hdT _)), Obj.data_mapFields hdT _, ?_⟩
    rw [Array.getElem?_setIfInBounds]
    simp [h3s]
/-- leaving the def in which it was raised -/
theorem leave_first {base : Heap} {env : Env} {outer : List Env} {L e C : Addr} {dd : Option Addr} {vs : Array Value} {Q : Unit → Shared → Prop}
    (hfr : A.frames = some (env :: outer)) (hl : s.heap.FunFrames base (env :: outer)) (hf : env.frame = some L) (he : s.heap.get? e = some (exO C vs dd)) (h1 : vs[1]? = some .none)
    (h : ∀ h' T, Way (frs (env :: outer)) e [] s.heap h' → s.heap.get? T = none → h'.get? e = some (exO C (vs.setIfInBounds 1 (.ref T)) dd) → Tb h' T → T ≠ e → Q () { s with heap := h' }) : wpAny M A (leaving env (.ref e)) Q E s := by
  unfold leaving noteFrame
  simp only [hf]
  refine wpAny_bind (wpAny_bind (wpAny_field he rfl h1 ?_))
  rw [if_neg (by decide)]
  exact entry hfr hl hf he (Array.getElem?_eq_some_iff.mp h1).1 h
/-- it is met in a further frame -/
theorem note_next {base : Heap} {env : Env} {outer : List Env} {L e C T : Addr} {dd : Option Addr} {vs : Array Value} {Q : Unit → Shared → Prop}
    (hfr : A.frames = some (env :: outer)) (hl : s.heap.FunFrames base (env :: outer)) (hf : env.frame = some L) (he : s.heap.get? e = some (exO C vs dd)) (h1 : vs[1]? = some (.ref T)) (hT : Tb s.heap T) (hTe : T ≠ e)
    (h : ∀ h' T2, Way (frs (env :: outer)) e [T] s.heap h' → s.heap.get? T2 = none → h'.get? e = some (exO C (vs.setIfInBounds 1 (.ref T2)) dd) → Tb h' T2 → T2 ≠ e → Q () { s with heap := h' }) :
    wpAny M A (noteFrame (.ref e) env) (fun _ s' => wpAny M A (setFlight (.ref e) none) Q E s') E s := by
  obtain ⟨oT, ts, hT, hdT, h3⟩ := hT
  have hTf : T ∉ frs (env :: outer) := fun hm => by
    obtain ⟨_, o, ho, hnf⟩ := hl.mem hm
    rw [hT] at ho; injection ho with ho; subst ho; exact hnf ts hdT
  unfold noteFrame
  simp only [hf]
  refine wpAny_bind (wpAny_field he rfl h1 ?_)
  rw [if_pos (show (Value.ref T != Value.none) = true from by simp)]
  refine wpAny_bind (wpAny_field hT hdT h3 ?_)
  rw [if_neg (show ¬ ((Value.none == rawInt L) = true) from by simp [rawInt])]
  refine wpAny_bind (wpAny_setField hT hdT (Array.getElem?_eq_some_iff.mp h3).1 ?_)
  have other : ∀ b, b ≠ T → (s.heap.update T (Obj.mapFields (·.setIfInBounds 3 Value.none))).get? b = s.heap.get? b := fun b hb => Heap.get?_update_other _ _ (Ne.symm hb)
  have noRec : ∀ b o, s.heap.get? b = some o → (∀ vs, o.data ≠ .fields vs) → b ≠ T := fun b o hb hnf q => by
    rw [q, hT] at hb; injection hb with hb; subst hb; exact hnf ts hdT
  refine entry (s := { s with heap := s.heap.update T (Obj.mapFields (·.setIfInBounds 3 Value.none)) }) hfr (hl.of_keeps fun b o hb hnf => ⟨o, (other b (noRec b o hb hnf)).trans hb, rfl⟩) hf ((other e (Ne.symm hTe)).trans he) (Array.getElem?_eq_some_iff.mp h1).1 fun h' T2 W n2 e2 t2 ne2 => ?_
  refine h h' T2 ⟨fun b o b1 b2 b3 hb => W.keep b o b1 b2 (by simp) ((other b (by simpa using b3)).trans hb), fun b o b1 b2 b3 hb => W.slot b o b1 b2 (by simp) ((other b (by simpa using b3)).trans hb)⟩ ?_ e2 t2 ne2
  cases q : s.heap.get? T2 with
  | none => rfl
  | some o =>
    by_cases z : T2 = T
    · subst z
      have := Heap.get?_update_self (Obj.mapFields (·.setIfInBounds 3 Value.none)) hT (Obj.isFreed_of_fields (Obj.data_mapFields hdT _))
      rw [show (s.heap.update T2 (Obj.mapFields (·.setIfInBounds 3 Value.none))).get? T2 = none from n2] at this
      cases this
    · have := (other T2 z).trans q
      rw [show (s.heap.update T (Obj.mapFields (·.setIfInBounds 3 Value.none))).get? T2 = none from n2] at this
      cases this
theorem flight_again {e C T : Addr} {dd : Option Addr} {vs : Array Value} {Q : Unit → Shared → Prop} (he : s.heap.get? e = some (exO C vs dd)) (h1 : vs[1]? = some (.ref T)) (hT : Tb s.heap T) (hTe : T ≠ e)
    (h : ∀ h', (∀ b o, b ≠ T → s.heap.get? b = some o → h'.get? b = some o) → Q () { s with heap := h' }) : wpAny M A (setFlight (.ref e) none) Q E s := by
  obtain ⟨oT, ts, hT, hdT, h3⟩ := hT
  exact wpAny_setFlight_none he rfl h1 hT hdT (Array.getElem?_eq_some_iff.mp h3).1 (h _ fun b o hb e => (Heap.get?_update_other _ _ (Ne.symm hb)).trans e)
end
/-! ### classes -/
/-- an own class of exceptions in the fragment: its bases' row -/
def ExC (K : PySem.W.Frag) (C : Addr) (bm : List Value) : Prop := ∃ nm q N bs hdct sn sub ab col dd k0 k1 k2 k3 k5 newId, K.lookup C = some (excClassObj nm q C N bs bm hdct sn sub ab col dd k0 k1 k2 k3 k5 newId)
section
variable {M : Model} {A : Around} {E : Value → Shared → Prop} {s : Shared} {K : PySem.W.Frag}
theorem matches_own {e C S : Addr} {de : Option Addr} {vs : Array Value} {bm bmS : List Value} {Q : Bool → Shared → Prop} (X : K.In s.heap) (hC : ExC K C bm) (hS : ExC K S bmS) (he : s.heap.get? e = some (exO C vs de)) (hbS : bmS.contains (.type "BaseException") = true) (hm : bm.contains (.ref S) = true) (hq : Q true s) :
    wpAny M A (excMatches (.ref e) (.ref S)) Q E s := by
  obtain ⟨h, g, d, t, os⟩ := s
  obtain ⟨nm, q, N, bs, hdct, sn, sub, ab, col, dd, k0, k1, k2, k3, k5, newId, hC⟩ := hC
  obtain ⟨nm', q', N', bs', hdct', sn', sub', ab', col', dd', j0, j1, j2, j3, j5, newId', hS⟩ := hS
  have hC' := X _ _ hC
  have hS' := X _ _ hS
  have hcB : (Value.ref S :: bmS).contains (.type "BaseException") = true := by rw [List.contains_cons, hbS, Bool.or_true]
  have hcC : (Value.ref C :: bm).contains (.ref S) = true := by rw [List.contains_cons, hm, Bool.or_true]
  have f := tc_notTuple
  unfold excMatches
  repeat (first | (with_reducible refine wpAny_loadPart_at he ?_) | with_reducible refine wpAny_loadPart_at hS' ?_ | (with_reducible refine wpAny_isSubtype_exc hS' ?_; rw [hcB]) | (with_reducible refine wpAny_isSubtype_exc hC' ?_; rw [hcC]) | wp_step)
  exact hq
end
end Xc

/-! raise and try of own exceptions, as rules. -/
namespace L2
open PySem PySem.Spec PyProof.Rows Xc
/-- an exception of the class at C lies at x -/
def IsEx (x C : Addr) (dd : Option Addr) : Heap → Prop := fun h => ∃ vs, h.get? x = some (exO C vs dd)
theorem ex_ok {P : Program} {w : World} {H : Hp} {h : Heap} {x C : Addr} {dd : Option Addr} (e : IsEx x C dd h) : ObjOk P w H h x (.ext (IsEx x C dd)) := by
  obtain ⟨vs, e⟩ := e
  exact ⟨⟨vs, e⟩, ⟨_, e⟩, fun h1 h2 ⟨vs, e1⟩ k => ⟨vs, k _ e1⟩⟩
/-- how an own exception lies behind a call -/
def CX1 (P : Program) (w : World) : CXT := fun outer H s E e s' => ∃ (x C T : Addr) (dd : Option Addr) (vs : Array Value) (H' : Hp), e = .ref x ∧ s'.os = s.os ∧ AllBare s'.gens ∧ Un (frs outer) [] H H' s.heap s'.heap ∧ HOk P w H' s'.heap ∧
  s.heap.get? x = none ∧ H' x = some (.ext (IsEx x C dd)) ∧ s'.heap.get? x = some (exO C vs dd) ∧ vs[1]? = some (.ref T) ∧ Tb s'.heap T ∧ T ≠ x ∧ s.heap.get? T = none ∧ H' T = none ∧ E (.ref C) (some x) H'
theorem hok_none {P : Program} {w : World} {H : Hp} {h : Heap} (k : HOk P w H h) {b : Addr} (e : h.get? b = none) : H b = none := by
  cases q : H b with
  | none => rfl
  | some o =>
    have : ∃ u, h.get? b = some u := by
      have x := k b o q
      cases o with
      | lst xs => obtain ⟨_, _, _, _, e⟩ := x; exact ⟨_, e⟩
      | tup xs => obtain ⟨_, _, _, o, e, _⟩ := x; exact ⟨_, e⟩
      | dK kvs => obtain ⟨_, _, _, _, o, _, _, e, _⟩ := x; exact ⟨_, e⟩
      | dT kvs => obtain ⟨_, _, _, _, o, _, _, e, _⟩ := x; exact ⟨_, e⟩
      | set S n => obtain ⟨o, _, _, _, e, _⟩ := x; exact ⟨_, e⟩
      | ins C dx fs => obtain ⟨_, _, _, e, _⟩ := x; exact ⟨_, e⟩
      | own y => exact x
      | xd fs => obtain ⟨_, ⟨_, _, _, e, _⟩, _⟩ := x; exact ⟨_, e⟩
      | rng lo hi => obtain ⟨_, _, _, e⟩ := x; exact ⟨_, e⟩
      | frz ob u => obtain ⟨e, _⟩ := x; exact ⟨_, e⟩
      | tbl ps => exact ⟨_, (show h.get? b = some _ from x)⟩
      | met f y => exact ⟨_, (show h.get? b = some _ from x)⟩
      | ext φ => exact x.2.1
    obtain ⟨u, e2⟩ := this
    rw [e] at e2
    cases e2
/-- tracked things stay on the way -/
theorem hok_way {P : Program} {w : World} {H : Hp} {h h' : Heap} {fs ts : List Addr} {x C : Addr} {dd : Option Addr} (k : HOk P w H h) (W : Way fs x ts h h') (ff : ∀ b ∈ fs, H b = none) (ft : ∀ b ∈ ts, H b = none) (hx : H x = some (.ext (IsEx x C dd))) (e : IsEx x C dd h') : HOk P w H h' := fun a o q => by
  by_cases z : a = x
  · subst z
    rw [hx] at q
    cases q
    exact ex_ok e
  · refine (k a o q).stay (fun b u hb eb => ?_) (fun _ q => q) fun _ _ q => q
    have tr : ∃ o, H b = some o := by
      rcases hb with rfl | hb
      · exact ⟨_, q⟩
      · exact ⟨_, hb⟩
    obtain ⟨ob, tr⟩ := tr
    refine W.keep b u ?_ (fun m => by rw [ff b m] at tr; cases tr) (fun m => by rw [ft b m] at tr; cases tr) eb
    rcases hb with rfl | hb
    · exact z
    · rintro rfl
      rw [hx] at hb
      cases hb
/-- what was there ahead stays on the way -/
theorem un_way {fs ts : List Addr} {H H' : Hp} {h h1 h2 : Heap} {x : Addr} (u : Un fs [] H H' h h1) (W : Way fs x ts h1 h2) (nx : h.get? x = none) (nt : ∀ b ∈ ts, h.get? b = none) : Un fs [] H H' h h2 where
  keep := fun b o e n hb _ => W.keep b o (fun q => by rw [q, nx] at e; cases e) hb (fun m => by rw [nt b m] at e; cases e) (u.keep b o e n hb (by simp))
  slot := fun b o e n hb _ => by
    obtain ⟨sl, e1⟩ := u.slot b o e n hb (by simp)
    obtain ⟨sl', e2⟩ := W.slot b _ hb (fun q => by rw [q, nx] at e; cases e) (fun m => by rw [nt b m] at e; cases e) e1
    exact ⟨sl', e2⟩
  free := u.free
  there := fun b o e hx => by
    obtain ⟨o', e1⟩ := u.there b o e hx
    by_cases hb : b ∈ fs
    · obtain ⟨sl', e2⟩ := W.slot b _ hb (fun q => by rw [q, nx] at e; cases e) (fun m => by rw [nt b m] at e; cases e) e1
      exact ⟨_, e2⟩
    · exact ⟨o', W.keep b _ (fun q => by rw [q, nx] at e; cases e) hb (fun m => by rw [nt b m] at e; cases e) e1⟩
  tups := u.tups
  frzs := u.frzs
  tbls := u.tbls
/-! ### raise -/
abbrev bmV : List Value := [.type "ValueError", .type "Exception", .type "BaseException", .type "object"]
/-- an own class of exceptions without an __init__ -/
def RaiseC (K : PySem.W.Frag) (C : Addr) : Prop := ∃ nm q N bs bm hdct sn sub ab col dd k0 k1 k2 k3 k5, K.lookup C = some (excClassObj nm q C N bs bm hdct sn sub ab col dd k0 k1 k2 k3 k5 "ValueError.__new__") ∧
  PySem.W.tailIn K bmV bm = true ∧ PySem.W.nsOkIn K N = true ∧ PySem.W.nsIn K N "__init__" = some none
def tRaise (C : Addr) (E : XK) (t : TA) : TS := fun D σ H => t σ H fun vs H1 => vs.length ≤ sizeLine ∧ ∀ y, H1 y = none → E (.ref C) (some y) (upd H1 y (.ext (IsEx y C none)))
section
variable {P : Program} {w : World} {K : PySem.W.Frag} {mg : Str → Option Value} {base : Heap} {N : List Str} {qual : Str} {scope : Scope} {f : Addr} {cd : Value} {A : Around} {outer : List Env} {s0 : Shared} {H0 : Hp} {E0 : XK}
/-- THE RULE for a def that may raise -/
theorem Fun.okX {x qual : Str} {st : Stmt} {f : Addr} {fd : FuncData} {N ps : List Str} {k : Nat} {sp : Sp} (F : Fun K x qual st f fd) (S : FnScope N ps (defScope st)) (len : ∀ vs H Q E, sp vs H Q E → vs.length = ps.length)
    (hbody : ∀ (cdv : Value) (A : Around) (outer : List Env) (s : Shared) (H : Hp) (vs : List V) (Q : VK) (E : XK), Room k (A.deeper (envOfC qual (defScope st) s.heap.objs.size f cdv)) → sp vs H Q E →
      ∃ t, PSs (cxOf (CX1 P w) P w K mg base N qual (defScope st) f cdv A outer s H E) (defBody st) t ∧ t { nx := fun _ H' => Q .non H', rt := Q } (start N vs) H) : FnOk P w K mg base (CX1 P w) (k + 1) f fd ps sp := by
  obtain ⟨oc, od, kV, doc, pm, an, cdv, ct, osl, rfl, lk, hcd⟩ := F.ex
  exact fn_of lk hcd S len fun A outer s H vs Q E hr hsp => hbody cdv A outer s H vs Q E hr hsp
end
/-! ### try -/
/-- within a suite behind except -/
abbrev Cx.sup (X : Cx) (v : Value) : Cx := { X with A := X.A.mark (some v), calm := false }
section
variable {X : Cx} {pins : List (Addr × Obj)} {σ : St} {H : Hp} {s : Shared}
theorem Inv.sup (I : Inv X pins σ H s) (v : Value) : Inv (X.sup v) pins σ H s :=
  ⟨⟨I.ok.mod, I.ok.kind, I.ok.glob, I.ok.blt, I.ok.above, I.ok.inj, I.ok.has, I.ok.cab, (fun z => nomatch z), I.ok.frames, I.ok.stk, I.ok.exf, I.ok.bs, I.ok.bsz, I.ok.noex, I.ok.exfs, I.ok.funs, I.ok.frf⟩, I.os, I.bare, I.base, I.loc, I.cell, I.free, I.freeC, I.pin, I.hok, I.len⟩
theorem Inv.unsup {v : Value} (ok : X.Ok) (I : Inv (X.sup v) pins σ H s) : Inv X pins σ H s := ⟨ok, I.os, I.bare, I.base, I.loc, I.cell, I.free, I.freeC, I.pin, I.hok, I.len⟩
/-- a local name goes -/
theorem del_ok {M : Model} {A : Around} {E : Value → Shared → Prop} {i : Nat} {x : Str} {pos : Pos} {Q : Unit → Shared → Prop} (I : Inv X pins σ H s) (hN : X.N.Nodup) (hi : X.N[i]? = some x) (hk : X.env.scope.names.lookup x = some .local)
    (h : ∀ s', Inv X pins (σ.set i none) H s' → Q () s') : wpAny M A (do bindName X.env x .none; unbindBehindTheSuite X.env x pos) Q E s := by
  obtain ⟨m, hn, hl⟩ := id I.loc
  have hcls : (X.env.scope.kind == .class || (X.env.scope.kind == .module && X.env.locals != X.env.globals)) = false := by rw [I.ok.kind]; rfl
  have cne := I.cne
  refine wpAny_nameGoes_keeps hk hn hcls fun h' v hn' hs => ?_
  have lt : ∀ {b : Addr} {o : Obj}, X.s_0.heap.get? b = some o → b ≠ X.env.locals := fun e => Nat.ne_of_lt (Nat.lt_of_lt_of_le (Heap.lt_size e) I.ok.above)
  refine h _ ⟨I.ok, I.os, I.bare, ⟨fun b o e n hb hx => (hs.2 b (lt e)).trans (I.base.keep b o e n hb hx), fun b o e n hb hx => ?_, I.base.free, fun b o e hx => ?_, I.base.tups, I.base.frzs, I.base.tbls⟩, ⟨_, hn', fun j y v' e1 e2 e3 => ?_⟩, fun y c e => ?_, I.free, I.freeC, fun p hp => ?_, ?_, by simpa using I.len⟩
  · obtain ⟨sl, e1⟩ := I.base.slot b o e n hb hx
    exact ⟨sl, (hs.2 b (lt e)).trans e1⟩
  · obtain ⟨o', e1⟩ := I.base.there b o e hx
    exact ⟨o', (hs.2 b (lt e)).trans e1⟩
  · by_cases hj : j = i
    · subst hj
      rw [List.getElem?_set] at e2
      simp at e2
    · rw [List.getElem?_set_ne (Ne.symm hj)] at e2
      obtain ⟨u', r', q⟩ := hl j y v' e1 e2 e3
      refine ⟨u', r', ?_⟩
      rcases q with ⟨k, e⟩ | ⟨k, c, e, z⟩
      · refine .inl ⟨k, ?_⟩
        have : y ≠ x := fun e => hj (nodup_ix hN e1 (e ▸ hi))
        simp [this, e]
      · exact .inr ⟨k, c, e, z.sameBut hs (cne y c e)⟩
  · obtain ⟨w', z⟩ := I.cell y c e
    exact ⟨w', z.sameBut hs (cne y c e)⟩
  · obtain ⟨e, n, ne, nf, d⟩ := I.pin p hp
    exact ⟨(hs.2 p.1 ne).trans e, n, ne, nf, d⟩
  · intro b ob e
    refine (I.hok b ob e).stay (fun c w' hc q => (hs.2 c ?_).trans q) (fun _ q => q) fun _ _ q => q
    rintro rfl
    rcases hc with rfl | hc
    · rw [I.free] at e; cases e
    · rw [I.free] at hc; cases hc
def tTry (sp : Sp) (ta : TA) (n ie : Nat) (K : PySem.W.Frag) (S : Addr) (ts : TS) : TS := fun D σ H => ta σ H fun vs H1 => sp vs H1 (fun v H2 => D.nx (σ.set n (some v)) H2)
  (fun cls dx H2 => ∃ C y bm, cls = .ref C ∧ dx = some y ∧ ExC K C bm ∧ bm.contains (.ref S) = true ∧ ts { nx := fun σ' H3 => D.nx (σ'.set ie none) H3, rt := fun _ _ => False } (σ.set ie (some (.ref y))) H2)
theorem way_comp {fs ts ts' : List Addr} {e : Addr} {h h1 h2 : Heap} (a : Way fs e ts h h1) (b : Way fs e ts' h1 h2) : Way fs e (ts ++ ts') h h2 :=
  ⟨fun c o c1 c2 c3 q => b.keep c o c1 c2 (fun m => c3 (List.mem_append_right _ m)) (a.keep c o c1 c2 (fun m => c3 (List.mem_append_left _ m)) q), fun c o c1 c2 c3 q => by
    obtain ⟨sl, e1⟩ := a.slot c o c1 c2 (fun m => c3 (List.mem_append_left _ m)) q
    obtain ⟨sl', e2⟩ := b.slot c _ c1 c2 (fun m => c3 (List.mem_append_right _ m)) e1
    exact ⟨sl', e2⟩⟩
/-- the exception is met here -/
theorem meet {H1 : Hp} {s1 s' : Shared} {D : Ends} {ev : Value} {en cl : Str} {pcl ph : Pos} {b₀ : Stmt} {suite : List Stmt} {S : Addr} {bmS : List Value} {ie : Nat} {ts : TS} {E : Value → Shared → Prop}
    (hsk : X.stack = X.env :: X.outer) (hfm : X.env.frame = some X.env.locals) (nd : X.N.Nodup) (hS : ExC X.K S bmS) (hbS : bmS.contains (.type "BaseException") = true) (hgS : Gl X cl) (hmS : X.mg cl = some (.ref S)) (hdS : (cl == ("__debug__" : Str)) = false)
    (hie : X.N[ie]? = some en) (hle : X.env.scope.names.lookup en = some .local) (hts : ∀ v, SB (X.sup v) (b₀ :: suite) ts) (hno : X.xe = fun _ _ => False) (I1 : Inv X pins σ H1 s1)
    (hq : CX1 X.prog X.w X.stack H1 s1 (fun cls dx H2 => ∃ C y bm, cls = .ref C ∧ dx = some y ∧ ExC X.K C bm ∧ bm.contains (.ref S) = true ∧ ts { nx := fun σ' H3 => D.nx (σ'.set ie none) H3, rt := fun _ _ => False } (σ.set ie (some (.ref y))) H2) ev s') :
    wpAny (model X.prog X.w) X.A (noteFrame ev X.env) (fun _ s₂ => wpAny (model X.prog X.w) X.A (setFlight ev none) (fun _ s₃ => wpAny (model X.prog X.w) X.A (handleBy ev X.env [.ExceptHandler (some (.Name cl pcl)) (some en) (b₀ :: suite) ph]) (SP X pins D) E s₃) E s₂) E s' := by
  obtain ⟨y, C, T, dx0, vs, H', rfl, os, bare, un, hok, ny, hy, ey, e1, tT, neT, nT, hT', C', y', bm, eC, ey', hC, hbm, hrd⟩ := hq
  have eC' : C = C' := Value.ref.inj eC
  have ey2 : y = y' := Option.some.inj ey'
  subst eC' ey2
  have I' : Inv X pins σ H' s' := I1.call' (ch := []) os un hok bare (fun b z => absurd z (by simp))
  have fr : s'.heap.FunFrames X.base (X.env :: X.outer) := by have := I'.stack; rw [hsk] at this; exact this
  have af : X.A.frames = some (X.env :: X.outer) := by have := I'.ok.frames; rw [hsk] at this; exact this
  have back : ∀ b, s'.heap.get? b = none → s1.heap.get? b = none := fun b hb => by
    cases z : s1.heap.get? b with
    | none => rfl
    | some o =>
      obtain ⟨o', e'⟩ := un.there b o z (by simp)
      rw [hb] at e'
      cases e'
  have fin : ∀ (ts' : List Addr) (h3 : Heap) (tk : Nat), Way (frs X.stack) y ts' s'.heap h3 → (∀ b ∈ ts', s1.heap.get? b = none ∧ H' b = none) → IsEx y C dx0 h3 → Inv X pins σ H' { s' with heap := h3, toks := tk } := fun ts' h3 tk W nt isE =>
    I1.call' (ch := []) (s' := { s' with heap := h3, toks := tk }) os (un_way un W ny fun b hb => (nt b hb).1) (hok_way hok W (fun b hb => I'.stkFree b hb) (fun b hb => (nt b hb).2) hy isE) bare (fun b z => absurd z (by simp))
  have e1s : 1 < vs.size := (Array.getElem?_eq_some_iff.mp e1).1
  refine note_next af fr hfm ey e1 tT neT fun h2 T2 W n2 e2 t2 ne2 => ?_
  have W2 : Way (frs X.stack) y [T] s'.heap h2 := by rw [hsk]; exact W
  have I2 := fin [T] h2 s'.toks W2 (fun b hb => by rw [List.mem_singleton.mp hb]; exact ⟨nT, hT'⟩) ⟨_, e2⟩
  have nT2 : s1.heap.get? T2 = none ∧ H' T2 = none := ⟨back T2 n2, hok_none hok n2⟩
  refine wpAny_handleBy_cons (codeAny_handlers_test (Calls.Name_function_global I2.ok.kind hgS (Calls.loadGlobal_global (by rw [I2.ok.glob]; exact I2.mod.glob.keeps I2.bk) hmS ?_) hdS)) (by intro q; cases q)
  refine matches_own I2.kIn hC hS e2 hbS hbm ?_
  show codeAny _ _ _ _ _
  refine codeAny_handlers_suite_as ?_
  refine flight_again e2 (by simp [e1s]) t2 ne2 fun h3 k3 => ?_
  have W3 : Way (frs X.stack) y [T2] h2 h3 := ⟨fun b o _ _ b3 q => k3 b o (by simpa using b3) q, fun b o _ _ b3 q => ⟨o.slots, k3 b o (by simpa using b3) q⟩⟩
  have e3 := k3 y _ ne2.symm e2
  have I3 := fin ([T] ++ [T2]) h3 s'.toks (way_comp W2 W3) (fun b hb => by
    rcases List.mem_append.mp hb with hb | hb
    · rw [List.mem_singleton.mp hb]; exact ⟨nT, hT'⟩
    · rw [List.mem_singleton.mp hb]; exact nT2) ⟨_, e3⟩
  refine store_ok I3 nd hie (.inl hle) (show RelV (.ref y) (.ref y) from rfl) (fun s4 I4 => ?_) (.inr hle)
  refine wpAny_mono ((hts (.ref y)).o pins s4 _ H' _ (I4.sup (.ref y)) hrd) (fun fl s5 z => ?_) (fun e s5 z => by
    have : X.xe e s5 := z
    rw [hno] at this
    exact this.elim)
  cases fl with
  | next =>
    obtain ⟨σ5, H5, I5, q5⟩ := z
    exact del_ok (I5.unsup I4.ok) nd hie hle fun s6 I6 => ⟨_, H5, I6, q5⟩
  | brk => obtain ⟨_, _, _, q5⟩ := z; exact q5.elim
  | cont => obtain ⟨_, _, _, q5⟩ := z; exact q5.elim
  | ret u => obtain ⟨_, _, _, _, _, q5⟩ := z; exact q5.elim
end
end L2

/-! isinstance of an own exception. -/
namespace L2
open PySem PySem.Spec PyProof.Rows Xc PySem.W
/-- how an own exception's attributes are looked up -/
structure ExA (K : Frag) (C : Addr) : Prop where
  ga : findIn K (.ref C) "__getattribute__" = some (some (.builtin "BaseException.__getattribute__"))
  na : findIn K (.ref C) "__getattr__" = some none
  ca : findIn K (.ref C) "__class__" = some (some (.builtin "object.__class__"))
  ob : mroIn K C (.type "object") = some true
  be : mroIn K C (.type "BaseException") = some true
section
variable {prog : Program} {w : World} {A : Around} {E : Value → Shared → Prop} {K : Frag} {h : Heap} {g : Array GenState} {d : Drawn} {t : Nat} {os : OsState} {y C : Addr} {vs : Array Value}
end
/-- isinstance(e, c), e an own exception: c as the fragment's decider takes it -/
def rIsX (K : Frag) : List V → Hp → VK → Prop := fun vs H Q => ∃ (y C : Addr) (bm : List Value) (c : V) (u : Value) (b : Bool), vs = [.ref y, c] ∧ H y = some (.ext (IsEx y C none)) ∧ ExC K C bm ∧ ExA K C ∧ (∀ u', RelV c u' → u' = u) ∧ kitOne K (.ref C) u = some b ∧ Q (.bl b) H
end L2

/-! list.count of bools. -/
namespace L2
open PySem PySem.Spec PyProof.Rows Xc
def isBl (k : Bool) : Value → Bool
  | .bool b => b == k
  | _ => false
section
variable {X : Cx}
def rCountB (K : PySem.W.Frag) : V → List V → Hp → VK → Prop := fun x xs H Q => ∃ (a : Addr) (bs : List Bool) (k : Bool), x = V.ref a ∧ xs = [V.bl k] ∧ SqL K H a (bs.map V.bl) ∧ Q (.int (bs.count k : Nat)) H
theorem mt_countB : MtR X "list.count" (rCountB X.K) := by
  intro pins s σ H x xs v us Q I rx rxs h
  obtain ⟨a, bs, k, rfl, rfl, hs, q⟩ := h
  cases rx
  cases rxs with
  | cons ry rt =>
    cases rt
    cases ry
    obtain ⟨its, rv, ⟨⟨cls, dd, data, sl⟩, n, ho, hc, hdn, hd⟩, hlen⟩ := I.list hs
    simp only at hc hd
    subst hc hd
    have ei := Vals.bls rv
    subst ei
    refine call_meets PySem.F.slot_list_count ⟨_, ho, rfl⟩ PySem.F.entry_list_count (PySem.F.args_list_count_2 _ _) (SeqAt.list_countAt a (bs.map Value.bool).toArray n dd sl (.bool k) (isBl k)) ⟨ho, fun y hy => ?_, ?_⟩
    · obtain ⟨b, _, rfl⟩ := List.mem_map.mp (List.mem_toArray.mp hy)
      exact SeqAt.EqAt.bool_bool b k
    · have e : (bs.map Value.bool).toArray.toList.countP (isBl k) = bs.count k := by
        show (bs.map Value.bool).countP (isBl k) = bs.countP (· == k)
        rw [List.countP_map]
        rfl
      rw [e]
      exact ⟨.int _, H, I.kept fun _ _ e => e, ⟨_, rfl⟩, q⟩
end
section
variable {X : Cx} {pos : Pos}
theorem enon {j : _} : SE X (.Constant .none j pos) (tC .non) := ⟨pe_non⟩
end
end L2

/-! filling by bits is filling by names. -/
namespace Pm
open PySem L2 Wd Wm Km Bm Gm Hm Fm Fn
/-- the places in the order in which they are asked -/
def plc (kd : Kd) (n : Nat) : List Nat := match kd with
  | .C => (List.range n).reverse
  | _ => List.range n
/-- the row by names behind i places -/
noncomputable def rowAt (names : List Str) (ties : List SS) (kd : Kd) (row : List Str) (i : Nat) : List Str := match kd with
  | .C => thinL ties (names.reverse.take i) row
  | _ => fillL ties kd (names.take i) row
noncomputable def stB (names : List Str) (ties : List SS) (kd : Kd) (r k : Nat) : Nat := if r.testBit k = shr kd ∧ isB ties kd (rowL names (r ^^^ 2 ^ k)) = true then r ^^^ 2 ^ k else r
end Pm

/-! an own exception passes a def that does not catch it. -/
namespace L2
open PySem PySem.Spec PyProof.Rows Xc
section
variable {P : Program} {w : World} {K : PySem.W.Frag} {mg : Str → Option Value} {base : Heap} {N : List Str} {qual : Str} {scope : Scope} {f : Addr} {cd : Value} {A : Around} {outer : List Env} {s0 : Shared} {H0 : Hp} {E0 : XK}
theorem pass1 : Passes (CX1 P w) (cxOf (CX1 P w) P w K mg base N qual scope f cd A outer s0 H0 E0) E0 := by
  intro pins σ H s e s' I hq
  obtain ⟨y, C, T, dd, vs, H', rfl, os, bare, un, hok, ny, hy, ey, e1, tT, neT, nT, hT', hE⟩ := hq
  have I' : Inv (cxOf (CX1 P w) P w K mg base N qual scope f cd A outer s0 H0 E0) pins σ H' s' := I.call' (ch := []) os un hok bare (fun b z => absurd z (by simp))
  have fr : s'.heap.FunFrames base (envOfC qual scope s0.heap.objs.size f cd :: outer) := I'.stack
  have ff : ∀ b ∈ frs (envOfC qual scope s0.heap.objs.size f cd :: outer), H' b = none := I'.stkFree
  show wpAny (model P w) (A.deeper (envOfC qual scope s0.heap.objs.size f cd)) (leaving (envOfC qual scope s0.heap.objs.size f cd) (.ref y)) _ _ _
  have back : ∀ b, s.heap.get? b = none → s0.heap.get? b = none := fun b hb => by
    cases z : s0.heap.get? b with
    | none => rfl
    | some o =>
      obtain ⟨o', e'⟩ := I.base.there b o z (by simp [cxOf])
      rw [hb] at e'
      cases e'
  have back' : ∀ b, s'.heap.get? b = none → s0.heap.get? b = none := fun b hb => by
    cases z : s0.heap.get? b with
    | none => rfl
    | some o =>
      obtain ⟨o', e'⟩ := I'.base.there b o z (by simp [cxOf])
      rw [hb] at e'
      cases e'
  unfold leaving
  refine wpAny_bind (note_next I'.ok.frames fr rfl ey e1 tT neT fun h2 T2 W n2 e2 t2 ne2 => ?_)
  have e1s : 1 < vs.size := (Array.getElem?_eq_some_iff.mp e1).1
  have W' : Way (frs outer) y [T, s0.heap.objs.size] s'.heap h2 := by
    refine ⟨fun b o b1 b2 b3 eb => W.keep b o b1 (fun m => ?_) (fun m => b3 (by rw [List.mem_singleton.mp m]; exact List.mem_cons_self ..)) eb, fun b o b1 b2 b3 eb => W.slot b o (List.mem_cons_of_mem _ b1) b2 (fun m => b3 (by rw [List.mem_singleton.mp m]; exact List.mem_cons_self ..)) eb⟩
    have : b ∈ s0.heap.objs.size :: frs outer := m
    rcases List.mem_cons.mp this with z | z
    · exact b3 (by rw [z]; exact List.mem_cons_of_mem _ (List.mem_cons_self ..))
    · exact b2 z
  have u4 : Un (frs outer) [] H0 H' s0.heap h2 := un_way (show Un (frs outer) [] H0 H' s0.heap s'.heap from I'.base) W' (back y ny) fun b hb => by
    rcases List.mem_cons.mp hb with z | z
    · rw [z]; exact back T nT
    · rw [List.mem_singleton.mp z]; exact Heap.get?_none_of_le (Nat.le_refl _)
  have k3 : HOk P w H' h2 := hok_way hok W ff (fun b hb => by rw [List.mem_singleton.mp hb]; exact hT') hy ⟨_, e2⟩
  exact ⟨y, C, T2, dd, _, H', rfl, I'.os, I'.bare, u4, k3, back y ny, hy, e2, by simp [e1s], t2, ne2, back' T2 n2, hok_none hok n2, hE⟩
end
end L2

/-! an own exception gets an attribute. -/
namespace L2
open PySem PySem.Spec PyProof.Rows Xc PySem.W
open PySem.Builtin PySem.Builtin.ObjectAttr
/-- how an attribute is stored -/
structure ExS (K : Frag) (C S : Addr) (name : Str) : Prop where
  cl : ∃ nm q N bs sn sub ab col dd k0 k1 k2 k3 k5 newId, K.lookup C = some (excClassObj nm q C N bs (.ref S :: bmV) true sn sub ab col dd k0 k1 k2 k3 k5 newId)
  sa : findIn K (.ref C) "__setattr__" = some (some (.builtin "object.__setattr__"))
  no : findIn K (.ref C) name = some none
  ob : mroIn K C (.type "object") = some true
section
variable {prog : Program} {w : World} {A : Around} {E : Value → Shared → Prop} {K : Frag} {h : Heap} {g : Array GenState} {d : Drawn} {t : Nat} {os : OsState} {y C S : Addr} {vs : Array Value} {name : Str} {v : Value}
theorem st_entry {tk : Tok} {Q : Fin → Shared → Prop} {o : Obj} (X : K.In h) (a : ExS K C S name) (hx : h.get? y = some o) (hc : o.cls = .ref C) (hdn : o.dict = none) (hnc : ∀ c, o.data ≠ .cls c)
    (hq : ∀ h' dx tk', h'.get? y = some { o with dict := some dx } → dx ≠ y → h.get? dx = none → h'.Ns1 dx (fun z => if z = name then some v else none) → (∀ b ob, b ≠ y → h.get? b = some ob → h'.get? b = some ob) → Q (.done (.ret .none)) ⟨h', g, d, tk', os⟩) :
    wpAny (model prog w) A (Builtin.«object.__setattr__» ⟨[.ref y, .str name tk, v], []⟩) Q E ⟨h, g, d, t, os⟩ := by
  obtain ⟨nm, q, N, bs, sn, sub, ab, col, dd, k0, k1, k2, k3, k5, newId, hl⟩ := a.cl
  have hC := X _ _ hl
  have hpass := PySem.F.store_ValueError.passes (.ref y)
  have L1 := looks_findIn (M := model prog w) X a.no
  unfold Builtin.«object.__setattr__»
  repeat (first | rw [refuse_eq] | (rw [refuseLoop_ref, refuseLoop_ref, hpass]) | (with_reducible refine wpAny_loadPart_at hx ?_; rw [hc]) | with_reducible refine wpAny_mroOf_exc hC ?_ | (with_reducible refine L1.at ?_) | wp_step)
  rw [hdn, if_neg (by simp [typeHasDict])]
  split
  · rename_i hcd
    cases hcd
  split
  · rename_i c hcd
    exact absurd hcd (hnc c)
  · have hx₁ : (h.push { cls := .type "dict", data := .dict #[] }).get? y = some o := Heap.get?_push_of_some _ hx
    have hxs : y ≠ h.objs.size := Nat.ne_of_lt (Heap.lt_size hx)
    refine wpAny_bind (wpAny_alloc' ?_)
    refine wpAny_bind (wpAny_update' hx₁ ?_)
    refine wpAny_pure ?_
    have hgd : ((h.push { cls := .type "dict", data := .dict #[] }).update y fun o => { cls := o.cls, dict := some h.objs.size, data := o.data, slots := o.slots }).get? h.objs.size = some { cls := .type "dict", data := .dict #[] } :=
      (Heap.get?_update_ne _ _ _ _ hxs.symm).trans (Heap.get?_push_at rfl rfl)
    have hnd : ((h.push { cls := .type "dict", data := .dict #[] }).update y fun o => { cls := o.cls, dict := some h.objs.size, data := o.data, slots := o.slots }).Ns h.objs.size (fun _ => none) :=
      ⟨_, #[], _, hgd, rfl, fun e he => absurd he (by simp), fun _ => rfl⟩
    show wpAny _ _ (storeInDict h.objs.size (.str name tk) name v) _ _ _
    unfold storeInDict newKeyGuard
    refine wpAny_bind (wpAny_pure (wpAny_bind (wpAny_nsSet1 (Heap.Ns1.of_empty hnd) fun h' hn' hs => ?_)))
    obtain ⟨oD, esD, epD, hoD, hdD, hcD⟩ := hn'.count (Within.cons name v Within.nil)
    refine wpAny_bind (wpAny_lookBehind hoD (by rw [hdD]; exact pastItsLine_dict (Nat.le_trans hcD (by rw [List.length_cons, List.length_nil, sizeLine_eq]; omega))) ?_)
    wp_walk
    refine hq h' h.objs.size _ ?_ hxs.symm (Heap.get?_none_of_le (Nat.le_refl _)) hn' (fun b ob hb e => ?_)
    · refine (hs.2 y hxs).trans (Heap.get?_update_self _ hx₁ ?_)
      have hfr := (Heap.get?_some_iff.mp hx).2
      obtain ⟨oc, od, odt, osl⟩ := o
      cases odt <;> first | rfl | exact hfr
    · exact (hs.2 b (Nat.ne_of_lt (Heap.lt_size e))).trans ((Heap.get?_update_ne _ _ _ _ hb).trans (Heap.get?_push_of_some _ e))
theorem st_check {nameV : Value} {Q : Unit → Shared → Prop} {o : Obj} (X : K.In h) (a : ExS K C S name) (hx : h.get? y = some o) (hc : o.cls = .ref C) (hq : Q () ⟨h, g, d, t, os⟩) :
    wpAny (model prog w) A (checkBuiltinCall "object.__setattr__" ⟨[.ref y, nameV, v], []⟩) Q E ⟨h, g, d, t, os⟩ := by
  have SF := PySem.F.store_ValueError
  have hk := SF.kind
  have hsp := SF.split
  have ha := SF.args (.ref y) nameV v
  have L2 := looks_mroIn (M := model prog w) X a.ob
  simp only [checkBuiltinCall, hk, hsp]
  refine wpAny_bind ?_
  · unfold isInstance
    repeat (first | (with_reducible refine wpAny_loadPart_at hx ?_; rw [hc]) | (with_reducible refine L2.at ?_) | wp_step)
    exact hq
theorem st_attr {Q : Unit → Shared → Prop} {o : Obj} (X : K.In h) (a : ExS K C S name) (hx : h.get? y = some o) (hc : o.cls = .ref C) (hdn : o.dict = none) (hnc : ∀ c, o.data ≠ .cls c)
    (hq : ∀ h' dx tk', h'.get? y = some { o with dict := some dx } → dx ≠ y → h.get? dx = none → h'.Ns1 dx (fun z => if z = name then some v else none) → (∀ b ob, b ≠ y → h.get? b = some ob → h'.get? b = some ob) → Q () ⟨h', g, d, tk', os⟩) :
    wpAny (model prog w) A (setAttr (.ref y) name v) Q E ⟨h, g, d, t, os⟩ := by
  have SF := PySem.F.store_ValueError
  have f3 := SF.slot.bind (.ref y)
  have L1 := looks_findIn (M := model prog w) X a.sa
  have L2 := looks_mroIn (M := model prog w) X a.ob
  have ha := SF.args (.ref y)
  unfold setAttr callSpecial? specialOf
  repeat (any_goals (first | assumption | (with_reducible refine wpAny_loadPart_at hx ?_; rw [hc]) | (with_reducible refine L1.at ?_) | wp_step))
  refine codeAny_call_builtin SF.slot.plain SF.entry (st_check X a hx hc (st_entry X a hx hc hdn hnc fun h' dx tk' z1 z2 z3 z4 z5 => ?_))
  repeat (any_goals (first | assumption | wp_step))
  exact hq h' dx tk' z1 z2 z3 z4 z5
end
end L2

/-! super().__init__(text) within an own exception's __init__. -/
namespace L2
open PySem PySem.Spec PyProof.Rows Xc PySem.W
theorem wd_slot : Slot "wrapper_descriptor" "__get__" "wrapper_descriptor.__get__" := .of (owner := "wrapper_descriptor") (n := "__get__") (by rw [typeLookup_type, builtinLookup_eq_fast]; kernel_rfl) (by decide +kernel) (by decide +kernel) (by decide +kernel)
    (by first | exact .inl (by decide +kernel) | exact .inr (by decide +kernel)) (by rw [isSubtype_type]; kernel_rfl)
theorem wd_entry : entryFor table "wrapper_descriptor.__get__" = some Builtin.«wrapper_descriptor.__get__» := entryFor_of_tree (by kernel_rfl)
theorem wd_args (a b c : Value) : argsOk "wrapper_descriptor.__get__" ⟨[a, b, c], []⟩ := by unfold argsOk; kernel_rfl
theorem vi_type : typeOf (.builtin "ValueError.__init__") = pure (.type "wrapper_descriptor") := by show builtinType _ = _; kernel_rfl
section
variable {prog : Program} {w : World} {A : Around} {E : Value → Shared → Prop} {K : Frag} {h : Heap} {g : Array GenState} {d : Drawn} {t : Nat} {os : OsState} {so D x C : Addr} {l₀ l : List Value} {ox : Obj}
theorem sg_entry {tk : Tok} {Q : Fin → Shared → Prop} (hso : h.get? so = some (ks_superObj D x C)) (hno : Looks (model prog w) h (opaqueClassAbove (.ref C)) none) (hC : Looks (model prog w) h (mroOf (.ref C)) l₀) (hl : (l₀.dropWhile (· != .ref D)).drop 1 = l) (X : K.In h)
    (hf : alongIn K "__init__" l = some (some (.builtin "ValueError.__init__"))) (hx : h.get? x = some ox) (hc : ox.cls = .ref C) (hv : mroIn K C (.type "ValueError") = some true) (hxC : x ≠ C)
    (hq : Q (.done (.ret (.ref h.objs.size))) ⟨h.push { cls := .type "method-wrapper", data := .fields #[.builtin "ValueError.__init__", .ref x] }, g, d, t, os⟩) :
    wpAny (model prog w) A (Builtin.«super.__getattribute__» ⟨[.ref so, .str "__init__" tk], []⟩) Q E ⟨h, g, d, t, os⟩ := by
  have hlk := wd_slot.lookup
  have hne : (Value.ref x == Value.ref C) = false := by simp [hxC]
  have hT := vi_type
  have hTt : (⟨h, g, d, t, os⟩ : Shared).TypeIs (.builtin "ValueError.__init__") "wrapper_descriptor" := vi_type
  have hn : ((Str.ofString "__init__") == ("__class__" : Str)) = false := by decide
  have L5 := looks_mroIn (M := model prog w) X hv
  have hdt : (ks_superObj D x C).data = .fields #[.ref D, .ref x, .ref C] := rfl
  have f0 : (#[.ref D, .ref x, .ref C] : Array Value)[0]? = some (.ref D) := rfl
  have f1 : (#[.ref D, .ref x, .ref C] : Array Value)[1]? = some (.ref x) := rfl
  have f2 : (#[.ref D, .ref x, .ref C] : Array Value)[2]? = some (.ref C) := rfl
  unfold Builtin.«super.__getattribute__»
  repeat (first
    | (with_reducible refine wpAny_field hso hdt f0 ?_) | (with_reducible refine wpAny_field hso hdt f1 ?_) | (with_reducible refine wpAny_field hso hdt f2 ?_)
    | (with_reducible refine ks_wpAny_notOpaque hno ?_)
    | (with_reducible refine Looks.at hC ?_; rw [hl])
    | (refine ks_forIn_along X (fun _ _ => rfl) rfl ?_ hf)
    | (with_reducible refine wpAny_call_entry wd_slot hTt wd_entry ?_ (wd_args _ _ _))
    | (with_reducible refine ⟨_, rfl, ?_⟩)
    | (simp only [hn, hne, Bool.or_false, Bool.false_eq_true, if_false])
    | wp_step
    | dsimp only)
  have ho : (".".intercalate ("ValueError.__init__".cutAt '.').dropLast) = "ValueError" := by decide +kernel
  rw [hc, ho]
  refine L5.at ?_
  simp only [Bool.not_true, Bool.false_eq_true, if_false]
  unfold newFields
  repeat (first | assumption | (with_reducible refine ⟨_, rfl, ?_⟩) | wp_step | dsimp only)
  all_goals first | exact hq | skip
  all_goals trace_state
theorem sg_method {pl : Sem Bool} {Q : Value × List Value → Shared → Prop} (hso : h.get? so = some (ks_superObj D x C)) (hno : Looks (model prog w) h (opaqueClassAbove (.ref C)) none) (hC : Looks (model prog w) h (mroOf (.ref C)) l₀) (hl : (l₀.dropWhile (· != .ref D)).drop 1 = l) (X : K.In h)
    (hf : alongIn K "__init__" l = some (some (.builtin "ValueError.__init__"))) (hx : h.get? x = some ox) (hc : ox.cls = .ref C) (hv : mroIn K C (.type "ValueError") = some true) (hxC : x ≠ C)
    (hq : Q (.ref h.objs.size, []) ⟨h.push { cls := .type "method-wrapper", data := .fields #[.builtin "ValueError.__init__", .ref x] }, g, d, t + 1, os⟩) :
    wpAny (model prog w) A (getMethod (.ref so) "__init__" pl) Q E ⟨h, g, d, t, os⟩ := by
  have lk := F.ks_slot_super_ga.lookup
  have hcan := F.ks_canon_super_ga
  have hT : ∀ t', (⟨h, g, d, t', os⟩ : Shared).TypeIs (.ref so) "super" := fun _ => ⟨_, hso, rfl⟩
  unfold getMethod
  refine wpAny_bind (wpAny_specialOf (hT _) lk ?_)
  show wpAny _ _ (if (Manifest.canonical "super.__getattribute__" != "object.__getattribute__") = true then _ else _) _ _ _
  rw [if_pos hcan]
  unfold getAttr getAttrBy
  refine wpAny_bind (wpAny_bind (wpAny_mkText (wpAny_holding (wpAny_bind (wpAny_typeOf (hT _) (wpAny_bind (wpAny_of_eq lk ?_)))))))
  show wpAny _ _ (getAttrByItsOwn (.ref so) (.str "__init__" t) (.type "super") (.builtin "super.__getattribute__") true false) _ _ _
  unfold getAttrByItsOwn hookBefore callGetattribute boundAndCalled
  refine wpAny_bind (wpAny_of_eq (show (if onTheHeap (.type "super") then typeLookup (.type "super") "__getattr__" else pure none) = pure none from rfl) ?_)
  refine wpAny_bind (wpAny_attempt (wpAny_holding ?_))
  show wpAny _ _ (bindSpecial (.builtin "super.__getattribute__") (.ref so) >>= _) _ _ _
  refine wpAny_bind (wpAny_of_eq (F.ks_slot_super_ga.bind _) ?_)
  refine wpAny_mono (Q := fun v s' => v = .ref h.objs.size ∧ s' = ⟨h.push { cls := .type "method-wrapper", data := .fields #[.builtin "ValueError.__init__", .ref x] }, g, d, t + 1, os⟩) (E := fun _ _ => False)
    (wpAny_call_entry F.ks_slot_super_ga (hT _) F.ks_entry_super_ga (sg_entry hso hno hC hl X hf hx hc hv hxC ⟨_, rfl, rfl, rfl⟩) (F.ks_gaArgs_super _ _)) (fun v s' z => ?_) fun _ _ z => z.elim
  obtain ⟨rfl, rfl⟩ := z
  exact wpAny_pure (wpAny_pure hq)
end
theorem vi_entry : entryFor table "ValueError.__init__" = some Builtin.«BaseException.__init__» := entryFor_alias (id' := "BaseException.__init__") (by kernel_rfl) (by decide +kernel) (by decide +kernel) (by kernel_rfl)
section
variable {prog : Program} {w : World} {A : Around} {E : Value → Shared → Prop} {s : Shared} {mw x C : Addr} {dd : Option Addr} {vs : Array Value}
theorem mw_check {g : Array GenState} {d : Drawn} {t : Nat} {os : OsState} {h : Heap} {bm : List Value} {nm q : Str} {N : Addr} {bs : List Value} {hdct : Bool} {sn : List Str} {sub : List Value} {ab : Bool} {col : Option Bool} {dc : Option Addr} {k0 k1 k2 k3 k5 : Option Value} {rest : List Value} {Q : Unit → Shared → Prop} {oe : Obj}
    (hC : h.get? C = some (excClassObj nm q C N bs bm hdct sn sub ab col dc k0 k1 k2 k3 k5 "ValueError.__new__")) (he : h.get? x = some oe) (hcls : oe.cls = .ref C) (hq : Q () ⟨h, g, d, t, os⟩) :
    wpAny (model prog w) A (checkBoundCall "ValueError.__init__" ⟨.ref x :: rest, []⟩) Q E ⟨h, g, d, t, os⟩ := by
  have F := PySem.F.excBase_ValueError
  have hshort := F.noStar
  unfold checkBoundCall
  simp only [F.initKind, F.initRow]
  repeat (first | (with_reducible refine wpAny_loadPart_at he ?_; rw [hcls]) | with_reducible refine wpAny_loadPart_at hC ?_ | wp_step)
  refine wpAny_onRaise ?_
  rw [show ∀ (a b : String) (n : Nat), Bind.check ⟨.positional, "*", "ValueError", .self, [⟨"args", .varPos, false⟩]⟩ a b n (List.map (fun x => x.fst) ({ pos := Value.ref x :: rest } : Args).kw) = pure () from
    fun a b n => check_star_args _ _ _ _ _ _]
  exact wpAny_pure hq
/-- the bound __init__ of the built-in base is called with one thing -/
theorem mw_call {u : Value} {R : Result → Shared → Prop} {bm : List Value} {nm q : Str} {N : Addr} {bs : List Value} {hdct : Bool} {sn : List Str} {sub : List Value} {ab : Bool} {col : Option Bool} {dc : Option Addr} {k0 k1 k2 k3 k5 : Option Value} (hm : s.heap.get? mw = some { cls := .type "method-wrapper", data := .fields #[.builtin "ValueError.__init__", .ref x] }) (hx : s.heap.get? x = some (exO C vs dd)) (h0 : 0 < vs.size)
    (hC : s.heap.get? C = some (excClassObj nm q C N bs bm hdct sn sub ab col dc k0 k1 k2 k3 k5 "ValueError.__new__"))
    (hq : ∀ h' tp, h'.get? x = some (exO C (vs.setIfInBounds 0 (.ref tp)) dd) → (∀ b o, b ≠ x → s.heap.get? b = some o → h'.get? b = some o) → R (.ok (.ret .none)) { s with heap := h' }) :
    codeAny (model prog w) A (.call (.ref mw) ⟨[u], []⟩) R s := by
  obtain ⟨h, g, d, t, os⟩ := s
  refine codeAny_of_tree ?_
  show wpAny _ _ (callAny (.ref mw) _) _ _ _
  unfold callAny
  refine wpAny_bind (wpAny_load hm ?_)
  show wpAny _ _ (if (Value.type "method-wrapper" == Value.type "method" || Value.type "method-wrapper" == Value.type "builtin_function_or_method" || Value.type "method-wrapper" == Value.type "method-wrapper") = true then _ else _) _ _ _
  rw [if_pos (by decide)]
  dsimp only
  show wpAny _ _ (if (Value.type "method-wrapper" != Value.type "method") = true then _ else _) _ _ _
  rw [if_pos (by decide)]
  refine wpAny_bind (mw_check hC hx rfl ?_)
  refine wpAny_pure ⟨Code.quiet_builtin _ (by decide +kernel), codeAny_builtin vi_entry ?_⟩
  unfold Builtin.«BaseException.__init__»
  dsimp only
  rw [if_neg (by simp)]
  unfold newTuple Builtin.BaseException.bexcPut
  have he₁ := Heap.get?_push_of_some (h := h) { cls := .type "tuple", data := .seq [u].toArray } hx
  refine wpAny_bind (wpAny_newObj_type (wpAny_bind (wpAny_bind (wpAny_field he₁ rfl (x := vs[0]) (by simp [h0]) (wpAny_bind (wpAny_setField he₁ rfl h0 ?_))))) (by size_fits))
  have fin : R (.ok (.ret .none)) ⟨(h.push { cls := .type "tuple", data := .seq [u].toArray }).update x (Obj.mapFields (·.setIfInBounds 0 (.ref h.objs.size))), g, d, t, os⟩ :=
    hq _ h.objs.size (Heap.get?_update_self _ he₁ rfl) fun b o hb e => (Heap.get?_update_other _ _ (Ne.symm hb)).trans (Heap.get?_push_of_some _ e)
  cases vs[0] <;> first | exact wpAny_pure (wpAny_pure fin) | exact wpAny_letGo (wpAny_pure fin)
end
end L2

/-! the __init__ of an own exception: super().__init__(f".."), self.a = a. -/
namespace L2
open PySem PySem.Spec PyProof.Rows Xc PySem.W
abbrev iniFs (a c1 c2 : Str) (p1 p2 p3 p4 p5 : Pos) : Expr := .JoinedStr [.Constant (.str c1) 0 p1, .FormattedValue (.Name a p2) (-1) none p3, .Constant (.str c2) 0 p4] p5
abbrev iniBody (a c1 c2 : Str) (p1 p2 p3 p4 p5 p6 p7 p8 p9 p10 q0 q1 q2 q3 : Pos) : List Stmt :=
  [.Expr (.Call (.Attribute (.Call (.Name "super" p6) [] [] p7) "__init__" p8) [iniFs a c1 c2 p1 p2 p3 p4 p5] [] p9) p10, .Assign [.Attribute (.Name "self" q0) a q1] (.Name a q2) q3]
abbrev iniScope (a : Str) : Scope := { kind := .function, names := [("self", .local), (a, .local), ("__class__", .free), ("super", .globalImplicit)], isGenerator := false, isCoroutine := false, more := [] }
abbrev iniArgs (a : Str) (r1 r2 : Pos) : Arguments := { posonlyargs := [], args := [{ arg := "self", annotation := none, pos := r1 }, { arg := a, annotation := none, pos := r2 }], vararg := none, kwonlyargs := [], kw_defaults := [], kwarg := none, defaults := [] }
/-- a value that an f-string tells -/
def Fmt (u : Value) : Prop := (∃ (y : Str) (t : Tok), u = .str y t ∧ y.length ≤ 1000000) ∨ ∃ (i : Int) (t : Tok), u = .int i t ∧ i.natAbs.log2 < 1920
structure Ini (P : Program) (K : Frag) (C S f : Addr) (a : Str) : Prop where
  lk : ∃ qual c1 c2 p1 p2 p3 p4 p5 p6 p7 p8 p9 p10 q0 q1 q2 q3 r1 r2 kV doc pm an cda ct cc od sl, (c1.length ≤ 1000000 ∧ c2.length ≤ 1000000) ∧ (p8.endLine == p9.line) = true ∧ K.lookup f = some ⟨.type "function", od, .func (ksFn "__init__" qual (iniArgs a r1 r2) (iniBody a c1 c2 p1 p2 p3 p4 p5 p6 p7 p8 p9 p10 q0 q1 q2 q3) (iniScope a) .none kV doc pm an (.ref cda) ct cc), sl⟩ ∧
    (∀ x u, bindArgs (ksFn "__init__" qual (iniArgs a r1 r2) (iniBody a c1 c2 p1 p2 p3 p4 p5 p6 p7 p8 p9 p10 q0 q1 q2 q3) (iniScope a) .none kV doc pm an (.ref cda) ct cc) ⟨[.ref x, u], []⟩ = pure [(("self" : Str), .ref x), (a, u)]) ∧ codeIn K (.ref cda) qual = true ∧ (∃ ccl cdd cvs ccs file tf, K.lookup cda = some ⟨ccl, cdd, .fields cvs, ccs⟩ ∧ cvs[2]? = some (.str file tf) ∧ ((P.main.file : Str) == file) = true) ∧ ∃ cl cld csl, K.lookup cc = some ⟨cl, cld, .cell (some (.ref C)), csl⟩
  cls : ∃ nm q N bs sn sub ab col dd k0 k1 k2 k3 k5, K.lookup C = some (excClassObj nm q C N bs (.ref S :: bmV) true sn sub ab col dd k0 k1 k2 k3 k5 "ValueError.__new__")
  sup : ks_superIn K C C "__init__" = some (some (.builtin "ValueError.__init__"))
  mroC : mroIn K C (.ref C) = some true
  mroV : mroIn K C (.type "ValueError") = some true
  opq : nsIn K cStatics "thirdparty.any" = some none
  sto : ExS K C S a
  top : (P.main.scope.names.lookup ("super" : Str)).isSome = false
  lA : (iniScope a).names.lookup a = some .local
  lS : (iniScope a).names.lookup ("super" : Str) = some .globalImplicit
  lC : (iniScope a).names.lookup ("__class__" : Str) = some .free
  nd : (a == ("__debug__" : Str)) = false
  ns : a ≠ ("self" : Str)
section
variable {P : Program} {w : World} {A : Around} {E : Value → Shared → Prop} {s : Shared} {K : Frag}
theorem mw_keeps {M : Model} {mw : Addr} {o : Obj} (hc : o.cls = .type "method-wrapper") {vs : Array Value} (hd : o.data = .fields vs) (h : Heap) (hm : h.get? mw = some o) : ∃ k, (k = Keeper.frame ∨ k = Keeper.machine ∨ k = Keeper.boundFrame) ∧ Looks M h (keeperOf (.ref mw)) k := by
  refine ⟨.machine, .inr (.inl rfl), ?_⟩
  unfold keeperOf
  refine (Looks.ld (part := none) hm).andThen ?_
  rw [hd, hc]
  exact .now
/-- the text -/
theorem ini_text {env : Env} {L : Addr} {m : Str → Option Value} {u : Value} {a c1 c2 : Str} {p1 p2 p3 p4 p5 : Pos} {Q : Value → Shared → Prop} (hk : env.scope.kind = .function) (hl : env.kindOf a = some .local) (hL : env.locals = L) (hn : s.heap.Ns L m) (hv : m a = some u) (hu : Fmt u) (hc : c1.length ≤ 1000000 ∧ c2.length ≤ 1000000)
    (hd : (a == ("__debug__" : Str)) = false) (h : ∀ y t tk, Q (.str y t) { s with toks := tk }) : wpAny (model P w) A (eval (iniFs a c1 c2 p1 p2 p3 p4 p5) env) Q E s := by
  have hs : sizeLine = 16777216 := sizeLine_eq
  refine JoinedStr_many ?_
  show wpAny _ _ (joinParts Str.empty [_, _, _]) _ _ _
  refine joinParts_cons (Calls.Constant_str ⟨?_, ?_⟩)
  · rw [hs, strLen_append]; show 0 + _ ≤ _; omega
  refine joinParts_cons (FormattedValue_plain (wpAny_Name (wpAny_loadName_local hk hl (by rw [hL]; exact hn) hv ?_) hd))
  have fin : ∀ (y : Str) (tk : Nat), y.length ≤ 1000000 → wpAny (model P w) A (joinParts (Str.empty ++ c1 ++ y) [eval (.Constant (.str c2) 0 p4) env]) Q E { s with toks := tk } := fun y tk hy => by
    refine joinParts_cons (Calls.Constant_str ⟨?_, joinParts_nil (h _ _ _) ?_⟩)
    all_goals (rw [hs, strLen_append, strLen_append, strLen_append]; show 0 + _ + _ + _ ≤ _; omega)
  rcases hu with ⟨y, t, rfl, hy⟩ | ⟨i, t, rfl, hi⟩
  · refine formatField_str (fun t' tk => ⟨?_, fin y tk hy⟩) (by omega)
    rw [hs, strLen_append, strLen_append]; show 0 + _ + _ ≤ _; omega
  · have hy : ((toString i : String) : Str).length ≤ 1000000 := by
      have e := int_text_length_le (k := 1920) (by decide) hi
      show (Str.ofString (toString i)).length ≤ _
      rw [PySem.ofString_length]; omega
    refine formatField_int_small hi ⟨?_, fin _ _ hy⟩
    rw [hs, strLen_append, strLen_append]; show 0 + _ + _ ≤ _; omega
/-- the whole run of the __init__ -/
theorem ini_call {C S f x : Addr} {a : Str} {vs : Array Value} {u : Value} {mg mb : Str → Option Value} {R : Result → Shared → Prop} (T : Ini P K C S f a) (X : K.In s.heap) (lim : s.heap.NoLimit) (G : s.heap.Ns mainGlobals mg) (B : s.heap.Ns builtinsNs mb) (gs : mg "super" = none) (bs : mb "super" = some (.type "super"))
    (hx : s.heap.get? x = some (exO C vs none)) (hxK : K.lookup x = none) (h0 : 0 < vs.size) (hroom : A.depth < recursionLimit) (hu : Fmt u)
    (hq : ∀ h' tk dx tp, h'.get? x = some (exO C (vs.setIfInBounds 0 (.ref tp)) (some dx)) → dx ≠ x → s.heap.get? dx = none → h'.Ns1 dx (fun z => if z = a then some u else none) → (∀ b o, b ≠ x → s.heap.get? b = some o → h'.get? b = some o) → R (.ok (.ret .none)) { s with heap := h', toks := tk }) :
    codeAny (model P w) A (.call (.ref f) ⟨[.ref x, u], []⟩) R s := by
  obtain ⟨qual, c1, c2, p1, p2, p3, p4, p5, p6, p7, p8, p9, p10, q0, q1, q2, q3, r1, r2, kV, doc, pm, an, cda, ct, cc, od, sl, hc12, hline, hlk, hbd, hcd, ⟨ccl, cdd, cvs, ccs, file, tf, hcode, hcv, hfile⟩, cl, cld, csl, hcell⟩ := T.lk
  obtain ⟨nm, q, N, bs0, sn, sub, ab, col, dd, k0, k1, k2, k3, k5, hlC⟩ := T.cls
  have hself : (iniScope a).names.lookup ("self" : Str) = some .local := rfl
  refine ks_codeAny_call_defAt (fd := ksFn "__init__" qual (iniArgs a r1 r2) (iniBody a c1 c2 p1 p2 p3 p4 p5 p6 p7 p8 p9 p10 q0 q1 q2 q3) (iniScope a) .none kV doc pm an (.ref cda) ct cc) (binds := [("self", .ref x), (a, u)]) hroom (X _ _ hlk) rfl lim (codeRec_of X hcd) rfl (.of_eq (hbd x u)) (fun y hy => ?_) (fun y hy => ?_) fun h1 ns1 k1 => ?_
  · have : y ∈ [(("self" : Str), NameKind.local), (a, .local), ("__class__", .free), ("super", .globalImplicit)] := hy
    simp only [List.mem_cons, List.not_mem_nil, or_false] at this
    rcases this with rfl | rfl | rfl | rfl <;> exact fun q => nomatch q
  · simp only [List.mem_cons, List.not_mem_nil, or_false] at hy
    rcases hy with rfl | rfl
    · exact hself
    · exact T.lA
  have X1 : K.In h1 := fun b o e => k1 b o (X b o e)
  show _root_.PySem.wpAt (model P w) (A.deeper (ksEnv qual (iniScope a) s.heap.objs.size f (.ref cda) cc)) (.func _ (ksEnv qual (iniScope a) s.heap.objs.size f (.ref cda) cc)) (execs _ (ksEnv qual (iniScope a) s.heap.objs.size f (.ref cda) cc)) _ _ _
  have mS : (fun z : Str => List.lookup z ([(("self" : Str), Value.ref x), (a, u)]).reverse) "self" = some (.ref x) := by
    show (match ("self" : Str) == a with | true => _ | false => _) = _
    rw [show (("self" : Str) == a) = false from by rw [beq_eq_false_iff_ne]; exact T.ns.symm]
    rfl
  have mA : (fun z : Str => List.lookup z ([(("self" : Str), Value.ref x), (a, u)]).reverse) a = some u := by
    show (match a == a with | true => _ | false => _) = _
    rw [beq_self_eq_true]
  generalize hm : (fun z : Str => List.lookup z ([(("self" : Str), Value.ref x), (a, u)]).reverse) = m at ns1 mS mA
  have hlt : ∀ {b : Addr} {o : Obj}, s.heap.get? b = some o → b ≠ s.heap.objs.size := fun e => Nat.ne_of_lt (Heap.lt_size e)
  refine ks_wpAt_mono (Q := fun fl s' => fl = .next ∧ R (.ok (.ret .none)) s') (E := fun _ _ => False) ?_ (fun fl s' z => by obtain ⟨rfl, z⟩ := z; exact z) fun _ _ z => z.elim
  obtain ⟨h, g, d, t, os⟩ := s
  have hpos : ∀ env, methodCallPos true (.Call (.Name "super" p6) [] [] p7) env p8 p9 = pure p9 := fun env => by unfold methodCallPos; simp [hline]
  have he : ∀ env, eval (.Call (.Attribute (.Call (.Name "super" p6) [] [] p7) "__init__" p8) [iniFs a c1 c2 p1 p2 p3 p4 p5] [] p9) env = (do
      let ov ← attributeBase (.Call (.Name "super" p6) [] [] p7) "__init__" env (eval (.Call (.Name "super" p6) [] [] p7) env)
      standAt p8.atName
      let (f, first) ← holding [ov] (getMethod ov "__init__" (do return (← importBound (.Call (.Name "super" p6) [] [] p7) env).getD true))
      callWith p9 f first (backTo p9 (starEach [iniFs a c1 c2 p1 p2 p3 p4 p5] env)) []) := fun env => by
    show (attributeBase _ _ _ _ >>= fun ov => standAt p8.atName >>= fun _ => (holding [ov] (getMethod ov "__init__" (do return (← importBound (.Call (.Name "super" p6) [] [] p7) env).getD true)) >>= fun fx => methodCallPos true (.Call (.Name "super" p6) [] [] p7) env p8 p9 >>= fun cp => callWith cp fx.1 fx.2 (backTo p9 (starEach [iniFs a c1 c2 p1 p2 p3 p4 p5] env)) [])) = _
    simp only [hpos, pure_bind]
  refine ks_wpAt_execs_cons (ks_wpAt_Expr_any (ks_wpAt_MethodCall ?_ (he _)))
  refine ks_wpAt_super_base (env := ksEnv qual (iniScope a) h.objs.size f (.ref cda) cc) T.lS T.lC (by decide) rfl (X1 _ _ hlk) rfl rfl rfl (X1 _ _ hcode) rfl hcv hfile T.top ?_
  refine ks_loadName_global rfl T.lS (Calls.loadGlobal_builtin (env := ksEnv qual (iniScope a) h.objs.size f (.ref cda) cc) (G.keeps k1) gs (B.keeps k1) bs ⟨rfl, ?_⟩)
  refine wpAny_loadName_free rfl T.lC rfl ⟨_, X1 _ _ hcell, rfl⟩ ?_
  refine wpAny_loadName_local rfl hself ns1 mS ?_
  refine ks_wpAny_isType_cls (X1 _ _ hlC) rfl ⟨rfl, ?_⟩
  refine ks_wpAny_call_super (X1 _ _ hlC) rfl (k1 _ _ hx) rfl (fun c e => nomatch e) (looks_mroIn X1 T.mroC) (fun h2 e2 k2 => ?_)
  have X2 : K.In h2 := fun b o e => k2 b o (X1 b o e)
  obtain ⟨cdC, hcls⟩ : ∃ cd, clsIn K C = some cd := ⟨_, by unfold clsIn; rw [hlC]⟩
  have hsup := T.sup
  unfold ks_superIn at hsup
  rw [hcls] at hsup
  have hxC : x ≠ C := fun q => by
    have e := X _ _ hlC
    rw [← q] at e
    have e' := hx.symm.trans e
    cases e'
  have hx2 := k2 _ _ (k1 _ _ hx)
  refine sg_method e2 (looks_opaque X2 T.opq) (fun A Q E s k q => wpAny_bind ((looks_clsIn X2 hcls) A _ E s k (wpAny_pure q))) rfl X2 hsup hx2 rfl T.mroV hxC ?_
  generalize hmwo : ({ cls := .type "method-wrapper", data := .fields #[.builtin "ValueError.__init__", .ref x] } : Obj) = mo
  have e3 : (h2.push mo).get? h2.objs.size = some mo := Heap.get?_push_at rfl (by rw [← hmwo]; rfl)
  have k3 : ∀ b o, h1.get? b = some o → (h2.push mo).get? b = some o := fun b o e => Heap.get?_push_of_some _ (k2 _ _ e)
  refine callWith_of (P := fun hh => hh.get? h2.objs.size = some mo) (by rfl) (mw_keeps (by rw [← hmwo]) (by rw [← hmwo])) (Calls.evalArgs_plain ?_)
  have ns3 : (h2.push mo).Ns h.objs.size m := ns1.keeps k3
  refine Calls.spliced_cons (ini_text (p5 := p5) (env := ksEnv qual (iniScope a) h.objs.size f (.ref cda) cc) (L := h.objs.size) rfl T.lA rfl ns3 mA hu hc12 T.nd fun y t' tk => ?_)
  refine Calls.spliced_nil ⟨e3, ?_⟩
  have hx3 := k3 _ _ (k1 _ _ hx)
  refine wpAny_call (mw_call (by rw [hmwo]; exact e3) hx3 h0 (k3 _ _ (X1 _ _ hlC)) fun h4 tp e4 k4 => ?_)
  show _root_.PySem.wpAt _ _ _ _ _ _ _
  have hxL : x ≠ h.objs.size := hlt hx
  have k5 : ∀ b o, b ≠ x → h1.get? b = some o → h4.get? b = some o := fun b o hb e => k4 b o hb (k3 _ _ e)
  obtain ⟨oL, esL, epL, eL, rL⟩ := ns1
  have ns4 : h4.Ns h.objs.size m := ⟨oL, esL, epL, k5 _ _ hxL.symm eL, rL⟩
  have X4 : K.In h4 := fun b o e => k5 b o (fun q => by rw [q, hxK] at e; cases e) (X1 b o e)
  refine ks_wpAt_execs_cons (ks_wpAt_Assign_Attr (wpAt_of_wpAny (wpAny_Name (wpAny_loadName_local rfl T.lA ns4 mA (wpAny_Name (wpAny_loadName_local rfl hself ns4 mS ?_) (by decide))) T.nd)))
  refine st_attr X4 T.sto e4 rfl rfl (fun c e => nomatch e) fun h6 dx tk6 e6 ne6 n6 s6 k6 => ?_
  show _root_.PySem.wpAt _ _ _ (execs [] _) _ _ _
  have kk : ∀ b o, b ≠ x → h.get? b = some o → h4.get? b = some o := fun b o hb e => k5 b o hb (k1 _ _ e)
  refine wpAt_of_wpAny (wpAny_execs_nil ⟨rfl, hq h6 tk6 dx tp e6 ne6 ?_ s6 fun b o hb e => k6 b o hb (kk b o hb e)⟩)
  cases z : h.get? dx with
  | none => rfl
  | some o => rw [kk dx o ne6 z] at n6; cases n6
end
end L2

/-! raise of an own exception with an __init__. -/
namespace L2
open PySem PySem.Spec PyProof.Rows Xc PySem.W
section
variable {prog : Program} {w : World} {A : Around} {E : Value → Shared → Prop} {h : Heap} {g : Array GenState} {d : Drawn} {t : Nat} {os : OsState} {env : Env} {s : Shared}
variable {nm q : Str} {C N : Addr} {bs bm bmB : List Value} {hdct : Bool} {sn : List Str} {sub : List Value} {ab : Bool} {col : Option Bool} {dd : Option Addr} {k0 k1 k2 k3 k5 : Option Value} {B newId initId : String}
theorem tc_init (F : ExcBaseFacts B newId initId bmB) (T : OwnTail h bmB bm) {mN : Str → Option Value} {rest : List Value} {fI : Addr} {oI : Obj} {Q : Fin → Shared → Prop}
    (hC : h.get? C = some (excClassObj nm q C N bs bm hdct sn sub ab col dd k0 k1 k2 k3 k5 newId)) (hn : h.Ns N mN) (hi : mN "__init__" = some (.ref fI)) (hfI : h.get? fI = some oI) (hfc : oI.cls = .type "function")
    (hq : ∀ h' e, Heap.MadeExcOf h h' e (.ref C) rest → wpAny (model prog w) A (call (.ref fI) (.ref e :: rest)) (fun r s' => r = .none ∧ Q (.done (.ret (.ref e))) s') E ⟨h', g, d, t, os⟩) (hrest : rest.length ≤ sizeLine := by size_fits) :
    wpAny (model prog w) A (Builtin.«type.__call__» ⟨.ref C :: rest, []⟩) Q E ⟨h, g, d, t, os⟩ := by
  repeat (first | with_reducible refine wpAny_loadPart_at hC ?_ | with_reducible refine wpAny_madeBy_exc hC ?_ | wp_step)
  refine codeAny_call_builtin_code (Code.quiet_builtin _ F.quiet) (wpAny_check_new_subT F T hC ?_)
  refine codeAny_exc_new_subT F T hC ?_ hrest
  show wpAny _ _ _ _ _ _
  generalize hh2 : ((h.push { cls := .type "tuple", data := .seq rest.toArray }).push { cls := .ref C, data := .fields #[.ref h.objs.size, .none, .none, .none, .bool false, .none] }) = h2
  have up : ∀ b o, h.get? b = some o → h2.get? b = some o := fun b o e => by rw [← hh2]; exact Heap.get?_push_of_some _ (Heap.get?_push_of_some _ e)
  have hget : h2.get? (h.objs.size + 1) = some { cls := .ref C, data := .fields #[.ref h.objs.size, .none, .none, .none, .bool false, .none] } := by rw [← hh2]; heap_get
  have hget0 : h2.get? h.objs.size = some { cls := .type "tuple", data := .seq rest.toArray } := by rw [← hh2]; exact Heap.get?_push_of_some _ (Heap.get?_push_at rfl rfl)
  have hC1 := up _ _ hC
  have hf1 := up _ _ hfI
  have T1 := T.keeps up
  have hcC : (Value.ref C :: bm).contains (.ref C) = true := by simp
  unfold isInstance
  repeat (first | with_reducible refine wpAny_loadPart_at hget ?_ | (with_reducible refine wpAny_isSubtype_exc hC1 ?_; rw [hcC]) | wp_step)
  show wpAny _ _ (typeLookup (.ref C) _) _ _ _
  refine wpAny_typeLookup_tail hC1 (hn.keeps up) T1 F.mroIs F.init.lookup ?_
  rw [hi]
  refine wpAny_holding (wpAny_bind ?_)
  unfold bindSpecial
  refine wpAny_bind (wpAny_typeOf (T := "function") ⟨_, hf1, hfc⟩ ?_)
  rw [if_pos (by decide)]
  refine wpAny_pure (wpAny_bind (wpAny_mono (hq h2 (h.objs.size + 1) ⟨up, Heap.get?_none_of_le (Nat.le_succ _), h.objs.size, hget, Heap.get?_none_of_le (Nat.le_refl _), hget0⟩) (fun r s' hr => ?_) fun _ _ x => x))
  obtain ⟨rfl, hQ⟩ := hr
  wp_walk
  exact hQ
theorem call_init (F : ExcBaseFacts B newId initId bmB) (T : OwnTail h bmB bm) {mN : Str → Option Value} {rest : List Value} {fI : Addr} {oI : Obj} {Q : Value → Shared → Prop}
    (hC : h.get? C = some (excClassObj nm q C N bs bm hdct sn sub ab col dd k0 k1 k2 k3 k5 newId)) (hn : h.Ns N mN) (hi : mN "__init__" = some (.ref fI)) (hfI : h.get? fI = some oI) (hfc : oI.cls = .type "function")
    (hq : ∀ h' e, Heap.MadeExcOf h h' e (.ref C) rest → wpAny (model prog w) (A.under (.builtin "type.__call__" ⟨.ref C :: rest, []⟩)) (call (.ref fI) (.ref e :: rest)) (fun r s' => r = .none ∧ Q (.ref e) s') E ⟨h', g, d, t, os⟩) (hrest : rest.length ≤ sizeLine := by size_fits) :
    wpAny (model prog w) A (call (.ref C) rest) Q E ⟨h, g, d, t, os⟩ := by
  have f1 := tc_lookup
  have f2 := tc_bind (.ref C)
  have hT : (⟨h, g, d, t, os⟩ : Shared).TypeIs (.ref C) "type" := ⟨_, hC, rfl⟩
  refine wpAny_call (codeAny_of_tree ?_)
  show wpAny _ _ (callAny (.ref C) _) _ _ _
  repeat (any_goals (first | assumption | with_reducible refine wpAny_loadPart_at hC ?_ | wp_step))
  refine ⟨rfl, ?_⟩
  refine codeAny_call_builtin_at (Code.quiet_builtin _ (by decide +kernel)) entry_typeCall (wpAny_check_type_call_sub hC (tc_init (hrest := hrest) F T hC hn hi hfI hfc fun h' e hm => ?_))
  exact hq h' e hm
theorem raise_made {x : Sem Value} {Q : Flow → Shared → Prop} (hbase : bm.contains (.type "BaseException") = true) (hh : A.handled = none)
    (hx : wpAny (model prog w) A x (fun v s₁ => ∃ e vs de, v = .ref e ∧ s₁.heap.get? C = some (excClassObj nm q C N bs bm hdct sn sub ab col dd k0 k1 k2 k3 k5 newId) ∧ s₁.heap.get? e = some (exO C vs de) ∧ vs[1]? = some .none ∧ E (.ref e) s₁) E s) :
    wpAny (model prog w) A (raiseStmt env (some x) none) Q E s := by
  have hcB : (Value.ref C :: bm).contains (.type "BaseException") = true := by rw [List.contains_cons, hbase, Bool.or_true]
  unfold raiseStmt
  refine wpAny_bind (wpAny_mono hx (fun v s₁ h₁ => ?_) fun _ _ x => x)
  obtain ⟨e, vs, de, rfl, hC, he, v1, hE⟩ := h₁
  obtain ⟨hp, g, d, tk, os⟩ := s₁
  repeat (first | with_reducible refine wpAny_loadPart_at he ?_ | with_reducible refine wpAny_loadPart_at hC ?_ | (with_reducible refine wpAny_isSubtype_exc hC ?_; rw [hcB]) | wp_step)
  rw [v1]
  refine wpAny_pure ?_
  rw [if_neg (by decide)]
  exact wpAny_pure (wpAny_raiseNew_none hh hE)
theorem raise_init (F : ExcBaseFacts B newId initId bmB) {x : Str} {np cpos pos : Pos} {args : List Expr} {Q : Flow → Shared → Prop} {fI : Addr}
    (hbase : bm.contains (.type "BaseException") = true) (hh : A.handled = none) (hplain : (backTo cpos (starEach args env)).any (·.1) = false)
    (hx : wpAny (model prog w) A (eval (.Name x np) env) (fun f s₁ => f = .ref C ∧ wpAny (model prog w) A (evalArgs (.ref C) true (backTo cpos (starEach args env)) [])
      (fun a s₂ => a.kw = [] ∧ a.pos.length ≤ sizeLine ∧ s₂.heap.get? C = some (excClassObj nm q C N bs bm hdct sn sub ab col dd k0 k1 k2 k3 k5 newId) ∧ OwnTail s₂.heap bmB bm ∧ (∃ mN, s₂.heap.Ns N mN ∧ mN "__init__" = some (.ref fI)) ∧ (∃ oI, s₂.heap.get? fI = some oI ∧ oI.cls = .type "function") ∧
        ∀ h' e, Heap.MadeExcOf s₂.heap h' e (.ref C) a.pos → wpAny (model prog w) (A.under (.builtin "type.__call__" ⟨.ref C :: a.pos, []⟩)) (call (.ref fI) (.ref e :: a.pos)) (fun r s' => r = .none ∧ ∃ vs de, s'.heap.get? C = some (excClassObj nm q C N bs bm hdct sn sub ab col dd k0 k1 k2 k3 k5 newId) ∧ s'.heap.get? e = some (exO C vs de) ∧ vs[1]? = some .none ∧ E (.ref e) s') E { s₂ with heap := h' }) E s₁) E s) :
    wpAny (model prog w) A (exec (.Raise (some (.Call (.Name x np) args [] cpos)) none pos) env) Q E s := by
  rw [arm_exec_Raise]
  first
    | refine wpAny_bind (wpAny_standAt (raise_made (C := C) (nm := nm) (q := q) (N := N) (bs := bs) (bm := bm) (hdct := hdct) (sn := sn) (sub := sub) (ab := ab) (col := col) (dd := dd) (k0 := k0) (k1 := k1) (k2 := k2) (k3 := k3) (k5 := k5) (newId := newId) hbase hh (wpAny_bind (wpAny_mono (wpAny_Call_ofName (wpAny_mono hx (fun f s₁ h₁ => ?_) fun _ _ x => x)) (fun v s₃ h₃ => wpAny_bind (wpAny_standAt (wpAny_pure h₃))) fun _ _ x => x))))
    | (simp only [evalOpt, Option.map]; refine wpAny_bind (wpAny_standAt (raise_made (C := C) (nm := nm) (q := q) (N := N) (bs := bs) (bm := bm) (hdct := hdct) (sn := sn) (sub := sub) (ab := ab) (col := col) (dd := dd) (k0 := k0) (k1 := k1) (k2 := k2) (k3 := k3) (k5 := k5) (newId := newId) hbase hh (wpAny_bind (wpAny_mono (wpAny_Call_ofName (wpAny_mono hx (fun f s₁ h₁ => ?_) fun _ _ x => x)) (fun v s₃ h₃ => wpAny_bind (wpAny_standAt (wpAny_pure h₃))) fun _ _ x => x)))))
  obtain ⟨rfl, h₁⟩ := h₁
  unfold callWith
  refine wpAny_bind (wpAny_holding (wpAny_mono h₁ (fun a s₂ h₂ => wpAny_bind (wpAny_standAt ?_)) fun _ _ x => x))
  obtain ⟨apos, akw⟩ := a
  obtain ⟨hkw, hlen, hC, T, ⟨mN, hn, hi⟩, ⟨oI, hfI, hfc⟩, h₂⟩ := h₂
  obtain rfl : akw = [] := hkw
  obtain ⟨hp, g, d, tk, os⟩ := s₂
  simp only [hplain]
  refine wpAny_bind (wpAny_keeperOf_exc hC ?_)
  refine wpAny_bind (call_init (hrest := hlen) F T hC hn hi hfI hfc fun h' e hm => wpAny_mono (h₂ h' e hm) (fun r s' hr => ⟨hr.1, ?_⟩) fun _ _ x => x)
  obtain ⟨_, vs, de, hC', he', v1, hE⟩ := hr
  exact wpAny_bind (wpAny_holding (wpAny_point (wpAny_pure ⟨e, vs, de, rfl, hC', he', v1, hE⟩)))
end
end L2

/-! the rule for raise of an own exception with an __init__. -/
namespace L2
open PySem PySem.Spec PyProof.Rows Xc
section
variable {P : Program} {w : World} {K : PySem.W.Frag} {mg : Str → Option Value} {base : Heap} {N : List Str} {qual : Str} {scope : Scope} {f : Addr} {cd : Value} {A : Around} {outer : List Env} {s0 : Shared} {H0 : Hp} {E0 : XK}
/-- a new exception leaves the def -/
theorem out1 {pins : List (Addr × Obj)} {σ : St} {H2 Hn : Hp} {s2 : Shared} {h' : Heap} {tk : Nat} {e C : Addr} {vs : Array Value} {dd : Option Addr} (I2 : Inv (cxOf (CX1 P w) P w K mg base N qual scope f cd A outer s0 H0 E0) pins σ H2 s2) (kp : ∀ b o, s2.heap.get? b = some o → h'.get? b = some o) (nx : s2.heap.get? e = none)
    (ex : h'.get? e = some (exO C vs dd)) (v1 : vs[1]? = some .none) (ho : ∀ b o, s2.heap.get? b = some o → Hn b = H2 b) (k1 : HOk P w Hn h') (he : Hn e = some (.ext (IsEx e C dd))) (hE : E0 (.ref C) (some e) Hn) :
    (cxOf (CX1 P w) P w K mg base N qual scope f cd A outer s0 H0 E0).xe (.ref e) { s2 with heap := h', toks := tk } := by
  show wpAny (model P w) (A.deeper (envOfC qual scope s0.heap.objs.size f cd)) (leaving (envOfC qual scope s0.heap.objs.size f cd) (.ref e)) _ _ _
  have fr : s2.heap.FunFrames base (envOfC qual scope s0.heap.objs.size f cd :: outer) := I2.stack
  have fr' : h'.FunFrames base (envOfC qual scope s0.heap.objs.size f cd :: outer) := fr.of_keeps fun b o hb _ => ⟨o, kp b o hb, rfl⟩
  have ff : ∀ b ∈ frs (envOfC qual scope s0.heap.objs.size f cd :: outer), H2 b = none := I2.stkFree
  have ffn : ∀ b ∈ frs (envOfC qual scope s0.heap.objs.size f cd :: outer), Hn b = none := fun b hb => by
    obtain ⟨_, o, hbo, _⟩ := fr.mem hb
    rw [ho b o hbo]
    exact ff b hb
  refine leave_first (s := { s2 with heap := h', toks := tk }) I2.ok.frames fr' rfl ex v1 fun h3 T W nT e3 t3 neT => ?_
  have back : ∀ b, s2.heap.get? b = none → s0.heap.get? b = none := fun b hb => by
    cases z : s0.heap.get? b with
    | none => rfl
    | some o =>
      obtain ⟨o', e'⟩ := I2.base.there b o z (by simp [cxOf])
      rw [hb] at e'
      cases e'
  have nT2 : s2.heap.get? T = none := by
    cases z : s2.heap.get? T with
    | none => rfl
    | some o => have := kp _ _ z; rw [show h'.get? T = none from nT] at this; cases this
  have u2 : Un (frs outer) [] H0 H2 s0.heap h' := Un.trans (show Un (frs outer) [] H0 H2 s0.heap s2.heap from I2.base) (Un.kept kp)
  have trk : ∀ b o, H2 b = some o → Hn b = some o := fun b o q => by
    obtain ⟨u, hu⟩ : ∃ u, s2.heap.get? b = some u := by
      cases z : s2.heap.get? b with
      | some u => exact ⟨u, rfl⟩
      | none => rw [hok_none I2.hok z] at q; cases q
    rw [ho b u hu]; exact q
  have u3 : Un (frs outer) [] H0 Hn s0.heap h' := ⟨u2.keep, u2.slot, fun b o q n hb => by
      obtain ⟨u, hu⟩ : ∃ u, s2.heap.get? b = some u := by
        obtain ⟨o', e'⟩ := I2.base.there b o q (by simp [cxOf])
        exact ⟨o', e'⟩
      rw [ho b u hu]
      exact u2.free b o q n hb, u2.there, fun b xs q => trk _ _ (u2.tups b xs q), fun b o u q => trk _ _ (u2.frzs b o u q), fun b ps q => by
    obtain ⟨m, em⟩ := u2.tbls b ps q
    exact ⟨m, trk _ _ em⟩⟩
  have k3 : HOk P w Hn h3 := hok_way k1 W ffn (fun b hb => by cases hb) he ⟨_, e3⟩
  have W' : Way (frs outer) e [s0.heap.objs.size] h' h3 := by
    refine ⟨fun b o b1 b2 b3 eb => W.keep b o b1 (fun m => ?_) (by simp) eb, fun b o b1 b2 b3 eb => W.slot b o ?_ b2 (by simp) eb⟩
    · have : b ∈ s0.heap.objs.size :: frs outer := m
      rcases List.mem_cons.mp this with z | z
      · exact b3 (by simp [z])
      · exact b2 z
    · exact List.mem_cons_of_mem _ b1
  have u4 : Un (frs outer) [] H0 Hn s0.heap h3 := un_way u3 W' (back e nx) fun b hb => by
    rw [List.mem_singleton.mp hb]
    exact Heap.get?_none_of_le (Nat.le_refl _)
  have e1s : 1 < vs.size := (Array.getElem?_eq_some_iff.mp v1).1
  refine ⟨e, C, T, dd, _, Hn, rfl, I2.os, I2.bare, u4, k3, back e nx, he, e3, by simp [e1s], t3, neT, back T nT2, ?_, hE⟩
  cases z : Hn T with
  | none => rfl
  | some o =>
    have := hok_none k1 nT
    rw [z] at this
    cases this
theorem nsv_of {K : PySem.W.Frag} {h : Heap} {NN : Addr} {m : Str → Option Value} {n : Str} {v : Value} (X : K.In h) (G : h.Ns NN m) (e : PySem.W.nsIn K NN n = some (some v)) : m n = some v := by
  obtain ⟨o, es, ep, ho, hd, _, hf⟩ := G
  unfold PySem.W.nsIn at e
  split at e
  · rename_i c d es' n' sl q
    have e2 := (X _ _ q).symm.trans ho
    cases e2
    cases hd
    split at e
    · rename_i en hen
      cases e
      rw [← hf]
      unfold nsFind findBy
      rw [← Array.find?_toList, hen]
      rfl
    · split at e <;> cases e
  · cases e
/-- how an own class of exceptions with an __init__ lies in the fragment -/
structure RaiseI (P : Program) (K : PySem.W.Frag) (C S : Addr) (a : Str) : Prop where
  ini : ∃ fI, Ini P K C S fI a ∧ ∃ nm q NN bs sn sub ab col dd k0 k1 k2 k3 k5, K.lookup C = some (excClassObj nm q C NN bs (.ref S :: bmV) true sn sub ab col dd k0 k1 k2 k3 k5 "ValueError.__new__") ∧
    PySem.W.tailIn K bmV (.ref S :: bmV) = true ∧ PySem.W.nsOkIn K NN = true ∧ PySem.W.nsIn K NN "__init__" = some (some (.ref fI))
/-- a value that an own exception keeps -/
def Kept : V → Prop
  | .str y => y.length ≤ 1000000
  | .int i => i.natAbs.log2 < 1920
  | _ => False
theorem kept_fmt {v : V} {u : Value} (h : Kept v) (r : RelV v u) : Fmt u := by
  cases v with
  | str y => obtain ⟨t, rfl⟩ := r; exact .inl ⟨y, t, rfl, h⟩
  | int i => obtain ⟨t, rfl⟩ := r; exact .inr ⟨i, t, rfl, h⟩
  | _ => exact h.elim
def tRaiseI (C : Addr) (a : Str) (E : XK) (t : TA) : TS := fun D σ H => t σ H fun vs H1 => ∃ v, vs = [v] ∧ Kept v ∧ ∀ y dx, H1 y = none → H1 dx = none → dx ≠ y → E (.ref C) (some y) (upd (upd H1 dx (.xd [(a, v)])) y (.ext (IsEx y C (some dx))))
theorem braiseI {k : Nat} {C S : Addr} {x a : Str} {np cpos pos : Pos} {e₀ : Expr} {t : TA} (hC : RaiseI P K C S a) (hr : Room (k + 1) (A.deeper (envOfC qual scope s0.heap.objs.size f cd))) (hgs : mg "super" = none) (hg : Gl (cxOf (CX1 P w) P w K mg base N qual scope f cd A outer s0 H0 E0) x) (hm : mg x = some (.ref C)) (ha : SA (cxOf (CX1 P w) P w K mg base N qual scope f cd A outer s0 H0 E0) [e₀] t)
    (he : starEach [e₀] (cxOf (CX1 P w) P w K mg base N qual scope f cd A outer s0 H0 E0).env = [(false, eval e₀ (cxOf (CX1 P w) P w K mg base N qual scope f cd A outer s0 H0 E0).env)]) (hdb : (x == ("__debug__" : Str)) = false) :
    SS1 (cxOf (CX1 P w) P w K mg base N qual scope f cd A outer s0 H0 E0) (.Raise (some (.Call (.Name x np) [e₀] [] cpos)) none pos) (tRaiseI C a E0 t) := by
  refine ⟨fun pins s σ H D I h => ?_⟩
  obtain ⟨fI, T, nm, q, NN, bs, sn, sub, ab, col, dd, k0, k1, k2, k3, k5, hl, ht, hok, hin⟩ := hC.ini
  obtain ⟨mb, hmb, hmb2⟩ := I.mod.blt
  refine raise_init (C := C) (nm := nm) (q := q) (N := NN) (bs := bs) (bm := .ref S :: bmV) (hdct := true) (sn := sn) (sub := sub) (ab := ab) (col := col) (dd := dd) (k0 := k0) (k1 := k1) (k2 := k2) (k3 := k3) (k5 := k5) (fI := fI)
    PySem.F.excBase_ValueError (by simp) (I.ok.hd rfl) (by rw [he]; rfl) (ld_glob I hg hm ⟨rfl, ?_⟩ hdb)
  rw [he]
  refine Calls.evalArgs_plain (wpAny_mono (by have := ha.o cpos pins s σ H _ I h; rw [he] at this; exact this) (fun us s2 z => ?_) fun _ _ y => y)
  obtain ⟨vs, H2, I2, r2, v, rfl, hkv, q2⟩ := z
  have ns0 : base.Ns NN (base.nsMap NN) := .of_isNs (PySem.W.isNs_of_in I.mod.kin hok)
  cases r2 with
  | cons rv r2 =>
    cases r2
    rename_i u
    obtain ⟨qual', c1, c2, p1, p2, p3, p4, p5, p6, p7, p8, p9, p10, q0, q1, q2', q3, r1', r2', kV, doc, pm, an, cda, ct, cc, od, sl, hc12, hline, hlk, hrest⟩ := T.lk
    refine ⟨rfl, by show 1 ≤ sizeLine; decide, I2.kIn _ _ hl, PySem.W.tail_of_in I2.kIn ht, ⟨base.nsMap NN, ns0.keeps I2.bk, ?_⟩, ⟨_, I2.kIn _ _ hlk, rfl⟩, fun h' e hx => ?_⟩
    · exact nsv_of I.mod.kin ns0 hin
    · have nx : s2.heap.get? e = none := hx.new
      have ny : H2 e = none := hok_none I2.hok nx
      obtain ⟨tp, ex, ntp, _⟩ := hx.there
      have up : ∀ b o, base.get? b = some o → h'.get? b = some o := fun b o eb => hx.keeps _ _ (I2.bk b o eb)
      have hxK : K.lookup e = none := by
        cases z : K.lookup e with
        | none => rfl
        | some o => have := I2.kIn _ _ z; rw [nx] at this; cases this
      refine wpAny_call (ini_call (s := { s2 with heap := h' }) (mg := mg) (mb := mb) T (fun b o eb => hx.keeps _ _ (I2.kIn b o eb)) (I2.mod.nolimit.keeps up) (I2.mod.glob.keeps up) (hmb.keeps up) hgs ((hmb2 "super" (by decide)).trans ?_) ex hxK (by simp) ?_ (kept_fmt hkv rv) fun h4 tk dx tp' e4 ne4 n4 s4 k4 => ⟨rfl, _, some dx, ?_, e4, rfl, ?_⟩)
      · first | boot_by_name | rfl | kernel_rfl
      · exact (hr.make C [u] []).depth
      · exact k4 C _ (fun q => by have := I2.kIn _ _ hl; rw [q, nx] at this; cases this) (hx.keeps _ _ (I2.kIn _ _ hl))
      · have kp4 : ∀ b o, s2.heap.get? b = some o → h4.get? b = some o := fun b o eb => k4 b o (fun z => by rw [z, nx] at eb; cases eb) (hx.keeps _ _ eb)
        have nd2 : s2.heap.get? dx = none := by
          cases z : s2.heap.get? dx with
          | none => rfl
          | some o => have := hx.keeps _ _ z; rw [show h'.get? dx = none from n4] at this; cases this
        have nd : H2 dx = none := hok_none I2.hok nd2
        refine out1 (s2 := s2) (tk := tk) (Hn := upd (upd H2 dx (.xd [(a, v)])) e (.ext (IsEx e C (some dx)))) I2 kp4 nx e4 rfl (fun b o eb => ?_) (fun b o eb => ?_) upd_same (q2 e dx ny nd ne4)
        · rw [upd_ne (fun z => by rw [z, nx] at eb; cases eb), upd_ne (fun z => by rw [z, nd2] at eb; cases eb)]
        · by_cases z : b = e
          · subst z
            rw [upd_same] at eb
            cases eb
            exact ex_ok ⟨_, e4⟩
          · rw [upd_ne z] at eb
            by_cases z2 : b = dx
            · subst z2
              rw [upd_same] at eb
              cases eb
              refine ⟨_, s4, fun fl => ?_⟩
              by_cases z3 : fl = a
              · subst z3
                simp only [if_true, List.lookup_cons, beq_self_eq_true]
                exact rv
              · have : (fl == a) = false := by rw [beq_eq_false_iff_ne]; exact z3
                simp only [if_neg z3, List.lookup_cons, this, List.lookup_nil]
                trivial
            · rw [upd_ne z2] at eb
              refine (show ObjOk P w H2 s2.heap b o from I2.hok b o eb).stay (fun c u _ ec => kp4 c u ec) (fun c qc => ?_) fun c xs qc => ?_
              all_goals (rw [upd_ne (fun zz => by rw [zz, ny] at qc; cases qc), upd_ne (fun zz => by rw [zz, nd] at qc; cases qc)]; exact qc)
end
end L2

/-! isinstance of an own exception that keeps something; what it keeps. -/
namespace L2
open PySem PySem.Spec PyProof.Rows Xc PySem.W
open PySem.Builtin PySem.Builtin.ObjectAttr
/-- an exception with its dict -/
def IsEd (y C dx : Addr) : Heap → Prop := fun h => (∃ vs, h.get? y = some (exO C vs (some dx))) ∧ ∃ o, h.get? dx = some o
section
variable {prog : Program} {w : World} {A : Around} {E : Value → Shared → Prop} {K : Frag} {h : Heap} {g : Array GenState} {d : Drawn} {t : Nat} {os : OsState} {y C dx : Addr} {vs : Array Value} {od : Obj}
theorem ed_inst (he : h.get? y = some (exO C vs (some dx))) (hd : h.get? dx = some od) : InstAt h y (exO C vs (some dx)) C (some od) := ⟨he, rfl, rfl, hd⟩
theorem ed_class_entry {tk : Tok} {Q : Fin → Shared → Prop} (X : K.In h) (a : ExA K C) (he : h.get? y = some (exO C vs (some dx))) (hd : h.get? dx = some od) (hq : Q (.done (.ret (.ref C))) ⟨h, g, d, t, os⟩) :
    wpAny (model prog w) A (Builtin.«object.__getattribute__» ⟨[.ref y, .str "__class__" tk], []⟩) Q E ⟨h, g, d, t, os⟩ := by
  have hT5 : (⟨h, g, d, t, os⟩ : Shared).TypeIs (.builtin "object.__class__") "getset_descriptor" := F.typeOf_object_class
  have f5 := F.typeOf_object_class
  have f6 := F.slot_gs_get.lookup
  have f7 := F.slot_gs_set.lookup
  have L1 := looks_findIn (M := model prog w) X a.ca
  repeat (any_goals (first | assumption | (with_reducible refine wpAny_loadPart_at he ?_) | (with_reducible refine L1.at ?_) | wp_step))
  refine class_get (s := ⟨h, g, d, t, os⟩) X (ed_inst he hd) a.ob ?_
  repeat (any_goals (first | assumption | wp_step))
theorem ed_check {nameV : Value} {Q : Unit → Shared → Prop} {dd : Option Addr} (X : K.In h) (a : ExA K C) (he : h.get? y = some (exO C vs dd)) (hq : Q () ⟨h, g, d, t, os⟩) : wpAny (model prog w) A (checkBuiltinCall "BaseException.__getattribute__" ⟨[.ref y, nameV], []⟩) Q E ⟨h, g, d, t, os⟩ := by
  have hk : builtinKind "BaseException.__getattribute__" = some .slot := by decide +kernel
  have hsplit : splitId "BaseException.__getattribute__" = some ("BaseException", "__getattribute__") := by decide +kernel
  have ha := F.args_bexc_ga (.ref y) nameV
  have L1 := looks_mroIn (M := model prog w) X a.be
  simp only [checkBuiltinCall, hk, hsplit]
  refine wpAny_bind ?_
  · unfold isInstance
    repeat (first | (with_reducible refine wpAny_loadPart_at he ?_) | (with_reducible refine L1.at ?_) | wp_step)
    exact hq
/-- any attribute, by what object.__getattribute__ tells -/
theorem ed_by {name : Str} {tk : Tok} {fill expr : Bool} {Q : Value → Shared → Prop} {dd : Option Addr} {v : Value} (X : K.In h) (a : ExA K C) (he : h.get? y = some (exO C vs dd))
    (hen : ∀ {R : Fin → Shared → Prop} {E' : Value → Shared → Prop} {A' : Around}, R (.done (.ret v)) ⟨h, g, d, t, os⟩ → wpAny (model prog w) A' (Builtin.«object.__getattribute__» ⟨[.ref y, .str name tk], []⟩) R E' ⟨h, g, d, t, os⟩) (hv : ∀ id, v ≠ .builtin id) (hq : Q v ⟨h, g, d, t, os⟩) :
    wpAny (model prog w) A (getAttrBy (.ref y) (.str name tk) fill expr) Q E ⟨h, g, d, t, os⟩ := by
  have f3 := F.excAttr_ValueError.ga.bind (.ref y)
  have hx0 : (expr && onTheHeap (Value.builtin "BaseException.__getattribute__")) = false := by cases expr <;> rfl
  have hx2 : (Value.builtin "BaseException.__getattribute__" == Value.builtin "object.__getattribute__") = false := by decide +kernel
  have hx1 : (onTheHeap (Value.ref C) && Value.builtin "BaseException.__getattribute__" == Value.builtin "object.__getattribute__") = false := by rw [hx2]; rfl
  have L1 := looks_findIn (M := model prog w) X a.ga
  have L2 := looks_findIn (M := model prog w) X a.na
  repeat (any_goals (first | assumption | (with_reducible refine wpAny_loadPart_at he ?_) | (with_reducible refine L1.at ?_) | (with_reducible refine L2.at ?_) | wp_step))
  refine codeAny_call_builtin F.excAttr_ValueError.ga.plain F.entry_bexc_ga (ed_check X a he (hen ?_))
  repeat (any_goals (first | assumption | wp_step))
  cases v <;> first | exact wpAny_pure hq | exact absurd rfl (hv _)
theorem ed_class_attr {Q : Option Value → Shared → Prop} (X : K.In h) (a : ExA K C) (he : h.get? y = some (exO C vs (some dx))) (hd : h.get? dx = some od) (hq : Q (some (.ref C)) ⟨h, g, d, t + 1, os⟩) : wpAny (model prog w) A (getAttr? (.ref y) "__class__") Q E ⟨h, g, d, t, os⟩ := by
  unfold getAttr? getAttrBy?
  repeat (any_goals (first | assumption | with_reducible apply ed_by X a he (fun z => ed_class_entry X a he hd z) (fun _ q => nomatch q) | wp_step))
/-- in its own dict -/
theorem ed_own {M : Model} {name : Str} {m : Str → Option Value} {u : Value} {cdC : ClassData} (X : K.In h) (hc : clsIn K C = some cdC) (hh : cdC.hasDict = true) (he : h.get? y = some (exO C vs (some dx))) (hn : h.Ns dx m) (hu : m name = some u) : Looks M h (inOwnDict name (.ref y)) (some u) := by
  have L := looks_clsIn (M := M) X hc
  intro A Q E s k q
  refine wpAny_bind (wpAny_bind (wpAny_loadPart (k _ _ he) ?_))
  show wpAny M A (instanceDict y false) _ _ _
  unfold instanceDict
  refine wpAny_bind (wpAny_loadPart (k _ _ he) ?_)
  dsimp only
  refine wpAny_bind (L A _ E s k ?_)
  rw [hh, if_neg (by simp)]
  refine wpAny_pure (a := some dx) ?_
  refine wpAny_nsGet (hn.keeps k) ?_
  rw [hu]
  exact q
theorem ed_word_entry {name : Str} {tk : Tok} {Q : Fin → Shared → Prop} {m : Str → Option Value} {u : Value} {cdC : ClassData} (X : K.In h) (hc : clsIn K C = some cdC) (hh : cdC.hasDict = true) (no : findIn K (.ref C) name = some none) (he : h.get? y = some (exO C vs (some dx))) (hn : h.Ns dx m) (hu : m name = some u)
    (hq : Q (.done (.ret u)) ⟨h, g, d, t, os⟩) : wpAny (model prog w) A (Builtin.«object.__getattribute__» ⟨[.ref y, .str name tk], []⟩) Q E ⟨h, g, d, t, os⟩ := by
  have L1 := looks_findIn (M := model prog w) X no
  have L3 := ed_own (M := model prog w) X hc hh he hn hu
  repeat (any_goals (first | assumption | (with_reducible refine wpAny_loadPart_at he ?_) | (with_reducible refine L1.at ?_) | (with_reducible refine L3.at ?_) | wp_step))
  all_goals trace_state
theorem ed_word {name : Str} {Q : Value → Shared → Prop} {m : Str → Option Value} {u : Value} {cdC : ClassData} {expr : Bool} (X : K.In h) (a : ExA K C) (hc : clsIn K C = some cdC) (hh : cdC.hasDict = true) (no : findIn K (.ref C) name = some none) (he : h.get? y = some (exO C vs (some dx))) (hn : h.Ns dx m) (hu : m name = some u)
    (hv : ∀ id, u ≠ .builtin id) (hq : Q u ⟨h, g, d, t + 1, os⟩) : wpAny (model prog w) A (getAttr (.ref y) name expr) Q E ⟨h, g, d, t, os⟩ := by
  unfold getAttr
  refine wpAny_bind (wpAny_mkText ?_)
  exact ed_by X a he (fun z => ed_word_entry X hc hh no he hn hu z) hv hq
end
theorem kitx_ed {K : Frag} {y C dx : Addr} {bm : List Value} (hC : ExC K C bm) (a : ExA K C) : KitX K (.ref y) (.ref C) (IsEd y C dx) where
  ty := fun M h _ ⟨⟨vs, he⟩, od, hd⟩ => (ed_inst he hd).type
  it := fun M h X _ => by
    obtain ⟨nm, q, N, bs, hdct, sn, sub, ab, col, dd, k0, k1, k2, k3, k5, newId, ho⟩ := hC
    intro A' Q' E' s' k q
    unfold isType loadHead
    exact wpAny_bind (wpAny_loadPart (k _ _ (X _ _ ho)) (wpAny_pure q))
  ne := fun h tp dd its n sl X htp => by
    obtain ⟨nm, q, N, bs, hdct, sn, sub, ab, col, dd, k0, k1, k2, k3, k5, newId, ho⟩ := hC
    refine Bool.eq_false_iff.mpr fun q => ?_
    have e : C = tp := Value.ref.inj (beq_iff_eq.mp q)
    subst e
    have z : Value.type "type" = Value.type "tuple" := congrArg Obj.cls (Option.some.inj ((X _ _ ho).symm.trans htp))
    injection z with z
    exact absurd z (by decide)
  ca := fun {prog w A E Q s} X ⟨⟨vs, he⟩, od, hd⟩ k => by
    obtain ⟨h, g, d, t, os⟩ := s
    exact ed_class_attr X a he hd k
/-- isinstance(e, c), e an own exception that keeps something -/
def rIsXd (K : Frag) : List V → Hp → VK → Prop := fun vs H Q => ∃ (y C dx : Addr) (fs : List (Str × V)) (bm : List Value) (c : V) (u : Value) (b : Bool), vs = [.ref y, c] ∧ H y = some (.ext (IsEx y C (some dx))) ∧ H dx = some (.xd fs) ∧ ExC K C bm ∧ ExA K C ∧ (∀ u', RelV c u' → u' = u) ∧ kitOne K (.ref C) u = some b ∧ Q (.bl b) H
theorem xd_there {P : Program} {w : World} {H : Hp} {h : Heap} {dx : Addr} {fs : List (Str × V)} (k : HOk P w H h) (e : H dx = some (.xd fs)) : ∃ mA, h.Ns1 dx mA ∧ (∀ f, RelO (fs.lookup f) (mA f)) ∧ ∃ o, h.get? dx = some o := by
  obtain ⟨mA, hn, hr⟩ := k dx _ e
  obtain ⟨o, _, _, eo, _⟩ := id hn
  exact ⟨mA, hn, hr, o, eo⟩
theorem cr_isXd {X : Cx} : CallR X (.builtin "isinstance") (rIsXd X.K) := by
  intro pins s σ H vs us Q I r h
  obtain ⟨y, C, dx, fs, bm, c, u, b, rfl, hy, hdx, hC, a, hu, hb, q⟩ := h
  obtain ⟨mA, _, _, od⟩ := xd_there I.hok hdx
  cases r with
  | cons r1 rr =>
    cases rr with
    | cons r2 rr =>
      cases rr
      cases r1
      rw [hu _ r2]
      exact kia_one (H := IsEd y C dx) (kitx_ed hC a) I.kIn ⟨(I.hok y _ hy).1, od⟩ hb (fun z => nomatch z) fun tk => ⟨.bl b, H, I.kept (fun _ _ e => e), rfl, q⟩
/-- isinstance(e, c), e an own exception of either make -/
def rIsXx (K : Frag) : List V → Hp → VK → Prop := fun vs H Q => rIsX K vs H Q ∨ rIsXd K vs H Q
/-- how what is kept is looked up -/
structure ExW (K : Frag) (C : Addr) (name : Str) : Prop where
  cd : ∃ cd, clsIn K C = some cd ∧ cd.hasDict = true
  no : findIn K (.ref C) name = some none
/-- e.name, e an own exception -/
def tXw (K : Frag) (ta : TE) (name : Str) : TE := fun σ H Q => ta σ H fun x H1 => ∃ y C dx fs v, x = .ref y ∧ H1 y = some (.ext (IsEx y C (some dx))) ∧ H1 dx = some (.xd fs) ∧ ExA K C ∧ ExW K C name ∧ fs.lookup name = some v ∧ Kept v ∧ Q v H1
theorem exw {X : Cx} {e : Expr} {name : Str} {pos : Pos} {ta : TE} (he : SE X e ta) (hb : attributeBase e name X.env (eval e X.env) = eval e X.env) : SE X (.Attribute e name pos) (tXw X.K ta name) := by
  refine ⟨fun pins s σ H Q I h => ?_⟩
  refine attr_of hb (thn (he.o pins s σ H _ I h) fun u s1 ⟨x, H1, I1, rx, y, C, dx, fs, v, ex, hy, hdx, a, ⟨⟨cd, hcd, hh⟩, no⟩, hl, hk, q⟩ => ?_)
  subst ex
  obtain rfl : u = Value.ref y := rx
  obtain ⟨mA, hn, hr, _⟩ := xd_there I1.hok hdx
  obtain ⟨⟨vs, hey⟩, _⟩ := I1.hok y _ hy
  have hr' := hr name
  rw [hl] at hr'
  obtain ⟨uv, huv, ruv⟩ : ∃ uv, mA name = some uv ∧ RelV v uv := by
    cases z : mA name with
    | none => rw [z] at hr'; exact hr'.elim
    | some uv => rw [z] at hr'; exact ⟨uv, rfl, hr'⟩
  have hv : ∀ id, uv ≠ .builtin id := fun id q => by
    rcases kept_fmt hk ruv with ⟨_, _, rfl, _⟩ | ⟨_, _, rfl, _⟩ <;> cases q
  obtain ⟨hh1, g1, d1, t1, os1⟩ := s1
  refine ed_word I1.kIn a hcd hh no hey hn.ns huv hv ⟨v, H1, ?_, ruv, q⟩
  exact I1.kept fun _ _ e => e
end L2

/-! list.insert; a call by a local name within try. -/
namespace L2
open PySem PySem.Spec PyProof.Rows Xc
section
variable {X : Cx}
def rInsert : V → List V → Hp → VK → Prop := fun x vs H Q => ∃ l xs k y, x = .ref l ∧ vs = [.int (k : Nat), y] ∧ H l = some (.lst xs) ∧ k ≤ xs.length ∧ xs.length < 1000000 ∧ Q .non (upd H l (.lst (xs.take k ++ y :: xs.drop k)))
theorem mt_insert : MtM X "list.insert" rInsert := by
  intro pins s σ H x vs v us Q I rx rv h
  obtain ⟨l, xs, k, y, rfl, rfl, hH, hk, hz, q⟩ := h
  cases rx
  cases rv with
  | cons r1 rr =>
    obtain ⟨u, rfl, ru⟩ := Vals.one rr
    obtain ⟨t, rfl⟩ := r1
    obtain ⟨z, its, n, r, hl, e⟩ := I.lstM hH
    have hl1 : -(2 ^ 63) ≤ ((k : Nat) : Int) := by omega
    have hl2 : ((k : Nat) : Int) < 2 ^ 63 := by omega
    have hs : sizeLine = 16777216 := sizeLine_eq
    have hf : Builtin.List.listFitsIndex ((k : Nat) : Int) = true := fitsIndex_both hl1 hl2
    obtain ⟨xi, exi⟩ : ∃ xi : Int, xi = ((k : Nat) : Int) := ⟨_, rfl⟩
    obtain ⟨ai, eai⟩ : ∃ ai : Array Value, ai = its.toArray := ⟨_, rfl⟩
    rw [← exi] at hf ⊢
    rw [← eai] at e
    have hsz : ai.size ≤ sizeLine := by rw [eai, List.size_toArray]; omega
    refine call_meets F.slot_list_insert ⟨_, e, rfl⟩ F.entry_list_insert (F.args_list_insert_3 _ _ _) (AutoSeq1.list_insert_list_int_val_1 l ai n xi t u (by rw [hf]; decide) hsz) ⟨e, ?_⟩
    rw [eai] at e
    refine ⟨.non, _, I.lset (its' := its.take k ++ u :: its.drop k) hH e ?_ ((r.take k).append (.cons ru (r.drop k))) ?_, rfl, q⟩
    · have hk' : k ≤ its.length := by omega
      show (its.toArray.extract 0 (if xi < 0 then (xi + (its.toArray.size : Int)).toNat else min xi.toNat its.toArray.size)).push u ++ its.toArray.extract (if xi < 0 then (xi + (its.toArray.size : Int)).toNat else min xi.toNat its.toArray.size) = _
      rw [if_neg (by omega), exi, Int.toNat_natCast, List.size_toArray, Nat.min_eq_left hk']
      apply Array.toList_inj.mp
      simp
      exact List.take_of_length_le (by rw [List.length_drop]; omega)
    · simp only [List.length_append, List.length_cons, List.length_take, List.length_drop]
      omega
end
section
variable {X : Cx} {pins : List (Addr × Obj)} {σ : St} {H : Hp} {s : Shared}
def tTryL (X : Cx) (k : Nat) (te : TE) (ta : TA) (n ie : Nat) (S : Addr) (ts : TS) : TS := fun D σ H => te σ H fun x H0 => ∃ f fd ps sp, x = V.ref f ∧ FnOk X.prog X.w X.K X.mg X.base (CX1 X.prog X.w) k f fd ps sp ∧ PySem.W.keepIn X.K (.ref f) = true ∧ Binds X.K fd ps [] ∧
  ta σ H0 fun vs H1 => sp vs H1 (fun v H2 => D.nx (σ.set n (some v)) H2)
  (fun cls dx H2 => ∃ C y bm, cls = .ref C ∧ dx = some y ∧ ExC X.K C bm ∧ bm.contains (.ref S) = true ∧ ts { nx := fun σ' H3 => D.nx (σ'.set ie none) H3, rt := fun _ _ => False } (σ.set ie (some (.ref y))) H2)
/-- try: x = f(e, ..) except C as n: suite, f a local name -/
theorem btryL {k : Nat} {fx x en cl : Str} {pf pc px pa pcl ph pos : Pos} {e : Expr} {es : List Expr} {b₀ : Stmt} {suite : List Stmt} {S : Addr} {bmS : List Value} {n ie : Nat} {te : TE} {ta : TA} {ts : TS}
    (hev : SE X (.Name fx pf) te) (hr : Room k X.A) (ha : SA X (e :: es) ta)
    (he : starEach (e :: es) X.env = (false, eval e X.env) :: starEach es X.env) (hpl : (backTo pc (starEach es X.env)).any (·.1) = false)
    (hno : X.xe = fun _ _ => False) (hsk : X.stack = X.env :: X.outer) (hfm : X.env.frame = some X.env.locals) (nd : X.N.Nodup) (hn : X.N[n]? = some x) (hx : Loc X.env.scope x) (hf : X.fn x = true ∨ X.env.scope.names.lookup x = some .local)
    (hsw : swapsWith (.Call (.Name fx pf) (e :: es) [] pc) (some (.Name x px)) pa.line X.env = pure false)
    (hS : ExC X.K S bmS) (hbS : bmS.contains (.type "BaseException") = true) (hgS : Gl X cl) (hmS : X.mg cl = some (.ref S)) (hdS : (cl == ("__debug__" : Str)) = false)
    (hie : X.N[ie]? = some en) (hle : X.env.scope.names.lookup en = some .local) (hts : ∀ v, SB (X.sup v) (b₀ :: suite) ts) :
    SS1 X (.Try [.Assign [.Name x px] (.Call (.Name fx pf) (e :: es) [] pc) pa] [.ExceptHandler (some (.Name cl pcl)) (some en) (b₀ :: suite) ph] [] [] pos) (tTryL X k te ta n ie S ts) := by
  refine ⟨fun pins s σ H D I h => ?_⟩
  refine wpAny_Try_except ?_
  refine wpAny_execs_cons ?_
  have key : wpAny (model X.prog X.w) X.A (eval (.Call (.Name fx pf) (e :: es) [] pc) X.env) (EP X pins σ fun v H2 => D.nx (σ.set n (some v)) H2)
      (fun ev s₁ => wpAny (model X.prog X.w) X.A (noteFrame ev X.env) (fun _ s₂ => wpAny (model X.prog X.w) X.A (setFlight ev none) (fun _ s₃ => wpAny (model X.prog X.w) X.A (handleBy ev X.env [.ExceptHandler (some (.Name cl pcl)) (some en) (b₀ :: suite) ph]) (SP X pins D) X.xe s₃) X.xe s₂) X.xe s₁) s := by
    refine wpAny_Call_Name_kw (wpAny_mono (hev.o pins s σ H _ I h) (fun u0 s0 ⟨x0, H0, I0, r0, z⟩ => ?_) (fun ev s1 z => by rw [hno] at z; exact z.elim))
    obtain ⟨f, fd, ps, sp, rfl, F, hk, hb, h0⟩ := z
    obtain rfl : u0 = Value.ref f := r0
    refine PySem.W.callWith_K (h₀ := X.base) I0.ok.mod.kin hk (wpAny_mono (ha.o pc pins s0 σ H0 _ I0 h0) (fun us s1 ⟨vs, H1, I1, r, q⟩ => ⟨I1.kIn, ?_⟩) (fun ev s1 z => by rw [hno] at z; exact z.elim)) he hpl
    have hl : us.length = ps.length := by rw [← r.length]; exact F.len _ _ _ _ q
    have hb' : BindsTo s1 fd ⟨us, []⟩ (ps.zip us) := by
      have := hb s1 us I1.kIn (by rw [List.append_nil]; exact hl)
      rw [List.append_nil] at this
      exact this
    refine wpAny_call (codeAny_mono (F.run X.A X.stack s1 H1 ⟨us, []⟩ us vs _ _ hr I1.env0 hb' r q) fun res s' hq => ?_)
    cases res with
    | error ev => exact meet hsk hfm nd hS hbS hgS hmS hdS hie hle hts hno I1 hq
    | ok fl =>
      cases fl with
      | ret u => exact I1.after hq
      | next => exact False.elim hq
      | brk => exact False.elim hq
      | cont => exact False.elim hq
  refine wpAny_Assign_Name (thn key fun v s1 ⟨y, H1, I1, r1, q1⟩ => ?_) hsw
  exact store_ok I1 nd hn hx r1 (fun s2 I2 => wpAny_execs_nil (wpAny_execs_nil ⟨_, H1, I2, q1⟩)) hf
end
end L2

namespace K05
open PySem L2
def top (i : Nat) : Stmt := PySem.Challenge.pw_eachgreatest_k05_without_and_of.main.body.getD i (.Pass ⟨0, 0, 0, 0⟩)
abbrev s_check_names : Stmt := top 7
abbrev s_web_of : Stmt := top 8
abbrev s_web_without : Stmt := top 9
abbrev s_law_deck : Stmt := top 11
abbrev s_law_take : Stmt := top 12
abbrev s_law_names : Stmt := top 13
abbrev s_law_size : Stmt := top 14
abbrev s_law_web : Stmt := top 15
abbrev s_law_some : Stmt := top 16
abbrev s_law_same : Stmt := top 17
abbrev s_law_shuffled : Stmt := top 18
abbrev s_law_caught : Stmt := top 19
abbrev s_law_wrong : Stmt := top 20
abbrev s_law_kept : Stmt := top 21
abbrev s_law_told : Stmt := top 22
abbrev s_law_right : Stmt := top 23
abbrev s_law_spoilt : Stmt := top 24
abbrev s_law : Stmt := top 25
/-- the built-in names that the text leaves alone -/
structure Tx (mg : Str → Option Value) : Prop where
  len : mg "len" = none
  sum : mg "sum" = none
  range : mg "range" = none
  sorted : mg "sorted" = none
  min : mg "min" = none
  int : mg "int" = none
  tuple : mg "tuple" = none
  isinstance : mg "isinstance" = none
  str : mg "str" = none
  bool : mg "bool" = none
  zip : mg "zip" = none
  enumerate : mg "enumerate" = none
  set : mg "set" = none
  all : mg "all" = none
  list : mg "list" = none
  max : mg "max" = none
  any : mg "any" = none
  reversed : mg "reversed" = none
/-- a def of the text that keeps its promise -/
def Own (P : Program) (w : World) (K : PySem.W.Frag) (mg : Str → Option Value) (base : Heap) (k : Nat) (x : Str) (ps : List Str) (sp : Sp) : Prop :=
  ∃ f fd, FnOk P w K mg base CX0 k f fd ps sp ∧ Binds K fd ps [] ∧ PySem.W.keepIn K (.ref f) = true ∧ mg x = some (.ref f)
/-! ### the deck: three things at d, its cells at c -/
def Deck (H : Hp) (d c : Addr) : Prop := ∃ (cells : List Int) (n sd : Int), H d = some (.lst [.ref c, .int n, .int sd]) ∧ H c = some (.lst (cells.map V.int)) ∧ 0 < cells.length
theorem Deck.ne {H : Hp} {d c : Addr} (h : Deck H d c) : d ≠ c := by
  obtain ⟨cells, n, sd, h1, h2, h3⟩ := h
  refine ne_of h1 h2 fun e => ?_
  cases cells with
  | nil => exact absurd h3 (by simp)
  | cons x r => injection e with e; injection e with e _; cases e
/-- all stays but what stands at the two addresses -/
def Kept (d c : Addr) (H H' : Hp) : Prop := ∀ b o, H b = some o → b ≠ d → b ≠ c → H' b = some o
/-- a step that may draw from the deck -/
structure Stp (d c : Addr) (H H' : Hp) : Prop where
  k : Kept d c H H'
  dk : Deck H' d c
theorem Stp.refl {d c : Addr} {H : Hp} (h : Deck H d c) : Stp d c H H := ⟨fun _ _ e _ _ => e, h⟩
theorem Stp.trans {d c : Addr} {H H1 H2 : Hp} (a : Stp d c H H1) (b : Stp d c H1 H2) : Stp d c H H2 := ⟨fun x o e n1 n2 => b.k x o (a.k x o e n1 n2) n1 n2, b.dk⟩
theorem Stp.free {d c : Addr} {H H' : Hp} (a : Stp d c H H') {p : Addr} (h : H' p = none) : H p = none := by
  cases e : H p with
  | none => rfl
  | some o =>
    obtain ⟨cells, n, sd, h1, h2, _⟩ := a.dk
    by_cases q1 : p = d
    · rw [q1, h1] at h; cases h
    · by_cases q2 : p = c
      · rw [q2, h2] at h; cases h
      · rw [a.k p o e q1 q2] at h; cases h
theorem Deck.nd {H : Hp} {d c p : Addr} (h : Deck H d c) (n : H p = none) : p ≠ d ∧ p ≠ c := by
  obtain ⟨cells, m, sd, h1, h2, _⟩ := h
  exact ⟨(ne_of_none h1 n).symm, (ne_of_none h2 n).symm⟩
/-- an object that is not the deck's is laid or written -/
theorem Stp.upd {d c : Addr} {H H' : Hp} (a : Stp d c H H') {p : Addr} (n : H p = none) (n1 : p ≠ d) (n2 : p ≠ c) (o : HO) : Stp d c H (upd H' p o) := by
  obtain ⟨cells, m, sd, h1, h2, h3⟩ := a.dk
  exact ⟨fun x o e q1 q2 => by rw [upd_ne (ne_of_none e n)]; exact a.k x o e q1 q2, cells, m, sd, by rw [upd_ne n1.symm]; exact h1, by rw [upd_ne n2.symm]; exact h2, h3⟩
theorem Stp.new {d c : Addr} {H H' : Hp} (a : Stp d c H H') {p : Addr} (n : H' p = none) (o : HO) : Stp d c H (L2.upd H' p o) :=
  a.upd (a.free n) (a.dk.nd n).1 (a.dk.nd n).2 o
/-- tuples and texts of before are still there -/
theorem Stp.keepT {d c : Addr} {H H' : Hp} (h0 : Deck H d c) (a : Stp d c H H') : KeepT H H' := by
  obtain ⟨cells, m, sd, h1, h2, h3⟩ := h0
  exact ⟨fun b xs e => a.k b _ e (ne_of e h1 (by intro z; cases z)) (ne_of e h2 (by intro z; cases z)), fun b o u e => a.k b _ e (ne_of e h1 (by intro z; cases z)) (ne_of e h2 (by intro z; cases z))⟩
section
variable {P : Program} {w : World} {K : PySem.W.Frag} {mg : Str → Option Value} {base : Heap}
/-! ### _law_take -/
def spTake : Sp := fun vs H Q _ => ∃ (d c : Addr) (many : Int), vs = [.ref d, .int many] ∧ Deck H d c ∧ 0 < many ∧ many < 1073741824 ∧ ∀ (r : Int) (H' : Hp), 0 ≤ r → r < many → Stp d c H H' → Q (.int r) H'
theorem sc_take : FnScope ["deck", "many", "at", "cell", "one"] ["deck", "many"] (defScope s_law_take) := ⟨rfl, rfl, rfl, by decide +kernel, rfl, by decide +kernel, by decide +kernel⟩
theorem ok_take {f : Addr} {fd : FuncData} (F : Fun K "_law_take" "_law_take" s_law_take f fd) (T : Tx mg) : FnOk P w K mg base CX0 1 f fd ["deck", "many"] spTake := by
  have nd := sc_take.nd
  refine F.ok sc_take (fun vs H Q E h => ?_) (fun cdv A outer s H vs Q E hr h => ?_)
  · obtain ⟨d, c, many, rfl, _⟩ := h
    rfl
  obtain ⟨d, c, many, rfl, D, m0, m1, q⟩ := h
  obtain ⟨cells, n, sd, hd, hc, hl⟩ := id D
  have ndc := D.ne
  refine SB.use (bcons
  (bset (n := 2) nd rfl (Or.inl (by kernel_rfl)) (eop op_mod (eix ix_list (ev 0 rfl (Or.inl (by kernel_rfl)) (by kernel_rfl) (by kernel_rfl)) eint (fun _ _ => rfl)) (ecallB call_len_seq (by unfold Gl; kernel_rfl) T.len L2.boot_len (acons (eix ix_list (ev 0 rfl (Or.inl (by kernel_rfl)) (by kernel_rfl) (by kernel_rfl)) eint (fun _ _ => rfl)) anil (by kernel_rfl)) (by decide +kernel) (by kernel_rfl) (by kernel_rfl) (by kernel_rfl))) (by kernel_rfl) (.inl rfl))
  (bcons
  (basg (eop op_add (eix ix_list (ev 0 rfl (Or.inl (by kernel_rfl)) (by kernel_rfl) (by kernel_rfl)) eint (fun _ _ => rfl)) eint) (gsub (ev 0 rfl (Or.inl (by kernel_rfl)) (by kernel_rfl) (by kernel_rfl)) eint set_list (by intro _; rfl)) (by kernel_rfl) (by kernel_rfl) (by kernel_rfl))
  (bcons
  (bset (n := 3) nd rfl (Or.inl (by kernel_rfl)) (eix ix_list (eix ix_list (ev 0 rfl (Or.inl (by kernel_rfl)) (by kernel_rfl) (by kernel_rfl)) eint (fun _ _ => rfl)) (ev 2 rfl (Or.inl (by kernel_rfl)) (by kernel_rfl) (by kernel_rfl)) (fun _ _ => rfl)) (by kernel_rfl) (.inl rfl))
  (bcons
  (bifs (tw (wor (tcmp op_eq (ev 3 rfl (Or.inl (by kernel_rfl)) (by kernel_rfl) (by kernel_rfl)) eint (nomark _)) (wor1 (tcmp op_eq (ev 3 rfl (Or.inl (by kernel_rfl)) (by kernel_rfl) (by kernel_rfl)) (eun un_neg eint) (nomark _))))) (bcons
  (bset (n := 4) nd rfl (Or.inl (by kernel_rfl)) (eop op_mod (eop op_mul (eop op_mod (eop op_add (eix ix_list (ev 0 rfl (Or.inl (by kernel_rfl)) (by kernel_rfl) (by kernel_rfl)) eint (fun _ _ => rfl)) (eop op_mul eint (eix ix_list (ev 0 rfl (Or.inl (by kernel_rfl)) (by kernel_rfl) (by kernel_rfl)) eint (fun _ _ => rfl)))) eint) eint) eint) (by kernel_rfl) (.inl rfl))
  (bcons
  (bset (n := 4) nd rfl (Or.inl (by kernel_rfl)) (eop op_mod (eop op_mul (eop op_mod (eop op_add (eop op_mul (ev 4 rfl (Or.inl (by kernel_rfl)) (by kernel_rfl) (by kernel_rfl)) (ev 4 rfl (Or.inl (by kernel_rfl)) (by kernel_rfl) (by kernel_rfl))) (eop op_mul eint (eix ix_list (ev 0 rfl (Or.inl (by kernel_rfl)) (by kernel_rfl) (by kernel_rfl)) eint (fun _ _ => rfl)))) eint) eint) eint) (by kernel_rfl) (.inl rfl))
  (bone
  (bret (eop op_mod (eop op_fdiv (ev 4 rfl (Or.inl (by kernel_rfl)) (by kernel_rfl) (by kernel_rfl)) eint) (ev 1 rfl (Or.inl (by kernel_rfl)) (by kernel_rfl) (by kernel_rfl))))))) bnil)
  (bcons
  (basg (eop op_fdiv (ev 3 rfl (Or.inl (by kernel_rfl)) (by kernel_rfl) (by kernel_rfl)) (ev 1 rfl (Or.inl (by kernel_rfl)) (by kernel_rfl) (by kernel_rfl))) (gsub (eix ix_list (ev 0 rfl (Or.inl (by kernel_rfl)) (by kernel_rfl) (by kernel_rfl)) eint (fun _ _ => rfl)) (ev 2 rfl (Or.inl (by kernel_rfl)) (by kernel_rfl) (by kernel_rfl)) set_list (by intro _; rfl)) (by kernel_rfl) (by kernel_rfl) (by kernel_rfl))
  (bone
  (bret (eop op_mod (ev 3 rfl (Or.inl (by kernel_rfl)) (by kernel_rfl) (by kernel_rfl)) (ev 1 rfl (Or.inl (by kernel_rfl)) (by kernel_rfl) (by kernel_rfl)))))))))) ?_
  have hl' : (0 : Int) < (((cells.map V.int).length : Nat) : Int) := by rw [List.length_map]; omega
  refine ⟨_, rfl, d, _, _, _, rfl, rfl, SqL.of hd, rfl, _, rfl, d, _, _, _, rfl, rfl, SqL.of hd, rfl, c, _, rfl, .inl (SqL.of hc), _, _, rfl, rfl, hl', ?_⟩
  have a0 := Int.emod_nonneg n (Int.ne_of_gt hl')
  have a1 := Int.emod_lt_of_pos n hl'
  generalize ha : n % (((cells.map V.int).length : Nat) : Int) = a at a0 a1
  obtain ⟨k, rfl⟩ := Int.eq_ofNat_of_zero_le a0
  rw [List.length_map] at a1
  have hk : k < cells.length := by omega
  -- deck[1] = deck[1] + 1
  refine ⟨_, rfl, d, _, _, _, rfl, rfl, SqL.of hd, rfl, _, _, rfl, rfl, _, rfl, d, _, _, 1, rfl, rfl, hd, rfl, ?_⟩
  generalize hH1 : upd H d (.lst (List.set [V.ref c, V.int n, V.int sd] 1 (V.int (n + 1)))) = H1
  have hd1 : H1 d = some (.lst [.ref c, .int (n + 1), .int sd]) := by rw [← hH1]; exact upd_same
  have hc1 : H1 c = some (.lst (cells.map V.int)) := by rw [← hH1, upd_ne ndc.symm]; exact hc
  have st1 : Stp d c H H1 := ⟨fun b o e n1 n2 => by rw [← hH1, upd_ne n1]; exact e, cells, n + 1, sd, hd1, hc1, hl⟩
  -- cell
  have hat : atI (cells.map V.int) (n % (((cells.map V.int).length : Nat) : Int)) = some (.int cells[k]) := by
    rw [ha]
    exact atI_nat (by rw [List.getElem?_map, List.getElem?_eq_getElem hk]; rfl)
  refine ⟨_, rfl, d, _, _, _, rfl, rfl, SqL.of hd1, rfl, _, rfl, c, _, _, _, rfl, rfl, SqL.of hc1, hat, ?_⟩
  generalize cells[k] = cell
  refine ⟨_, rfl, rfl, _, rfl, ?_⟩
  refine ite2 (fun c1 => ?b1) (fun c1 => ?_)
  case' b1 => refine iteT ?_
  rotate_left
  refine ⟨_, rfl, _, rfl, rfl, _, rfl, ?_⟩
  refine ite2 (fun c2 => ?b2) (fun c2 => ?b3)
  case b3 =>
    refine ⟨_, rfl, _, rfl, _, _, rfl, rfl, ⟨m0, m1⟩, _, rfl, d, _, _, _, rfl, rfl, SqL.of hd1, rfl, _, rfl, c, _, _, k, rfl, rfl, hc1, ?_, ?_⟩
    · show ixN (cells.map V.int).length (n % (((cells.map V.int).length : Nat) : Int)) = some k
      rw [ha]
      unfold ixN
      rw [if_pos (by omega), if_pos (by rw [List.length_map]; omega), Int.toNat_natCast]
    · refine ⟨_, rfl, _, rfl, _, _, rfl, rfl, m0, ?_⟩
      refine q _ _ (Int.emod_nonneg _ (Int.ne_of_gt m0)) (Int.emod_lt_of_pos _ m0) ⟨fun b o e n1 n2 => by rw [upd_ne n2]; exact st1.k b o e n1 n2, cells.set k (cell / many), n + 1, sd, by rw [upd_ne ndc]; exact hd1, ?_, by rw [List.length_set]; exact hl⟩
      rw [upd_same, List.map_set]
  case b1 | b2 =>
    refine ⟨_, rfl, d, _, _, _, rfl, rfl, SqL.of hd1, rfl, _, rfl, d, _, _, _, rfl, rfl, SqL.of hd1, rfl, _, _, rfl, rfl, .inl ⟨by decide, by decide⟩, _, _, rfl, rfl, _, _, rfl, rfl, (by show (0 : Int) < 2147483587; decide), _, _, rfl, rfl, .inr ⟨by decide, by decide⟩, _, _, rfl, rfl, (by show (0 : Int) < 2147483629; decide), ?_⟩
    refine ⟨_, rfl, _, rfl, _, _, rfl, rfl, .inl ⟨by omega, by omega⟩, _, rfl, d, _, _, _, rfl, rfl, SqL.of hd1, rfl, _, _, rfl, rfl, .inl ⟨by decide, by decide⟩, _, _, rfl, rfl, _, _, rfl, rfl, (by show (0 : Int) < 2147483563; decide), _, _, rfl, rfl, .inr ⟨by decide, by decide⟩, _, _, rfl, rfl, (by show (0 : Int) < 2147483549; decide), ?_⟩
    refine ⟨_, rfl, _, _, rfl, rfl, ⟨by decide, by decide⟩, _, rfl, _, _, rfl, rfl, m0, ?_⟩
    exact q _ _ (Int.emod_nonneg _ (Int.ne_of_gt m0)) (Int.emod_lt_of_pos _ m0) st1
end
end K05

namespace K05
open PySem L2
theorem sl1000 {n : Nat} (h : n ≤ 1000) : n ≤ sizeLine := Nat.le_of_lt (small1000 h)
theorem cut63 {ns : List Int} (h : ns.length ≤ 63) : cutV (ns.map V.int) none (some 63) = ns.map V.int := by
  unfold cutV
  have e : HT.sIx (ns.map V.int).length (ns.map V.int).length (some (63 : Int)) = ns.length := by
    rw [List.length_map]
    have := HT.sIx_nat ns.length ns.length 63
    have e2 : ((63 : Nat) : Int) = 63 := rfl
    rw [e2] at this
    rw [this]
    omega
  rw [e, HT.sIx_none, List.drop_zero, Nat.sub_zero, List.take_of_length_le (by rw [List.length_map]; exact Nat.le_refl _)]
theorem at_map {cs : List Int} {i : Nat} (h : i < cs.length) : atI (cs.map V.int) (0 + (i : Int)) = some (.int cs[i]) := by
  rw [Int.zero_add]
  exact atI_nat (by rw [List.getElem?_map, List.getElem?_eq_getElem h]; rfl)
theorem ix_in {n i : Nat} (h : i < n) : ixN n (0 + (i : Int)) = some i := by
  rw [Int.zero_add]
  unfold ixN
  rw [if_pos (by omega), if_pos (by omega), Int.toNat_natCast]
section
variable {P : Program} {w : World} {K : PySem.W.Frag} {mg : Str → Option Value} {base : Heap}
def spDeck (K : PySem.W.Frag) : Sp := fun vs H Q _ => ∃ (a : Addr) (ns : List Int), vs = [.ref a] ∧ SqL K H a (ns.map V.int) ∧ ns.length ≤ 63 ∧ ∀ (d c : Addr) (H' : Hp), Same H H' → Deck H' d c → H d = none → H c = none → Q (.ref d) H'
theorem sc_deck : FnScope ["script", "cells", "seed", "k", "mixed"] ["script"] (defScope s_law_deck) := ⟨rfl, rfl, rfl, by decide +kernel, rfl, by decide +kernel, by decide +kernel⟩
theorem ok_deck {f : Addr} {fd : FuncData} (F : Fun K "_law_deck" "_law_deck" s_law_deck f fd) (T : Tx mg) : FnOk P w K mg base CX0 1 f fd ["script"] (spDeck K) := by
  have nd := sc_deck.nd
  refine F.ok sc_deck (fun vs H Q E h => ?_) (fun cdv A outer s H vs Q E hr h => ?_)
  · obtain ⟨a, ns, rfl, _⟩ := h
    rfl
  obtain ⟨a, ns, rfl, hS, h63, q⟩ := h
  refine SB.use (bcons
  (bset (n := 1) nd rfl (Or.inl (by kernel_rfl)) (eop op_cat (eslice sl_list (ev 0 rfl (Or.inl (by kernel_rfl)) (by kernel_rfl) (by kernel_rfl)) onone (osome eint)) (elst (acons (ecallB call_len_seq (by unfold Gl; kernel_rfl) T.len L2.boot_len (acons (ev 0 rfl (Or.inl (by kernel_rfl)) (by kernel_rfl) (by kernel_rfl)) anil (by kernel_rfl)) (by decide +kernel) (by kernel_rfl) (by kernel_rfl) (by kernel_rfl)) anil (by kernel_rfl)))) (by kernel_rfl) (.inl rfl))
  (bcons
  (bset (n := 2) nd rfl (Or.inl (by kernel_rfl)) (eop op_mod (eop op_add (eop op_add (eop op_mul (ecallB (cr_sum rfl) (by unfold Gl; kernel_rfl) T.sum L2.boot_sum (acons (eslice sl_list (ev 0 rfl (Or.inl (by kernel_rfl)) (by kernel_rfl) (by kernel_rfl)) onone (osome eint)) anil (by kernel_rfl)) (by decide +kernel) (by kernel_rfl) (by kernel_rfl) (by kernel_rfl)) eint) (eop op_mul eint (ecallB call_len_seq (by unfold Gl; kernel_rfl) T.len L2.boot_len (acons (ev 0 rfl (Or.inl (by kernel_rfl)) (by kernel_rfl) (by kernel_rfl)) anil (by kernel_rfl)) (by decide +kernel) (by kernel_rfl) (by kernel_rfl) (by kernel_rfl)))) eint) eint) (by kernel_rfl) (.inl rfl))
  (bcons
  (bifs (tcmp op_eq (eop op_mod (ecallB (cr_sum rfl) (by unfold Gl; kernel_rfl) T.sum L2.boot_sum (acons (eslice sl_list (ev 0 rfl (Or.inl (by kernel_rfl)) (by kernel_rfl) (by kernel_rfl)) onone (osome eint)) anil (by kernel_rfl)) (by decide +kernel) (by kernel_rfl) (by kernel_rfl) (by kernel_rfl)) eint) eint (nomark _)) (bone
  (bfor PassesOwn.never rfl (irange1 (by unfold Gl; kernel_rfl) T.range (acons (ecallB call_len_seq (by unfold Gl; kernel_rfl) T.len L2.boot_len (acons (ev 1 rfl (Or.inl (by kernel_rfl)) (by kernel_rfl) (by kernel_rfl)) anil (by kernel_rfl)) (by decide +kernel) (by kernel_rfl) (by kernel_rfl) (by kernel_rfl)) anil (by kernel_rfl)) (by kernel_rfl)) (gname (n := 3) nd rfl (Or.inl (by kernel_rfl)) (.inl rfl)) (bcons
  (bset (n := 4) nd rfl (Or.inl (by kernel_rfl)) (eop op_mod (eop op_mul (eop op_add (eop op_add (eop op_mod (eix ix_list (ev 1 rfl (Or.inl (by kernel_rfl)) (by kernel_rfl) (by kernel_rfl)) (ev 3 rfl (Or.inl (by kernel_rfl)) (by kernel_rfl) (by kernel_rfl)) (fun _ _ => rfl)) eint) (eop op_mul eint (ev 3 rfl (Or.inl (by kernel_rfl)) (by kernel_rfl) (by kernel_rfl)))) eint) eint) eint) (by kernel_rfl) (.inl rfl))
  (bcons
  (bset (n := 4) nd rfl (Or.inl (by kernel_rfl)) (eop op_mod (eop op_mul (eop op_mod (eop op_add (eop op_mul (ev 4 rfl (Or.inl (by kernel_rfl)) (by kernel_rfl) (by kernel_rfl)) (ev 4 rfl (Or.inl (by kernel_rfl)) (by kernel_rfl) (by kernel_rfl))) (eop op_mul eint (ev 3 rfl (Or.inl (by kernel_rfl)) (by kernel_rfl) (by kernel_rfl)))) eint) eint) eint) (by kernel_rfl) (.inl rfl))
  (bone
  (basg (eop op_add (eop op_mul (eop op_mul (ev 4 rfl (Or.inl (by kernel_rfl)) (by kernel_rfl) (by kernel_rfl)) (ev 4 rfl (Or.inl (by kernel_rfl)) (by kernel_rfl) (by kernel_rfl))) eint) (eop op_mod (eop op_mul (ev 4 rfl (Or.inl (by kernel_rfl)) (by kernel_rfl) (by kernel_rfl)) eint) eint)) (gsub (ev 1 rfl (Or.inl (by kernel_rfl)) (by kernel_rfl) (by kernel_rfl)) (ev 3 rfl (Or.inl (by kernel_rfl)) (by kernel_rfl) (by kernel_rfl)) set_list (by intro _; rfl)) (by kernel_rfl) (by kernel_rfl) (by kernel_rfl))))) (by intro _; rfl))) bnil)
  (bone
  (bret (elst (acons (ev 1 rfl (Or.inl (by kernel_rfl)) (by kernel_rfl) (by kernel_rfl)) (acons eint (acons (ev 2 rfl (Or.inl (by kernel_rfl)) (by kernel_rfl) (by kernel_rfl)) anil (by kernel_rfl)) (by kernel_rfl)) (by kernel_rfl)))))))) ?_
  -- cells = script[:63] + [len(script)]
  refine ⟨_, rfl, _, rfl, a, _, rfl, hS, fun p hp => ?_⟩
  have s1 : Same H (upd H p (.lst (cutV (ns.map V.int) none (some 63)))) := same_new hp _
  refine ⟨_, rfl, a, _, rfl, .inl (s1.seq hS), (by show 1 ≤ sizeLine; decide), fun l hl => ?_⟩
  have npl : p ≠ l := ne_of_none upd_same hl
  have s2 := s1.trans (same_new hl (.lst [V.int (((ns.map V.int).length : Nat) : Int)]))
  refine ⟨p, l, _, _, rfl, rfl, (by rw [upd_ne npl]; exact upd_same), upd_same, (by rw [cut63 h63, List.length_map]; exact sl1000 (by simp only [List.length_singleton]; omega)), fun c hc => ?_⟩
  rw [cut63 h63]
  generalize hcs : ns.map V.int ++ [V.int (((ns.map V.int).length : Nat) : Int)] = cs0
  have ecs : cs0 = (ns ++ [(((ns.map V.int).length : Nat) : Int)]).map V.int := by rw [← hcs, List.map_append]; rfl
  rw [cut63 h63] at s2 hc
  have s3 := s2.trans (same_new hc (.lst cs0))
  have cH : H c = none := s2.free hc
  generalize hH3 : upd (upd (upd H p (.lst (ns.map V.int))) l (.lst [V.int (((ns.map V.int).length : Nat) : Int)])) c (.lst cs0) = H3 at s3
  have hc3 : H3 c = some (.lst cs0) := by rw [← hH3]; exact upd_same
  rw [ecs] at hc3
  generalize hcl : ns ++ [(((ns.map V.int).length : Nat) : Int)] = cl at hc3
  have cll : cl.length = ns.length + 1 := by rw [← hcl, List.length_append]; rfl
  -- seed
  refine ⟨_, rfl, _, rfl, a, _, rfl, s3.seq hS, fun p2 hp2 => ?_⟩
  rw [cut63 h63]
  have s4 := s3.trans (same_new hp2 (.lst (ns.map V.int)))
  have hc4 : (upd H3 p2 (.lst (ns.map V.int))) c = some (.lst (cl.map V.int)) := by rw [upd_ne (ne_of_none hc3 hp2)]; exact hc3
  refine ⟨p2, ns, rfl, SqL.of upd_same, _, _, rfl, rfl, .inr ⟨by decide, by decide⟩, _, rfl, a, _, rfl, .inl (s4.seq hS), _, _, rfl, rfl, .inl ⟨by decide, by decide⟩, _, _, rfl, rfl, _, _, rfl, rfl, _, _, rfl, rfl, (by show (0 : Int) < 2147483647; decide), ?_⟩
  generalize upd H3 p2 (.lst (ns.map V.int)) = H4 at s4 hc4
  -- if sum(script[:63]) % 2 == 1
  refine ⟨_, rfl, _, rfl, a, _, rfl, s4.seq hS, fun p3 hp3 => ?_⟩
  rw [cut63 h63]
  have s5 := s4.trans (same_new hp3 (.lst (ns.map V.int)))
  have hc5 : (upd H4 p3 (.lst (ns.map V.int))) c = some (.lst (cl.map V.int)) := by rw [upd_ne (ne_of_none hc4 hp3)]; exact hc4
  refine ⟨p3, ns, rfl, SqL.of upd_same, _, _, rfl, rfl, (by show (0 : Int) < 2; decide), rfl, _, rfl, ?_⟩
  generalize upd H4 p3 (.lst (ns.map V.int)) = H5 at s5 hc5
  have fin : ∀ (sd : Int) (H6 : Hp) (cs : List Int), Same H H6 → H6 c = some (.lst (cs.map V.int)) → 0 < cs.length → 3 ≤ sizeLine ∧ ∀ d, H6 d = none → Q (.ref d) (upd H6 d (.lst [.ref c, .int 0, .int sd])) := fun sd H6 cs s6 h6 hl6 =>
    ⟨by decide, fun d hd => q d c _ (s6.trans (same_new hd _)) ⟨cs, 0, sd, upd_same, by rw [upd_ne (ne_of_none h6 hd)]; exact h6, hl6⟩ (s6.free hd) cH⟩
  refine ite2 (fun c1 => ?_) (fun c1 => ?_)
  · have b1 : (((cl.map V.int).length : Nat) : Int) ≤ 64 := by rw [List.length_map]; omega
    refine ⟨_, rfl, c, _, rfl, .inl (SqL.of hc5), _, rfl, by omega, by omega, ?_⟩
    refine for_range (lo := 0) (fun i σ H6 => ∃ (cs : List Int) (kv mv : Option V) (sd : Int), cs.length = cl.length ∧ σ = [some (.ref a), some (.ref c), some (.int sd), kv, mv] ∧ Same H H6 ∧ H6 c = some (.lst (cs.map V.int))) ⟨cl, _, _, _, rfl, rfl, s5, hc5⟩ ?_ ?_
    · rintro i σ H6 hi ⟨cs, kv, mv, sd, hcl6, rfl, s6, hc6⟩
      have hi' : i < cs.length := by
        rw [List.length_map] at hi
        omega
      refine ⟨_, rfl, _, rfl, c, _, _, _, rfl, rfl, SqL.of hc6, at_map hi', _, _, rfl, rfl, (by show (0 : Int) < 2147483587; decide), _, rfl, _, _, rfl, rfl, .inl ⟨by decide, by decide⟩, _, _, rfl, rfl, _, _, rfl, rfl, _, _, rfl, rfl, .inr ⟨by decide, by decide⟩, _, _, rfl, rfl, (by show (0 : Int) < 2147483629; decide), ?_⟩
      refine ⟨_, rfl, _, rfl, _, _, rfl, rfl, .inl ⟨by omega, by omega⟩, _, rfl, _, _, rfl, rfl, .inl ⟨by decide, by decide⟩, _, _, rfl, rfl, _, _, rfl, rfl, (by show (0 : Int) < 2147483563; decide), _, _, rfl, rfl, .inr ⟨by decide, by decide⟩, _, _, rfl, rfl, (by show (0 : Int) < 2147483549; decide), ?_⟩
      refine ⟨_, rfl, _, rfl, _, _, rfl, rfl, .inl ⟨by omega, by omega⟩, _, _, rfl, rfl, .inr ⟨by decide, by decide⟩, _, rfl, _, _, rfl, rfl, .inr ⟨by decide, by decide⟩, _, _, rfl, rfl, (by show (0 : Int) < 2147483579; decide), _, _, rfl, rfl, _, rfl, _, rfl, c, _, _, i, rfl, rfl, hc6, ix_in (by rw [List.length_map]; exact hi'), ?_⟩
      have key : ∀ (z : Int) (k1 k2 : Option V), ∃ (cs' : List Int) (kv mv : Option V) (sd' : Int), cs'.length = cl.length ∧ [some (V.ref a), some (V.ref c), some (V.int sd), k1, k2] = [some (.ref a), some (.ref c), some (.int sd'), kv, mv] ∧ Same H (upd H6 c (.lst ((cs.map V.int).set i (.int z)))) ∧ (upd H6 c (.lst ((cs.map V.int).set i (.int z)))) c = some (.lst (cs'.map V.int)) := fun z k1 k2 =>
        ⟨cs.set i z, k1, k2, sd, by rw [List.length_set]; exact hcl6, rfl, fun b o e => by rw [upd_ne (ne_of_none e cH)]; exact s6 b o e, by rw [upd_same, List.map_set]⟩
      exact key _ _ _
    · rintro σ H6 ⟨cs, kv, mv, sd, hcl6, rfl, s6, hc6⟩
      refine ⟨_, rfl, _, rfl, ?_⟩
      exact fin sd H6 cs s6 hc6 (by omega)
  · refine ⟨_, rfl, _, rfl, ?_⟩
    exact fin _ H5 cl s5 hc5 (by omega)
end
end K05

namespace K05
open PySem L2 Wd
/-- what stands while names are drawn: the desk's words at o, the found names at l -/
structure Bd (d c o l : Addr) (H : Hp) (found : List Str) (H2 : Hp) : Prop where
  st : Stp d c H H2
  o : H2 o = some (.lst (own16.map V.str))
  l : H2 l = some (.lst (found.map V.str))
section
variable {d c o l : Addr} {H H2 H3 : Hp} {found : List Str}
theorem Bd.step (b : Bd d c o l H found H2) (D : Deck H d c) (no : H o = none) (nl : H l = none) (s : Stp d c H2 H3) : Bd d c o l H found H3 :=
  ⟨b.st.trans s, s.k _ _ b.o (D.nd no).1 (D.nd no).2, s.k _ _ b.l (D.nd nl).1 (D.nd nl).2⟩
theorem Bd.new (b : Bd d c o l H found H2) {p : Addr} (n : H2 p = none) (x : HO) : Bd d c o l H found (upd H2 p x) :=
  ⟨b.st.new n x, by rw [upd_ne (ne_of_none b.o n)]; exact b.o, by rw [upd_ne (ne_of_none b.l n)]; exact b.l⟩
theorem Bd.upd (b : Bd d c o l H found H2) {p : Addr} (n : H p = none) (D : Deck H d c) (n1 : p ≠ o) (n2 : p ≠ l) (x : HO) : Bd d c o l H found (L2.upd H2 p x) :=
  ⟨b.st.upd n (D.nd n).1 (D.nd n).2 x, by rw [upd_ne n1.symm]; exact b.o, by rw [upd_ne n2.symm]; exact b.l⟩
end
theorem at_strs {xs : List Str} {r : Int} (h0 : 0 ≤ r) (h1 : r < (xs.length : Int)) : ∃ x, atI (xs.map V.str) r = some (.str x) ∧ x ∈ xs := by
  obtain ⟨k, rfl⟩ := Int.eq_ofNat_of_zero_le h0
  have hk : k < xs.length := by omega
  exact ⟨xs[k], atI_nat (by rw [List.getElem?_map, List.getElem?_eq_getElem hk]; rfl), List.getElem_mem hk⟩
theorem at_last {xs : List Str} (h : ∀ x ∈ xs, Word x) : ∃ x, atI ([V.str "a"] ++ xs.map V.str) (-1) = some (.str x) ∧ Word x := by
  rcases List.eq_nil_or_concat xs with e | ⟨ys, y, e⟩
  · subst e
    exact ⟨"a", atI_last [] (V.str "a"), by decide +kernel, by decide +kernel, by show ∀ c ∈ ("a" : Str).cps.toList, 97 ≤ c ∧ c ≤ 122; decide +kernel⟩
  · subst e
    refine ⟨y, ?_, h y (by simp)⟩
    have e2 : [V.str "a"] ++ (ys ++ [y]).map V.str = ([V.str "a"] ++ ys.map V.str) ++ [V.str y] := by simp
    rw [List.concat_eq_append, e2]
    exact atI_last _ _
theorem flat_strs : ∀ xs : List Str, (xs.map V.str).all flatV = true
  | [] => rfl
  | _ :: r => by rw [List.map_cons, List.all_cons, flat_strs r]; rfl
theorem in_strs (x : Str) : ∀ xs : List Str, inV (.str x) (xs.map V.str) = decide (x ∈ xs)
  | [] => by simp [inV]
  | y :: r => by
    have ih := in_strs x r
    unfold inV at ih ⊢
    rw [List.map_cons, List.any_cons, ih]
    have e : eqV (.str y) (.str x) = decide (x = y) := by
      show (y == x) = decide (x = y)
      by_cases h : x = y
      · subst h; simp
      · have h' : ¬ y = x := fun z => h z.symm
        simp [h, h']
    rw [e]
    by_cases h : x = y <;> simp [h]
theorem sum_ones : ∀ {ys : List Str}, (∀ y ∈ ys, ∃ k, k < 26 ∧ y = (⟨#[97 + k]⟩ : Str)) → (ys.map (·.length)).sum = ys.length
  | [], _ => rfl
  | y :: r, h => by
    obtain ⟨k, _, rfl⟩ := h y (List.mem_cons_self ..)
    rw [List.map_cons, List.sum_cons, sum_ones fun z hz => h z (List.mem_cons_of_mem _ hz), sign_len, List.length_cons]
    omega
section
variable {P : Program} {w : World} {K : PySem.W.Frag} {mg : Str → Option Value} {base : Heap}
def spNames : Sp := fun vs H Q _ => ∃ (d c : Addr) (many : Int), vs = [.ref d, .int many] ∧ Deck H d c ∧ 0 ≤ many ∧ many ≤ 40 ∧
  ∀ (l : Addr) (names : List Str) (H' : Hp), Stp d c H H' → H l = none → H' l = some (.lst (names.map V.str)) → (names.length : Int) = many → names.Nodup → (∀ x ∈ names, Word x ∧ x ∉ own16) → Q (.ref l) H'
theorem sc_names : FnScope ["deck", "many", "letters", "own", "found", "any_word", "k", "ahead", "near", "more", "word", "turn"] ["deck", "many"] (defScope s_law_names) := ⟨rfl, rfl, rfl, by decide +kernel, rfl, by decide +kernel, by decide +kernel⟩
theorem ok_names {f : Addr} {fd : FuncData} (F : Fun K "_law_names" "_law_names" s_law_names f fd) (T : Tx mg) (oT : Own P w K mg base 1 "_law_take" ["deck", "many"] spTake) : FnOk P w K mg base CX0 2 f fd ["deck", "many"] spNames := by
  have nd := sc_names.nd
  obtain ⟨ft, fdt, G_law_take, b_law_take, k_law_take, m_law_take⟩ := oT
  refine F.ok sc_names (fun vs H Q E h => ?_) (fun cdv A outer s H vs Q E hr h => ?_)
  · obtain ⟨d, c, many, rfl, _⟩ := h
    rfl
  have hr_law_take := hr
  obtain ⟨d, c, many, rfl, D, m0, m1, q⟩ := h
  refine SB.use (bcons
  (bset (n := 2) nd rfl (Or.inr (by kernel_rfl)) estr (by kernel_rfl) (.inl rfl))
  (bcons
  (bset (n := 3) nd rfl (Or.inl (by kernel_rfl)) (elst (acons estr (acons estr (acons estr (acons estr (acons estr (acons estr (acons estr (acons estr (acons estr (acons estr (acons estr (acons estr anil (by kernel_rfl)) (by kernel_rfl)) (by kernel_rfl)) (by kernel_rfl)) (by kernel_rfl)) (by kernel_rfl)) (by kernel_rfl)) (by kernel_rfl)) (by kernel_rfl)) (by kernel_rfl)) (by kernel_rfl)) (by kernel_rfl))) (by kernel_rfl) (.inl rfl))
  (bcons
  (bset (n := 3) nd rfl (Or.inl (by kernel_rfl)) (eop op_cat (ev 3 rfl (Or.inl (by kernel_rfl)) (by kernel_rfl) (by kernel_rfl)) (elst (acons estr (acons estr (acons estr (acons estr anil (by kernel_rfl)) (by kernel_rfl)) (by kernel_rfl)) (by kernel_rfl)))) (by kernel_rfl) (.inl rfl))
  (bcons
  (bset (n := 4) nd rfl (Or.inl (by kernel_rfl)) (elst anil) (by kernel_rfl) (.inl rfl))
  (bcons
  (bwhile PassesOwn.never (tcmp op_lt (ecallB call_len_seq (by unfold Gl; kernel_rfl) T.len L2.boot_len (acons (ev 4 rfl (Or.inl (by kernel_rfl)) (by kernel_rfl) (by kernel_rfl)) anil (by kernel_rfl)) (by decide +kernel) (by kernel_rfl) (by kernel_rfl) (by kernel_rfl)) (ev 1 rfl (Or.inl (by kernel_rfl)) (by kernel_rfl) (by kernel_rfl)) (nomark _)) (bcons
  (bset (n := 5) nd rfl (Or.inl (by kernel_rfl)) (ejoin estr (elc (own := [("k", 6)]) (g := gName 6) (by rfl) nd (irange1 (by unfold Gl; kernel_rfl) T.range (acons (eop op_add eint (ecall G_law_take hr_law_take (by unfold Gl; kernel_rfl) m_law_take k_law_take b_law_take .nil pass0 (acons (ev 0 rfl (Or.inr (Or.inl (by kernel_rfl))) (by kernel_rfl) (by kernel_rfl)) (acons eint anil (by kernel_rfl)) (by kernel_rfl)) (by kernel_rfl) (by kernel_rfl) (by kernel_rfl))) anil (by kernel_rfl)) (by kernel_rfl)) (blkOk_by (own := [("k", 6)]) (N := ["deck", "many", "letters", "own", "found", "any_word", "k", "ahead", "near", "more", "word", "turn"]) (sc := defScope s_law_names) (by decide +kernel)) (fun _ _ _ _ _ => (gname (n := 6) nd rfl (Or.inl (by kernel_rfl)) (.inr (by kernel_rfl)))) (fun _ _ _ _ _ => unil) (fun _ _ _ _ _ => (eix ix_str (ev 2 rfl (Or.inr (Or.inl (by kernel_rfl))) (by kernel_rfl) (by kernel_rfl)) (ecall G_law_take hr_law_take (by unfold Gl; kernel_rfl) m_law_take k_law_take b_law_take .nil pass0 (acons (ev 0 rfl (Or.inr (Or.inl (by kernel_rfl))) (by kernel_rfl) (by kernel_rfl)) (acons eint anil (by kernel_rfl)) (by kernel_rfl)) (by kernel_rfl) (by kernel_rfl) (by kernel_rfl)) (fun _ _ => rfl))) (by intro _; rfl)) (by kernel_rfl) (by kernel_rfl) (by kernel_rfl)) (by kernel_rfl) (.inl rfl))
  (bcons
  (bset (n := 7) nd rfl (Or.inl (by kernel_rfl)) (eop op_add_str (eix ix_list (eop op_cat (elst (acons estr anil (by kernel_rfl))) (ev 4 rfl (Or.inl (by kernel_rfl)) (by kernel_rfl) (by kernel_rfl))) (eun un_neg eint) (fun _ _ => rfl)) (eix ix_str (ev 2 rfl (Or.inr (Or.inl (by kernel_rfl))) (by kernel_rfl) (by kernel_rfl)) (ecall G_law_take hr_law_take (by unfold Gl; kernel_rfl) m_law_take k_law_take b_law_take .nil pass0 (acons (ev 0 rfl (Or.inr (Or.inl (by kernel_rfl))) (by kernel_rfl) (by kernel_rfl)) (acons eint anil (by kernel_rfl)) (by kernel_rfl)) (by kernel_rfl) (by kernel_rfl) (by kernel_rfl)) (fun _ _ => rfl))) (by kernel_rfl) (.inl rfl))
  (bcons
  (bset (n := 8) nd rfl (Or.inl (by kernel_rfl)) (eix ix_list (ev 3 rfl (Or.inl (by kernel_rfl)) (by kernel_rfl) (by kernel_rfl)) (ecall G_law_take hr_law_take (by unfold Gl; kernel_rfl) m_law_take k_law_take b_law_take .nil pass0 (acons (ev 0 rfl (Or.inr (Or.inl (by kernel_rfl))) (by kernel_rfl) (by kernel_rfl)) (acons eint anil (by kernel_rfl)) (by kernel_rfl)) (by kernel_rfl) (by kernel_rfl) (by kernel_rfl)) (fun _ _ => rfl)) (by kernel_rfl) (.inl rfl))
  (bcons
  (bset (n := 9) nd rfl (Or.inl (by kernel_rfl)) (eop op_add_str (ev 8 rfl (Or.inl (by kernel_rfl)) (by kernel_rfl) (by kernel_rfl)) (eix ix_str (ev 2 rfl (Or.inr (Or.inl (by kernel_rfl))) (by kernel_rfl) (by kernel_rfl)) (ecall G_law_take hr_law_take (by unfold Gl; kernel_rfl) m_law_take k_law_take b_law_take .nil pass0 (acons (ev 0 rfl (Or.inr (Or.inl (by kernel_rfl))) (by kernel_rfl) (by kernel_rfl)) (acons eint anil (by kernel_rfl)) (by kernel_rfl)) (by kernel_rfl) (by kernel_rfl) (by kernel_rfl)) (fun _ _ => rfl))) (by kernel_rfl) (.inl rfl))
  (bcons
  (bset (n := 8) nd rfl (Or.inl (by kernel_rfl)) (eix ix_list (elst (acons (ev 9 rfl (Or.inl (by kernel_rfl)) (by kernel_rfl) (by kernel_rfl)) (acons (eslice sl_str (ev 8 rfl (Or.inl (by kernel_rfl)) (by kernel_rfl) (by kernel_rfl)) onone (osome (eun un_neg eint))) (acons (eix ix_str (ev 2 rfl (Or.inr (Or.inl (by kernel_rfl))) (by kernel_rfl) (by kernel_rfl)) (ecall G_law_take hr_law_take (by unfold Gl; kernel_rfl) m_law_take k_law_take b_law_take .nil pass0 (acons (ev 0 rfl (Or.inr (Or.inl (by kernel_rfl))) (by kernel_rfl) (by kernel_rfl)) (acons eint anil (by kernel_rfl)) (by kernel_rfl)) (by kernel_rfl) (by kernel_rfl) (by kernel_rfl)) (fun _ _ => rfl)) anil (by kernel_rfl)) (by kernel_rfl)) (by kernel_rfl))) (ecall G_law_take hr_law_take (by unfold Gl; kernel_rfl) m_law_take k_law_take b_law_take .nil pass0 (acons (ev 0 rfl (Or.inr (Or.inl (by kernel_rfl))) (by kernel_rfl) (by kernel_rfl)) (acons eint anil (by kernel_rfl)) (by kernel_rfl)) (by kernel_rfl) (by kernel_rfl) (by kernel_rfl)) (fun _ _ => rfl)) (by kernel_rfl) (.inl rfl))
  (bcons
  (bset (n := 10) nd rfl (Or.inl (by kernel_rfl)) (eix ix_list (elst (acons (ev 5 rfl (Or.inl (by kernel_rfl)) (by kernel_rfl) (by kernel_rfl)) (acons (eslice sl_str (ev 7 rfl (Or.inl (by kernel_rfl)) (by kernel_rfl) (by kernel_rfl)) onone (osome eint)) (acons (eslice sl_str (ev 8 rfl (Or.inl (by kernel_rfl)) (by kernel_rfl) (by kernel_rfl)) onone (osome eint)) (acons (eix ix_str (ev 2 rfl (Or.inr (Or.inl (by kernel_rfl))) (by kernel_rfl) (by kernel_rfl)) (ecall G_law_take hr_law_take (by unfold Gl; kernel_rfl) m_law_take k_law_take b_law_take .nil pass0 (acons (ev 0 rfl (Or.inr (Or.inl (by kernel_rfl))) (by kernel_rfl) (by kernel_rfl)) (acons eint anil (by kernel_rfl)) (by kernel_rfl)) (by kernel_rfl) (by kernel_rfl) (by kernel_rfl)) (fun _ _ => rfl)) anil (by kernel_rfl)) (by kernel_rfl)) (by kernel_rfl)) (by kernel_rfl))) (ecall G_law_take hr_law_take (by unfold Gl; kernel_rfl) m_law_take k_law_take b_law_take .nil pass0 (acons (ev 0 rfl (Or.inr (Or.inl (by kernel_rfl))) (by kernel_rfl) (by kernel_rfl)) (acons eint anil (by kernel_rfl)) (by kernel_rfl)) (by kernel_rfl) (by kernel_rfl) (by kernel_rfl)) (fun _ _ => rfl)) (by kernel_rfl) (.inl rfl))
  (bcons
  (bset (n := 11) nd rfl (Or.inl (by kernel_rfl)) eint (by kernel_rfl) (.inl rfl))
  (bcons
  (bwhile PassesOwn.never (tw (wor (tcmp op_in_seq (ev 10 rfl (Or.inl (by kernel_rfl)) (by kernel_rfl) (by kernel_rfl)) (ev 4 rfl (Or.inl (by kernel_rfl)) (by kernel_rfl) (by kernel_rfl)) (by kernel_rfl)) (wor1 (tcmp op_in_seq (ev 10 rfl (Or.inl (by kernel_rfl)) (by kernel_rfl) (by kernel_rfl)) (ev 3 rfl (Or.inl (by kernel_rfl)) (by kernel_rfl) (by kernel_rfl)) (by kernel_rfl))))) (bcons
  (bset (n := 10) nd rfl (Or.inl (by kernel_rfl)) (eop op_add_str (eix ix_str (ev 2 rfl (Or.inr (Or.inl (by kernel_rfl))) (by kernel_rfl) (by kernel_rfl)) (eop op_mod (ev 11 rfl (Or.inl (by kernel_rfl)) (by kernel_rfl) (by kernel_rfl)) eint) (fun _ _ => rfl)) (eix ix_str (ev 2 rfl (Or.inr (Or.inl (by kernel_rfl))) (by kernel_rfl) (by kernel_rfl)) (eop op_fdiv (ev 11 rfl (Or.inl (by kernel_rfl)) (by kernel_rfl) (by kernel_rfl)) eint) (fun _ _ => rfl))) (by kernel_rfl) (.inl rfl))
  (bone
  (bset (n := 11) nd rfl (Or.inl (by kernel_rfl)) (eop op_add (ev 11 rfl (Or.inl (by kernel_rfl)) (by kernel_rfl) (by kernel_rfl)) eint) (by kernel_rfl) (.inl rfl)))))
  (bone
  (bexpr (ebm PySem.F.plainAttrs_list PySem.F.slot_list_append PySem.F.type_list_append mt_append (ev 4 rfl (Or.inl (by kernel_rfl)) (by kernel_rfl) (by kernel_rfl)) (acons (ev 10 rfl (Or.inl (by kernel_rfl)) (by kernel_rfl) (by kernel_rfl)) anil (by kernel_rfl)) (by kernel_rfl) (by kernel_rfl) (by kernel_rfl) (by kernel_rfl) (by kernel_rfl)) (by kernel_rfl))))))))))))
  (bone
  (bret (ev 4 rfl (Or.inl (by kernel_rfl)) (by kernel_rfl) (by kernel_rfl))))))))) ?_
  refine ⟨(by show 12 ≤ sizeLine; decide), fun o1 ho1 => ?_⟩
  refine ⟨_, rfl, (by show 4 ≤ sizeLine; decide), fun o2 ho2 => ?_⟩
  have n12 : o1 ≠ o2 := ne_of_none upd_same ho2
  refine ⟨o1, o2, _, _, rfl, rfl, (by rw [upd_ne n12]; exact upd_same), upd_same, (by show 16 ≤ sizeLine; decide), fun o ho => ?_⟩
  refine ⟨(by show 0 ≤ sizeLine; decide), fun l hl => ?_⟩
  have a1 : Stp d c H _ := (Stp.refl D).new ho1 (.lst (own12.map V.str))
  have a2 : Stp d c H _ := a1.new ho2 (.lst (own4.map V.str))
  have no : H o = none := a2.free ho
  have a3 : Stp d c H _ := a2.new ho (.lst (own16.map V.str))
  have nl : H l = none := a3.free hl
  have nlo : l ≠ o := (ne_of_none upd_same hl).symm
  have b0 : Bd d c o l H [] _ := ⟨a3.new hl (.lst []), (by rw [upd_ne nlo.symm]; exact upd_same), upd_same⟩
  refine ⟨fun m σ H2 => ∃ (found : List Str) (x5 x6 x7 x8 x9 x10 x11 : Option V), σ = [some (.ref d), some (.int many), some (.str lett), some (.ref o), some (.ref l), x5, x6, x7, x8, x9, x10, x11] ∧ Bd d c o l H found H2 ∧ (found.length : Int) ≤ many ∧ found.Nodup ∧ (∀ x ∈ found, Word x ∧ x ∉ own16) ∧ m + found.length = many.toNat,
    ⟨many.toNat, [], _, _, _, _, _, _, _, rfl, b0, m0, List.nodup_nil, (fun x hx => by cases hx), rfl⟩, ?_⟩
  rintro m σ H2 ⟨found, x5, x6, x7, x8, x9, x10, x11, rfl, bd, fm, fn, fw, mm⟩
  refine ⟨_, rfl, l, _, rfl, .inl (SqL.of bd.l), _, rfl, _, _, rfl, rfl, _, rfl, ?_⟩
  refine ite2 (fun c1 => ?_) (fun c1 => ?_)
  rotate_left
  · have c2 := of_decide_eq_false (Bool.eq_false_iff.mpr c1)
    rw [List.length_map] at c2
    refine ⟨_, rfl, ?_⟩
    exact q l found H2 bd.st nl bd.l (by omega) fn fw
  have c2 := of_decide_eq_true c1
  rw [List.length_map] at c2
  refine ⟨fun σ' H' => ∃ m', m' < m ∧ ∃ (found : List Str) (x5 x6 x7 x8 x9 x10 x11 : Option V), σ' = [some (.ref d), some (.int many), some (.str lett), some (.ref o), some (.ref l), x5, x6, x7, x8, x9, x10, x11] ∧ Bd d c o l H found H' ∧ (found.length : Int) ≤ many ∧ found.Nodup ∧ (∀ x ∈ found, Word x ∧ x ∉ own16) ∧ m' + found.length = many.toNat, fun _ _ h => h, ?_⟩
  -- any_word
  refine ⟨⟨_, rfl⟩, _, rfl, d, c, 8, rfl, bd.st.dk, by decide, by decide, fun r H3 r0 r1 s3 => ?_⟩
  have bd := bd.step D no nl s3
  refine ⟨_, _, rfl, rfl, _, rfl, by omega, by omega, fun y hy => ?_⟩
  have ny : H y = none := bd.st.free hy
  have nyo : y ≠ o := (ne_of_none bd.o hy).symm
  have nyl : y ≠ l := (ne_of_none bd.l hy).symm
  refine lc_range (lo := 0) (fun i H4 => ∃ ys : List Str, ys.length = i ∧ (∀ z ∈ ys, ∃ k, k < 26 ∧ z = (⟨#[97 + k]⟩ : Str)) ∧ Bd d c o l H found H4 ∧ H4 y = some (.lst (ys.map V.str))) ⟨[], rfl, (fun z hz => by cases hz), bd.new hy _, upd_same⟩ ?_ ?_
  · rintro i H4 hi ⟨ys, yl, yk, bd, h4⟩
    refine ⟨rfl, tyes ?_⟩
    refine ⟨_, rfl, _, rfl, d, c, 26, rfl, bd.st.dk, by decide, by decide, fun r H5 r0 r1 s5 => ?_⟩
    have bd5 := bd.step D no nl s5
    refine ⟨_, _, _, rfl, rfl, lett_len, lett_at r0 r1, _, s5.k _ _ h4 (D.nd ny).1 (D.nd ny).2, (by rw [List.length_map]; exact small1000 (by omega)), ?_⟩
    refine ⟨ys ++ [⟨#[97 + r.toNat]⟩], by rw [List.length_append]; simp [yl], fun z hz => ?_, bd5.upd ny D nyo nyl _, by rw [upd_same, List.map_append]; rfl⟩
    rcases List.mem_append.mp hz with hz | hz
    · exact yk z hz
    · exact ⟨r.toNat, by omega, List.mem_singleton.mp hz⟩
  rintro H4 ⟨ys, yl, yk, bd, h4⟩
  have y8 : 1 ≤ ys.length ∧ ys.length ≤ 8 := by omega
  refine ⟨_, y, ys, rfl, rfl, .inl (SqL.of h4), (by rw [sum_ones yk]; have e : ("" : Str).length = 0 := rfl; rw [e]; omega), ?_⟩
  have wA : Word (Txt.join ("" : Str) ys) := join_word y8.1 y8.2 yk
  generalize Txt.join ("" : Str) ys = anyw at wA
  -- ahead
  refine ⟨(by show 1 ≤ sizeLine; decide), fun p5 hp5 => ?_⟩
  have bd := bd.new hp5 (.lst [V.str "a"])
  refine ⟨_, rfl, p5, l, _, _, rfl, rfl, upd_same, bd.l, (by rw [List.length_map]; exact sl1000 (by simp only [List.length_singleton]; omega)), fun p6 hp6 => ?_⟩
  have bd := bd.new hp6 (.lst ([V.str "a"] ++ found.map V.str))
  obtain ⟨lst, hlst, wlst⟩ := at_last fun x hx => (fw x hx).1
  refine ⟨_, rfl, p6, _, _, _, rfl, rfl, SqL.of upd_same, hlst, _, rfl, _, rfl, d, c, 26, rfl, bd.st.dk, by decide, by decide, fun r7 H7 r70 r71 s7 => ?_⟩
  have bd := bd.step D no nl s7
  have lA : (lst ++ (⟨#[97 + r7.toNat]⟩ : Str)).length = lst.length + 1 := by rw [app_len, sign_len]
  have tA : Lt (lst ++ (⟨#[97 + r7.toNat]⟩ : Str)) := app_lt wlst.lt (sign_lt (by omega))
  refine ⟨_, _, _, rfl, rfl, lett_len, lett_at r70 r71, _, _, rfl, rfl, (by have := wlst.hi; rw [sign_len]; exact sl1000 (by omega)), ?_⟩
  generalize lst ++ (⟨#[97 + r7.toNat]⟩ : Str) = ahead at lA tA
  -- near = own[..]
  refine ⟨_, rfl, _, rfl, d, c, 16, rfl, bd.st.dk, by decide, by decide, fun r8 H8 r80 r81 s8 => ?_⟩
  have bd := bd.step D no nl s8
  obtain ⟨nr, hnr, mnr⟩ := at_strs (xs := own16) r80 (by rw [own_len]; exact r81)
  have onr := own_ok nr mnr
  refine ⟨o, _, _, _, rfl, rfl, SqL.of bd.o, hnr, ?_⟩
  -- more
  refine ⟨_, rfl, _, rfl, _, rfl, d, c, 26, rfl, bd.st.dk, by decide, by decide, fun r9 H9 r90 r91 s9 => ?_⟩
  have bd := bd.step D no nl s9
  have lM : (nr ++ (⟨#[97 + r9.toNat]⟩ : Str)).length = nr.length + 1 := by rw [app_len, sign_len]
  have tM : Lt (nr ++ (⟨#[97 + r9.toNat]⟩ : Str)) := app_lt onr.2.2 (sign_lt (by omega))
  refine ⟨_, _, _, rfl, rfl, lett_len, lett_at r90 r91, _, _, rfl, rfl, (by rw [sign_len]; exact sl1000 (by omega)), ?_⟩
  generalize nr ++ (⟨#[97 + r9.toNat]⟩ : Str) = more at lM tM
  -- near = [more, near[:-1], a letter][..]
  refine ⟨_, rfl, _, rfl, _, rfl, _, rfl, _, rfl, sl1000 (by omega), _, rfl, _, rfl, d, c, 26, rfl, bd.st.dk, by decide, by decide, fun r10 H10 r100 r101 s10 => ?_⟩
  have bd := bd.step D no nl s10
  refine ⟨_, _, _, rfl, rfl, lett_len, lett_at r100 r101, (by show 3 ≤ sizeLine; decide), fun p10 hp10 => ?_⟩
  have np : p10 ≠ d ∧ p10 ≠ c := bd.st.dk.nd hp10
  have bd := bd.new hp10 (.lst [V.str more, V.str (cutS nr none (some (-1))), V.str ⟨#[97 + r10.toNat]⟩])
  refine ⟨_, rfl, d, c, 3, rfl, bd.st.dk, by decide, by decide, fun r11 H11 r110 r111 s11 => ?_⟩
  have w1 : 1 ≤ more.length ∧ more.length ≤ 8 ∧ Lt more := ⟨by omega, by omega, tM⟩
  have w2 : 1 ≤ (cutS nr none (some (-1))).length ∧ (cutS nr none (some (-1))).length ≤ 8 ∧ Lt (cutS nr none (some (-1))) := ⟨by rw [cut1]; omega, by rw [cut1]; omega, cut_lt onr.2.2 _ _⟩
  have w3 : 1 ≤ (⟨#[97 + r10.toNat]⟩ : Str).length ∧ (⟨#[97 + r10.toNat]⟩ : Str).length ≤ 8 ∧ Lt (⟨#[97 + r10.toNat]⟩ : Str) := ⟨by rw [sign_len]; decide, by rw [sign_len]; decide, sign_lt (by omega)⟩
  have bdp := bd
  have bd := bd.step D no nl s11
  obtain ⟨near, hnear, mnear⟩ := at_strs (xs := [more, cutS nr none (some (-1)), ⟨#[97 + r10.toNat]⟩]) r110 (by exact r111)
  have wn : 1 ≤ near.length ∧ near.length ≤ 8 ∧ Lt near := by
    rcases List.mem_cons.mp mnear with e | m
    · rw [e]; exact w1
    rcases List.mem_cons.mp m with e | m
    · rw [e]; exact w2
    rw [List.mem_singleton.mp m]; exact w3
  refine ⟨p10, _, _, _, rfl, rfl, SqL.of (s11.k _ _ upd_same np.1 np.2), hnear, ?_⟩
  -- word
  refine ⟨_, rfl, _, rfl, _, rfl, _, rfl, sl1000 (by have := wlst.hi; omega), _, rfl, _, rfl, _, rfl, sl1000 (by omega), _, rfl, _, rfl, d, c, 26, rfl, bd.st.dk, by decide, by decide, fun r12 H12 r120 r121 s12 => ?_⟩
  have bd := bd.step D no nl s12
  refine ⟨_, _, _, rfl, rfl, lett_len, lett_at r120 r121, (by show 4 ≤ sizeLine; decide), fun p13 hp13 => ?_⟩
  have np13 : p13 ≠ d ∧ p13 ≠ c := bd.st.dk.nd hp13
  have bd := bd.new hp13 (.lst [V.str anyw, V.str (cutS ahead none (some 8)), V.str (cutS near none (some 8)), V.str ⟨#[97 + r12.toNat]⟩])
  refine ⟨_, rfl, d, c, 4, rfl, bd.st.dk, by decide, by decide, fun r14 H14 r140 r141 s14 => ?_⟩
  have bd := bd.step D no nl s14
  obtain ⟨word, hword, mword⟩ := at_strs (xs := [anyw, cutS ahead none (some 8), cutS near none (some 8), ⟨#[97 + r12.toNat]⟩]) r140 (by exact r141)
  have ww : Word word := by
    rcases List.mem_cons.mp mword with e | m
    · rw [e]; exact wA
    rcases List.mem_cons.mp m with e | m
    · rw [e]; exact cut8_word (by omega) tA
    rcases List.mem_cons.mp m with e | m
    · rw [e]; exact cut8_word wn.1 wn.2.2
    rw [List.mem_singleton.mp m]; exact sign_word (by omega)
  refine ⟨p13, _, _, _, rfl, rfl, SqL.of (s14.k _ _ upd_same np13.1 np13.2), hword, ?_⟩
  -- turn = 0; while word in found or word in own
  refine ⟨fun m2 σ H4 => ∃ (word : Str) (t : Nat) (x5 x6 x7 x8 x9 : Option V), σ = [some (.ref d), some (.int many), some (.str lett), some (.ref o), some (.ref l), x5, x6, x7, x8, x9, some (.str word), some (.int t)] ∧ Word word ∧ Bd d c o l H found H4 ∧ (∀ s, s + 1 < t → turnW s ∈ found ++ own16) ∧ (0 < t → word = turnW (t - 1)) ∧ m2 + t = 100 ∧ t ≤ 100,
    ⟨100, word, 0, _, _, _, _, _, rfl, ww, bd, (fun s hs => absurd hs (by omega)), (fun h => absurd h (by omega)), rfl, by omega⟩, ?_⟩
  rintro m2 σ H4 ⟨word, t, x5, x6, x7, x8, x9, rfl, ww, bd, t1, t2, t3, t4⟩
  have hit : word ∈ found ++ own16 → t ≤ found.length + 16 := fun hw => by
    have z : ∀ s, s < t → turnW s ∈ found ++ own16 := fun s hs => by
      by_cases e : s + 1 < t
      · exact t1 s e
      · have e2 : s = t - 1 := by omega
        rw [e2, ← t2 (by omega)]
        exact hw
    have := turns_le z
    rw [List.length_append, own_len] at this
    exact this
  have ltm : found.length < 40 := by omega
  have step : word ∈ found ++ own16 → (t : Int) / 26 < 26 ∧ t < 676 ∧ t + 1 ≤ 100 := fun hw => by have := hit hw; omega
  refine ⟨_, rfl, _, rfl, l, _, rfl, .inl (SqL.of bd.l), rfl, flat_strs _, _, rfl, ?_⟩
  show if (inV (.str word) (found.map V.str)) = true then _ else _
  rw [in_strs]
  refine ite2 (fun c3 => ?w1) (fun c3 => ?_)
  case' w1 => refine iteT ?_
  rotate_left
  · refine ⟨_, rfl, _, rfl, o, _, rfl, .inl (SqL.of bd.o), rfl, flat_strs _, _, rfl, ?_⟩
    show if (inV (.str word) (own16.map V.str)) = true then _ else _
    rw [in_strs]
    refine ite2 (fun c4 => ?w2) (fun c4 => ?w3)
    case w3 =>
      have n1 : word ∉ found := of_decide_eq_false (Bool.eq_false_iff.mpr c3)
      have n2 : word ∉ own16 := of_decide_eq_false (Bool.eq_false_iff.mpr c4)
      refine ⟨_, rfl, .inl ⟨rfl, _, SqL.of bd.l⟩, _, rfl, l, _, _, rfl, rfl, bd.l, (by rw [List.length_map]; exact small1000 (by omega)), ?_⟩
      refine ⟨m - 1, by omega, found ++ [word], _, _, _, _, _, _, _, rfl, ⟨bd.st.upd nl (D.nd nl).1 (D.nd nl).2 _, by rw [upd_ne nlo.symm]; exact bd.o, by rw [upd_same, List.map_append]; rfl⟩, by rw [List.length_append]; simp only [List.length_singleton]; omega, ?_, ?_, by rw [List.length_append]; simp only [List.length_singleton]; omega⟩
      · rw [List.nodup_append]
        exact ⟨fn, by simp, fun a ha b hb e => n1 (by rw [← List.mem_singleton.mp hb, ← e]; exact ha)⟩
      · intro x hx
        rcases List.mem_append.mp hx with hx | hx
        · exact fw x hx
        · rw [List.mem_singleton.mp hx]
          exact ⟨ww, n2⟩
    case w2 =>
      have hw : word ∈ found ++ own16 := List.mem_append_right _ (of_decide_eq_true c4)
      obtain ⟨k1, k2, k3⟩ := step hw
      have e1 : ((t : Int) % 26).toNat = t % 26 := by omega
      have e2 : ((t : Int) / 26).toNat = t / 26 := by omega
      have a1 := lett_at (r := (t : Int) % 26) (by omega) (by omega)
      have a2 := lett_at (r := (t : Int) / 26) (by omega) (by omega)
      rw [e1] at a1
      rw [e2] at a2
      refine ⟨_, fun _ _ h => h, ?_⟩
      refine ⟨_, rfl, _, rfl, _, _, rfl, rfl, (by show (0 : Int) < 26; decide), _, _, _, rfl, rfl, lett_len, a1, _, rfl, _, rfl, _, _, rfl, rfl, ⟨by decide, by decide⟩, _, _, _, rfl, rfl, lett_len, a2, _, _, rfl, rfl, (by rw [sign_len, sign_len]; decide), _, rfl, _, _, rfl, rfl, ?_⟩
      refine ⟨m2 - 1, by omega, turnW t, t + 1, _, _, _, _, _, rfl, turn_word k2, bd, fun s hs => ?_, fun _ => rfl, by omega, by omega⟩
      by_cases e : s + 1 < t
      · exact t1 s e
      · have e3 : s = t - 1 := by omega
        rw [e3, ← t2 (by omega)]
        exact hw
  case w1 =>
    have hw : word ∈ found ++ own16 := List.mem_append_left _ (of_decide_eq_true c3)
    obtain ⟨k1, k2, k3⟩ := step hw
    have e1 : ((t : Int) % 26).toNat = t % 26 := by omega
    have e2 : ((t : Int) / 26).toNat = t / 26 := by omega
    have a1 := lett_at (r := (t : Int) % 26) (by omega) (by omega)
    have a2 := lett_at (r := (t : Int) / 26) (by omega) (by omega)
    rw [e1] at a1
    rw [e2] at a2
    refine ⟨_, fun _ _ h => h, ?_⟩
    refine ⟨_, rfl, _, rfl, _, _, rfl, rfl, (by show (0 : Int) < 26; decide), _, _, _, rfl, rfl, lett_len, a1, _, rfl, _, rfl, _, _, rfl, rfl, ⟨by decide, by decide⟩, _, _, _, rfl, rfl, lett_len, a2, _, _, rfl, rfl, (by rw [sign_len, sign_len]; decide), _, rfl, _, _, rfl, rfl, ?_⟩
    refine ⟨m2 - 1, by omega, turnW t, t + 1, _, _, _, _, _, rfl, turn_word k2, bd, fun s hs => ?_, fun _ => rfl, by omega, by omega⟩
    by_cases e : s + 1 < t
    · exact t1 s e
    · have e3 : s = t - 1 := by omega
      rw [e3, ← t2 (by omega)]
      exact hw
end
end K05

namespace K05
open PySem L2 Wd Wm
theorem at_ints {xs : List Int} {r : Int} (h0 : 0 ≤ r) (h1 : r < (xs.length : Int)) : ∃ x, atI (xs.map V.int) r = some (.int x) ∧ x ∈ xs := by
  obtain ⟨k, rfl⟩ := Int.eq_ofNat_of_zero_le h0
  have hk : k < xs.length := by omega
  exact ⟨xs[k], atI_nat (by rw [List.getElem?_map, List.getElem?_eq_getElem hk]; rfl), List.getElem_mem hk⟩
theorem at_nat {xs : List Str} {i : Nat} {x : Str} (h : xs[i]? = some x) : atI (xs.map V.str) (0 + (i : Int)) = some (.str x) := by
  rw [Int.zero_add]
  exact atI_nat (by rw [List.getElem?_map, h]; rfl)
section
variable {P : Program} {w : World} {K : PySem.W.Frag} {mg : Str → Option Value} {base : Heap}
/-! ### _law_size -/
def spSize : Sp := fun vs H Q _ => ∃ (d c : Addr) (most : Int), vs = [.ref d, .int most] ∧ Deck H d c ∧ 0 ≤ most ∧ most < 1000000 ∧ ∀ (r : Int) (H' : Hp), 0 ≤ r → Stp d c H H' → Q (.int r) H'
theorem sc_size : FnScope ["deck", "most"] ["deck", "most"] (defScope s_law_size) := ⟨rfl, rfl, rfl, by decide +kernel, rfl, by decide +kernel, by decide +kernel⟩
theorem ok_size {f : Addr} {fd : FuncData} (F : Fun K "_law_size" "_law_size" s_law_size f fd) (T : Tx mg) (oT : Own P w K mg base 1 "_law_take" ["deck", "many"] spTake) : FnOk P w K mg base CX0 2 f fd ["deck", "most"] spSize := by
  have nd := sc_size.nd
  obtain ⟨ft, fdt, G_law_take, b_law_take, k_law_take, m_law_take⟩ := oT
  refine F.ok sc_size (fun vs H Q E h => ?_) (fun cdv A outer s H vs Q E hr h => ?_)
  · obtain ⟨d, c, most, rfl, _⟩ := h
    rfl
  have hr_law_take := hr
  obtain ⟨d, c, most, rfl, D, m0, m1, q⟩ := h
  refine SB.use (bone
  (bret (eix ix_list (elst (acons (ecall G_law_take hr_law_take (by unfold Gl; kernel_rfl) m_law_take k_law_take b_law_take .nil pass0 (acons (ev 0 rfl (Or.inl (by kernel_rfl)) (by kernel_rfl) (by kernel_rfl)) (acons eint anil (by kernel_rfl)) (by kernel_rfl)) (by kernel_rfl) (by kernel_rfl) (by kernel_rfl)) (acons (ecall G_law_take hr_law_take (by unfold Gl; kernel_rfl) m_law_take k_law_take b_law_take .nil pass0 (acons (ev 0 rfl (Or.inl (by kernel_rfl)) (by kernel_rfl) (by kernel_rfl)) (acons (eop op_add (ev 1 rfl (Or.inl (by kernel_rfl)) (by kernel_rfl) (by kernel_rfl)) eint) anil (by kernel_rfl)) (by kernel_rfl)) (by kernel_rfl) (by kernel_rfl) (by kernel_rfl)) (acons (ev 1 rfl (Or.inl (by kernel_rfl)) (by kernel_rfl) (by kernel_rfl)) (acons (ecall G_law_take hr_law_take (by unfold Gl; kernel_rfl) m_law_take k_law_take b_law_take .nil pass0 (acons (ev 0 rfl (Or.inl (by kernel_rfl)) (by kernel_rfl) (by kernel_rfl)) (acons eint anil (by kernel_rfl)) (by kernel_rfl)) (by kernel_rfl) (by kernel_rfl) (by kernel_rfl)) anil (by kernel_rfl)) (by kernel_rfl)) (by kernel_rfl)) (by kernel_rfl))) (ecall G_law_take hr_law_take (by unfold Gl; kernel_rfl) m_law_take k_law_take b_law_take .nil pass0 (acons (ev 0 rfl (Or.inl (by kernel_rfl)) (by kernel_rfl) (by kernel_rfl)) (acons eint anil (by kernel_rfl)) (by kernel_rfl)) (by kernel_rfl) (by kernel_rfl) (by kernel_rfl)) (fun _ _ => rfl)))) ?_
  refine ⟨_, rfl, d, c, 5, rfl, D, by decide, by decide, fun r1 H1 a1 b1 s1 => ?_⟩
  refine ⟨_, rfl, _, rfl, _, _, rfl, rfl, d, c, most + 1, rfl, s1.dk, by omega, by omega, fun r2 H2 a2 b2 s2 => ?_⟩
  refine ⟨_, rfl, _, rfl, d, c, 8, rfl, s2.dk, by decide, by decide, fun r3 H3 a3 b3 s3 => ?_⟩
  refine ⟨(by show 4 ≤ sizeLine; decide), fun p hp => ?_⟩
  have st := (s1.trans (s2.trans s3)).new hp (.lst [V.int r1, V.int r2, V.int most, V.int r3])
  have np := s3.dk.nd hp
  refine ⟨_, rfl, d, c, 4, rfl, st.dk, by decide, by decide, fun r4 H4 a4 b4 s4 => ?_⟩
  obtain ⟨x, hx, mx⟩ := at_ints (xs := [r1, r2, most, r3]) a4 (by exact b4)
  refine ⟨p, _, _, _, rfl, rfl, SqL.of (s4.k _ _ upd_same np.1 np.2), hx, ?_⟩
  refine q x H4 ?_ (st.trans s4)
  simp only [List.mem_cons, List.not_mem_nil, or_false] at mx
  rcases mx with rfl | rfl | rfl | rfl <;> assumption
/-! ### _law_web -/
/-- a web stands at a -/
structure WebAt (K : PySem.W.Frag) (H : Hp) (a : Addr) (names : List Str) (ties : List SS) : Prop where
  at_ : ∃ (na ta : Addr) (vs : List V), SqT K H a [.ref na, .ref ta] ∧ SqT K H na (names.map V.str) ∧ SqT K H ta vs ∧ Prs K H vs ties
theorem WebAt.keep {H H' : Hp} {a : Addr} {names : List Str} {ties : List SS} (h : WebAt K H a names ties) (k : KeepT H H') : WebAt K H' a names ties := by
  obtain ⟨na, ta, vs, h1, h2, h3, h4⟩ := h.at_
  exact ⟨na, ta, vs, k.seqT h1, k.seqT h2, k.seqT h3, h4.keep k⟩
def spWeb (K : PySem.W.Frag) : Sp := fun vs H Q _ => ∃ (d c : Addr) (most : Int), vs = [.ref d, .int most] ∧ Deck H d c ∧ 0 ≤ most ∧ most ≤ 14 ∧
  ∀ (a : Addr) (names : List Str) (ties : List SS) (H' : Hp), Stp d c H H' → WebAt K H' a names ties → WebOk names ties → (names.length : Int) ≤ most → Q (.ref a) H'
structure Wb (K : PySem.W.Frag) (d c nl mu tl : Addr) (H : Hp) (names : List Str) (ms : List Int) (vs : List V) (ps : List SS) (H2 : Hp) : Prop where
  st : Stp d c H H2
  nl : H2 nl = some (.lst (names.map V.str))
  mu : H2 mu = some (.lst (ms.map V.int))
  tl : H2 tl = some (.lst vs)
  ps : Prs K H2 vs ps
section
variable {d c nl mu tl : Addr} {H H2 H3 : Hp} {names : List Str} {ms : List Int} {vs : List V} {ps : List SS}
theorem Wb.step (b : Wb K d c nl mu tl H names ms vs ps H2) (D : Deck H d c) (n1 : H nl = none) (n2 : H mu = none) (n3 : H tl = none) (s : Stp d c H2 H3) : Wb K d c nl mu tl H names ms vs ps H3 :=
  ⟨b.st.trans s, s.k _ _ b.nl (D.nd n1).1 (D.nd n1).2, s.k _ _ b.mu (D.nd n2).1 (D.nd n2).2, s.k _ _ b.tl (D.nd n3).1 (D.nd n3).2, b.ps.keep (Stp.keepT b.st.dk s)⟩
theorem Wb.new (b : Wb K d c nl mu tl H names ms vs ps H2) {p : Addr} (n : H2 p = none) (x : HO) : Wb K d c nl mu tl H names ms vs ps (upd H2 p x) :=
  ⟨b.st.new n x, by rw [upd_ne (ne_of_none b.nl n)]; exact b.nl, by rw [upd_ne (ne_of_none b.mu n)]; exact b.mu, by rw [upd_ne (ne_of_none b.tl n)]; exact b.tl, b.ps.same (same_new n x)⟩
end
theorem sc_web : FnScope ["deck", "most", "names", "menu", "way", "ties", "k", "j", "drawn"] ["deck", "most"] (defScope s_law_web) := ⟨rfl, rfl, rfl, by decide +kernel, rfl, by decide +kernel, by decide +kernel⟩
/-- the pairs met so far, up to place j of row k -/
def Met (names : List Str) (k j : Nat) (ps : List SS) : Prop := ps.Nodup ∧ ∀ p ∈ ps, ∃ a b, a < b ∧ (b < k ∨ (b = k ∧ a < j)) ∧ names[a]? = some p.1 ∧ names[b]? = some p.2
theorem Met.more {names : List Str} {k j : Nat} {ps : List SS} (h : Met names k j ps) : Met names k (j + 1) ps := ⟨h.1, fun p hp => by obtain ⟨a, b, h1, h2, h3⟩ := h.2 p hp; exact ⟨a, b, h1, by omega, h3⟩⟩
theorem Met.row {names : List Str} {k : Nat} {ps : List SS} (h : Met names k k ps) : Met names (k + 1) 0 ps := ⟨h.1, fun p hp => by obtain ⟨a, b, h1, h2, h3⟩ := h.2 p hp; exact ⟨a, b, h1, by omega, h3⟩⟩
theorem Met.len {names : List Str} {k j : Nat} {ps : List SS} (hn : names.Pairwise sLt) (h14 : names.length ≤ 14) (h : Met names k j ps) : ps.length ≤ 1000 := by
  have sub : ∀ p ∈ ps, p ∈ pairsL names := fun p hp => by
    obtain ⟨a, b, h1, _, h3, h4⟩ := h.2 p hp
    exact (mem_pairs hn).mpr ⟨List.mem_of_getElem? h3, List.mem_of_getElem? h4, at_lt hn h1 h3 h4⟩
  have l1 := nodup_le h.1 sub
  have l2 := len_pairs names
  have l3 : names.length * (names.length - 1) ≤ 14 * 14 := Nat.mul_le_mul h14 (by omega)
  omega
theorem Met.add {names : List Str} {k j : Nat} {ps : List SS} (hn : names.Pairwise sLt) (h : Met names k j ps) {x y : Str} (hjk : j < k) (hx : names[j]? = some x) (hy : names[k]? = some y) : Met names k (j + 1) (ps ++ [(x, y)]) := by
  refine ⟨?_, fun p hp => ?_⟩
  · rw [List.nodup_append]
    refine ⟨h.1, by simp, fun a ha b hb e => ?_⟩
    have e2 : a = (x, y) := by rw [e, List.mem_singleton.mp hb]
    subst e2
    obtain ⟨a', b', h1, h2, h3, h4⟩ := h.2 _ ha
    have := inj hn h3 hx
    have := inj hn h4 hy
    omega
  · rcases List.mem_append.mp hp with hp | hp
    · obtain ⟨a, b, h1, h2, h3⟩ := h.2 p hp
      exact ⟨a, b, h1, by omega, h3⟩
    · rw [List.mem_singleton.mp hp]
      exact ⟨j, k, hjk, by omega, hx, hy⟩
theorem Met.ok {names : List Str} {k j : Nat} {ps ps' : List SS} (hn : names.Pairwise sLt) (hw : ∀ x ∈ names, Word x ∧ x ∉ own16) (h : Met names k j ps) (hp : ps'.Perm ps) (hs : ps'.Pairwise (fun p q => prLt q p = false)) : WebOk names ps' :=
  ⟨hn, hw, asc_of hs (hp.nodup_iff.mpr h.1), fun p hp' => by
    obtain ⟨a, b, h1, _, h3, h4⟩ := h.2 p (hp.mem_iff.mp hp')
    exact ⟨List.mem_of_getElem? h3, List.mem_of_getElem? h4, at_lt hn h1 h3 h4⟩⟩
theorem ok_web {f : Addr} {fd : FuncData} (F : Fun K "_law_web" "_law_web" s_law_web f fd) (T : Tx mg) (oT : Own P w K mg base 1 "_law_take" ["deck", "many"] spTake) (oN : Own P w K mg base 2 "_law_names" ["deck", "many"] spNames) (oS : Own P w K mg base 2 "_law_size" ["deck", "most"] spSize) : FnOk P w K mg base CX0 3 f fd ["deck", "most"] (spWeb K) := by
  have nd := sc_web.nd
  obtain ⟨ft, fdt, G_law_take, b_law_take, k_law_take, m_law_take⟩ := oT
  obtain ⟨fn, fdn, G_law_names, b_law_names, k_law_names, m_law_names⟩ := oN
  obtain ⟨fs, fds, G_law_size, b_law_size, k_law_size, m_law_size⟩ := oS
  refine F.ok sc_web (fun vs H Q E h => ?_) (fun cdv A outer s H vs Q E hr h => ?_)
  · obtain ⟨d, c, most, rfl, _⟩ := h
    rfl
  have hr_law_take := hr.mono (j := 1) (by decide)
  have hr_law_names := hr
  have hr_law_size := hr
  obtain ⟨d, c, most, rfl, D, m0, m1, q⟩ := h
  refine SB.use (bcons
  (bset (n := 2) nd rfl (Or.inl (by kernel_rfl)) (ecallB cr_sortedS (by unfold Gl; kernel_rfl) T.sorted L2.boot_sorted (acons (ecall G_law_names hr_law_names (by unfold Gl; kernel_rfl) m_law_names k_law_names b_law_names .nil pass0 (acons (ev 0 rfl (Or.inl (by kernel_rfl)) (by kernel_rfl) (by kernel_rfl)) (acons (ecallB (call_min2 rfl) (by unfold Gl; kernel_rfl) T.min L2.boot_min (acons (ev 1 rfl (Or.inl (by kernel_rfl)) (by kernel_rfl) (by kernel_rfl)) (acons (ecall G_law_size hr_law_size (by unfold Gl; kernel_rfl) m_law_size k_law_size b_law_size .nil pass0 (acons (ev 0 rfl (Or.inl (by kernel_rfl)) (by kernel_rfl) (by kernel_rfl)) (acons (ev 1 rfl (Or.inl (by kernel_rfl)) (by kernel_rfl) (by kernel_rfl)) anil (by kernel_rfl)) (by kernel_rfl)) (by kernel_rfl) (by kernel_rfl) (by kernel_rfl)) anil (by kernel_rfl)) (by kernel_rfl)) (by decide +kernel) (by kernel_rfl) (by kernel_rfl) (by kernel_rfl)) anil (by kernel_rfl)) (by kernel_rfl)) (by kernel_rfl) (by kernel_rfl) (by kernel_rfl)) anil (by kernel_rfl)) (by decide +kernel) (by kernel_rfl) (by kernel_rfl) (by kernel_rfl)) (by kernel_rfl) (.inl rfl))
  (bcons
  (bset (n := 3) nd rfl (Or.inl (by kernel_rfl)) (eix ix_list (elst (acons (elst (acons eint anil (by kernel_rfl))) (acons (elst (acons eint anil (by kernel_rfl))) (acons (elst (acons eint (acons eint anil (by kernel_rfl)) (by kernel_rfl))) (acons (elst (acons eint (acons eint (acons eint (acons eint anil (by kernel_rfl)) (by kernel_rfl)) (by kernel_rfl)) (by kernel_rfl))) (acons (elst (acons eint (acons eint (acons eint (acons eint anil (by kernel_rfl)) (by kernel_rfl)) (by kernel_rfl)) (by kernel_rfl))) anil (by kernel_rfl)) (by kernel_rfl)) (by kernel_rfl)) (by kernel_rfl)) (by kernel_rfl))) (ecall G_law_take hr_law_take (by unfold Gl; kernel_rfl) m_law_take k_law_take b_law_take .nil pass0 (acons (ev 0 rfl (Or.inl (by kernel_rfl)) (by kernel_rfl) (by kernel_rfl)) (acons eint anil (by kernel_rfl)) (by kernel_rfl)) (by kernel_rfl) (by kernel_rfl) (by kernel_rfl)) (fun _ _ => rfl)) (by kernel_rfl) (.inl rfl))
  (bcons
  (bset (n := 4) nd rfl (Or.inl (by kernel_rfl)) (ecall G_law_take hr_law_take (by unfold Gl; kernel_rfl) m_law_take k_law_take b_law_take .nil pass0 (acons (ev 0 rfl (Or.inl (by kernel_rfl)) (by kernel_rfl) (by kernel_rfl)) (acons eint anil (by kernel_rfl)) (by kernel_rfl)) (by kernel_rfl) (by kernel_rfl) (by kernel_rfl)) (by kernel_rfl) (.inl rfl))
  (bcons
  (bset (n := 5) nd rfl (Or.inl (by kernel_rfl)) (elst anil) (by kernel_rfl) (.inl rfl))
  (bcons
  (bfor PassesOwn.never rfl (irange1 (by unfold Gl; kernel_rfl) T.range (acons (ecallB call_len_seq (by unfold Gl; kernel_rfl) T.len L2.boot_len (acons (ev 2 rfl (Or.inl (by kernel_rfl)) (by kernel_rfl) (by kernel_rfl)) anil (by kernel_rfl)) (by decide +kernel) (by kernel_rfl) (by kernel_rfl) (by kernel_rfl)) anil (by kernel_rfl)) (by kernel_rfl)) (gname (n := 6) nd rfl (Or.inl (by kernel_rfl)) (.inl rfl)) (bone
  (bfor PassesOwn.never rfl (irange1 (by unfold Gl; kernel_rfl) T.range (acons (ev 6 rfl (Or.inl (by kernel_rfl)) (by kernel_rfl) (by kernel_rfl)) anil (by kernel_rfl)) (by kernel_rfl)) (gname (n := 7) nd rfl (Or.inl (by kernel_rfl)) (.inl rfl)) (bcons
  (bset (n := 8) nd rfl (Or.inl (by kernel_rfl)) (eix ix_list (ev 3 rfl (Or.inl (by kernel_rfl)) (by kernel_rfl) (by kernel_rfl)) (ecall G_law_take hr_law_take (by unfold Gl; kernel_rfl) m_law_take k_law_take b_law_take .nil pass0 (acons (ev 0 rfl (Or.inl (by kernel_rfl)) (by kernel_rfl) (by kernel_rfl)) (acons (ecallB call_len_seq (by unfold Gl; kernel_rfl) T.len L2.boot_len (acons (ev 3 rfl (Or.inl (by kernel_rfl)) (by kernel_rfl) (by kernel_rfl)) anil (by kernel_rfl)) (by decide +kernel) (by kernel_rfl) (by kernel_rfl) (by kernel_rfl)) anil (by kernel_rfl)) (by kernel_rfl)) (by kernel_rfl) (by kernel_rfl) (by kernel_rfl)) (fun _ _ => rfl)) (by kernel_rfl) (.inl rfl))
  (bcons
  (bifs (tcmp op_eq (ev 4 rfl (Or.inl (by kernel_rfl)) (by kernel_rfl) (by kernel_rfl)) eint (nomark _)) (bone
  (bset (n := 8) nd rfl (Or.inl (by kernel_rfl)) (ecallT call_int1 (by unfold Gl; kernel_rfl) T.int L2.boot_int (acons (ecmp op_in_seq (eop op_sub (ev 6 rfl (Or.inl (by kernel_rfl)) (by kernel_rfl) (by kernel_rfl)) (ev 7 rfl (Or.inl (by kernel_rfl)) (by kernel_rfl) (by kernel_rfl))) (elst (acons eint (acons (eop op_sub (ecallB call_len_seq (by unfold Gl; kernel_rfl) T.len L2.boot_len (acons (ev 2 rfl (Or.inl (by kernel_rfl)) (by kernel_rfl) (by kernel_rfl)) anil (by kernel_rfl)) (by decide +kernel) (by kernel_rfl) (by kernel_rfl) (by kernel_rfl)) eint) anil (by kernel_rfl)) (by kernel_rfl))) (by kernel_rfl)) anil (by kernel_rfl)) (by decide +kernel) (by kernel_rfl) (by kernel_rfl) (by kernel_rfl)) (by kernel_rfl) (.inl rfl))) bnil)
  (bcons
  (bifs (tw (wand (tcmp op_eq (ev 4 rfl (Or.inl (by kernel_rfl)) (by kernel_rfl) (by kernel_rfl)) eint (nomark _)) (wand1 (tcmp op_gt (eop op_mod (eop op_sub (ev 6 rfl (Or.inl (by kernel_rfl)) (by kernel_rfl) (by kernel_rfl)) (ev 7 rfl (Or.inl (by kernel_rfl)) (by kernel_rfl) (by kernel_rfl))) eint) eint (nomark _))))) (bone
  (bset (n := 8) nd rfl (Or.inl (by kernel_rfl)) eint (by kernel_rfl) (.inl rfl))) bnil)
  (bone
  (bifs (tcmp op_eq (ev 8 rfl (Or.inl (by kernel_rfl)) (by kernel_rfl) (by kernel_rfl)) eint (nomark _)) (bone
  (bexpr (ebm PySem.F.plainAttrs_list PySem.F.slot_list_append PySem.F.type_list_append mt_append (ev 5 rfl (Or.inl (by kernel_rfl)) (by kernel_rfl) (by kernel_rfl)) (acons (etup (acons (eix ix_list (ev 2 rfl (Or.inl (by kernel_rfl)) (by kernel_rfl) (by kernel_rfl)) (ev 7 rfl (Or.inl (by kernel_rfl)) (by kernel_rfl) (by kernel_rfl)) (fun _ _ => rfl)) (acons (eix ix_list (ev 2 rfl (Or.inl (by kernel_rfl)) (by kernel_rfl) (by kernel_rfl)) (ev 6 rfl (Or.inl (by kernel_rfl)) (by kernel_rfl) (by kernel_rfl)) (fun _ _ => rfl)) anil (by kernel_rfl)) (by kernel_rfl))) anil (by kernel_rfl)) (by kernel_rfl) (by kernel_rfl) (by kernel_rfl) (by kernel_rfl) (by kernel_rfl)) (by kernel_rfl))) bnil))))) (by intro _; rfl))) (by intro _; rfl))
  (bone
  (bret (etup (acons (ecallT call_tuple_of (by unfold Gl; kernel_rfl) T.tuple L2.boot_tuple (acons (ev 2 rfl (Or.inl (by kernel_rfl)) (by kernel_rfl) (by kernel_rfl)) anil (by kernel_rfl)) (by decide +kernel) (by kernel_rfl) (by kernel_rfl) (by kernel_rfl)) (acons (ecallT call_tuple_of (by unfold Gl; kernel_rfl) T.tuple L2.boot_tuple (acons (ecallB cr_sortedP (by unfold Gl; kernel_rfl) T.sorted L2.boot_sorted (acons (ev 5 rfl (Or.inl (by kernel_rfl)) (by kernel_rfl) (by kernel_rfl)) anil (by kernel_rfl)) (by decide +kernel) (by kernel_rfl) (by kernel_rfl) (by kernel_rfl)) anil (by kernel_rfl)) (by decide +kernel) (by kernel_rfl) (by kernel_rfl) (by kernel_rfl)) anil (by kernel_rfl)) (by kernel_rfl)))))))))) ?_
  -- names = sorted(_law_names(deck, min(most, _law_size(deck, most))))
  refine ⟨_, rfl, _, rfl, _, rfl, _, rfl, d, c, most, rfl, D, m0, by omega, fun r H1 r0 s1 => ?_⟩
  refine ⟨_, _, rfl, d, c, _, rfl, s1.dk, (by split <;> omega), (by split <;> omega), fun l found H2 s2 nl1 h2 hlen hnd hwd => ?_⟩
  have hlen' : (found.length : Int) ≤ most := by rw [hlen]; split <;> omega
  refine ⟨l, found, rfl, SqL.of h2, by omega, fun names nl perm srt hnl => ?_⟩
  have hn : names.Pairwise sLt := strict srt (perm.nodup_iff.mpr hnd)
  have hw : ∀ x ∈ names, Word x ∧ x ∉ own16 := fun x hx => hwd x (perm.mem_iff.mp hx)
  have n14 : names.length ≤ 14 := by rw [perm.length_eq]; omega
  have st := s1.trans s2
  have nnl : H nl = none := st.free hnl
  have st := st.new hnl (.lst (names.map V.str))
  have e0 : (upd H2 nl (.lst (names.map V.str))) nl = some (.lst (names.map V.str)) := upd_same
  generalize upd H2 nl (.lst (names.map V.str)) = H3 at st e0
  -- menu
  refine ⟨(by show 1 ≤ sizeLine; decide), fun p1 hp1 => ⟨(by show 1 ≤ sizeLine; decide), fun p2 hp2 => ⟨(by show 2 ≤ sizeLine; decide), fun p3 hp3 => ⟨(by show 4 ≤ sizeLine; decide), fun p4 hp4 => ⟨(by show 4 ≤ sizeLine; decide), fun p5 hp5 => ⟨(by show 5 ≤ sizeLine; decide), fun p6 hp6 => ?_⟩⟩⟩⟩⟩⟩
  have t1 := st.new hp1 (.lst ([0].map V.int))
  have t2 := t1.new hp2 (.lst ([1].map V.int))
  have t3 := t2.new hp3 (.lst ([0, 1].map V.int))
  have t4 := t3.new hp4 (.lst ([0, 1, 1, 1].map V.int))
  have t5 := t4.new hp5 (.lst ([0, 0, 0, 1].map V.int))
  have t6 := t5.new hp6 (.lst [V.ref p1, V.ref p2, V.ref p3, V.ref p4, V.ref p5])
  have n21 : p1 ≠ p2 := ne_of_none upd_same hp2
  have g1 : ∀ {G : Hp} {a b : Addr} {o u : HO}, G a = some o → G b = none → (upd G b u) a = some o := fun {G a b o u} h k => by rw [upd_ne (ne_of_none h k)]; exact h
  have v1 := g1 (u := .lst [V.ref p1, V.ref p2, V.ref p3, V.ref p4, V.ref p5]) (g1 (u := .lst ([0, 0, 0, 1].map V.int)) (g1 (u := .lst ([0, 1, 1, 1].map V.int)) (g1 (u := .lst ([0, 1].map V.int)) (g1 (u := .lst ([1].map V.int)) (upd_same (H := H3) (a := p1) (o := .lst ([0].map V.int))) hp2) hp3) hp4) hp5) hp6
  have v2 := g1 (u := .lst [V.ref p1, V.ref p2, V.ref p3, V.ref p4, V.ref p5]) (g1 (u := .lst ([0, 0, 0, 1].map V.int)) (g1 (u := .lst ([0, 1, 1, 1].map V.int)) (g1 (u := .lst ([0, 1].map V.int)) (upd_same (a := p2) (o := .lst ([1].map V.int))) hp3) hp4) hp5) hp6
  have v3 := g1 (u := .lst [V.ref p1, V.ref p2, V.ref p3, V.ref p4, V.ref p5]) (g1 (u := .lst ([0, 0, 0, 1].map V.int)) (g1 (u := .lst ([0, 1, 1, 1].map V.int)) (upd_same (a := p3) (o := .lst ([0, 1].map V.int))) hp4) hp5) hp6
  have v4 := g1 (u := .lst [V.ref p1, V.ref p2, V.ref p3, V.ref p4, V.ref p5]) (g1 (u := .lst ([0, 0, 0, 1].map V.int)) (upd_same (a := p4) (o := .lst ([0, 1, 1, 1].map V.int))) hp5) hp6
  have v5 := g1 (u := .lst [V.ref p1, V.ref p2, V.ref p3, V.ref p4, V.ref p5]) (upd_same (a := p5) (o := .lst ([0, 0, 0, 1].map V.int))) hp6
  have e6 := g1 (u := .lst [V.ref p1, V.ref p2, V.ref p3, V.ref p4, V.ref p5]) (g1 (u := .lst ([0, 0, 0, 1].map V.int)) (g1 (u := .lst ([0, 1, 1, 1].map V.int)) (g1 (u := .lst ([0, 1].map V.int)) (g1 (u := .lst ([1].map V.int)) (g1 (u := .lst ([0].map V.int)) e0 hp1) hp2) hp3) hp4) hp5) hp6
  have np6 := t5.dk.nd hp6
  refine ⟨_, rfl, d, c, 5, rfl, t6.dk, by decide, by decide, fun r7 H7 a7 b7 s7 => ?_⟩
  have hmenu : ∃ (mu : Addr) (ms : List Int), atI [V.ref p1, V.ref p2, V.ref p3, V.ref p4, V.ref p5] r7 = some (.ref mu) ∧ H7 mu = some (.lst (ms.map V.int)) ∧ H mu = none ∧ 0 < ms.length ∧ ms.length ≤ 4 := by
    have k : ∀ (p : Addr) (ms : List Int), H p = none → (upd (upd (upd (upd (upd (upd H3 p1 (.lst ([0].map V.int))) p2 (.lst ([1].map V.int))) p3 (.lst ([0, 1].map V.int))) p4 (.lst ([0, 1, 1, 1].map V.int))) p5 (.lst ([0, 0, 0, 1].map V.int))) p6 (.lst [V.ref p1, V.ref p2, V.ref p3, V.ref p4, V.ref p5])) p = some (.lst (ms.map V.int)) → H7 p = some (.lst (ms.map V.int)) := fun p ms n h => s7.k _ _ h (D.nd n).1 (D.nd n).2
    have i1 := st.free hp1
    have i2 := t1.free hp2
    have i3 := t2.free hp3
    have i4 := t3.free hp4
    have i5 := t4.free hp5
    have c5 : r7 = 0 ∨ r7 = 1 ∨ r7 = 2 ∨ r7 = 3 ∨ r7 = 4 := by omega
    rcases c5 with rfl | rfl | rfl | rfl | rfl
    · exact ⟨p1, [0], rfl, k p1 _ i1 v1, i1, by decide, by decide⟩
    · exact ⟨p2, [1], rfl, k p2 _ i2 v2, i2, by decide, by decide⟩
    · exact ⟨p3, [0, 1], rfl, k p3 _ i3 v3, i3, by decide, by decide⟩
    · exact ⟨p4, [0, 1, 1, 1], rfl, k p4 _ i4 v4, i4, by decide, by decide⟩
    · exact ⟨p5, [0, 0, 0, 1], rfl, k p5 _ i5 v5, i5, by decide, by decide⟩
  obtain ⟨mu, ms, hat, hmu, nmu, ml1, ml2⟩ := hmenu
  refine ⟨p6, _, _, _, rfl, rfl, SqL.of (s7.k _ _ upd_same np6.1 np6.2), hat, ?_⟩
  have st := t6.trans s7
  have e7 := s7.k _ _ e6 (D.nd nnl).1 (D.nd nnl).2
  -- way
  refine ⟨_, rfl, d, c, 4, rfl, st.dk, by decide, by decide, fun way H8 a8 b8 s8 => ?_⟩
  have st := st.trans s8
  have e8 := s8.k _ _ e7 (D.nd nnl).1 (D.nd nnl).2
  have hmu := s8.k _ _ hmu (D.nd nmu).1 (D.nd nmu).2
  -- ties = []
  refine ⟨(by show 0 ≤ sizeLine; decide), fun tl htl => ?_⟩
  have ntl : H tl = none := st.free htl
  have ntn : tl ≠ nl := (ne_of_none e8 htl).symm
  have ntm : tl ≠ mu := (ne_of_none hmu htl).symm
  have wb0 : Wb K d c nl mu tl H names ms [] [] _ := ⟨st.new htl (.lst []), by rw [upd_ne ntn.symm]; exact e8, by rw [upd_ne ntm.symm]; exact hmu, upd_same, .nil⟩
  -- for k
  have kl : (((names.map V.str).length : Nat) : Int) ≤ 14 := by rw [List.length_map]; omega
  refine ⟨_, rfl, nl, _, rfl, .inl (SqL.of wb0.nl), _, rfl, by omega, by omega, ?_⟩
  refine for_range (lo := 0) (fun k σ H9 => ∃ (vs : List V) (ps : List SS) (kv jv dv : Option V), σ = [some (.ref d), some (.int most), some (.ref nl), some (.ref mu), some (.int way), some (.ref tl), kv, jv, dv] ∧ Wb K d c nl mu tl H names ms vs ps H9 ∧ Met names k 0 ps) ⟨[], [], _, _, _, rfl, wb0, List.nodup_nil, fun p hp => by cases hp⟩ ?_ ?_
  · rintro k σ H9 hk ⟨vs, ps, kv, jv, dv, rfl, wb, met⟩
    rw [Int.toNat_natCast, List.length_map] at hk
    refine ⟨_, rfl, _, rfl, by omega, by omega, ?_⟩
    refine for_range (lo := 0) (fun j σ H9 => ∃ (vs : List V) (ps : List SS) (jv dv : Option V), σ = [some (.ref d), some (.int most), some (.ref nl), some (.ref mu), some (.int way), some (.ref tl), some (.int (0 + (k : Int))), jv, dv] ∧ Wb K d c nl mu tl H names ms vs ps H9 ∧ Met names k j ps) ⟨vs, ps, _, _, rfl, wb, met⟩ ?_ ?_
    · rintro j σ H9 hj ⟨vs, ps, jv, dv, rfl, wb, met⟩
      have hj' : j < k := by omega
      -- drawn = menu[..]
      refine ⟨_, rfl, _, rfl, _, rfl, mu, _, rfl, .inl (SqL.of wb.mu), d, c, _, rfl, wb.st.dk, (by rw [List.length_map]; omega), (by rw [List.length_map]; omega), fun r H10 a10 b10 s10 => ?_⟩
      have wb := wb.step D nnl nmu ntl s10
      rw [List.length_map] at b10
      obtain ⟨x, hx, _⟩ := at_ints (xs := ms) a10 b10
      refine ⟨mu, _, _, _, rfl, rfl, SqL.of wb.mu, hx, ?_⟩
      -- if way == 1
      have s0 : Stp d c H10 H10 := Stp.refl s10.dk
      refine ⟨_, rfl, rfl, _, rfl, ?_⟩
      refine ite2 (fun w1 => ?A1) (fun w1 => ?A2)
      case' A1 =>
        refine ⟨_, rfl, _, rfl, _, _, rfl, rfl, _, rfl, nl, _, rfl, .inl (SqL.of wb.nl), _, _, rfl, rfl, (by show 2 ≤ sizeLine; decide), fun p hp => ?_⟩
        refine ⟨p, _, rfl, .inl (SqL.of upd_same), rfl, rfl, .inr ⟨_, rfl, ?_⟩⟩
        have wb := wb.new hp (.lst [V.int 1, V.int ((((names.map V.str).length : Nat) : Int) - 1)])
      case' A2 =>
        have wb := wb
      all_goals
        -- if way == 2 and ..
        refine ⟨_, rfl, rfl, _, rfl, ?_⟩
        refine ite2 (fun w2 => ⟨_, rfl, _, rfl, _, _, rfl, rfl, _, _, rfl, rfl, (by show (0 : Int) < 3; decide), _, _, rfl, rfl, _, rfl, ite2 (fun w3 => ?_) (fun w3 => ?_)⟩) (fun w2 => iteF ?_)
        all_goals
          -- if drawn == 1
          refine ⟨_, rfl, rfl, _, rfl, ?_⟩
          refine ite2 (fun w4 => ?_) (fun w4 => ⟨vs, ps, _, _, rfl, wb, met.more⟩)
          · obtain ⟨x1, hx1⟩ : ∃ x1, names[j]? = some x1 := ⟨names[j], List.getElem?_eq_getElem (by omega)⟩
            obtain ⟨x2, hx2⟩ : ∃ x2, names[k]? = some x2 := ⟨names[k], List.getElem?_eq_getElem (by omega)⟩
            refine ⟨_, rfl, .inl ⟨rfl, _, SqL.of wb.tl⟩, _, rfl, _, rfl, nl, _, _, _, rfl, rfl, SqL.of wb.nl, at_nat hx1, _, rfl, _, rfl, nl, _, _, _, rfl, rfl, SqL.of wb.nl, at_nat hx2, (by show 2 ≤ sizeLine; decide), fun t ht => ?_⟩
            have ntt : tl ≠ t := ne_of_none wb.tl ht
            have wb2 := wb.new ht (.tup [V.str x1, V.str x2])
            refine ⟨tl, _, _, rfl, rfl, wb2.tl, ?_, ?_⟩
            · have e := Paired.length wb.ps
              rw [e]
              exact small1000 (met.len hn n14)
            · refine ⟨vs ++ [V.ref t], ps ++ [(x1, x2)], _, _, rfl, ⟨wb2.st.upd ntl (D.nd ntl).1 (D.nd ntl).2 _, by rw [upd_ne ntn.symm]; exact wb2.nl, by rw [upd_ne ntm.symm]; exact wb2.mu, upd_same, ?_⟩, met.add hn hj' hx1 hx2⟩
              have kt := keepT_upd wb2.tl (.lst (vs ++ [V.ref t]))
              exact Paired.snoc (wb2.ps.keep kt) ⟨t, rfl, kt.seqT (SqT.of upd_same)⟩
    · rintro σ H9 ⟨vs, ps, jv, dv, rfl, wb, met⟩
      have e : ((0 + (k : Int)).toNat) = k := by omega
      rw [e] at met
      exact ⟨vs, ps, _, _, _, rfl, wb, met.row⟩
  · rintro σ H9 ⟨vs, ps, kv, jv, dv, rfl, wb, met⟩
    -- return (tuple(names), tuple(sorted(ties)))
    refine ⟨_, rfl, nl, _, rfl, .inl ⟨SqL.of wb.nl, fun na hna => ?_⟩⟩
    have wb := wb.new hna (.tup (names.map V.str))
    have ena : (upd H9 na (.tup (names.map V.str))) na = some (.tup (names.map V.str)) := upd_same
    generalize upd H9 na (.tup (names.map V.str)) = H10 at wb ena
    refine ⟨_, rfl, tl, _, _, rfl, SqL.of wb.tl, wb.ps, fun vs' ps' sl hps' perm2 srt2 hsl => ?_⟩
    have wb := wb.new hsl (.lst vs')
    have hps' := hps'.same (same_new hsl (.lst vs'))
    have ena : (upd H10 sl (.lst vs')) na = some (.tup (names.map V.str)) := by rw [upd_ne (ne_of_none ena hsl)]; exact ena
    refine ⟨sl, _, rfl, .inl ⟨SqL.of upd_same, fun ta hta => ?_⟩⟩
    have wb := wb.new hta (.tup vs')
    have hps' := hps'.same (same_new hta (.tup vs'))
    have ena := g1 (u := .tup vs') ena hta
    refine ⟨(by show 2 ≤ sizeLine; decide), fun a ha => ?_⟩
    have wb := wb.new ha (.tup [.ref na, .ref ta])
    have hps' := hps'.same (same_new ha (.tup [.ref na, .ref ta]))
    have ena := g1 (u := .tup [.ref na, .ref ta]) ena ha
    refine q a names ps' _ wb.st ⟨na, ta, vs', SqT.of upd_same, SqT.of ena, SqT.of (by rw [upd_ne (ne_of_none upd_same ha)]; exact upd_same), hps'⟩ (met.ok hn hw perm2 srt2) (by rw [perm.length_eq]; exact hlen')
end
end K05

namespace K05
open PySem L2
section
variable {P : Program} {w : World} {K : PySem.W.Frag} {mg : Str → Option Value} {base : Heap}
def spSame (K : PySem.W.Frag) (n : Nat) : Sp := fun vs H Q _ => ∃ (x y : V), vs = [x, y] ∧ Eqd K H n x y ∧ ∀ H', Same H H' → Q (.bl true) H'
theorem sc_same : FnScope ["found", "due", "one", "other"] ["found", "due"] (defScope s_law_same) := ⟨rfl, rfl, rfl, by decide +kernel, rfl, by decide +kernel, by decide +kernel⟩
theorem same_step {f : Addr} {fd : FuncData} {n : Nat} (F : Fun K "_law_same" "_law_same" s_law_same f fd) (T : Tx mg) (G_law_same : FnOk P w K mg base CX0 n f fd ["found", "due"] (spSame K n)) (b_law_same : Binds K fd ["found", "due"] []) (m_law_same : mg "_law_same" = some (.ref f)) :
    FnOk P w K mg base CX0 (n + 1) f fd ["found", "due"] (spSame K (n + 1)) := by
  have nd := sc_same.nd
  have k_law_same := F.kp
  refine F.ok sc_same (fun vs H Q E h => ?_) (fun cdv A outer s H vs Q E hr h => ?_)
  · obtain ⟨x, y, rfl, _⟩ := h
    rfl
  have hr_law_same := hr
  obtain ⟨x, y, rfl, he, q⟩ := h
  refine SB.use (bcons
  (bifs (tval (ecallB cr_isi (by unfold Gl; kernel_rfl) T.isinstance L2.boot_isinstance (acons (ev 1 rfl (Or.inl (by kernel_rfl)) (by kernel_rfl) (by kernel_rfl)) (acons (ebltn (v := .ty "tuple") (by unfold Gl; kernel_rfl) T.tuple L2.boot_tuple rfl (by decide +kernel) (by kernel_rfl)) anil (by kernel_rfl)) (by kernel_rfl)) (by decide +kernel) (by kernel_rfl) (by kernel_rfl) (by kernel_rfl)) (by intro _; rfl)) (bcons
  (bifs (tw (wor (tnot (tval (ecallB cr_isi (by unfold Gl; kernel_rfl) T.isinstance L2.boot_isinstance (acons (ev 0 rfl (Or.inl (by kernel_rfl)) (by kernel_rfl) (by kernel_rfl)) (acons (ebltn (v := .ty "tuple") (by unfold Gl; kernel_rfl) T.tuple L2.boot_tuple rfl (by decide +kernel) (by kernel_rfl)) anil (by kernel_rfl)) (by kernel_rfl)) (by decide +kernel) (by kernel_rfl) (by kernel_rfl) (by kernel_rfl)) (by intro _; rfl))) (wor1 (tcmp op_ne (ecallB call_len_seq (by unfold Gl; kernel_rfl) T.len L2.boot_len (acons (ev 0 rfl (Or.inl (by kernel_rfl)) (by kernel_rfl) (by kernel_rfl)) anil (by kernel_rfl)) (by decide +kernel) (by kernel_rfl) (by kernel_rfl) (by kernel_rfl)) (ecallB call_len_seq (by unfold Gl; kernel_rfl) T.len L2.boot_len (acons (ev 1 rfl (Or.inl (by kernel_rfl)) (by kernel_rfl) (by kernel_rfl)) anil (by kernel_rfl)) (by decide +kernel) (by kernel_rfl) (by kernel_rfl) (by kernel_rfl)) (nomark _))))) (bone
  (bret ebl)) bnil)
  (bone
  (bret (ecmp (op_eqD hr.units) (elc (own := [("one", 2), ("other", 3)]) (g := gTup K 2 (gCons (gName 2) (gCons (gName 3) gNil))) (by rfl) nd (izipT (by unfold Gl; kernel_rfl) T.zip (acons (ev 0 rfl (Or.inl (by kernel_rfl)) (by kernel_rfl) (by kernel_rfl)) (acons (ev 1 rfl (Or.inl (by kernel_rfl)) (by kernel_rfl) (by kernel_rfl)) anil (by kernel_rfl)) (by kernel_rfl)) (by kernel_rfl) (by kernel_rfl)) (blkOk_by (own := [("one", 2), ("other", 3)]) (N := ["found", "due", "one", "other"]) (sc := defScope s_law_same) (by decide +kernel)) (fun _ _ _ _ _ => (gtup (n := 2) rfl (gscons (gname (n := 2) nd rfl (Or.inl (by kernel_rfl)) (.inr (by kernel_rfl))) (gscons (gname (n := 3) nd rfl (Or.inl (by kernel_rfl)) (.inr (by kernel_rfl))) gsnil (by kernel_rfl)) (by kernel_rfl)) (by kernel_rfl) (by kernel_rfl))) (fun _ _ _ _ _ => (uone (tnot (tval (ecall G_law_same hr_law_same (by unfold Gl; kernel_rfl) m_law_same k_law_same b_law_same .nil pass0 (acons (ev 2 rfl (Or.inl (by kernel_rfl)) (by kernel_rfl) (by kernel_rfl)) (acons (ev 3 rfl (Or.inl (by kernel_rfl)) (by kernel_rfl) (by kernel_rfl)) anil (by kernel_rfl)) (by kernel_rfl)) (by kernel_rfl) (by kernel_rfl) (by kernel_rfl)) (by intro _; rfl))))) (fun _ _ _ _ _ => eint) (by intro _; rfl)) (elst anil) (nomark _))))) bnil)
  (bcons
  (bifs (tval (ecallB cr_isi (by unfold Gl; kernel_rfl) T.isinstance L2.boot_isinstance (acons (ev 1 rfl (Or.inl (by kernel_rfl)) (by kernel_rfl) (by kernel_rfl)) (acons (ebltn (v := .ty "str") (by unfold Gl; kernel_rfl) T.str L2.boot_str rfl (by decide +kernel) (by kernel_rfl)) anil (by kernel_rfl)) (by kernel_rfl)) (by decide +kernel) (by kernel_rfl) (by kernel_rfl) (by kernel_rfl)) (by intro _; rfl)) (bone
  (bret (eand (ecallB cr_isi (by unfold Gl; kernel_rfl) T.isinstance L2.boot_isinstance (acons (ev 0 rfl (Or.inl (by kernel_rfl)) (by kernel_rfl) (by kernel_rfl)) (acons (ebltn (v := .ty "str") (by unfold Gl; kernel_rfl) T.str L2.boot_str rfl (by decide +kernel) (by kernel_rfl)) anil (by kernel_rfl)) (by kernel_rfl)) (by decide +kernel) (by kernel_rfl) (by kernel_rfl) (by kernel_rfl)) (eone (ecmp op_eq (ev 0 rfl (Or.inl (by kernel_rfl)) (by kernel_rfl) (by kernel_rfl)) (ev 1 rfl (Or.inl (by kernel_rfl)) (by kernel_rfl) (by kernel_rfl)) (nomark _)))))) bnil)
  (bone
  (bret (eand (ecallB cr_isi (by unfold Gl; kernel_rfl) T.isinstance L2.boot_isinstance (acons (ev 0 rfl (Or.inl (by kernel_rfl)) (by kernel_rfl) (by kernel_rfl)) (acons (ebltn (v := .ty "int") (by unfold Gl; kernel_rfl) T.int L2.boot_int rfl (by decide +kernel) (by kernel_rfl)) anil (by kernel_rfl)) (by kernel_rfl)) (by decide +kernel) (by kernel_rfl) (by kernel_rfl) (by kernel_rfl)) (eand (enot (ecallB cr_isi (by unfold Gl; kernel_rfl) T.isinstance L2.boot_isinstance (acons (ev 0 rfl (Or.inl (by kernel_rfl)) (by kernel_rfl) (by kernel_rfl)) (acons (ebltn (v := .ty "bool") (by unfold Gl; kernel_rfl) T.bool L2.boot_bool rfl (by decide +kernel) (by kernel_rfl)) anil (by kernel_rfl)) (by kernel_rfl)) (by decide +kernel) (by kernel_rfl) (by kernel_rfl) (by kernel_rfl))) (eone (ecmp op_eq (ev 0 rfl (Or.inl (by kernel_rfl)) (by kernel_rfl) (by kernel_rfl)) (ev 1 rfl (Or.inl (by kernel_rfl)) (by kernel_rfl) (by kernel_rfl)) (nomark _))))))))) ?_
  rcases he with (⟨z, rfl, rfl⟩ | ⟨i, rfl, rfl⟩) | ⟨a, b, xs, ys, rfl, rfl, ha, hb, hp⟩
  · -- texts
    refine ⟨_, rfl, _, "str", "tuple", rfl, rfl, .inl rfl, _, rfl, ite2 (fun h => absurd h (by decide)) (fun _ => ?_)⟩
    refine ⟨_, rfl, _, "str", "str", rfl, rfl, .inr (.inl rfl), _, rfl, ite2 (fun _ => ?_) (fun h => absurd (by decide) h)⟩
    refine ⟨_, rfl, _, "str", "str", rfl, rfl, .inr (.inl rfl), _, rfl, ite2 (fun _ => ?_) (fun h => absurd (by decide) h)⟩
    refine ⟨_, rfl, _, rfl, rfl, ?_⟩
    rw [decide_eq_true rfl]
    exact q H (Same.refl H)
  · -- numbers
    refine ⟨_, rfl, _, "int", "tuple", rfl, rfl, .inl rfl, _, rfl, ite2 (fun h => absurd h (by decide)) (fun _ => ?_)⟩
    refine ⟨_, rfl, _, "int", "str", rfl, rfl, .inr (.inl rfl), _, rfl, ite2 (fun h => absurd h (by decide)) (fun _ => ?_)⟩
    refine ⟨_, rfl, _, "int", "int", rfl, rfl, .inr (.inr (.inl rfl)), _, rfl, ite2 (fun _ => ?_) (fun h => absurd (by decide) h)⟩
    refine ⟨_, rfl, _, "int", "bool", rfl, rfl, .inr (.inr (.inr rfl)), _, rfl, _, rfl, ite2 (fun _ => ?_) (fun h => absurd (by decide) h)⟩
    refine ⟨_, rfl, _, rfl, rfl, ?_⟩
    rw [decide_eq_true rfl]
    exact q H (Same.refl H)
  · -- tuples
    have hl : xs.length = ys.length := Paired.length hp
    refine ⟨_, rfl, _, "tuple", "tuple", rfl, ⟨rfl, _, hb⟩, .inl rfl, _, rfl, ite2 (fun _ => ?_) (fun h => absurd (by decide) h)⟩
    refine ⟨_, rfl, _, "tuple", "tuple", rfl, ⟨rfl, _, ha⟩, .inl rfl, _, rfl, ite2 (fun h => absurd h (by decide)) (fun _ => ?_)⟩
    refine ⟨_, rfl, a, _, rfl, .inr ha, _, rfl, b, _, rfl, .inr hb, rfl, _, rfl, ?_⟩
    refine iteNS (by rw [hl]) ?_
    refine ⟨_, rfl, _, rfl, a, b, xs, ys, rfl, ha, hb, fun D hD => ?_⟩
    refine lc_zipT (xs := xs) (ys := ys) (fun i H2 => Same H H2 ∧ H2 D = some (.lst [])) ⟨same_new hD _, upd_same⟩ (fun i H2 _ p => ⟨p.1.seqT ha, p.1.seqT hb⟩) hl ?_ ?_
    · rintro i x y H2 t hx hy ht ⟨s2, h2⟩
      refine ⟨t, [x, y], rfl, SqT.of upd_same, rfl, x, [y], rfl, y, [], rfl, rfl, rfl, ?_⟩
      have s3 := s2.trans (same_new ht (.tup [x, y]))
      refine ⟨_, rfl, _, rfl, x, y, rfl, Eqd.same s3 (Paired.get hp hx hy), fun H4 s4 => ⟨_, rfl, iteF ?_⟩⟩
      exact ⟨s3.trans s4, s4 _ _ (by rw [upd_ne (ne_of_none h2 ht)]; exact h2)⟩
    · rintro H2 ⟨s2, h2⟩
      refine ⟨(by show 0 ≤ sizeLine; decide), fun p hp2 => ?_⟩
      have e : (upd H2 p (.lst [])) D = some (.lst []) := by rw [upd_ne (ne_of_none h2 hp2)]; exact h2
      refine ⟨.list [], .list [], .lst (SqL.of e) .nil, .lst (SqL.of upd_same) .nil, rfl, rfl, ?_⟩
      exact q _ (s2.trans (same_new hp2 _))
theorem ok_same {f : Addr} {fd : FuncData} (F : Fun K "_law_same" "_law_same" s_law_same f fd) (T : Tx mg) (b_law_same : Binds K fd ["found", "due"] []) (m_law_same : mg "_law_same" = some (.ref f)) : ∀ n, FnOk P w K mg base CX0 n f fd ["found", "due"] (spSame K n)
  | 0 => by
    have no : ∀ vs H Q E, ¬ spSame K 0 vs H Q E := fun vs H Q E h => by
      obtain ⟨x, y, _, h, _⟩ := h
      exact h
    exact ⟨fun vs H Q E h => absurd h (no vs H Q E), fun A outer s H args us vs Q E _ _ _ _ h => absurd h (no vs H Q E)⟩
  | n + 1 => same_step F T (ok_same F T b_law_same m_law_same n) b_law_same m_law_same
end
end K05

namespace K05
open PySem L2 Wd Wm
/-- a list of pairs grows at D -/
structure Pp (K : PySem.W.Frag) (H : Hp) (D : Addr) (ps : List SS) (H2 : Hp) : Prop where
  s : Same H H2
  v : ∃ vs, H2 D = some (.lst vs) ∧ Prs K H2 vs ps
section
variable {K : PySem.W.Frag} {H H2 : Hp} {D : Addr} {ps : List SS}
theorem Pp.new (h : Pp K H D ps H2) {p : Addr} (n : H2 p = none) (o : HO) : Pp K H D ps (upd H2 p o) := by
  obtain ⟨vs, h1, h2⟩ := h.v
  exact ⟨h.s.trans (same_new n o), vs, by rw [upd_ne (ne_of_none h1 n)]; exact h1, h2.same (same_new n o)⟩
theorem Pp.add (h : Pp K H D ps H2) (n : H D = none) {acc : List V} (ha : H2 D = some (.lst acc)) {v : V} {p : SS} (hv : IsPr K H2 v p) : Pp K H D (ps ++ [p]) (upd H2 D (.lst (acc ++ [v]))) := by
  obtain ⟨vs, h1, h2⟩ := h.v
  rw [ha] at h1
  cases h1
  have kt := keepT_upd ha (.lst (acc ++ [v]))
  exact ⟨fun b o e => by rw [upd_ne (ne_of_none e n)]; exact h.s b o e, _, upd_same, Paired.snoc (h2.keep kt) (hv.keep kt)⟩
theorem Pp.start (n : H D = none) : Pp K H D [] (upd H D (.lst [])) := ⟨same_new n _, [], upd_same, .nil⟩
end
end K05

namespace K05
open PySem L2 Wd Wm Km
theorem str_at {names : List Str} {i : Nat} {v : V} (hv : (names.map V.str)[i]? = some v) : ∃ x, names[i]? = some x ∧ V.str x = v := by
  rw [List.getElem?_map] at hv
  cases e : names[i]? with
  | none => rw [e] at hv; cases hv
  | some x => rw [e] at hv; exact ⟨x, rfl, Option.some.inj hv⟩
theorem cut_to {xs : List Str} {i : Nat} (h : i < xs.length) : cutV (xs.map V.str) none (some (i : Int)) = (xs.take i).map V.str := by
  unfold cutV
  rw [HT.sIx_none, HT.sIx_nat, List.length_map, List.drop_zero]
  have e : min i xs.length - 0 = i := by omega
  rw [e, List.map_take]
theorem take_filter {α : Type} {l : List α} {f : α → Bool} {i : Nat} {x : α} (h : l[i]? = some x) : (l.take (i + 1)).filter f = (l.take i).filter f ++ (if f x = true then [x] else []) := by
  rw [List.take_succ, h, List.filter_append]
  congr 1
  show [x].filter f = _
  rw [List.filter_cons]
  rfl
/-- a list of texts grows at D -/
structure Sp1 (H : Hp) (D : Addr) (xs : List Str) (H2 : Hp) : Prop where
  s : Same H H2
  v : H2 D = some (.lst (xs.map V.str))
theorem Sp1.start {H : Hp} {D : Addr} (n : H D = none) : Sp1 H D [] (upd H D (.lst [])) := ⟨same_new n _, upd_same⟩
theorem Sp1.add {H H2 : Hp} {D : Addr} {xs : List Str} (h : Sp1 H D xs H2) (n : H D = none) (x : Str) : Sp1 H D (xs ++ [x]) (upd H2 D (.lst (xs.map V.str ++ [V.str x]))) :=
  ⟨fun b o e => by rw [upd_ne (ne_of_none e n)]; exact h.s b o e, by rw [upd_same, List.map_append]; rfl⟩
end K05

namespace K05
open PySem L2 Wd Wm Km
section
variable {P : Program} {w : World} {K : PySem.W.Frag} {mg : Str → Option Value} {base : Heap}
def spSome (K : PySem.W.Frag) : Sp := fun vs H Q _ => ∃ (d c a : Addr) (names : List Str), vs = [.ref d, .ref a] ∧ Deck H d c ∧ SqT K H a (names.map V.str) ∧ names.length ≤ 900 ∧
  ∀ (r : Addr) (xs : List Str) (H' : Hp), Stp d c H H' → H' r = some (.tup (xs.map V.str)) → xs.Sublist names → Q (.ref r) H'
theorem sc_some : FnScope ["deck", "names", "rate", "name"] ["deck", "names"] (defScope s_law_some) := ⟨rfl, rfl, rfl, by decide +kernel, rfl, by decide +kernel, by decide +kernel⟩
theorem ok_some {f : Addr} {fd : FuncData} (F : Fun K "_law_some" "_law_some" s_law_some f fd) (T : Tx mg) (oT : Own P w K mg base 1 "_law_take" ["deck", "many"] spTake) : FnOk P w K mg base CX0 2 f fd ["deck", "names"] (spSome K) := by
  have nd := sc_some.nd
  obtain ⟨ft, fdt, G_law_take, b_law_take, k_law_take, m_law_take⟩ := oT
  refine F.ok sc_some (fun vs H Q E h => ?_) (fun cdv A outer s H vs Q E hr h => ?_)
  · obtain ⟨d, c, a, names, rfl, _⟩ := h
    rfl
  have hr_law_take := hr
  obtain ⟨d, c, a, names, rfl, Dk, ha, h900, q⟩ := h
  refine SB.use (bcons
  (bset (n := 2) nd rfl (Or.inr (by kernel_rfl)) (eop op_add eint (ecall G_law_take hr_law_take (by unfold Gl; kernel_rfl) m_law_take k_law_take b_law_take .nil pass0 (acons (ev 0 rfl (Or.inr (Or.inl (by kernel_rfl))) (by kernel_rfl) (by kernel_rfl)) (acons eint anil (by kernel_rfl)) (by kernel_rfl)) (by kernel_rfl) (by kernel_rfl) (by kernel_rfl))) (by kernel_rfl) (.inl rfl))
  (bone
  (bret (ecallT call_tuple_of (by unfold Gl; kernel_rfl) T.tuple L2.boot_tuple (acons (elc (own := [("name", 3)]) (g := gName 3) (by rfl) nd (itup (ev 1 rfl (Or.inl (by kernel_rfl)) (by kernel_rfl) (by kernel_rfl))) (blkOk_by (own := [("name", 3)]) (N := ["deck", "names", "rate", "name"]) (sc := defScope s_law_some) (by decide +kernel)) (fun _ _ _ _ _ => (gname (n := 3) nd rfl (Or.inl (by kernel_rfl)) (.inr (by kernel_rfl)))) (fun _ _ _ _ _ => (uone (tcmp op_eq (ecall G_law_take hr_law_take (by unfold Gl; kernel_rfl) m_law_take k_law_take b_law_take .nil pass0 (acons (ev 0 rfl (Or.inr (Or.inl (by kernel_rfl))) (by kernel_rfl) (by kernel_rfl)) (acons (ev 2 rfl (Or.inr (Or.inl (by kernel_rfl))) (by kernel_rfl) (by kernel_rfl)) anil (by kernel_rfl)) (by kernel_rfl)) (by kernel_rfl) (by kernel_rfl) (by kernel_rfl)) eint (nomark _)))) (fun _ _ _ _ _ => (ev 3 rfl (Or.inl (by kernel_rfl)) (by kernel_rfl) (by kernel_rfl))) (by intro _; rfl)) anil (by kernel_rfl)) (by decide +kernel) (by kernel_rfl) (by kernel_rfl) (by kernel_rfl))))) ?_
  refine ⟨_, rfl, d, c, 4, rfl, Dk, by decide, by decide, fun r4 H1 r0 r1 st => ?_⟩
  refine ⟨_, _, rfl, rfl, ?_⟩
  refine ⟨_, rfl, a, rfl, ⟨_, (st.keepT Dk).seqT ha⟩, fun D hD => ?_⟩
  have nD : H D = none := st.free hD
  refine lc_tup (xs := names.map V.str) (fun i H2 => ∃ xs : List Str, Stp d c H H2 ∧ H2 D = some (.lst (xs.map V.str)) ∧ xs.Sublist (names.take i)) ⟨[], st.new hD _, upd_same, List.nil_sublist _⟩ (fun i H2 _ ⟨_, z, _⟩ => (z.keepT Dk).seqT ha) ?_ ?_
  · rintro i v H2 hv ⟨xs, st2, eD, sub⟩
    obtain ⟨x, hx, rfl⟩ := str_at hv
    have hi : i < names.length := (List.getElem?_eq_some_iff.mp hx).1
    have tk : names.take (i + 1) = names.take i ++ [x] := by rw [List.take_succ, hx]; rfl
    refine ⟨rfl, _, rfl, _, rfl, d, c, _, rfl, st2.dk, by omega, by omega, fun r H3 r2 r3 s3 => ?_⟩
    have eD3 := s3.k _ _ eD (Dk.nd nD).1 (Dk.nd nD).2
    have st3 := st2.trans s3
    refine ⟨rfl, _, rfl, ite2 (fun c1 => ?_) (fun c1 => ?_)⟩
    · have hl := sub.length_le
      rw [List.length_take] at hl
      refine ⟨_, rfl, _, eD3, (by rw [List.length_map]; exact small1000 (by omega)), xs ++ [x], st3.upd nD (Dk.nd nD).1 (Dk.nd nD).2 _, by rw [upd_same, List.map_append]; rfl, ?_⟩
      rw [tk]
      exact sub.append (List.Sublist.refl _)
    · refine ⟨xs, st3, eD3, ?_⟩
      rw [tk]
      exact sub.trans (List.sublist_append_left _ _)
  · rintro H2 ⟨xs, st2, eD, sub⟩
    rw [List.length_map, List.take_length] at sub
    refine ⟨D, _, rfl, .inl ⟨SqL.of eD, fun r hr' => ?_⟩⟩
    exact q r xs _ (st2.new hr' _) upd_same sub
end
end K05

namespace K05
open PySem L2 Wd Wm Tm
def unS : V → Str
  | .str x => x
  | _ => ""
theorem strs_perm {ys : List V} {names : List Str} (h : ys.Perm (names.map V.str)) : ∃ words : List Str, ys = words.map V.str ∧ words.Perm names := by
  refine ⟨ys.map unS, ?_, ?_⟩
  · rw [List.map_map]
    have : ∀ y ∈ ys, (V.str ∘ unS) y = y := fun y hy => by
      obtain ⟨x, _, rfl⟩ := List.mem_map.mp (h.mem_iff.mp hy)
      rfl
    rw [List.map_congr_left this, List.map_id']
  · have := h.map unS
    rw [List.map_map] at this
    have e : names.map (unS ∘ V.str) = names := by
      have : (unS ∘ V.str) = id := rfl
      rw [this, List.map_id]
    rw [e] at this
    exact this
theorem erase_perm {α : Type} : ∀ {l : List α} {k : Nat} (h : k < l.length), (l[k] :: l.eraseIdx k).Perm l
  | x :: r, 0, _ => List.Perm.refl _
  | x :: r, k + 1, h => by
    have ih := erase_perm (l := r) (k := k) (by simpa using h)
    show (r[k]'(by simpa using h) :: x :: r.eraseIdx k).Perm (x :: r)
    exact (List.Perm.swap _ _ _).trans (ih.cons x)
end K05

namespace K05
open PySem L2 Wd Wm Tm
section
variable {P : Program} {w : World} {K : PySem.W.Frag} {mg : Str → Option Value} {base : Heap}
def spShuf (K : PySem.W.Frag) : Sp := fun vs H Q _ => ∃ (d c a : Addr) (xs : List V), vs = [.ref d, .ref a] ∧ Deck H d c ∧ (SqL K H a xs ∨ SqT K H a xs) ∧ xs.length ≤ 900 ∧
  ∀ (l : Addr) (ys : List V) (H' : Hp), Stp d c H H' → H l = none → H' l = some (.lst ys) → ys.Perm xs → Q (.ref l) H'
theorem sc_shuf : FnScope ["deck", "things", "left", "k"] ["deck", "things"] (defScope s_law_shuffled) := ⟨rfl, rfl, rfl, by decide +kernel, rfl, by decide +kernel, by decide +kernel⟩
theorem ok_shuf {f : Addr} {fd : FuncData} (F : Fun K "_law_shuffled" "_law_shuffled" s_law_shuffled f fd) (T : Tx mg) (oT : Own P w K mg base 1 "_law_take" ["deck", "many"] spTake) : FnOk P w K mg base CX0 2 f fd ["deck", "things"] (spShuf K) := by
  have nd := sc_shuf.nd
  obtain ⟨ft, fdt, G_law_take, b_law_take, k_law_take, m_law_take⟩ := oT
  refine F.ok sc_shuf (fun vs H Q E h => ?_) (fun cdv A outer s H vs Q E hr h => ?_)
  · obtain ⟨d, c, a, xs, rfl, _⟩ := h
    rfl
  have hr_law_take := hr
  obtain ⟨d, c, a, xs, rfl, Dk, hx, h900, q⟩ := h
  refine SB.use (bcons
  (bset (n := 2) nd rfl (Or.inr (by kernel_rfl)) (ecallT call_list_of (by unfold Gl; kernel_rfl) T.list L2.boot_list (acons (ev 1 rfl (Or.inl (by kernel_rfl)) (by kernel_rfl) (by kernel_rfl)) anil (by kernel_rfl)) (by decide +kernel) (by kernel_rfl) (by kernel_rfl) (by kernel_rfl)) (by kernel_rfl) (.inl rfl))
  (bone
  (bret (elc (own := [("k", 3)]) (g := gName 3) (by rfl) nd (irange1 (by unfold Gl; kernel_rfl) T.range (acons (ecallB call_len_seq (by unfold Gl; kernel_rfl) T.len L2.boot_len (acons (ev 2 rfl (Or.inr (Or.inl (by kernel_rfl))) (by kernel_rfl) (by kernel_rfl)) anil (by kernel_rfl)) (by decide +kernel) (by kernel_rfl) (by kernel_rfl) (by kernel_rfl)) anil (by kernel_rfl)) (by kernel_rfl)) (blkOk_by (own := [("k", 3)]) (N := ["deck", "things", "left", "k"]) (sc := defScope s_law_shuffled) (by decide +kernel)) (fun _ _ _ _ _ => (gname (n := 3) nd rfl (Or.inl (by kernel_rfl)) (.inr (by kernel_rfl)))) (fun _ _ _ _ _ => unil) (fun _ _ _ _ _ => (ebmK (K := K) rfl PySem.F.plainAttrs_list PySem.F.slot_list_pop PySem.F.type_list_pop mt_popAt (ev 2 rfl (Or.inr (Or.inl (by kernel_rfl))) (by kernel_rfl) (by kernel_rfl)) (acons (ecall G_law_take hr_law_take (by unfold Gl; kernel_rfl) m_law_take k_law_take b_law_take .nil pass0 (acons (ev 0 rfl (Or.inr (Or.inl (by kernel_rfl))) (by kernel_rfl) (by kernel_rfl)) (acons (ecallB (call_len_seqK (K := K) rfl) (by unfold Gl; kernel_rfl) T.len L2.boot_len (acons (ev 2 rfl (Or.inr (Or.inl (by kernel_rfl))) (by kernel_rfl) (by kernel_rfl)) anil (by kernel_rfl)) (by decide +kernel) (by kernel_rfl) (by kernel_rfl) (by kernel_rfl)) anil (by kernel_rfl)) (by kernel_rfl)) (by kernel_rfl) (by kernel_rfl) (by kernel_rfl)) anil (by kernel_rfl)) (by kernel_rfl) (by kernel_rfl) (by kernel_rfl) (by kernel_rfl) (by kernel_rfl))) (by intro _; rfl))))) ?_
  refine ⟨_, rfl, a, xs, rfl, hx, fun lf hlf => ?_⟩
  have st0 : Stp d c H (upd H lf (.lst xs)) := (Stp.refl Dk).new hlf _
  have e0 : (upd H lf (.lst xs)) lf = some (.lst xs) := upd_same
  generalize upd H lf (.lst xs) = H1 at st0 e0
  refine ⟨_, rfl, lf, _, rfl, .inl (SqL.of e0), _, rfl, by omega, by omega, fun D hD => ?_⟩
  have nD : H D = none := st0.free hD
  have nlD : lf ≠ D := ne_of_none e0 hD
  refine lc_range (lo := 0) (fun i H2 => ∃ (ls acc : List V), Stp d c H H2 ∧ H2 lf = some (.lst ls) ∧ H2 D = some (.lst acc) ∧ (acc ++ ls).Perm xs ∧ acc.length = i) ⟨xs, [], st0.new hD _, by rw [upd_ne nlD]; exact e0, upd_same, List.Perm.refl _, rfl⟩ ?_ ?_
  · rintro i H2 hi ⟨ls, acc, st, el, ea, perm, hlen⟩
    have hl := perm.length_eq
    rw [List.length_append] at hl
    have hi' : i < xs.length := by omega
    refine ⟨rfl, tyes ?_⟩
    refine ⟨_, rfl, .inl ⟨rfl, _, SqL.of el⟩, _, rfl, _, rfl, lf, _, rfl, .inl (SqL.of el), d, c, _, rfl, st.dk, by omega, by omega, fun r H3 r0 r1 s3 => ?_⟩
    have el3 := s3.k _ _ el (Dk.nd hlf).1 (Dk.nd hlf).2
    have ea3 := s3.k _ _ ea (Dk.nd nD).1 (Dk.nd nD).2
    have st3 := st.trans s3
    obtain ⟨k, rfl⟩ := Int.eq_ofNat_of_zero_le r0
    have hk : k < ls.length := by omega
    have hix : ixN ls.length ((k : Nat) : Int) = some k := by
      unfold ixN
      rw [if_pos (by omega), if_pos (by omega), Int.toNat_natCast]
    refine ⟨lf, ls, _, k, ls[k], rfl, rfl, el3, by omega, by omega, (ixN_seq hix).1, List.getElem?_eq_getElem hk, acc, by rw [upd_ne nlD.symm]; exact ea3, small1000 (by omega), ?_⟩
    refine ⟨ls.eraseIdx k, acc ++ [ls[k]], ⟨fun b o e n1 n2 => by rw [upd_ne (ne_of_none e nD), upd_ne (ne_of_none e hlf)]; exact st3.k b o e n1 n2, ?_⟩, by rw [upd_ne nlD]; exact upd_same, upd_same, ?_, by rw [List.length_append, hlen]; rfl⟩
    · obtain ⟨cells, n, sd, z1, z2, z3⟩ := st3.dk
      exact ⟨cells, n, sd, by rw [upd_ne (Dk.nd nD).1.symm, upd_ne (Dk.nd hlf).1.symm]; exact z1, by rw [upd_ne (Dk.nd nD).2.symm, upd_ne (Dk.nd hlf).2.symm]; exact z2, z3⟩
    · rw [List.append_assoc]
      exact ((erase_perm hk).append_left acc).trans perm
  · rintro H2 ⟨ls, acc, st, el, ea, perm, hlen⟩
    have hl := perm.length_eq
    rw [List.length_append] at hl
    have : ls = [] := List.eq_nil_of_length_eq_zero (by omega)
    subst this
    rw [List.append_nil] at perm
    exact q D acc H2 st nD ea perm
end
end K05

namespace K05
open PySem L2 Wd Wm
section
variable {K : PySem.W.Frag}
theorem WebAt.eqd {H : Hp} {a b : Addr} {names : List Str} {ties : List SS} (h : WebAt K H a names ties) (k : WebAt K H b names ties) : Eqd K H 4 (.ref a) (.ref b) := by
  obtain ⟨na, ta, vs, h1, h2, h3, h4⟩ := h.at_
  obtain ⟨nb, tb, us, k1, k2, k3, k4⟩ := k.at_
  exact .inr ⟨a, b, _, _, rfl, rfl, h1, k1, .cons (.inr ⟨na, nb, _, _, rfl, rfl, h2, k2, Eqd.strs names⟩) (.cons (.inr ⟨ta, tb, _, _, rfl, rfl, h3, k3, Eqd.prs h4 k4⟩) .nil)⟩
theorem Deck.same {H H' : Hp} {d c : Addr} (h : Deck H d c) (s : Same H H') : Deck H' d c := by
  obtain ⟨cells, n, sd, z1, z2, z3⟩ := h
  exact ⟨cells, n, sd, s _ _ z1, s _ _ z2, z3⟩
end
end K05

namespace K05
open PySem L2 Wd Wm Km
theorem boot_ValueError : bootBuiltins "ValueError" = some (.type "ValueError") := by decide +kernel
/-- the errors of the program, of which one that keeps a word is raised -/
structure Exn (P : Program) (K : PySem.W.Frag) (mg : Str → Option Value) (aS aR aA aN aW : Addr) : Prop where
  mS : mg "SetError" = some (.ref aS)
  mR : mg "NoRow" = some (.ref aR)
  mA : mg "NoAsk" = some (.ref aA)
  mN : mg "NoName" = some (.ref aN)
  mW : mg "NoWeb" = some (.ref aW)
  sup : mg "super" = none
  cN : RaiseI P K aN aS "word"
  xN : Xc.ExC K aN (.ref aS :: bmV)
  xS : Xc.ExC K aS bmV
  eN : ExA K aN
  wN : ExW K aN "word"
  iA : PySem.W.kitOne K (.ref aN) (.ref aA) = some false
  iN : PySem.W.kitOne K (.ref aN) (.ref aN) = some true
  iR : PySem.W.kitOne K (.ref aN) (.ref aR) = some false
  iW : PySem.W.kitOne K (.ref aN) (.ref aW) = some false
  iV : PySem.W.kitOne K (.ref aN) (.type "ValueError") = some true
def OwnX (P : Program) (w : World) (K : PySem.W.Frag) (mg : Str → Option Value) (base : Heap) (k : Nat) (x : Str) (ps : List Str) (sp : Sp) : Prop :=
  ∃ f fd, FnOk P w K mg base (CX1 P w) k f fd ps sp ∧ Binds K fd ps [] ∧ PySem.W.keepIn K (.ref f) = true ∧ mg x = some (.ref f)
/-- the first wrong one -/
def wrongL (names : List Str) : List Str → List Str → Option Str
  | _, [] => none
  | seen, x :: r => if (!decide (x ∈ names) || decide (x ∈ seen)) = true then some x else wrongL names (seen ++ [x]) r
theorem wrong_at {names xs : List Str} {i : Nat} {x : Str} (h : xs[i]? = some x) : wrongL names (xs.take i) (xs.drop i) = if (!decide (x ∈ names) || decide (x ∈ xs.take i)) = true then some x else wrongL names (xs.take (i + 1)) (xs.drop (i + 1)) := by
  have hi := (List.getElem?_eq_some_iff.mp h).1
  have e1 : xs.drop i = x :: xs.drop (i + 1) := by rw [List.drop_eq_getElem_cons hi, (List.getElem?_eq_some_iff.mp h).2]
  have e2 : xs.take (i + 1) = xs.take i ++ [x] := by rw [List.take_succ, h]; rfl
  rw [e1, e2]
  rfl
theorem wrong_end {names xs : List Str} : wrongL names (xs.take xs.length) (xs.drop xs.length) = none := by rw [List.drop_length]; rfl
theorem wrong_ok {names : List Str} : ∀ {xs seen : List Str}, (∀ x ∈ xs, x ∈ names) → (seen ++ xs).Nodup → wrongL names seen xs = none
  | [], _, _, _ => rfl
  | x :: r, seen, h, nd => by
    have h1 : x ∈ names := h x (List.mem_cons_self ..)
    have h2 : x ∉ seen := fun m => by
      have := List.nodup_append.mp nd
      exact this.2.2 x m x (List.mem_cons_self ..) rfl
    unfold wrongL
    rw [if_neg (by simp [h1, h2])]
    exact wrong_ok (fun y hy => h y (List.mem_cons_of_mem _ hy)) (by rw [List.append_assoc]; exact nd)
theorem wrong_mem {names : List Str} : ∀ {xs seen : List Str} {x : Str}, wrongL names seen xs = some x → x ∈ xs
  | [], _, _, h => by cases h
  | y :: r, seen, x, h => by
    unfold wrongL at h
    split at h
    · cases h; exact List.mem_cons_self ..
    · exact List.mem_cons_of_mem _ (wrong_mem h)
section
variable {P : Program} {w : World} {K : PySem.W.Frag} {mg : Str → Option Value} {base : Heap}
/-- a new exception with its word -/
def Thrown (aN : Addr) (x : Str) (H : Hp) (E : XK) : Prop := ∀ (y dx : Addr) (H' : Hp), Same H H' → H' y = none → H' dx = none → dx ≠ y → E (.ref aN) (some y) (upd (upd H' dx (.xd [("word", .str x)])) y (.ext (IsEx y aN (some dx))))
/-! ### check_names -/
def spCheck (K : PySem.W.Frag) (aN : Addr) : Sp := fun vs H Q E => ∃ (wa b : Addr) (names xs : List Str) (ties : List SS), vs = [.ref wa, .ref b] ∧ WebAt K H wa names ties ∧ SqT K H b (xs.map V.str) ∧ (∀ x ∈ xs, x.length ≤ 100) ∧
  (wrongL names [] xs = none → ∀ H', Same H H' → Q .non H') ∧ ∀ x, wrongL names [] xs = some x → Thrown aN x H E
theorem sc_check : FnScope ["web", "names", "at", "name"] ["web", "names"] (defScope s_check_names) := ⟨rfl, rfl, rfl, by decide +kernel, rfl, by decide +kernel, by decide +kernel⟩
theorem ok_check {f : Addr} {fd : FuncData} {aS aR aA aN aW : Addr} (F : Fun K "check_names" "check_names" s_check_names f fd) (T : Tx mg) (C : Exn P K mg aS aR aA aN aW) : FnOk P w K mg base (CX1 P w) 2 f fd ["web", "names"] (spCheck K aN) := by
  have nd := sc_check.nd
  refine F.okX sc_check (fun vs H Q E h => ?_) (fun cdv A outer s H vs Q E hr h => ?_)
  · obtain ⟨wa, b, names, xs, ties, rfl, _⟩ := h
    rfl
  obtain ⟨wa, b, names, xs, ties, rfl, wat, hb, hx100, q, qx⟩ := h
  obtain ⟨na, ta, tv, h1, h2, h3, h4⟩ := wat.at_
  have hI_NoName := C.cN
  have m_NoName := C.mN
  have Tsup := C.sup
  refine SB.use (bone
  (bfor PassesOwn.leaving rfl (ienumT (by unfold Gl; kernel_rfl) T.enumerate (acons (ev 1 rfl (Or.inl (by kernel_rfl)) (by kernel_rfl) (by kernel_rfl)) anil (by kernel_rfl)) (by kernel_rfl)) (gtup (n := 2) rfl (gscons (gname (n := 2) nd rfl (Or.inl (by kernel_rfl)) (.inl rfl)) (gscons (gname (n := 3) nd rfl (Or.inl (by kernel_rfl)) (.inl rfl)) gsnil (by kernel_rfl)) (by kernel_rfl)) (by kernel_rfl) (by kernel_rfl)) (bone
  (bifs (tw (wor (tcmp op_notIn_seq (ev 3 rfl (Or.inl (by kernel_rfl)) (by kernel_rfl) (by kernel_rfl)) (eix ix_tup (ev 0 rfl (Or.inl (by kernel_rfl)) (by kernel_rfl) (by kernel_rfl)) eint (fun _ _ => rfl)) (by kernel_rfl)) (wor1 (tcmp op_in_seq (ev 3 rfl (Or.inl (by kernel_rfl)) (by kernel_rfl) (by kernel_rfl)) (eslice sl_tup (ev 1 rfl (Or.inl (by kernel_rfl)) (by kernel_rfl) (by kernel_rfl)) onone (osome (ev 2 rfl (Or.inl (by kernel_rfl)) (by kernel_rfl) (by kernel_rfl)))) (by kernel_rfl))))) (bone
  (braiseI hI_NoName hr Tsup (by unfold Gl; kernel_rfl) m_NoName (acons (ev 3 rfl (Or.inl (by kernel_rfl)) (by kernel_rfl) (by kernel_rfl)) anil (by kernel_rfl)) (by kernel_rfl) (by kernel_rfl))) bnil)) (by intro _; rfl))) ?_
  refine ⟨_, rfl, b, _, rfl, hb, ?_⟩
  refine ⟨fun i m σ H2 => m = xs.length - i ∧ i ≤ xs.length ∧ wrongL names (xs.take i) (xs.drop i) = wrongL names [] xs ∧ ∃ (x2 x3 : Option V), σ = [some (.ref wa), some (.ref b), x2, x3] ∧ Same H H2, ⟨xs.length, by omega, by omega, rfl, _, _, rfl, Same.refl H⟩, ?_⟩
  rintro i m σ H2 ⟨rfl, hi, hw, x2, x3, rfl, s2⟩
  by_cases hlt : i < xs.length
  · obtain ⟨x, hx⟩ : ∃ x, xs[i]? = some x := ⟨xs[i], List.getElem?_eq_getElem hlt⟩
    have hxv : (xs.map V.str)[i]? = some (.str x) := by rw [List.getElem?_map, hx]; rfl
    have hwx := wrong_at (names := names) hx
    rw [hw] at hwx
    have hk : L2.Kept (V.str x) := by
      have := hx100 x (List.mem_of_getElem? hx)
      show x.length ≤ 1000000
      omega
    refine .inr ⟨⟨_, _, s2.seqT hb, hxv⟩, fun σ' H' => wrongL names (xs.take (i + 1)) (xs.drop (i + 1)) = wrongL names [] xs ∧ ∃ (x2 x3 : Option V), σ' = [some (.ref wa), some (.ref b), x2, x3] ∧ Same H H', fun σ' H' h => ⟨xs.length - (i + 1), by omega, rfl, hlt, h⟩, ?_⟩
    rintro v H' ⟨t, x', rfl, nt, rfl, hx'⟩
    have ex : x' = .str x := by
      have := hx' _ (s2.seqT hb)
      rw [hxv] at this
      exact (Option.some.inj this).symm
    subst ex
    have s3 := s2.trans (same_new nt (.tup [.int (i : Nat), .str x]))
    refine ⟨t, _, rfl, SqT.of upd_same, rfl, _, _, rfl, _, _, rfl, rfl, ?_⟩
    generalize upd H2 t (.tup [.int (i : Nat), .str x]) = H3 at s3
    refine ⟨_, rfl, _, rfl, wa, _, _, _, rfl, rfl, s3.seqT h1, rfl, na, _, rfl, .inr (s3.seqT h2), rfl, flat_strs _, _, rfl, ?_⟩
    show if (!inV (V.str x) (names.map V.str)) = true then _ else _
    rw [in_strs]
    refine ite2 (fun c1 => ?_) (fun c1 => ?_)
    · rw [c1, Bool.true_or, if_pos rfl] at hwx
      refine iteT ?_
      exact ⟨_, rfl, _, rfl, hk, fun y dx hy hd ne => qx x hwx y dx H3 s3 hy hd ne⟩
    rw [Bool.eq_false_iff.mpr c1, Bool.false_or] at hwx
    refine ⟨_, rfl, _, rfl, _, rfl, _, rfl, b, _, rfl, s3.seqT hb, ?_, fun p hp => ?_⟩
    · rintro ⟨_, z⟩
      have z' : HT.sIx (xs.map V.str).length (xs.map V.str).length (some ((i : Nat) : Int)) = (xs.map V.str).length := z
      rw [HT.sIx_nat, List.length_map] at z'
      omega
    · have e := cut_to hlt
      have s4 := s3.trans (same_new hp (.tup (cutV (xs.map V.str) none (some (i : Int)))))
      refine ⟨p, (xs.take i).map V.str, rfl, .inr (SqT.of (by rw [← e]; exact upd_same)), rfl, flat_strs _, _, rfl, ?_⟩
      show if (inV (V.str x) ((xs.take i).map V.str)) = true then _ else _
      rw [in_strs]
      refine ite2 (fun c2 => ?_) (fun c2 => ?_)
      · rw [if_pos c2] at hwx
        exact ⟨_, rfl, _, rfl, hk, fun y dx hy hd ne => qx x hwx y dx _ s4 hy hd ne⟩
      · rw [if_neg c2] at hwx
        exact ⟨hwx.symm, _, _, rfl, s4⟩
  · have e : i = xs.length := by omega
    subst e
    rw [wrong_end] at hw
    exact .inl ⟨⟨_, s2.seqT hb, by rw [List.length_map]; exact Nat.le_refl _⟩, q hw.symm _ s2⟩
end
end K05

namespace K05
open PySem L2 Wd Wm Km
section
variable {P : Program} {w : World} {K : PySem.W.Frag} {mg : Str → Option Value} {base : Heap}
/-! ### web_of -/
def spOf (K : PySem.W.Frag) (aN : Addr) : Sp := fun vs H Q E => ∃ (wa b : Addr) (names xs : List Str) (ties : List SS), vs = [.ref wa, .ref b] ∧ WebAt K H wa names ties ∧ WebOk names ties ∧ names.length ≤ 14 ∧ SqT K H b (xs.map V.str) ∧ (∀ x ∈ xs, x.length ≤ 100) ∧
  (wrongL names [] xs = none → ∀ (r : Addr) (H' : Hp), Same H H' → WebAt K H' r (kN names xs) (kT ties xs) → Q (.ref r) H') ∧ ∀ x, wrongL names [] xs = some x → Thrown aN x H E
theorem sc_of : FnScope ["web", "names", "kept", "name", "one", "other"] ["web", "names"] (defScope s_web_of) := ⟨rfl, rfl, rfl, by decide +kernel, rfl, by decide +kernel, by decide +kernel⟩
theorem ok_of {f : Addr} {fd : FuncData} {aN : Addr} (F : Fun K "web_of" "web_of" s_web_of f fd) (T : Tx mg) (oC : OwnX P w K mg base 2 "check_names" ["web", "names"] (spCheck K aN)) : FnOk P w K mg base (CX1 P w) 3 f fd ["web", "names"] (spOf K aN) := by
  have nd := sc_of.nd
  obtain ⟨f1, fd1, G_check_names, b_check_names, k_check_names, m_check_names⟩ := oC
  refine F.okX sc_of (fun vs H Q E h => ?_) (fun cdv A outer s H vs Q E hr h => ?_)
  · obtain ⟨wa, b, names, xs, ties, rfl, _⟩ := h
    rfl
  have hr_check_names := hr
  obtain ⟨wa, b, names, xs, ties, rfl, wat, wok, h14, hb, hx100, q, qx⟩ := h
  obtain ⟨na, ta, tv, h1, h2, h3, h4⟩ := wat.at_
  have lt := ties_le wok h14
  have ltv := Paired.length h4
  refine SB.use (bcons
  (bexpr (ecall G_check_names hr_check_names (by unfold Gl; kernel_rfl) m_check_names k_check_names b_check_names .nil pass1 (acons (ev 0 rfl (Or.inl (by kernel_rfl)) (by kernel_rfl) (by kernel_rfl)) (acons (ev 1 rfl (Or.inr (Or.inl (by kernel_rfl))) (by kernel_rfl) (by kernel_rfl)) anil (by kernel_rfl)) (by kernel_rfl)) (by kernel_rfl) (by kernel_rfl) (by kernel_rfl)) (by kernel_rfl))
  (bcons
  (bset (n := 2) nd rfl (Or.inr (by kernel_rfl)) (ecallT call_tuple_of (by unfold Gl; kernel_rfl) T.tuple L2.boot_tuple (acons (elc (own := [("name", 3)]) (g := gName 3) (by rfl) nd (itup (eix ix_tup (ev 0 rfl (Or.inl (by kernel_rfl)) (by kernel_rfl) (by kernel_rfl)) eint (fun _ _ => rfl))) (blkOk_by (own := [("name", 3)]) (N := ["web", "names", "kept", "name", "one", "other"]) (sc := defScope s_web_of) (by decide +kernel)) (fun _ _ _ _ _ => (gname (n := 3) nd rfl (Or.inl (by kernel_rfl)) (.inr (by kernel_rfl)))) (fun _ _ _ _ _ => (uone (tcmp (op_in_seqK (K := K) rfl) (ev 3 rfl (Or.inl (by kernel_rfl)) (by kernel_rfl) (by kernel_rfl)) (ev 1 rfl (Or.inr (Or.inl (by kernel_rfl))) (by kernel_rfl) (by kernel_rfl)) (by kernel_rfl)))) (fun _ _ _ _ _ => (ev 3 rfl (Or.inl (by kernel_rfl)) (by kernel_rfl) (by kernel_rfl))) (by intro _; rfl)) anil (by kernel_rfl)) (by decide +kernel) (by kernel_rfl) (by kernel_rfl) (by kernel_rfl)) (by kernel_rfl) (.inl rfl))
  (bone
  (bret (etup (acons (ev 2 rfl (Or.inr (Or.inl (by kernel_rfl))) (by kernel_rfl) (by kernel_rfl)) (acons (ecallT call_tuple_of (by unfold Gl; kernel_rfl) T.tuple L2.boot_tuple (acons (elc (own := [("one", 4), ("other", 5)]) (g := gTup K 2 (gCons (gName 4) (gCons (gName 5) gNil))) (by rfl) nd (itup (eix ix_tup (ev 0 rfl (Or.inl (by kernel_rfl)) (by kernel_rfl) (by kernel_rfl)) eint (fun _ _ => rfl))) (blkOk_by (own := [("one", 4), ("other", 5)]) (N := ["web", "names", "kept", "name", "one", "other"]) (sc := defScope s_web_of) (by decide +kernel)) (fun _ _ _ _ _ => (gtup (n := 2) rfl (gscons (gname (n := 4) nd rfl (Or.inl (by kernel_rfl)) (.inr (by kernel_rfl))) (gscons (gname (n := 5) nd rfl (Or.inl (by kernel_rfl)) (.inr (by kernel_rfl))) gsnil (by kernel_rfl)) (by kernel_rfl)) (by kernel_rfl) (by kernel_rfl))) (fun _ _ _ _ _ => (uone (tw (wand (tcmp (op_in_seqK (K := K) rfl) (ev 4 rfl (Or.inl (by kernel_rfl)) (by kernel_rfl) (by kernel_rfl)) (ev 2 rfl (Or.inr (Or.inl (by kernel_rfl))) (by kernel_rfl) (by kernel_rfl)) (by kernel_rfl)) (wand1 (tcmp (op_in_seqK (K := K) rfl) (ev 5 rfl (Or.inl (by kernel_rfl)) (by kernel_rfl) (by kernel_rfl)) (ev 2 rfl (Or.inr (Or.inl (by kernel_rfl))) (by kernel_rfl) (by kernel_rfl)) (by kernel_rfl))))))) (fun _ _ _ _ _ => (etup (acons (ev 4 rfl (Or.inl (by kernel_rfl)) (by kernel_rfl) (by kernel_rfl)) (acons (ev 5 rfl (Or.inl (by kernel_rfl)) (by kernel_rfl) (by kernel_rfl)) anil (by kernel_rfl)) (by kernel_rfl)))) (by intro _; rfl)) anil (by kernel_rfl)) (by decide +kernel) (by kernel_rfl) (by kernel_rfl) (by kernel_rfl)) anil (by kernel_rfl)) (by kernel_rfl))))))) ?_
  refine ⟨_, rfl, _, rfl, wa, b, names, xs, ties, rfl, wat, hb, hx100, fun hw H1 s1 => ?_, qx⟩
  have q := q hw
  refine ⟨_, rfl, wa, _, _, _, rfl, rfl, s1.seqT h1, rfl, na, rfl, ⟨_, s1.seqT h2⟩, fun D hD => ?_⟩
  refine lc_tup (xs := names.map V.str) (fun i H2 => Sp1 H1 D (kN (names.take i) xs) H2) (Sp1.start hD) (fun i H2 _ p => (s1.trans p.s).seqT h2) ?_ ?_
  · intro i v H2 hv p2
    obtain ⟨x, hx, rfl⟩ := str_at hv
    have hi : i < names.length := (List.getElem?_eq_some_iff.mp hx).1
    have s2 := s1.trans p2.s
    refine ⟨rfl, _, rfl, _, rfl, b, _, rfl, .inr (s2.seqT hb), rfl, flat_strs _, _, rfl, ?_⟩
    show if (inV (V.str x) (xs.map V.str)) = true then _ else _
    have tk : kN (names.take (i + 1)) xs = kN (names.take i) xs ++ (if decide (x ∈ xs) = true then [x] else []) := take_filter hx
    rw [in_strs]
    refine ite2 (fun c => ?_) (fun c => ?_)
    · rw [if_pos c] at tk
      have hl := List.length_filter_le (fun n => decide (n ∈ xs)) (names.take i)
      rw [List.length_take] at hl
      refine ⟨_, rfl, _, p2.v, (by rw [List.length_map]; exact small1000 (by show (kN (names.take i) xs).length ≤ _; unfold kN; omega)), ?_⟩
      rw [tk]
      exact p2.add hD x
    · rw [if_neg c, List.append_nil] at tk
      rw [tk]
      exact p2
  · intro H2 p2
    rw [List.length_map, List.take_length] at p2
    have s2 := s1.trans p2.s
    refine ⟨D, _, rfl, .inl ⟨SqL.of p2.v, fun kt hkt => ?_⟩⟩
    have s3 := s2.trans (same_new hkt (.tup ((kN names xs).map V.str)))
    have ek : (upd H2 kt (.tup ((kN names xs).map V.str))) kt = some (.tup ((kN names xs).map V.str)) := upd_same
    generalize upd H2 kt (.tup ((kN names xs).map V.str)) = H3 at s3 ek
    refine ⟨_, rfl, _, rfl, wa, _, _, _, rfl, rfl, s3.seqT h1, rfl, ta, rfl, ⟨_, s3.seqT h3⟩, fun D2 hD2 => ?_⟩
    refine lc_tup (xs := tv) (fun i H4 => Pp K H3 D2 (kT (ties.take i) (kN names xs)) H4) (Pp.start hD2) (fun i H4 _ p => (s3.trans p.s).seqT h3) ?_ ?_
    · intro i v H4 hv p4
      have hi : i < tv.length := (List.getElem?_eq_some_iff.mp hv).1
      obtain ⟨p, hp⟩ : ∃ p, ties[i]? = some p := ⟨ties[i]'(by omega), List.getElem?_eq_getElem (by omega)⟩
      obtain ⟨u, rfl, hu⟩ := Paired.get h4 hv hp
      have s4 := s3.trans p4.s
      have k4 : SqT K H4 kt ((kN names xs).map V.str) := p4.s.seqT (SqT.of ek)
      have tk : kT (ties.take (i + 1)) (kN names xs) = kT (ties.take i) (kN names xs) ++ (if (decide (p.1 ∈ kN names xs) && decide (p.2 ∈ kN names xs)) = true then [p] else []) := take_filter hp
      have no : ∀ H5, (decide (p.1 ∈ kN names xs) && decide (p.2 ∈ kN names xs)) = false → Pp K H3 D2 (kT (ties.take i) (kN names xs)) H5 → Pp K H3 D2 (kT (ties.take (i + 1)) (kN names xs)) H5 := fun H5 c z => by
        rw [tk, c, if_neg (by decide), List.append_nil]
        exact z
      refine ⟨u, _, rfl, s4.seqT hu, rfl, _, _, rfl, _, _, rfl, rfl, rfl, ?_⟩
      refine ⟨_, rfl, _, rfl, kt, _, rfl, .inr k4, rfl, flat_strs _, _, rfl, ?_⟩
      show if (inV (V.str p.1) ((kN names xs).map V.str)) = true then _ else _
      rw [in_strs]
      refine ite2 (fun c1 => ?_) (fun c1 => iteF (no H4 (by rw [Bool.eq_false_iff.mpr c1]; rfl) p4))
      refine ⟨_, rfl, _, rfl, kt, _, rfl, .inr k4, rfl, flat_strs _, _, rfl, ?_⟩
      show if (inV (V.str p.2) ((kN names xs).map V.str)) = true then _ else _
      rw [in_strs]
      refine ite2 (fun c2 => ?_) (fun c2 => no H4 (by rw [Bool.eq_false_iff.mpr c2, Bool.and_false]) p4)
      refine ⟨_, rfl, _, rfl, (by show 2 ≤ sizeLine; decide), fun t ht => ?_⟩
      have p5 := p4.new ht (.tup [.str p.1, .str p.2])
      obtain ⟨acc, hacc, hpr⟩ := id p5.v
      have hlen := Paired.length hpr
      have hl := List.length_filter_le (fun p : SS => decide (p.1 ∈ kN names xs) && decide (p.2 ∈ kN names xs)) (ties.take i)
      rw [List.length_take] at hl
      refine ⟨acc, hacc, (by rw [hlen]; exact small1000 (by unfold kT; omega)), ?_⟩
      rw [c1, c2] at tk
      rw [tk]
      exact p5.add hD2 hacc ⟨t, rfl, SqT.of upd_same⟩
    · intro H4 p4
      rw [ltv, List.take_length, kT_kN wok] at p4
      have s4 := s3.trans p4.s
      obtain ⟨us, hus, hpr⟩ := p4.v
      refine ⟨D2, _, rfl, .inl ⟨SqL.of hus, fun t ht => ?_⟩⟩
      refine ⟨(by show 2 ≤ sizeLine; decide), fun r hr' => ?_⟩
      have s5 := (same_new ht (.tup us)).trans (same_new hr' (.tup [V.ref kt, V.ref t]))
      exact q r _ (s4.trans s5) ⟨kt, t, us, SqT.of upd_same, (p4.s.trans s5).seqT (SqT.of ek), SqT.of (by rw [upd_ne (ne_of_none upd_same hr')]; exact upd_same), hpr.same s5⟩
/-! ### web_without -/
def spWithout (K : PySem.W.Frag) (aN : Addr) : Sp := fun vs H Q E => ∃ (wa b : Addr) (names xs : List Str) (ties : List SS), vs = [.ref wa, .ref b] ∧ WebAt K H wa names ties ∧ WebOk names ties ∧ names.length ≤ 14 ∧ SqT K H b (xs.map V.str) ∧ (∀ x ∈ xs, x.length ≤ 100) ∧
  (wrongL names [] xs = none → ∀ (r : Addr) (H' : Hp), Same H H' → WebAt K H' r (nN names xs) (nT ties xs) → Q (.ref r) H') ∧ ∀ x, wrongL names [] xs = some x → Thrown aN x H E
theorem sc_without : FnScope ["web", "names", "name"] ["web", "names"] (defScope s_web_without) := ⟨rfl, rfl, rfl, by decide +kernel, rfl, by decide +kernel, by decide +kernel⟩
theorem ok_without {f : Addr} {fd : FuncData} {aN : Addr} (F : Fun K "web_without" "web_without" s_web_without f fd) (T : Tx mg) (oC : OwnX P w K mg base 2 "check_names" ["web", "names"] (spCheck K aN)) (oO : OwnX P w K mg base 3 "web_of" ["web", "names"] (spOf K aN)) : FnOk P w K mg base (CX1 P w) 4 f fd ["web", "names"] (spWithout K aN) := by
  have nd := sc_without.nd
  obtain ⟨f1, fd1, G_check_names, b_check_names, k_check_names, m_check_names⟩ := oC
  obtain ⟨f2, fd2, G_web_of, b_web_of, k_web_of, m_web_of⟩ := oO
  refine F.okX sc_without (fun vs H Q E h => ?_) (fun cdv A outer s H vs Q E hr h => ?_)
  · obtain ⟨wa, b, names, xs, ties, rfl, _⟩ := h
    rfl
  have hr_check_names := hr.mono (j := 2) (by decide)
  have hr_web_of := hr
  obtain ⟨wa, b, names, xs, ties, rfl, wat, wok, h14, hb, hx100, q, qx⟩ := h
  obtain ⟨na, ta, tv, h1, h2, h3, h4⟩ := wat.at_
  refine SB.use (bcons
  (bexpr (ecall G_check_names hr_check_names (by unfold Gl; kernel_rfl) m_check_names k_check_names b_check_names .nil pass1 (acons (ev 0 rfl (Or.inl (by kernel_rfl)) (by kernel_rfl) (by kernel_rfl)) (acons (ev 1 rfl (Or.inr (Or.inl (by kernel_rfl))) (by kernel_rfl) (by kernel_rfl)) anil (by kernel_rfl)) (by kernel_rfl)) (by kernel_rfl) (by kernel_rfl) (by kernel_rfl)) (by kernel_rfl))
  (bone
  (bret (ecall G_web_of hr_web_of (by unfold Gl; kernel_rfl) m_web_of k_web_of b_web_of .nil pass1 (acons (ev 0 rfl (Or.inl (by kernel_rfl)) (by kernel_rfl) (by kernel_rfl)) (acons (ecallT call_tuple_of (by unfold Gl; kernel_rfl) T.tuple L2.boot_tuple (acons (elc (own := [("name", 2)]) (g := gName 2) (by rfl) nd (itup (eix ix_tup (ev 0 rfl (Or.inl (by kernel_rfl)) (by kernel_rfl) (by kernel_rfl)) eint (fun _ _ => rfl))) (blkOk_by (own := [("name", 2)]) (N := ["web", "names", "name"]) (sc := defScope s_web_without) (by decide +kernel)) (fun _ _ _ _ _ => (gname (n := 2) nd rfl (Or.inl (by kernel_rfl)) (.inr (by kernel_rfl)))) (fun _ _ _ _ _ => (uone (tcmp (op_notIn_seqK (K := K) rfl) (ev 2 rfl (Or.inl (by kernel_rfl)) (by kernel_rfl) (by kernel_rfl)) (ev 1 rfl (Or.inr (Or.inl (by kernel_rfl))) (by kernel_rfl) (by kernel_rfl)) (by kernel_rfl)))) (fun _ _ _ _ _ => (ev 2 rfl (Or.inl (by kernel_rfl)) (by kernel_rfl) (by kernel_rfl))) (by intro _; rfl)) anil (by kernel_rfl)) (by decide +kernel) (by kernel_rfl) (by kernel_rfl) (by kernel_rfl)) anil (by kernel_rfl)) (by kernel_rfl)) (by kernel_rfl) (by kernel_rfl) (by kernel_rfl))))) ?_
  refine ⟨_, rfl, _, rfl, wa, b, names, xs, ties, rfl, wat, hb, hx100, fun hw H1 s1 => ?_, qx⟩
  have q := q hw
  refine ⟨_, rfl, _, rfl, wa, _, _, _, rfl, rfl, s1.seqT h1, rfl, na, rfl, ⟨_, s1.seqT h2⟩, fun D hD => ?_⟩
  refine lc_tup (xs := names.map V.str) (fun i H2 => Sp1 H1 D (nN (names.take i) xs) H2) (Sp1.start hD) (fun i H2 _ p => (s1.trans p.s).seqT h2) ?_ ?_
  · intro i v H2 hv p2
    obtain ⟨x, hx, rfl⟩ := str_at hv
    have hi : i < names.length := (List.getElem?_eq_some_iff.mp hx).1
    have s2 := s1.trans p2.s
    refine ⟨rfl, _, rfl, _, rfl, b, _, rfl, .inr (s2.seqT hb), rfl, flat_strs _, _, rfl, ?_⟩
    show if (!inV (V.str x) (xs.map V.str)) = true then _ else _
    have tk : nN (names.take (i + 1)) xs = nN (names.take i) xs ++ (if (!decide (x ∈ xs)) = true then [x] else []) := take_filter hx
    rw [in_strs]
    refine ite2 (fun c => ?_) (fun c => ?_)
    · rw [if_pos c] at tk
      have hl := List.length_filter_le (fun n => !decide (n ∈ xs)) (names.take i)
      rw [List.length_take] at hl
      refine ⟨_, rfl, _, p2.v, (by rw [List.length_map]; exact small1000 (by unfold nN; omega)), ?_⟩
      rw [tk]
      exact p2.add hD x
    · rw [if_neg c, List.append_nil] at tk
      rw [tk]
      exact p2
  · intro H2 p2
    rw [List.length_map, List.take_length] at p2
    have s2 := s1.trans p2.s
    refine ⟨D, _, rfl, .inl ⟨SqL.of p2.v, fun kt hkt => ?_⟩⟩
    have s3 := s2.trans (same_new hkt (.tup ((nN names xs).map V.str)))
    refine ⟨wa, kt, names, nN names xs, ties, rfl, wat.keep s3.keepT, wok, h14, SqT.of upd_same, (fun x hx => by have := (wok.nw x (mem_nN.mp hx).1).1.hi; omega), fun _ r H4 s4 w4 => ?_, fun x hx => ?_⟩
    case refine_2 =>
      rw [wrong_ok (fun y hy => (mem_nN.mp hy).1) ((ndp wok).sublist (nN_sub _ _))] at hx
      cases hx
    rw [kN_nN, kT_nN wok] at w4
    exact q r H4 (s3.trans s4) w4
end
end K05

namespace K05
open PySem L2 Wd Wm Km
section
variable {P : Program} {w : World} {K : PySem.W.Frag} {mg : Str → Option Value} {base : Heap}
/-! ### _law_wrong -/
def optV : Option Str → V
  | none => .non
  | some x => .str x
def spWrong (K : PySem.W.Frag) : Sp := fun vs H Q _ => ∃ (wa b : Addr) (names xs : List Str) (ties : List SS), vs = [.ref wa, .ref b] ∧ WebAt K H wa names ties ∧ SqT K H b (xs.map V.str) ∧ xs.length ≤ 900 ∧
  ∀ H', Same H H' → Q (optV (wrongL names [] xs)) H'
theorem sc_wrong : FnScope ["web", "names", "seen", "name"] ["web", "names"] (defScope s_law_wrong) := ⟨rfl, rfl, rfl, by decide +kernel, rfl, by decide +kernel, by decide +kernel⟩
theorem ok_wrong {f : Addr} {fd : FuncData} (F : Fun K "_law_wrong" "_law_wrong" s_law_wrong f fd) (T : Tx mg) : FnOk P w K mg base CX0 1 f fd ["web", "names"] (spWrong K) := by
  have nd := sc_wrong.nd
  refine F.ok sc_wrong (fun vs H Q E h => ?_) (fun cdv A outer s H vs Q E hr h => ?_)
  · obtain ⟨wa, b, names, xs, ties, rfl, _⟩ := h
    rfl
  obtain ⟨wa, b, names, xs, ties, rfl, wat, hb, h900, q⟩ := h
  obtain ⟨na, ta, tv, h1, h2, h3, h4⟩ := wat.at_
  refine SB.use (bcons
  (bset (n := 2) nd rfl (Or.inl (by kernel_rfl)) (elst anil) (by kernel_rfl) (.inl rfl))
  (bcons
  (bfor PassesOwn.never rfl (itup (ev 1 rfl (Or.inl (by kernel_rfl)) (by kernel_rfl) (by kernel_rfl))) (gname (n := 3) nd rfl (Or.inl (by kernel_rfl)) (.inl rfl)) (bcons
  (bifs (tw (wor (tcmp op_notIn_seq (ev 3 rfl (Or.inl (by kernel_rfl)) (by kernel_rfl) (by kernel_rfl)) (eix ix_tup (ev 0 rfl (Or.inl (by kernel_rfl)) (by kernel_rfl) (by kernel_rfl)) eint (fun _ _ => rfl)) (by kernel_rfl)) (wor1 (tcmp op_in_seq (ev 3 rfl (Or.inl (by kernel_rfl)) (by kernel_rfl) (by kernel_rfl)) (ev 2 rfl (Or.inl (by kernel_rfl)) (by kernel_rfl) (by kernel_rfl)) (by kernel_rfl))))) (bone
  (bret (ev 3 rfl (Or.inl (by kernel_rfl)) (by kernel_rfl) (by kernel_rfl)))) bnil)
  (bone
  (bexpr (ebm PySem.F.plainAttrs_list PySem.F.slot_list_append PySem.F.type_list_append mt_append (ev 2 rfl (Or.inl (by kernel_rfl)) (by kernel_rfl) (by kernel_rfl)) (acons (ev 3 rfl (Or.inl (by kernel_rfl)) (by kernel_rfl) (by kernel_rfl)) anil (by kernel_rfl)) (by kernel_rfl) (by kernel_rfl) (by kernel_rfl) (by kernel_rfl) (by kernel_rfl)) (by kernel_rfl)))) (by intro _; rfl))
  (bone
  (bret enon)))) ?_
  refine ⟨(by show 0 ≤ sizeLine; decide), fun D hD => ?_⟩
  refine ⟨_, rfl, b, rfl, ⟨_, (same_new hD (.lst [])).seqT hb⟩, ?_⟩
  refine for_tup (K := K) (xs := xs.map V.str) (fun i σ G => ∃ (x3 : Option V), σ = [some (.ref wa), some (.ref b), some (.ref D), x3] ∧ Sp1 H D (xs.take i) G ∧ wrongL names (xs.take i) (xs.drop i) = wrongL names [] xs) ⟨_, rfl, Sp1.start hD, rfl⟩ (fun i σ G _ ⟨_, _, z, _⟩ => z.s.seqT hb) ?_ ?_
  · rintro i v σ G hv ⟨x3, rfl, p, hw⟩
    obtain ⟨x, hx, rfl⟩ := str_at hv
    have hi : i < xs.length := (List.getElem?_eq_some_iff.mp hx).1
    have hwx := wrong_at (names := names) hx
    rw [hw] at hwx
    have tk : xs.take (i + 1) = xs.take i ++ [x] := by rw [List.take_succ, hx]; rfl
    refine ⟨_, rfl, _, rfl, wa, _, _, _, rfl, rfl, p.s.seqT h1, rfl, na, _, rfl, .inr (p.s.seqT h2), rfl, flat_strs _, _, rfl, ?_⟩
    show if (!inV (V.str x) (names.map V.str)) = true then _ else _
    rw [in_strs]
    refine ite2 (fun c1 => ?_) (fun c1 => ?_)
    · rw [c1, Bool.true_or, if_pos rfl] at hwx
      refine iteT ⟨_, rfl, ?_⟩
      have := q G p.s
      rw [hwx] at this
      exact this
    rw [Bool.eq_false_iff.mpr c1, Bool.false_or] at hwx
    refine ⟨_, rfl, _, rfl, D, _, rfl, .inl (SqL.of p.v), rfl, flat_strs _, _, rfl, ?_⟩
    show if (inV (V.str x) ((xs.take i).map V.str)) = true then _ else _
    rw [in_strs]
    refine ite2 (fun c2 => ?_) (fun c2 => ?_)
    · rw [if_pos c2] at hwx
      refine ⟨_, rfl, ?_⟩
      have := q G p.s
      rw [hwx] at this
      exact this
    · rw [if_neg c2] at hwx
      have hl : (xs.take i).length ≤ xs.length := by rw [List.length_take]; omega
      refine ⟨_, rfl, .inl ⟨rfl, _, SqL.of p.v⟩, _, rfl, D, _, _, rfl, rfl, p.v, (by rw [List.length_map]; exact small1000 (by omega)), ?_⟩
      refine ⟨_, rfl, ?_, hwx.symm⟩
      rw [tk]
      exact p.add hD x
  · rintro σ G ⟨x3, rfl, p, hw⟩
    rw [List.length_map, wrong_end] at hw
    have := q G p.s
    rw [← hw] at this
    exact this
/-! ### _law_kept -/
def spKept (K : PySem.W.Frag) : Sp := fun vs H Q _ => ∃ (wa l : Addr) (names ls : List Str) (ties : List SS), vs = [.ref wa, .ref l] ∧ WebAt K H wa names ties ∧ ties.length ≤ 98 ∧ SqL K H l (ls.map V.str) ∧
  ∀ (r : Addr) (H' : Hp), Same H H' → WebAt K H' r ls (kT ties ls) → Q (.ref r) H'
theorem sc_kept : FnScope ["web", "left", "one", "other"] ["web", "left"] (defScope s_law_kept) := ⟨rfl, rfl, rfl, by decide +kernel, rfl, by decide +kernel, by decide +kernel⟩
theorem ok_kept {f : Addr} {fd : FuncData} (F : Fun K "_law_kept" "_law_kept" s_law_kept f fd) (T : Tx mg) : FnOk P w K mg base CX0 1 f fd ["web", "left"] (spKept K) := by
  have nd := sc_kept.nd
  refine F.ok sc_kept (fun vs H Q E h => ?_) (fun cdv A outer s H vs Q E hr h => ?_)
  · obtain ⟨wa, l, names, ls, ties, rfl, _⟩ := h
    rfl
  obtain ⟨wa, l, names, ls, ties, rfl, wat, lt, hl, q⟩ := h
  obtain ⟨na, ta, tv, h1, h2, h3, h4⟩ := wat.at_
  have ltv := Paired.length h4
  refine SB.use (bone
  (bret (etup (acons (ecallT call_tuple_of (by unfold Gl; kernel_rfl) T.tuple L2.boot_tuple (acons (ev 1 rfl (Or.inr (Or.inl (by kernel_rfl))) (by kernel_rfl) (by kernel_rfl)) anil (by kernel_rfl)) (by decide +kernel) (by kernel_rfl) (by kernel_rfl) (by kernel_rfl)) (acons (ecallT call_tuple_of (by unfold Gl; kernel_rfl) T.tuple L2.boot_tuple (acons (elc (own := [("one", 2), ("other", 3)]) (g := gTup K 2 (gCons (gName 2) (gCons (gName 3) gNil))) (by rfl) nd (itup (eix ix_tup (ev 0 rfl (Or.inl (by kernel_rfl)) (by kernel_rfl) (by kernel_rfl)) eint (fun _ _ => rfl))) (blkOk_by (own := [("one", 2), ("other", 3)]) (N := ["web", "left", "one", "other"]) (sc := defScope s_law_kept) (by decide +kernel)) (fun _ _ _ _ _ => (gtup (n := 2) rfl (gscons (gname (n := 2) nd rfl (Or.inl (by kernel_rfl)) (.inr (by kernel_rfl))) (gscons (gname (n := 3) nd rfl (Or.inl (by kernel_rfl)) (.inr (by kernel_rfl))) gsnil (by kernel_rfl)) (by kernel_rfl)) (by kernel_rfl) (by kernel_rfl))) (fun _ _ _ _ _ => (uone (tw (wand (tcmp (op_in_seqK (K := K) rfl) (ev 2 rfl (Or.inl (by kernel_rfl)) (by kernel_rfl) (by kernel_rfl)) (ev 1 rfl (Or.inr (Or.inl (by kernel_rfl))) (by kernel_rfl) (by kernel_rfl)) (by kernel_rfl)) (wand1 (tcmp (op_in_seqK (K := K) rfl) (ev 3 rfl (Or.inl (by kernel_rfl)) (by kernel_rfl) (by kernel_rfl)) (ev 1 rfl (Or.inr (Or.inl (by kernel_rfl))) (by kernel_rfl) (by kernel_rfl)) (by kernel_rfl))))))) (fun _ _ _ _ _ => (etup (acons (ev 2 rfl (Or.inl (by kernel_rfl)) (by kernel_rfl) (by kernel_rfl)) (acons (ev 3 rfl (Or.inl (by kernel_rfl)) (by kernel_rfl) (by kernel_rfl)) anil (by kernel_rfl)) (by kernel_rfl)))) (by intro _; rfl)) anil (by kernel_rfl)) (by decide +kernel) (by kernel_rfl) (by kernel_rfl) (by kernel_rfl)) anil (by kernel_rfl)) (by kernel_rfl))))) ?_
  refine ⟨_, rfl, l, _, rfl, .inl ⟨hl, fun kt hkt => ?_⟩⟩
  have s3 := same_new hkt (.tup (ls.map V.str))
  have ek : (upd H kt (.tup (ls.map V.str))) kt = some (.tup (ls.map V.str)) := upd_same
  generalize upd H kt (.tup (ls.map V.str)) = H3 at s3 ek
  refine ⟨_, rfl, wa, _, _, _, rfl, rfl, s3.seqT h1, rfl, ta, rfl, ⟨_, s3.seqT h3⟩, fun D2 hD2 => ?_⟩
  refine lc_tup (xs := tv) (fun i H4 => Pp K H3 D2 (kT (ties.take i) ls) H4) (Pp.start hD2) (fun i H4 _ p => (s3.trans p.s).seqT h3) ?_ ?_
  · intro i v H4 hv p4
    have hi : i < tv.length := (List.getElem?_eq_some_iff.mp hv).1
    obtain ⟨p, hp⟩ : ∃ p, ties[i]? = some p := ⟨ties[i]'(by omega), List.getElem?_eq_getElem (by omega)⟩
    obtain ⟨u, rfl, hu⟩ := Paired.get h4 hv hp
    have s4 := s3.trans p4.s
    have k4 : SqL K H4 l (ls.map V.str) := s4.seq hl
    have tk : kT (ties.take (i + 1)) ls = kT (ties.take i) ls ++ (if (decide (p.1 ∈ ls) && decide (p.2 ∈ ls)) = true then [p] else []) := take_filter hp
    have no : ∀ H5, (decide (p.1 ∈ ls) && decide (p.2 ∈ ls)) = false → Pp K H3 D2 (kT (ties.take i) ls) H5 → Pp K H3 D2 (kT (ties.take (i + 1)) ls) H5 := fun H5 c z => by
      rw [tk, c, if_neg (by decide), List.append_nil]
      exact z
    refine ⟨u, _, rfl, s4.seqT hu, rfl, _, _, rfl, _, _, rfl, rfl, rfl, ?_⟩
    refine ⟨_, rfl, _, rfl, l, _, rfl, .inl k4, rfl, flat_strs _, _, rfl, ?_⟩
    show if (inV (V.str p.1) (ls.map V.str)) = true then _ else _
    rw [in_strs]
    refine ite2 (fun c1 => ?_) (fun c1 => iteF (no H4 (by rw [Bool.eq_false_iff.mpr c1]; rfl) p4))
    refine ⟨_, rfl, _, rfl, l, _, rfl, .inl k4, rfl, flat_strs _, _, rfl, ?_⟩
    show if (inV (V.str p.2) (ls.map V.str)) = true then _ else _
    rw [in_strs]
    refine ite2 (fun c2 => ?_) (fun c2 => no H4 (by rw [Bool.eq_false_iff.mpr c2, Bool.and_false]) p4)
    refine ⟨_, rfl, _, rfl, (by show 2 ≤ sizeLine; decide), fun t ht => ?_⟩
    have p5 := p4.new ht (.tup [.str p.1, .str p.2])
    obtain ⟨acc, hacc, hpr⟩ := id p5.v
    have hlen := Paired.length hpr
    have hl := List.length_filter_le (fun p : SS => decide (p.1 ∈ ls) && decide (p.2 ∈ ls)) (ties.take i)
    rw [List.length_take] at hl
    refine ⟨acc, hacc, (by rw [hlen]; exact small1000 (by unfold kT; omega)), ?_⟩
    rw [c1, c2] at tk
    rw [tk]
    exact p5.add hD2 hacc ⟨t, rfl, SqT.of upd_same⟩
  · intro H4 p4
    rw [ltv, List.take_length] at p4
    have s4 := s3.trans p4.s
    obtain ⟨us, hus, hpr⟩ := p4.v
    refine ⟨D2, _, rfl, .inl ⟨SqL.of hus, fun t ht => ?_⟩⟩
    refine ⟨(by show 2 ≤ sizeLine; decide), fun r hr' => ?_⟩
    have s5 := (same_new ht (.tup us)).trans (same_new hr' (.tup [V.ref kt, V.ref t]))
    exact q r _ (s4.trans s5) ⟨kt, t, us, SqT.of upd_same, (p4.s.trans s5).seqT (SqT.of ek), SqT.of (by rw [upd_ne (ne_of_none upd_same hr')]; exact upd_same), hpr.same s5⟩
/-! ### _law_caught -/
def spCaught (K : PySem.W.Frag) (aN : Addr) : Sp := fun vs H Q _ => ∃ (y dx : Addr) (x : Str), vs = [.ref y] ∧ H y = some (.ext (IsEx y aN (some dx))) ∧ H dx = some (.xd [("word", .str x)]) ∧ x.length ≤ 100 ∧
  ∀ (r : Addr) (H' : Hp), Same H H' → H' r = some (.tup [.str "name", .str x]) → Q (.ref r) H'
theorem sc_caught : FnScope ["e", "kinds"] ["e"] (defScope s_law_caught) := ⟨rfl, rfl, rfl, by decide +kernel, rfl, by decide +kernel, by decide +kernel⟩
theorem ok_caught {f : Addr} {fd : FuncData} {a_SetError a_NoRow a_NoAsk a_NoName a_NoWeb : Addr} (F : Fun K "_law_caught" "_law_caught" s_law_caught f fd) (T : Tx mg) (TV : mg "ValueError" = none) (C : Exn P K mg a_SetError a_NoRow a_NoAsk a_NoName a_NoWeb) :
    FnOk P w K mg base CX0 1 f fd ["e"] (spCaught K a_NoName) := by
  have nd := sc_caught.nd
  have m_NoRow := C.mR
  have m_NoAsk := C.mA
  have m_NoName := C.mN
  have m_NoWeb := C.mW
  refine F.ok sc_caught (fun vs H Q E h => ?_) (fun cdv A outer s H vs Q E hr h => ?_)
  · obtain ⟨y, dx, x, rfl, _⟩ := h
    rfl
  obtain ⟨y, dx, x, rfl, hy, hd, hx100, q⟩ := h
  have ru : ∀ (a : Addr) (u' : Value), RelV (.ref a) u' → u' = .ref a := fun a u' r => r
  refine SB.use (bcons
  (bset (n := 1) nd rfl (Or.inl (by kernel_rfl)) (elst (acons (ecallB cr_isXd (by unfold Gl; kernel_rfl) T.isinstance L2.boot_isinstance (acons (ev 0 rfl (Or.inl (by kernel_rfl)) (by kernel_rfl) (by kernel_rfl)) (acons (eglob (by unfold Gl; kernel_rfl) m_NoAsk (v := .ref a_NoAsk) rfl (by kernel_rfl)) anil (by kernel_rfl)) (by kernel_rfl)) (by decide +kernel) (by kernel_rfl) (by kernel_rfl) (by kernel_rfl)) (acons (ecallB cr_isXd (by unfold Gl; kernel_rfl) T.isinstance L2.boot_isinstance (acons (ev 0 rfl (Or.inl (by kernel_rfl)) (by kernel_rfl) (by kernel_rfl)) (acons (eglob (by unfold Gl; kernel_rfl) m_NoName (v := .ref a_NoName) rfl (by kernel_rfl)) anil (by kernel_rfl)) (by kernel_rfl)) (by decide +kernel) (by kernel_rfl) (by kernel_rfl) (by kernel_rfl)) (acons (ecallB cr_isXd (by unfold Gl; kernel_rfl) T.isinstance L2.boot_isinstance (acons (ev 0 rfl (Or.inl (by kernel_rfl)) (by kernel_rfl) (by kernel_rfl)) (acons (eglob (by unfold Gl; kernel_rfl) m_NoRow (v := .ref a_NoRow) rfl (by kernel_rfl)) anil (by kernel_rfl)) (by kernel_rfl)) (by decide +kernel) (by kernel_rfl) (by kernel_rfl) (by kernel_rfl)) (acons (ecallB cr_isXd (by unfold Gl; kernel_rfl) T.isinstance L2.boot_isinstance (acons (ev 0 rfl (Or.inl (by kernel_rfl)) (by kernel_rfl) (by kernel_rfl)) (acons (eglob (by unfold Gl; kernel_rfl) m_NoWeb (v := .ref a_NoWeb) rfl (by kernel_rfl)) anil (by kernel_rfl)) (by kernel_rfl)) (by decide +kernel) (by kernel_rfl) (by kernel_rfl) (by kernel_rfl)) anil (by kernel_rfl)) (by kernel_rfl)) (by kernel_rfl)) (by kernel_rfl))) (by kernel_rfl) (.inl rfl))
  (bcons
  (bifs (tw (wor (tnot (tval (ecallB cr_isXd (by unfold Gl; kernel_rfl) T.isinstance L2.boot_isinstance (acons (ev 0 rfl (Or.inl (by kernel_rfl)) (by kernel_rfl) (by kernel_rfl)) (acons (ebltn (v := .ty "ValueError") (by unfold Gl; kernel_rfl) TV boot_ValueError rfl (by decide +kernel) (by kernel_rfl)) anil (by kernel_rfl)) (by kernel_rfl)) (by decide +kernel) (by kernel_rfl) (by kernel_rfl) (by kernel_rfl)) (by intro _; rfl))) (wor1 (tcmp op_ne (ebm PySem.F.plainAttrs_list PySem.F.slot_list_count PySem.F.type_list_count mt_countB (ev 1 rfl (Or.inl (by kernel_rfl)) (by kernel_rfl) (by kernel_rfl)) (acons ebl anil (by kernel_rfl)) (by kernel_rfl) (by kernel_rfl) (by kernel_rfl) (by kernel_rfl) (by kernel_rfl)) eint (nomark _))))) (bone
  (bret (etup (acons estr (acons eint anil (by kernel_rfl)) (by kernel_rfl))))) bnil)
  (bcons
  (bifs (tval (eix ix_list (ev 1 rfl (Or.inl (by kernel_rfl)) (by kernel_rfl) (by kernel_rfl)) eint (fun _ _ => rfl)) (by intro _; rfl)) (bone
  (bret (etup (acons estr (acons (exw (ev 0 rfl (Or.inl (by kernel_rfl)) (by kernel_rfl) (by kernel_rfl)) (by kernel_rfl)) anil (by kernel_rfl)) (by kernel_rfl))))) bnil)
  (bcons
  (bifs (tval (eix ix_list (ev 1 rfl (Or.inl (by kernel_rfl)) (by kernel_rfl) (by kernel_rfl)) eint (fun _ _ => rfl)) (by intro _; rfl)) (bone
  bnever) bnil)
  (bone
  (bret (etup (acons (eix ix_list (elst (acons estr (acons estr (acons estr anil (by kernel_rfl)) (by kernel_rfl)) (by kernel_rfl))) (ebm PySem.F.plainAttrs_list PySem.F.slot_list_index PySem.F.type_list_index mt_index (ev 1 rfl (Or.inl (by kernel_rfl)) (by kernel_rfl) (by kernel_rfl)) (acons ebl anil (by kernel_rfl)) (by kernel_rfl) (by kernel_rfl) (by kernel_rfl) (by kernel_rfl) (by kernel_rfl)) (fun _ _ => rfl)) (acons eint anil (by kernel_rfl)) (by kernel_rfl))))))))) ?_
  refine ⟨_, rfl, y, a_NoName, dx, _, _, _, .ref a_NoAsk, false, rfl, hy, hd, C.xN, C.eN, ru _, C.iA, ?_⟩
  refine ⟨_, rfl, y, a_NoName, dx, _, _, _, .ref a_NoName, true, rfl, hy, hd, C.xN, C.eN, ru _, C.iN, ?_⟩
  refine ⟨_, rfl, y, a_NoName, dx, _, _, _, .ref a_NoRow, false, rfl, hy, hd, C.xN, C.eN, ru _, C.iR, ?_⟩
  refine ⟨_, rfl, y, a_NoName, dx, _, _, _, .ref a_NoWeb, false, rfl, hy, hd, C.xN, C.eN, ru _, C.iW, ?_⟩
  refine ⟨(by show 4 ≤ sizeLine; decide), fun kl hkl => ?_⟩
  have s1 := same_new hkl (.lst ([false, true, false, false].map V.bl))
  have hy1 := s1 _ _ hy
  have hd1 := s1 _ _ hd
  have ekl : (upd H kl (.lst ([false, true, false, false].map V.bl))) kl = some (.lst ([false, true, false, false].map V.bl)) := upd_same
  show tSeq _ _ _ _ (upd H kl (.lst ([false, true, false, false].map V.bl)))
  generalize upd H kl (.lst ([false, true, false, false].map V.bl)) = H1 at s1 hy1 hd1 ekl
  refine ⟨_, rfl, y, a_NoName, dx, _, _, _, .type "ValueError", true, rfl, hy1, hd1, C.xN, C.eN, (fun u' r => r), C.iV, _, rfl, iteF ?_⟩
  have ec : (!decide (V.int ((([false, true, false, false].count true : Nat)) : Int) = V.int 1)) = false := by decide
  refine ⟨_, rfl, .inl ⟨rfl, _, SqL.of ekl⟩, kl, [false, true, false, false], true, rfl, rfl, SqL.of ekl, rfl, _, rfl, ?_⟩
  show if (!decide (V.int ((([false, true, false, false].count true : Nat)) : Int) = V.int 1)) = true then _ else _
  rw [ec]
  refine iteF ?_
  refine ⟨_, rfl, kl, _, _, _, rfl, rfl, SqL.of ekl, rfl, _, rfl, iteT ?_⟩
  refine ⟨_, rfl, y, a_NoName, dx, _, .str x, rfl, hy1, hd1, C.eN, C.wN, rfl, (by show x.length ≤ 1000000; omega), (by show 2 ≤ sizeLine; decide), fun r hr' => ?_⟩
  exact q r _ (s1.trans (same_new hr' _)) upd_same
/-! ### _law_told -/
/-- what was thrown, and how it is told -/
def Thr (aN : Addr) (Q : VK) : XK := fun cls ey H1 => ∃ (y dx : Addr) (x : Str), cls = .ref aN ∧ ey = some y ∧ H1 y = some (.ext (IsEx y aN (some dx))) ∧ H1 dx = some (.xd [("word", .str x)]) ∧ x.length ≤ 100 ∧ ∀ (r : Addr) (H' : Hp), Same H1 H' → H' r = some (.tup [.str "name", .str x]) → Q (.ref r) H'
def spTold (P : Program) (w : World) (K : PySem.W.Frag) (mg : Str → Option Value) (base : Heap) (aN : Addr) : Sp := fun vs H Q _ => ∃ (f wa b : Addr) (fd : FuncData) (sp : Sp), vs = [.ref f, .ref wa, .ref b] ∧ FnOk P w K mg base (CX1 P w) 4 f fd ["web", "names"] sp ∧ PySem.W.keepIn K (.ref f) = true ∧ Binds K fd ["web", "names"] [] ∧
  ∀ (Q' : VK) (E' : XK), (∀ v H', Q v H' → Q' v H') → (∀ cls ey H1, Thr aN Q cls ey H1 → E' cls ey H1) → sp [.ref wa, .ref b] H Q' E'
theorem sc_told : FnScope ["asked", "web", "names", "caught", "found", "e"] ["asked", "web", "names"] (defScope s_law_told) := ⟨rfl, rfl, rfl, by decide +kernel, rfl, by decide +kernel, by decide +kernel⟩
theorem ok_told {f : Addr} {fd : FuncData} {a_SetError a_NoRow a_NoAsk a_NoName a_NoWeb : Addr} (F : Fun K "_law_told" "_law_told" s_law_told f fd) (T : Tx mg) (C : Exn P K mg a_SetError a_NoRow a_NoAsk a_NoName a_NoWeb) (oC : Own P w K mg base 1 "_law_caught" ["e"] (spCaught K a_NoName)) :
    FnOk P w K mg base CX0 5 f fd ["asked", "web", "names"] (spTold P w K mg base a_NoName) := by
  have nd := sc_told.nd
  have m_SetError := C.mS
  have hS_SetError := C.xS
  obtain ⟨f4, fd4, G_law_caught, b_law_caught, k_law_caught, m_law_caught⟩ := oC
  refine F.ok sc_told (fun vs H Q E h => ?_) (fun cdv A outer s H vs Q E hr h => ?_)
  · obtain ⟨g, wa, b, fdg, sp, rfl, _⟩ := h
    rfl
  have hr_asked := hr
  have hr_law_caught := hr.mono (j := 1) (by decide)
  obtain ⟨g, wa, b, fdg, sp, rfl, G, kg, bg, h⟩ := h
  refine SB.use (bcons
  (bset (n := 3) nd rfl (Or.inl (by kernel_rfl)) enon (by kernel_rfl) (.inl rfl))
  (bcons
  (bset (n := 4) nd rfl (Or.inl (by kernel_rfl)) enon (by kernel_rfl) (.inl rfl))
  (bcons
  (btryL (n := 4) (ie := 5) (ev 0 rfl (Or.inl (by kernel_rfl)) (by kernel_rfl) (by kernel_rfl)) hr_asked (acons (ev 1 rfl (Or.inl (by kernel_rfl)) (by kernel_rfl) (by kernel_rfl)) (acons (ev 2 rfl (Or.inl (by kernel_rfl)) (by kernel_rfl) (by kernel_rfl)) anil (by kernel_rfl)) (by kernel_rfl)) (by kernel_rfl) (by kernel_rfl) rfl rfl rfl nd rfl (Or.inl (by kernel_rfl)) (.inl rfl) (by kernel_rfl) hS_SetError (by decide) (by unfold Gl; kernel_rfl) m_SetError (by kernel_rfl) rfl (by kernel_rfl) (fun _ => (bone
  (bset (n := 3) nd rfl (Or.inl (by kernel_rfl)) (ev 5 rfl (Or.inl (by kernel_rfl)) (by kernel_rfl) (by kernel_rfl)) (by kernel_rfl) (.inl rfl)))))
  (bcons
  (bifs (tcmp op_notN (ev 3 rfl (Or.inl (by kernel_rfl)) (by kernel_rfl) (by kernel_rfl)) enon (nomark _)) (bone
  (bret (ecall G_law_caught hr_law_caught (by unfold Gl; kernel_rfl) m_law_caught k_law_caught b_law_caught .nil pass0 (acons (ev 3 rfl (Or.inl (by kernel_rfl)) (by kernel_rfl) (by kernel_rfl)) anil (by kernel_rfl)) (by kernel_rfl) (by kernel_rfl) (by kernel_rfl)))) bnil)
  (bone
  (bret (ev 4 rfl (Or.inl (by kernel_rfl)) (by kernel_rfl) (by kernel_rfl)))))))) ?_
  refine ⟨_, rfl, g, fdg, _, sp, rfl, G, kg, bg, _, rfl, _, rfl, h _ _ (fun v H' qv => ?_) (fun cls ey H1 z => ?_)⟩
  · refine ⟨_, rfl, rfl, _, rfl, ?_⟩
    show if (!decide (V.non = V.non)) = true then _ else _
    rw [decide_eq_true rfl]
    exact iteF ⟨_, rfl, qv⟩
  · obtain ⟨y, dx, x, rfl, rfl, hy, hd, hx100, qr⟩ := z
    refine ⟨a_NoName, y, _, rfl, rfl, C.xN, (by simp), ?_⟩
    refine ⟨_, rfl, ?_⟩
    refine ⟨_, rfl, rfl, _, rfl, ?_⟩
    show if (!decide (V.ref y = V.non)) = true then _ else _
    rw [show (!decide (V.ref y = V.non)) = true from by simp]
    exact iteT ⟨_, rfl, y, dx, x, rfl, hy, hd, hx100, qr⟩
end
end K05

namespace K05
open PySem L2 Wd Wm Km
section
variable {P : Program} {w : World} {K : PySem.W.Frag} {mg : Str → Option Value} {base : Heap}
def spRight (K : PySem.W.Frag) : Sp := fun vs H Q _ => ∃ (wa b : Addr) (names xs : List Str) (ties : List SS), vs = [.ref wa, .ref b] ∧ WebAt K H wa names ties ∧ WebOk names ties ∧ names.length ≤ 14 ∧ SqT K H b (xs.map V.str) ∧ xs.length ≤ 900 ∧ (∀ x ∈ xs, x.length ≤ 100) ∧
  ∀ H', Same H H' → Q (.bl true) H'
theorem sc_right : FnScope ["web", "names", "wrong", "dues", "name", "again"] ["web", "names"] (defScope s_law_right) := ⟨rfl, rfl, rfl, by decide +kernel, rfl, by decide +kernel, by decide +kernel⟩
/-- what is due: of the names ns and ties ts, or the wrong name -/
def Due (K : PySem.W.Frag) (wr : Option Str) (ns : List Str) (ts : List SS) (da : Addr) (H : Hp) : Prop := (wr = none ∧ WebAt K H da ns ts) ∨ ∃ x, wr = some x ∧ SqT K H da ((("name" : Str) :: [x]).map V.str)
theorem Due.same {wr : Option Str} {ns : List Str} {ts : List SS} {da : Addr} {H H' : Hp} (h : Due K wr ns ts da H) (s : Same H H') : Due K wr ns ts da H' := h.imp (fun z => ⟨z.1, z.2.keep s.keepT⟩) fun ⟨x, z⟩ => ⟨x, z.1, s.seqT z.2⟩
/-- what is told is due -/
theorem due_eq {wr : Option Str} {ns : List Str} {ts : List SS} {da fa : Addr} {H : Hp} (h : Due K wr ns ts da H) (k : Due K wr ns ts fa H) : Eqd K H 4 (.ref fa) (.ref da) := by
  rcases h with ⟨e, z⟩ | ⟨x, e, z⟩ <;> rcases k with ⟨e', z'⟩ | ⟨x', e', z'⟩
  · exact z'.eqd z
  · rw [e] at e'; cases e'
  · rw [e] at e'; cases e'
  · rw [e] at e'; cases e'
    exact .inr ⟨fa, da, _, _, rfl, rfl, z', z, Eqd.strs (n := 2) _⟩
theorem told_without {aN wa b : Addr} {names xs : List Str} {ties : List SS} {G : Hp} {Q : VK} (wat : WebAt K G wa names ties) (wok : WebOk names ties) (h14 : names.length ≤ 14) (hb : SqT K G b (xs.map V.str)) (hx100 : ∀ x ∈ xs, x.length ≤ 100)
    (key : ∀ (fa : Addr) (H3 : Hp), Same G H3 → Due K (wrongL names [] xs) (nN names xs) (nT ties xs) fa H3 → Q (.ref fa) H3) : ∀ (Q' : VK) (E' : XK), (∀ v H', Q v H' → Q' v H') → (∀ cls ey H1, Thr aN Q cls ey H1 → E' cls ey H1) → spWithout K aN [.ref wa, .ref b] G Q' E' := by
  intro Q' E' hq he
  refine ⟨wa, b, names, xs, ties, rfl, wat, wok, h14, hb, hx100, fun hwn r H' s' w' => hq _ _ (key r H' s' (.inl ⟨hwn, w'⟩)), fun x hwx y dx H' s' hy hd ne => he _ _ _ ⟨y, dx, x, rfl, rfl, upd_same, by rw [upd_ne ne]; exact upd_same, hx100 x (wrong_mem hwx), fun r H'' s'' er => key r H'' ?_ (.inr ⟨x, hwx, SqT.of er⟩)⟩⟩
  have hy' : (upd H' dx (.xd [("word", .str x)])) y = none := by rw [upd_ne ne.symm]; exact hy
  exact s'.trans ((same_new hd _).trans ((same_new hy' _).trans s''))
theorem told_of {aN wa b : Addr} {names xs : List Str} {ties : List SS} {G : Hp} {Q : VK} (wat : WebAt K G wa names ties) (wok : WebOk names ties) (h14 : names.length ≤ 14) (hb : SqT K G b (xs.map V.str)) (hx100 : ∀ x ∈ xs, x.length ≤ 100)
    (key : ∀ (fa : Addr) (H3 : Hp), Same G H3 → Due K (wrongL names [] xs) (kN names xs) (kT ties xs) fa H3 → Q (.ref fa) H3) : ∀ (Q' : VK) (E' : XK), (∀ v H', Q v H' → Q' v H') → (∀ cls ey H1, Thr aN Q cls ey H1 → E' cls ey H1) → spOf K aN [.ref wa, .ref b] G Q' E' := by
  intro Q' E' hq he
  refine ⟨wa, b, names, xs, ties, rfl, wat, wok, h14, hb, hx100, fun hwn r H' s' w' => hq _ _ (key r H' s' (.inl ⟨hwn, w'⟩)), fun x hwx y dx H' s' hy hd ne => he _ _ _ ⟨y, dx, x, rfl, rfl, upd_same, by rw [upd_ne ne]; exact upd_same, hx100 x (wrong_mem hwx), fun r H'' s'' er => key r H'' ?_ (.inr ⟨x, hwx, SqT.of er⟩)⟩⟩
  have hy' : (upd H' dx (.xd [("word", .str x)])) y = none := by rw [upd_ne ne.symm]; exact hy
  exact s'.trans ((same_new hd _).trans ((same_new hy' _).trans s''))
theorem ok_right {f : Addr} {fd : FuncData} {aN : Addr} (F : Fun K "_law_right" "_law_right" s_law_right f fd) (T : Tx mg) (oWr : Own P w K mg base 1 "_law_wrong" ["web", "names"] (spWrong K)) (oKp : Own P w K mg base 1 "_law_kept" ["web", "left"] (spKept K))
    (oTd : Own P w K mg base 5 "_law_told" ["asked", "web", "names"] (spTold P w K mg base aN)) (oS : Own P w K mg base 4 "_law_same" ["found", "due"] (spSame K 4)) (oWo : OwnX P w K mg base 4 "web_without" ["web", "names"] (spWithout K aN)) (oOf : OwnX P w K mg base 3 "web_of" ["web", "names"] (spOf K aN)) : FnOk P w K mg base CX0 6 f fd ["web", "names"] (spRight K) := by
  have nd := sc_right.nd
  obtain ⟨f1, fd1, G_law_wrong, b_law_wrong, k_law_wrong, m_law_wrong⟩ := oWr
  obtain ⟨f2, fd2, G_law_kept, b_law_kept, k_law_kept, m_law_kept⟩ := oKp
  obtain ⟨f3, fd3, G_law_told, b_law_told, k_law_told, m_law_told⟩ := oTd
  obtain ⟨f4, fd4, G_law_same, b_law_same, k_law_same, m_law_same⟩ := oS
  obtain ⟨f_web_without, fd5, G5, b5, k5, m_web_without⟩ := oWo
  obtain ⟨f_web_of, fd6, G6, b6, k6, m_web_of⟩ := oOf
  refine F.ok sc_right (fun vs H Q E h => ?_) (fun cdv A outer s H vs Q E hr h => ?_)
  · obtain ⟨wa, b, names, xs, ties, rfl, _⟩ := h
    rfl
  have hr_law_told := hr
  have hr_law_same := hr.mono (j := 4) (by decide)
  have hr_law_wrong := hr.mono (j := 1) (by decide)
  have hr_law_kept := hr_law_wrong
  obtain ⟨wa, b, names, xs, ties, rfl, wat, wok, h14, hb, h900, hx100, q⟩ := h
  obtain ⟨na, ta, tv, h1, h2, h3, h4⟩ := wat.at_
  have lt := ties_le wok h14
  refine SB.use (bcons
  (bset (n := 2) nd rfl (Or.inl (by kernel_rfl)) (ecall G_law_wrong hr_law_wrong (by unfold Gl; kernel_rfl) m_law_wrong k_law_wrong b_law_wrong .nil pass0 (acons (ev 0 rfl (Or.inl (by kernel_rfl)) (by kernel_rfl) (by kernel_rfl)) (acons (ev 1 rfl (Or.inr (Or.inl (by kernel_rfl))) (by kernel_rfl) (by kernel_rfl)) anil (by kernel_rfl)) (by kernel_rfl)) (by kernel_rfl) (by kernel_rfl) (by kernel_rfl)) (by kernel_rfl) (.inl rfl))
  (bcons
  (bset (n := 3) nd rfl (Or.inl (by kernel_rfl)) (elst (acons (etup (acons estr (acons (ev 2 rfl (Or.inl (by kernel_rfl)) (by kernel_rfl) (by kernel_rfl)) anil (by kernel_rfl)) (by kernel_rfl))) (acons (etup (acons estr (acons (ev 2 rfl (Or.inl (by kernel_rfl)) (by kernel_rfl) (by kernel_rfl)) anil (by kernel_rfl)) (by kernel_rfl))) anil (by kernel_rfl)) (by kernel_rfl))) (by kernel_rfl) (.inl rfl))
  (bcons
  (bifs (tcmp op_isN (ev 2 rfl (Or.inl (by kernel_rfl)) (by kernel_rfl) (by kernel_rfl)) enon (nomark _)) (bcons
  (bset (n := 3) nd rfl (Or.inl (by kernel_rfl)) (elst (acons (ecall G_law_kept hr_law_kept (by unfold Gl; kernel_rfl) m_law_kept k_law_kept b_law_kept .nil pass0 (acons (ev 0 rfl (Or.inl (by kernel_rfl)) (by kernel_rfl) (by kernel_rfl)) (acons (elc (own := [("name", 4)]) (g := gName 4) (by rfl) nd (itup (eix ix_tup (ev 0 rfl (Or.inl (by kernel_rfl)) (by kernel_rfl) (by kernel_rfl)) eint (fun _ _ => rfl))) (blkOk_by (own := [("name", 4)]) (N := ["web", "names", "wrong", "dues", "name", "again"]) (sc := defScope s_law_right) (by decide +kernel)) (fun _ _ _ _ _ => (gname (n := 4) nd rfl (Or.inl (by kernel_rfl)) (.inr (by kernel_rfl)))) (fun _ _ _ _ _ => (uone (tcmp (op_notIn_seqK (K := K) rfl) (ev 4 rfl (Or.inl (by kernel_rfl)) (by kernel_rfl) (by kernel_rfl)) (ev 1 rfl (Or.inr (Or.inl (by kernel_rfl))) (by kernel_rfl) (by kernel_rfl)) (by kernel_rfl)))) (fun _ _ _ _ _ => (ev 4 rfl (Or.inl (by kernel_rfl)) (by kernel_rfl) (by kernel_rfl))) (by intro _; rfl)) anil (by kernel_rfl)) (by kernel_rfl)) (by kernel_rfl) (by kernel_rfl) (by kernel_rfl)) anil (by kernel_rfl))) (by kernel_rfl) (.inl rfl))
  (bone
  (bexpr (ebm PySem.F.plainAttrs_list PySem.F.slot_list_append PySem.F.type_list_append mt_append (ev 3 rfl (Or.inl (by kernel_rfl)) (by kernel_rfl) (by kernel_rfl)) (acons (ecall G_law_kept hr_law_kept (by unfold Gl; kernel_rfl) m_law_kept k_law_kept b_law_kept .nil pass0 (acons (ev 0 rfl (Or.inl (by kernel_rfl)) (by kernel_rfl) (by kernel_rfl)) (acons (elc (own := [("name", 4)]) (g := gName 4) (by rfl) nd (itup (eix ix_tup (ev 0 rfl (Or.inl (by kernel_rfl)) (by kernel_rfl) (by kernel_rfl)) eint (fun _ _ => rfl))) (blkOk_by (own := [("name", 4)]) (N := ["web", "names", "wrong", "dues", "name", "again"]) (sc := defScope s_law_right) (by decide +kernel)) (fun _ _ _ _ _ => (gname (n := 4) nd rfl (Or.inl (by kernel_rfl)) (.inr (by kernel_rfl)))) (fun _ _ _ _ _ => (uone (tcmp (op_in_seqK (K := K) rfl) (ev 4 rfl (Or.inl (by kernel_rfl)) (by kernel_rfl) (by kernel_rfl)) (ev 1 rfl (Or.inr (Or.inl (by kernel_rfl))) (by kernel_rfl) (by kernel_rfl)) (by kernel_rfl)))) (fun _ _ _ _ _ => (ev 4 rfl (Or.inl (by kernel_rfl)) (by kernel_rfl) (by kernel_rfl))) (by intro _; rfl)) anil (by kernel_rfl)) (by kernel_rfl)) (by kernel_rfl) (by kernel_rfl) (by kernel_rfl)) anil (by kernel_rfl)) (by kernel_rfl) (by kernel_rfl) (by kernel_rfl) (by kernel_rfl) (by kernel_rfl)) (by kernel_rfl)))) bnil)
  (bcons
  (bfor PassesOwn.never rfl (irange1 (by unfold Gl; kernel_rfl) T.range (acons eint anil (by kernel_rfl)) (by kernel_rfl)) (gname (n := 5) nd rfl (Or.inl (by kernel_rfl)) (.inl rfl)) (bcons
  (bifs (tnot (tval (ecall G_law_same hr_law_same (by unfold Gl; kernel_rfl) m_law_same k_law_same b_law_same .nil pass0 (acons (ecall G_law_told hr_law_told (by unfold Gl; kernel_rfl) m_law_told k_law_told b_law_told .nil pass0 (acons (eglob (by unfold Gl; kernel_rfl) m_web_without (v := .ref f_web_without) rfl (by kernel_rfl)) (acons (ev 0 rfl (Or.inl (by kernel_rfl)) (by kernel_rfl) (by kernel_rfl)) (acons (ev 1 rfl (Or.inr (Or.inl (by kernel_rfl))) (by kernel_rfl) (by kernel_rfl)) anil (by kernel_rfl)) (by kernel_rfl)) (by kernel_rfl)) (by kernel_rfl) (by kernel_rfl) (by kernel_rfl)) (acons (eix ix_list (ev 3 rfl (Or.inl (by kernel_rfl)) (by kernel_rfl) (by kernel_rfl)) eint (fun _ _ => rfl)) anil (by kernel_rfl)) (by kernel_rfl)) (by kernel_rfl) (by kernel_rfl) (by kernel_rfl)) (by intro _; rfl))) (bone
  (bret ebl)) bnil)
  (bone
  (bifs (tnot (tval (ecall G_law_same hr_law_same (by unfold Gl; kernel_rfl) m_law_same k_law_same b_law_same .nil pass0 (acons (ecall G_law_told hr_law_told (by unfold Gl; kernel_rfl) m_law_told k_law_told b_law_told .nil pass0 (acons (eglob (by unfold Gl; kernel_rfl) m_web_of (v := .ref f_web_of) rfl (by kernel_rfl)) (acons (ev 0 rfl (Or.inl (by kernel_rfl)) (by kernel_rfl) (by kernel_rfl)) (acons (ev 1 rfl (Or.inr (Or.inl (by kernel_rfl))) (by kernel_rfl) (by kernel_rfl)) anil (by kernel_rfl)) (by kernel_rfl)) (by kernel_rfl)) (by kernel_rfl) (by kernel_rfl) (by kernel_rfl)) (acons (eix ix_list (ev 3 rfl (Or.inl (by kernel_rfl)) (by kernel_rfl) (by kernel_rfl)) eint (fun _ _ => rfl)) anil (by kernel_rfl)) (by kernel_rfl)) (by kernel_rfl) (by kernel_rfl) (by kernel_rfl)) (by intro _; rfl))) (bone
  (bret ebl)) bnil))) (by intro _; rfl))
  (bone
  (bret ebl)))))) ?_
  refine ⟨_, rfl, _, rfl, wa, b, names, xs, ties, rfl, wat, hb, h900, fun H1 s1 => ?_⟩
  refine ⟨_, rfl, (by show 2 ≤ sizeLine; decide), fun t1 ht1 => ⟨_, rfl, (by show 2 ≤ sizeLine; decide), fun t2 ht2 => ⟨(by show 2 ≤ sizeLine; decide), fun dl hdl => ?_⟩⟩⟩
  have s2 := s1.trans (same_new ht1 (.tup [V.str "name", optV (wrongL names [] xs)]))
  have s3 := s2.trans (same_new ht2 (.tup [V.str "name", optV (wrongL names [] xs)]))
  have s4 := s3.trans (same_new hdl (.lst [V.ref t1, V.ref t2]))
  refine ⟨_, rfl, rfl, _, rfl, ?_⟩
  show if (decide (optV (wrongL names [] xs) = V.non)) = true then _ else _
  have hk0 : Same H1 (upd (upd (upd H1 t1 (.tup [V.str "name", optV (wrongL names [] xs)])) t2 (.tup [V.str "name", optV (wrongL names [] xs)])) dl (.lst [V.ref t1, V.ref t2])) := (same_new ht1 _).trans ((same_new ht2 _).trans (same_new hdl _))
  have e1 : (upd (upd (upd H1 t1 (.tup [V.str "name", optV (wrongL names [] xs)])) t2 (.tup [V.str "name", optV (wrongL names [] xs)])) dl (.lst [V.ref t1, V.ref t2])) t1 = some (.tup [V.str "name", optV (wrongL names [] xs)]) := (same_new hdl _) _ _ ((same_new ht2 _) _ _ upd_same)
  have e2 : (upd (upd (upd H1 t1 (.tup [V.str "name", optV (wrongL names [] xs)])) t2 (.tup [V.str "name", optV (wrongL names [] xs)])) dl (.lst [V.ref t1, V.ref t2])) t2 = some (.tup [V.str "name", optV (wrongL names [] xs)]) := (same_new hdl _) _ _ upd_same
  have e3 : (upd (upd (upd H1 t1 (.tup [V.str "name", optV (wrongL names [] xs)])) t2 (.tup [V.str "name", optV (wrongL names [] xs)])) dl (.lst [V.ref t1, V.ref t2])) dl = some (.lst [V.ref t1, V.ref t2]) := upd_same
  generalize (upd (upd (upd H1 t1 (.tup [V.str "name", optV (wrongL names [] xs)])) t2 (.tup [V.str "name", optV (wrongL names [] xs)])) dl (.lst [V.ref t1, V.ref t2])) = H4 at s4 hk0 e1 e2 e3 ⊢
  clear s2 s3 hk0
  cases hw : wrongL names [] xs
  case' some x =>
    rw [hw] at e1 e2
    rw [show (decide (optV (some x) = V.non)) = false from by simp [optV]]
    refine iteF ?_
    have due0 : Due K (wrongL names [] xs) (nN names xs) (nT ties xs) t1 H4 := .inr ⟨x, hw, SqT.of e1⟩
    have due1 : Due K (wrongL names [] xs) (kN names xs) (kT ties xs) t2 H4 := .inr ⟨x, hw, SqT.of e2⟩
    have sH := s4
    have edl := e3
    clear e1 e2 e3 s4 hw ht1 ht2 hdl
    generalize H4 = G at due0 due1 sH edl ⊢
    generalize dl = dL at edl ⊢
    generalize t1 = d0 at edl due0 ⊢
    generalize t2 = d1 at edl due1 ⊢
  case' none =>
    rw [show (decide (optV none = V.non)) = true from by simp [optV]]
    refine iteT ?_
    have h1' := s4.seqT h1
    have h2' := s4.seqT h2
    refine ⟨_, rfl, _, rfl, wa, _, _, _, rfl, rfl, h1', rfl, na, rfl, ⟨_, h2'⟩, fun D hD => ?_⟩
    refine lc_tup (xs := names.map V.str) (fun i H2 => Sp1 H4 D (nN (names.take i) xs) H2) (Sp1.start hD) (fun i H2 _ p => p.s.seqT h2') ?_ ?_
    · intro i v H2 hv p2
      obtain ⟨x, hx, rfl⟩ := str_at hv
      have hi : i < names.length := (List.getElem?_eq_some_iff.mp hx).1
      refine ⟨rfl, _, rfl, _, rfl, b, _, rfl, .inr ((s4.trans p2.s).seqT hb), rfl, flat_strs _, _, rfl, ?_⟩
      show if (!inV (V.str x) (xs.map V.str)) = true then _ else _
      have tk : nN (names.take (i + 1)) xs = nN (names.take i) xs ++ (if (!decide (x ∈ xs)) = true then [x] else []) := take_filter hx
      rw [in_strs]
      refine ite2 (fun c => ?_) (fun c => ?_)
      · rw [if_pos c] at tk
        have hl := List.length_filter_le (fun n => !decide (n ∈ xs)) (names.take i)
        rw [List.length_take] at hl
        refine ⟨_, rfl, _, p2.v, (by rw [List.length_map]; exact small1000 (by unfold nN; omega)), ?_⟩
        rw [tk]
        exact p2.add hD x
      · rw [if_neg c, List.append_nil] at tk
        rw [tk]
        exact p2
    intro H5 p5
    rw [List.length_map, List.take_length] at p5
    have s5 := s4.trans p5.s
    refine ⟨wa, D, names, nN names xs, ties, rfl, wat.keep s5.keepT, lt, SqL.of p5.v, fun d0 H6 s6 w6 => ?_⟩
    rw [kT_nN wok] at w6
    refine ⟨(by show 1 ≤ sizeLine; decide), fun dL hdL => ?_⟩
    have s7 := (s5.trans s6).trans (same_new hdL (.lst [V.ref d0]))
    have w7 := w6.keep (same_new hdL (.lst [V.ref d0])).keepT
    have e7 : (upd H6 dL (.lst [V.ref d0])) dL = some (.lst [V.ref d0]) := upd_same
    have nL : H dL = none := (s5.trans s6).free hdL
    show tSeq _ _ _ _ (upd H6 dL (.lst [V.ref d0]))
    generalize upd H6 dL (.lst [V.ref d0]) = H7 at s7 w7 e7 ⊢
    have h1'' := s7.seqT h1
    have h2'' := s7.seqT h2
    refine ⟨_, rfl, .inl ⟨rfl, _, SqL.of e7⟩, _, rfl, _, rfl, wa, _, _, _, rfl, rfl, h1'', rfl, na, rfl, ⟨_, h2''⟩, fun D2 hD2 => ?_⟩
    refine lc_tup (xs := names.map V.str) (fun i H2 => Sp1 H7 D2 (kN (names.take i) xs) H2) (Sp1.start hD2) (fun i H2 _ p => p.s.seqT h2'') ?_ ?_
    · intro i v H2 hv p2
      obtain ⟨x, hx, rfl⟩ := str_at hv
      have hi : i < names.length := (List.getElem?_eq_some_iff.mp hx).1
      refine ⟨rfl, _, rfl, _, rfl, b, _, rfl, .inr ((s7.trans p2.s).seqT hb), rfl, flat_strs _, _, rfl, ?_⟩
      show if (inV (V.str x) (xs.map V.str)) = true then _ else _
      have tk : kN (names.take (i + 1)) xs = kN (names.take i) xs ++ (if decide (x ∈ xs) = true then [x] else []) := take_filter hx
      rw [in_strs]
      refine ite2 (fun c => ?_) (fun c => ?_)
      · rw [if_pos c] at tk
        have hl := List.length_filter_le (fun n => decide (n ∈ xs)) (names.take i)
        rw [List.length_take] at hl
        refine ⟨_, rfl, _, p2.v, (by rw [List.length_map]; exact small1000 (by unfold kN; omega)), ?_⟩
        rw [tk]
        exact p2.add hD2 x
      · rw [if_neg c, List.append_nil] at tk
        rw [tk]
        exact p2
    intro H8 p8
    rw [List.length_map, List.take_length] at p8
    have s8 := s7.trans p8.s
    refine ⟨wa, D2, names, kN names xs, ties, rfl, wat.keep s8.keepT, lt, SqL.of p8.v, fun d1 H9 s9 w9 => ?_⟩
    rw [kT_kN wok] at w9
    have e9 : H9 dL = some (.lst [V.ref d0]) := s9 _ _ (p8.s _ _ e7)
    refine ⟨dL, _, _, rfl, rfl, e9, (by show 1 < sizeLine; decide), ?_⟩
    have kt := keepT_upd e9 (.lst ([V.ref d0] ++ [V.ref d1]))
    have due0 : Due K (wrongL names [] xs) (nN names xs) (nT ties xs) d0 (upd H9 dL (.lst ([V.ref d0] ++ [V.ref d1]))) := .inl ⟨hw, (w7.keep (p8.s.trans s9).keepT).keep kt⟩
    have due1 : Due K (wrongL names [] xs) (kN names xs) (kT ties xs) d1 (upd H9 dL (.lst ([V.ref d0] ++ [V.ref d1]))) := .inl ⟨hw, w9.keep kt⟩
    have sH : Same H (upd H9 dL (.lst ([V.ref d0] ++ [V.ref d1]))) := fun z o e => by rw [upd_ne (ne_of_none e nL)]; exact (s8.trans s9) z o e
    have edl : (upd H9 dL (.lst ([V.ref d0] ++ [V.ref d1]))) dL = some (.lst [V.ref d0, V.ref d1]) := upd_same
    generalize (upd H9 dL (.lst ([V.ref d0] ++ [V.ref d1]))) = G at due0 due1 sH edl ⊢
  all_goals
    refine ⟨_, rfl, by decide, by decide, ?_⟩
    refine for_range (lo := 0) (fun i σ G2 => ∃ (x2 x4 x5 : Option V), σ = [some (.ref wa), some (.ref b), x2, some (.ref dL), x4, x5] ∧ Same G G2) ⟨_, _, _, rfl, Same.refl G⟩ ?_ ?_
    · rintro i σ G2 hi ⟨x2, x4, x5, rfl, sg⟩
      have sG := sH.trans sg
      have edl2 := sg _ _ edl
      refine ⟨_, rfl, _, rfl, f_web_without, wa, b, fd5, _, rfl, G5, k5, b5, told_without (wat.keep sG.keepT) wok h14 (sG.seqT hb) hx100 fun fa H3 s3 dF => ?_⟩
      refine ⟨_, rfl, dL, _, _, _, rfl, rfl, SqL.of (s3 _ _ edl2), rfl, _, _, rfl, due_eq (due0.same (sg.trans s3)) dF, fun H4' s4' => ⟨_, rfl, iteF ?_⟩⟩
      have sg2 := sg.trans (s3.trans s4')
      have sG2 := sH.trans sg2
      have edl3 := sg2 _ _ edl
      refine ⟨_, rfl, _, rfl, f_web_of, wa, b, fd6, _, rfl, G6.mono (by decide), k6, b6, told_of (wat.keep sG2.keepT) wok h14 (sG2.seqT hb) hx100 fun fa H5 s5 dF => ?_⟩
      refine ⟨_, rfl, dL, _, _, _, rfl, rfl, SqL.of (s5 _ _ edl3), rfl, _, _, rfl, due_eq (due1.same (sg2.trans s5)) dF, fun H6' s6' => ⟨_, rfl, iteF ?_⟩⟩
      exact ⟨_, _, _, rfl, sg2.trans (s5.trans s6')⟩
    · rintro σ G2 ⟨x2, x4, x5, rfl, sg⟩
      exact q _ (sH.trans sg)
end
end K05

namespace K05
open PySem L2 Wd Wm Km
section
variable {P : Program} {w : World} {K : PySem.W.Frag} {mg : Str → Option Value} {base : Heap}
def spSpoilt (K : PySem.W.Frag) : Sp := fun vs H Q _ => ∃ (d c wa b : Addr) (names xs : List Str) (ties : List SS), vs = [.ref d, .ref wa, .ref b] ∧ Deck H d c ∧ WebAt K H wa names ties ∧ WebOk names ties ∧ names.length ≤ 14 ∧ SqT K H b (xs.map V.str) ∧ xs.length ≤ 800 ∧ (∀ x ∈ xs, x.length ≤ 100) ∧
  ∀ (r : Addr) (ys : List Str) (H' : Hp), Stp d c H H' → SqT K H' r (ys.map V.str) → ys.length ≤ 810 → (∀ y ∈ ys, y.length ≤ 100) → Q (.ref r) H'
theorem sc_spoilt : FnScope ["deck", "web", "names", "some", "turn", "name", "odd"] ["deck", "web", "names"] (defScope s_law_spoilt) := ⟨rfl, rfl, rfl, by decide +kernel, rfl, by decide +kernel, by decide +kernel⟩
theorem ok_spoilt {f : Addr} {fd : FuncData} (F : Fun K "_law_spoilt" "_law_spoilt" s_law_spoilt f fd) (T : Tx mg) (oT : Own P w K mg base 1 "_law_take" ["deck", "many"] spTake) : FnOk P w K mg base CX0 2 f fd ["deck", "web", "names"] (spSpoilt K) := by
  have nd := sc_spoilt.nd
  obtain ⟨ft, fdt, G_law_take, b_law_take, k_law_take, m_law_take⟩ := oT
  refine F.ok sc_spoilt (fun vs H Q E h => ?_) (fun cdv A outer s H vs Q E hr h => ?_)
  · obtain ⟨d, c, wa, b, names, xs, ties, rfl, _⟩ := h
    rfl
  have hr_law_take := hr
  obtain ⟨d, c, wa, b, names, xs, ties, rfl, Dk, wat, wok, h14, hb, h800, hx100, q⟩ := h
  obtain ⟨na, ta, tv, h1, h2, h3, h4⟩ := wat.at_
  refine SB.use (bcons
  (bset (n := 3) nd rfl (Or.inl (by kernel_rfl)) (ecallT call_list_of (by unfold Gl; kernel_rfl) T.list L2.boot_list (acons (ev 2 rfl (Or.inl (by kernel_rfl)) (by kernel_rfl) (by kernel_rfl)) anil (by kernel_rfl)) (by decide +kernel) (by kernel_rfl) (by kernel_rfl) (by kernel_rfl)) (by kernel_rfl) (.inl rfl))
  (bcons
  (bfor PassesOwn.never rfl (irange1 (by unfold Gl; kernel_rfl) T.range (acons (eop op_add eint (ecall G_law_take hr_law_take (by unfold Gl; kernel_rfl) m_law_take k_law_take b_law_take .nil pass0 (acons (ev 0 rfl (Or.inl (by kernel_rfl)) (by kernel_rfl) (by kernel_rfl)) (acons eint anil (by kernel_rfl)) (by kernel_rfl)) (by kernel_rfl) (by kernel_rfl) (by kernel_rfl))) anil (by kernel_rfl)) (by kernel_rfl)) (gname (n := 4) nd rfl (Or.inl (by kernel_rfl)) (.inl rfl)) (bcons
  (bset (n := 5) nd rfl (Or.inl (by kernel_rfl)) (eix ix_list (eop op_cat (ecallT call_list_of (by unfold Gl; kernel_rfl) T.list L2.boot_list (acons (eix ix_tup (ev 1 rfl (Or.inl (by kernel_rfl)) (by kernel_rfl) (by kernel_rfl)) eint (fun _ _ => rfl)) anil (by kernel_rfl)) (by decide +kernel) (by kernel_rfl) (by kernel_rfl) (by kernel_rfl)) (elst (acons estr anil (by kernel_rfl)))) (ecall G_law_take hr_law_take (by unfold Gl; kernel_rfl) m_law_take k_law_take b_law_take .nil pass0 (acons (ev 0 rfl (Or.inl (by kernel_rfl)) (by kernel_rfl) (by kernel_rfl)) (acons (eop op_add (ecallB call_len_seq (by unfold Gl; kernel_rfl) T.len L2.boot_len (acons (eix ix_tup (ev 1 rfl (Or.inl (by kernel_rfl)) (by kernel_rfl) (by kernel_rfl)) eint (fun _ _ => rfl)) anil (by kernel_rfl)) (by decide +kernel) (by kernel_rfl) (by kernel_rfl) (by kernel_rfl)) eint) anil (by kernel_rfl)) (by kernel_rfl)) (by kernel_rfl) (by kernel_rfl) (by kernel_rfl)) (fun _ _ => rfl)) (by kernel_rfl) (.inl rfl))
  (bcons
  (bset (n := 6) nd rfl (Or.inl (by kernel_rfl)) (elst (acons (ev 5 rfl (Or.inl (by kernel_rfl)) (by kernel_rfl) (by kernel_rfl)) (acons (eop op_add_str (eslice sl_str (ev 5 rfl (Or.inl (by kernel_rfl)) (by kernel_rfl) (by kernel_rfl)) onone (osome eint)) estr) (acons (eop op_add_str (eslice sl_str (ev 5 rfl (Or.inl (by kernel_rfl)) (by kernel_rfl) (by kernel_rfl)) onone (osome (eun un_neg eint))) estr) (acons (eslice sl_str (eop op_add_str (ev 5 rfl (Or.inl (by kernel_rfl)) (by kernel_rfl) (by kernel_rfl)) estr) (osome eint) (osome eint)) (acons estr (acons estr anil (by kernel_rfl)) (by kernel_rfl)) (by kernel_rfl)) (by kernel_rfl)) (by kernel_rfl)) (by kernel_rfl))) (by kernel_rfl) (.inl rfl))
  (bone
  (bexpr (ebm PySem.F.plainAttrs_list PySem.F.slot_list_insert PySem.F.type_list_insert mt_insert (ev 3 rfl (Or.inl (by kernel_rfl)) (by kernel_rfl) (by kernel_rfl)) (acons (ecall G_law_take hr_law_take (by unfold Gl; kernel_rfl) m_law_take k_law_take b_law_take .nil pass0 (acons (ev 0 rfl (Or.inl (by kernel_rfl)) (by kernel_rfl) (by kernel_rfl)) (acons (eop op_add (ecallB call_len_seq (by unfold Gl; kernel_rfl) T.len L2.boot_len (acons (ev 3 rfl (Or.inl (by kernel_rfl)) (by kernel_rfl) (by kernel_rfl)) anil (by kernel_rfl)) (by decide +kernel) (by kernel_rfl) (by kernel_rfl) (by kernel_rfl)) eint) anil (by kernel_rfl)) (by kernel_rfl)) (by kernel_rfl) (by kernel_rfl) (by kernel_rfl)) (acons (eix ix_list (ev 6 rfl (Or.inl (by kernel_rfl)) (by kernel_rfl) (by kernel_rfl)) (ecall G_law_take hr_law_take (by unfold Gl; kernel_rfl) m_law_take k_law_take b_law_take .nil pass0 (acons (ev 0 rfl (Or.inl (by kernel_rfl)) (by kernel_rfl) (by kernel_rfl)) (acons eint anil (by kernel_rfl)) (by kernel_rfl)) (by kernel_rfl) (by kernel_rfl) (by kernel_rfl)) (fun _ _ => rfl)) anil (by kernel_rfl)) (by kernel_rfl)) (by kernel_rfl) (by kernel_rfl) (by kernel_rfl) (by kernel_rfl) (by kernel_rfl)) (by kernel_rfl))))) (by intro _; rfl))
  (bone
  (bret (ecallT call_tuple_of (by unfold Gl; kernel_rfl) T.tuple L2.boot_tuple (acons (ev 3 rfl (Or.inl (by kernel_rfl)) (by kernel_rfl) (by kernel_rfl)) anil (by kernel_rfl)) (by decide +kernel) (by kernel_rfl) (by kernel_rfl) (by kernel_rfl)))))) ?_
  refine ⟨_, rfl, b, _, rfl, .inr hb, fun sl hsl => ?_⟩
  have st0 : Stp d c H (upd H sl (.lst (xs.map V.str))) := (Stp.refl Dk).new hsl _
  have e0 : (upd H sl (.lst (xs.map V.str))) sl = some (.lst (xs.map V.str)) := upd_same
  show tSeq _ _ _ _ (upd H sl (.lst (xs.map V.str)))
  generalize upd H sl (.lst (xs.map V.str)) = H1 at st0 e0 ⊢
  refine ⟨_, rfl, d, c, 2, rfl, st0.dk, by decide, by decide, fun r2 H2 r20 r21 st2 => ?_⟩
  have e2 := st2.k _ _ e0 (Dk.nd hsl).1 (Dk.nd hsl).2
  have st2 := st0.trans st2
  refine ⟨_, _, rfl, rfl, _, rfl, by omega, by omega, ?_⟩
  refine for_range (lo := 0) (fun i σ G => ∃ (x4 x5 x6 : Option V) (ys : List Str), σ = [some (.ref d), some (.ref wa), some (.ref b), some (.ref sl), x4, x5, x6] ∧ Stp d c H G ∧ G sl = some (.lst (ys.map V.str)) ∧ ys.length ≤ 800 + i ∧ ∀ y ∈ ys, y.length ≤ 100) ⟨_, _, _, xs, rfl, st2, e2, by omega, hx100⟩ ?_ ?_
  · rintro i σ G hi ⟨x4, x5, x6, ys, rfl, sg, eg, hly, hy100⟩
    have hi2 : i < 2 := by omega
    have kg := sg.keepT Dk
    -- name
    refine ⟨_, rfl, wa, _, _, _, rfl, rfl, kg.seqT h1, rfl, na, _, rfl, .inr (kg.seqT h2), fun l1 hl1 => ?_⟩
    refine ⟨(by show 1 ≤ sizeLine; decide), fun l2 hl2 => ?_⟩
    have n12 : l1 ≠ l2 := ne_of_none upd_same hl2
    refine ⟨l1, l2, _, _, rfl, rfl, (by rw [upd_ne n12]; exact upd_same), upd_same, (by rw [List.length_map]; exact sl1000 (by show names.length + 1 ≤ 1000; omega)), fun l3 hl3 => ?_⟩
    have sg1 := sg.new hl1 (.lst (names.map V.str))
    have sg2 := sg1.new hl2 (.lst [V.str "a"])
    have nl3 := sg2.dk.nd hl3
    have ns3 : l3 ≠ sl := fun z => by rw [z] at hl3; rw [upd_ne (ne_of_none (by rw [upd_ne (ne_of_none eg hl1)]; exact eg) hl2), upd_ne (ne_of_none eg hl1), eg] at hl3; cases hl3
    have eg2 : (upd (upd G l1 (.lst (names.map V.str))) l2 (.lst [V.str "a"])) sl = some (.lst (ys.map V.str)) := by rw [upd_ne (ne_of_none (by rw [upd_ne (ne_of_none eg hl1)]; exact eg) hl2), upd_ne (ne_of_none eg hl1)]; exact eg
    have sg3 := sg2.new hl3 (.lst (names.map V.str ++ [V.str "a"]))
    have eg3 : (upd (upd (upd G l1 (.lst (names.map V.str))) l2 (.lst [V.str "a"])) l3 (.lst (names.map V.str ++ [V.str "a"]))) sl = some (.lst (ys.map V.str)) := by rw [upd_ne (ne_of_none eg2 hl3)]; exact eg2
    have el3 : (upd (upd (upd G l1 (.lst (names.map V.str))) l2 (.lst [V.str "a"])) l3 (.lst (names.map V.str ++ [V.str "a"]))) l3 = some (.lst ((names ++ [("a" : Str)]).map V.str)) := by rw [upd_same, List.map_append]; rfl
    generalize (upd (upd (upd G l1 (.lst (names.map V.str))) l2 (.lst [V.str "a"])) l3 (.lst (names.map V.str ++ [V.str "a"]))) = G3 at sg3 eg3 el3 ⊢
    have kg3 := sg3.keepT Dk
    refine ⟨_, rfl, _, rfl, wa, _, _, _, rfl, rfl, kg3.seqT h1, rfl, na, _, rfl, .inr (kg3.seqT h2), _, _, rfl, rfl, d, c, _, rfl, sg3.dk, (by rw [List.length_map]; omega), (by rw [List.length_map]; omega), fun r4 G4 r40 r41 st4 => ?_⟩
    rw [List.length_map] at r41
    obtain ⟨nm, hnm, mnm⟩ := at_strs (xs := names ++ [("a" : Str)]) r40 (by rw [List.length_append]; show r4 < ((names.length + 1 : Nat) : Int); omega)
    have ln : nm.length ≤ 8 := by
      rcases List.mem_append.mp mnm with z | z
      · exact (wok.nw nm z).1.hi
      · rw [List.mem_singleton.mp z]; decide +kernel
    refine ⟨l3, _, _, _, rfl, rfl, SqL.of (st4.k _ _ el3 nl3.1 nl3.2), hnm, ?_⟩
    have eg4 := st4.k _ _ eg3 (Dk.nd hsl).1 (Dk.nd hsl).2
    have sg4 := sg3.trans st4
    clear eg3 el3 hnm
    -- odd
    have ls : ("s" : Str).length = 1 := by decide +kernel
    have lq : ("q" : Str).length = 1 := by decide +kernel
    have lz : ("z" : Str).length = 1 := by decide +kernel
    have c7 := cutS_length nm none (some 7)
    have c1 := cutS_length nm none (some (-1))
    refine ⟨_, rfl, _, rfl, _, rfl, _, rfl, sl1000 (by omega), _, _, rfl, rfl, sl1000 (by omega), ?_⟩
    refine ⟨_, rfl, _, rfl, _, rfl, _, rfl, sl1000 (by omega), _, _, rfl, rfl, sl1000 (by omega), ?_⟩
    refine ⟨_, rfl, _, _, rfl, rfl, sl1000 (by omega), _, rfl, _, rfl, _, rfl, sl1000 (by rw [app_len]; omega), (by show 6 ≤ sizeLine; decide), fun ol hol => ?_⟩
    have nol := sg4.dk.nd hol
    have sg5 := sg4.new hol (.lst [V.str nm, V.str (cutS nm none (some 7) ++ "q"), V.str (cutS nm none (some (-1)) ++ "z"), V.str (cutS (nm ++ "s") (some 1) (some 9)), V.str "qqq", V.str "b"])
    have eol : (upd G4 ol (.lst [V.str nm, V.str (cutS nm none (some 7) ++ "q"), V.str (cutS nm none (some (-1)) ++ "z"), V.str (cutS (nm ++ "s") (some 1) (some 9)), V.str "qqq", V.str "b"])) ol = some (.lst (([nm, cutS nm none (some 7) ++ "q", cutS nm none (some (-1)) ++ "z", cutS (nm ++ "s") (some 1) (some 9), "qqq", "b"] : List Str).map V.str)) := upd_same
    have eg5 : (upd G4 ol (.lst [V.str nm, V.str (cutS nm none (some 7) ++ "q"), V.str (cutS nm none (some (-1)) ++ "z"), V.str (cutS (nm ++ "s") (some 1) (some 9)), V.str "qqq", V.str "b"])) sl = some (.lst (ys.map V.str)) := by rw [upd_ne (ne_of_none eg4 hol)]; exact eg4
    generalize (upd G4 ol (.lst [V.str nm, V.str (cutS nm none (some 7) ++ "q"), V.str (cutS nm none (some (-1)) ++ "z"), V.str (cutS (nm ++ "s") (some 1) (some 9)), V.str "qqq", V.str "b"])) = G5 at sg5 eol eg5 ⊢
    have c9 := cutS_length (nm ++ "s") (some 1) (some 9)
    rw [app_len] at c9
    have hodd : ∀ x ∈ ([nm, cutS nm none (some 7) ++ "q", cutS nm none (some (-1)) ++ "z", cutS (nm ++ "s") (some 1) (some 9), "qqq", "b"] : List Str), x.length ≤ 100 := fun x hx => by
      simp only [List.mem_cons, List.not_mem_nil, or_false] at hx
      rcases hx with rfl | rfl | rfl | rfl | rfl | rfl
      · omega
      · rw [app_len]; omega
      · rw [app_len]; omega
      · omega
      · decide +kernel
      · decide +kernel
    have ho6 : ([nm, cutS nm none (some 7) ++ "q", cutS nm none (some (-1)) ++ "z", cutS (nm ++ "s") (some 1) (some 9), "qqq", "b"] : List Str).length = 6 := rfl
    generalize ([nm, cutS nm none (some 7) ++ "q", cutS nm none (some (-1)) ++ "z", cutS (nm ++ "s") (some 1) (some 9), "qqq", "b"] : List Str) = odd at eol hodd ho6
    have hl6 : odd.length = 6 := ho6
    refine ⟨_, rfl, .inl ⟨rfl, _, SqL.of eg5⟩, _, rfl, _, rfl, sl, _, rfl, .inl (SqL.of eg5), _, _, rfl, rfl, d, c, _, rfl, sg5.dk, (by rw [List.length_map]; omega), (by rw [List.length_map]; omega), fun r6 G6 r60 r61 st6 => ?_⟩
    rw [List.length_map] at r61
    obtain ⟨k, rfl⟩ := Int.eq_ofNat_of_zero_le r60
    have sg6 := sg5.trans st6
    have eg6 := st6.k _ _ eg5 (Dk.nd hsl).1 (Dk.nd hsl).2
    have eol6 := st6.k _ _ eol nol.1 nol.2
    refine ⟨_, rfl, _, rfl, d, c, 6, rfl, sg6.dk, by decide, by decide, fun r7 G7 r70 r71 st7 => ?_⟩
    obtain ⟨od, hod, mod⟩ := at_strs (xs := odd) r70 (by rw [hl6]; exact r71)
    have eg7 := st7.k _ _ eg6 (Dk.nd hsl).1 (Dk.nd hsl).2
    have eol7 := st7.k _ _ eol6 nol.1 nol.2
    have sg7 := sg6.trans st7
    refine ⟨ol, _, _, _, rfl, rfl, SqL.of eol7, hod, sl, _, k, _, rfl, rfl, eg7, (by rw [List.length_map]; omega), (by rw [List.length_map]; omega), ?_⟩
    refine ⟨_, _, _, ys.take k ++ od :: ys.drop k, rfl, sg7.upd hsl (Dk.nd hsl).1 (Dk.nd hsl).2 _, ?_, ?_, fun y hy => ?_⟩
    · rw [upd_same, List.map_append, List.map_cons, List.map_take, List.map_drop]
    · rw [List.length_append, List.length_cons, List.length_take, List.length_drop]; omega
    · rcases List.mem_append.mp hy with z | z
      · exact hy100 y (List.mem_of_mem_take z)
      rcases List.mem_cons.mp z with z | z
      · rw [z]; exact hodd od mod
      · exact hy100 y (List.mem_of_mem_drop z)
  · rintro σ G ⟨x4, x5, x6, ys, rfl, sg, eg, hly, hy100⟩
    refine ⟨_, rfl, sl, _, rfl, .inl ⟨SqL.of eg, fun r hr' => ?_⟩⟩
    exact q r ys _ (sg.new hr' _) (SqT.of upd_same) (by omega) hy100
end
end K05

namespace K05
open PySem L2 Wd Wm Tm Km
section
variable {P : Program} {w : World} {K : PySem.W.Frag} {mg : Str → Option Value} {base : Heap}
/-- a row of texts lies at r -/
def RowAt (K : PySem.W.Frag) (H : Hp) (v : V) : Prop := ∃ (r : Addr) (xs : List Str), v = .ref r ∧ SqT K H r (xs.map V.str) ∧ xs.length ≤ 900 ∧ ∀ x ∈ xs, x.length ≤ 100
theorem RowAt.keep {H H' : Hp} {v : V} (h : RowAt K H v) (k : KeepT H H') : RowAt K H' v := by
  obtain ⟨r, xs, e, h1, h2⟩ := h
  exact ⟨r, xs, e, k.seqT h1, h2⟩
def spLaw (K : PySem.W.Frag) : Sp := fun vs H Q _ => ∃ (a : Addr) (ns : List Int), vs = [.ref a] ∧ SqL K H a (ns.map V.int) ∧ ns.length ≤ 63 ∧ ∀ H', Q (.bl true) H'
theorem sc_law : FnScope ["script", "deck", "turn", "web", "names", "row"] ["script"] (defScope s_law) := ⟨rfl, rfl, rfl, by decide +kernel, rfl, by decide +kernel, by decide +kernel⟩
theorem ok_law {f : Addr} {fd : FuncData} (F : Fun K "law" "law" s_law f fd) (T : Tx mg) (oD : Own P w K mg base 1 "_law_deck" ["script"] (spDeck K)) (oW : Own P w K mg base 3 "_law_web" ["deck", "most"] (spWeb K)) (oM : Own P w K mg base 2 "_law_some" ["deck", "names"] (spSome K))
    (oH : Own P w K mg base 2 "_law_shuffled" ["deck", "things"] (spShuf K)) (oP : Own P w K mg base 2 "_law_spoilt" ["deck", "web", "names"] (spSpoilt K)) (oR : Own P w K mg base 6 "_law_right" ["web", "names"] (spRight K)) : FnOk P w K mg base CX0 7 f fd ["script"] (spLaw K) := by
  have nd := sc_law.nd
  obtain ⟨f1, fd1, G_law_deck, b_law_deck, k_law_deck, m_law_deck⟩ := oD
  obtain ⟨f2, fd2, G_law_web, b_law_web, k_law_web, m_law_web⟩ := oW
  obtain ⟨f3, fd3, G_law_some, b_law_some, k_law_some, m_law_some⟩ := oM
  obtain ⟨f4, fd4, G_law_shuffled, b_law_shuffled, k_law_shuffled, m_law_shuffled⟩ := oH
  obtain ⟨f5, fd5, G_law_spoilt, b_law_spoilt, k_law_spoilt, m_law_spoilt⟩ := oP
  obtain ⟨f6, fd6, G_law_right, b_law_right, k_law_right, m_law_right⟩ := oR
  refine F.ok sc_law (fun vs H Q E h => ?_) (fun cdv A outer s H vs Q E hr h => ?_)
  · obtain ⟨a, ns, rfl, _⟩ := h
    rfl
  have hr_law_deck := hr.mono (j := 1) (by decide)
  have hr_law_web := hr.mono (j := 3) (by decide)
  have hr_law_some := hr.mono (j := 2) (by decide)
  have hr_law_shuffled := hr_law_some
  have hr_law_spoilt := hr_law_some
  have hr_law_right := hr
  obtain ⟨a, ns, rfl, hS, h63, q⟩ := h
  refine SB.use (bcons
  (bset (n := 1) nd rfl (Or.inl (by kernel_rfl)) (ecall G_law_deck hr_law_deck (by unfold Gl; kernel_rfl) m_law_deck k_law_deck b_law_deck .nil pass0 (acons (ev 0 rfl (Or.inl (by kernel_rfl)) (by kernel_rfl) (by kernel_rfl)) anil (by kernel_rfl)) (by kernel_rfl) (by kernel_rfl) (by kernel_rfl)) (by kernel_rfl) (.inl rfl))
  (bcons
  (bfor PassesOwn.never rfl (irange1 (by unfold Gl; kernel_rfl) T.range (acons eint anil (by kernel_rfl)) (by kernel_rfl)) (gname (n := 2) nd rfl (Or.inl (by kernel_rfl)) (.inl rfl)) (bcons
  (bset (n := 3) nd rfl (Or.inl (by kernel_rfl)) (ecall G_law_web hr_law_web (by unfold Gl; kernel_rfl) m_law_web k_law_web b_law_web .nil pass0 (acons (ev 1 rfl (Or.inl (by kernel_rfl)) (by kernel_rfl) (by kernel_rfl)) (acons eint anil (by kernel_rfl)) (by kernel_rfl)) (by kernel_rfl) (by kernel_rfl) (by kernel_rfl)) (by kernel_rfl) (.inl rfl))
  (bcons
  (bset (n := 4) nd rfl (Or.inl (by kernel_rfl)) (ecallT call_tuple_of (by unfold Gl; kernel_rfl) T.tuple L2.boot_tuple (acons (ecall G_law_shuffled hr_law_shuffled (by unfold Gl; kernel_rfl) m_law_shuffled k_law_shuffled b_law_shuffled .nil pass0 (acons (ev 1 rfl (Or.inl (by kernel_rfl)) (by kernel_rfl) (by kernel_rfl)) (acons (ecall G_law_some hr_law_some (by unfold Gl; kernel_rfl) m_law_some k_law_some b_law_some .nil pass0 (acons (ev 1 rfl (Or.inl (by kernel_rfl)) (by kernel_rfl) (by kernel_rfl)) (acons (eix ix_tup (ev 3 rfl (Or.inl (by kernel_rfl)) (by kernel_rfl) (by kernel_rfl)) eint (fun _ _ => rfl)) anil (by kernel_rfl)) (by kernel_rfl)) (by kernel_rfl) (by kernel_rfl) (by kernel_rfl)) anil (by kernel_rfl)) (by kernel_rfl)) (by kernel_rfl) (by kernel_rfl) (by kernel_rfl)) anil (by kernel_rfl)) (by decide +kernel) (by kernel_rfl) (by kernel_rfl) (by kernel_rfl)) (by kernel_rfl) (.inl rfl))
  (bone
  (bfor PassesOwn.never rfl (ilist (elst (acons (ev 4 rfl (Or.inl (by kernel_rfl)) (by kernel_rfl) (by kernel_rfl)) (acons (etup anil) (acons (eix ix_tup (ev 3 rfl (Or.inl (by kernel_rfl)) (by kernel_rfl) (by kernel_rfl)) eint (fun _ _ => rfl)) (acons (erevT (eix ix_tup (ev 3 rfl (Or.inl (by kernel_rfl)) (by kernel_rfl) (by kernel_rfl)) eint (fun _ _ => rfl)) (eun un_neg eint)) (acons (ecall G_law_spoilt hr_law_spoilt (by unfold Gl; kernel_rfl) m_law_spoilt k_law_spoilt b_law_spoilt .nil pass0 (acons (ev 1 rfl (Or.inl (by kernel_rfl)) (by kernel_rfl) (by kernel_rfl)) (acons (ev 3 rfl (Or.inl (by kernel_rfl)) (by kernel_rfl) (by kernel_rfl)) (acons (ev 4 rfl (Or.inl (by kernel_rfl)) (by kernel_rfl) (by kernel_rfl)) anil (by kernel_rfl)) (by kernel_rfl)) (by kernel_rfl)) (by kernel_rfl) (by kernel_rfl) (by kernel_rfl)) (acons (ecall G_law_spoilt hr_law_spoilt (by unfold Gl; kernel_rfl) m_law_spoilt k_law_spoilt b_law_spoilt .nil pass0 (acons (ev 1 rfl (Or.inl (by kernel_rfl)) (by kernel_rfl) (by kernel_rfl)) (acons (ev 3 rfl (Or.inl (by kernel_rfl)) (by kernel_rfl) (by kernel_rfl)) (acons (etup anil) anil (by kernel_rfl)) (by kernel_rfl)) (by kernel_rfl)) (by kernel_rfl) (by kernel_rfl) (by kernel_rfl)) anil (by kernel_rfl)) (by kernel_rfl)) (by kernel_rfl)) (by kernel_rfl)) (by kernel_rfl)) (by kernel_rfl)))) (gname (n := 5) nd rfl (Or.inl (by kernel_rfl)) (.inl rfl)) (bone
  (bifs (tnot (tval (ecall G_law_right hr_law_right (by unfold Gl; kernel_rfl) m_law_right k_law_right b_law_right .nil pass0 (acons (ev 3 rfl (Or.inl (by kernel_rfl)) (by kernel_rfl) (by kernel_rfl)) (acons (ev 5 rfl (Or.inl (by kernel_rfl)) (by kernel_rfl) (by kernel_rfl)) anil (by kernel_rfl)) (by kernel_rfl)) (by kernel_rfl) (by kernel_rfl) (by kernel_rfl)) (by intro _; rfl))) (bone
  (bret ebl)) bnil)) (by intro _; rfl))))) (by intro _; rfl))
  (bone
  (bret ebl)))) ?_
  refine ⟨_, rfl, a, ns, rfl, hS, h63, fun d c H1 s1 D1 _ _ => ?_⟩
  refine ⟨_, rfl, by decide, by decide, ?_⟩
  refine for_range (lo := 0) (fun i σ H2 => ∃ (x2 x3 x4 x5 : Option V), σ = [some (.ref a), some (.ref d), x2, x3, x4, x5] ∧ Deck H2 d c) ⟨_, _, _, _, rfl, D1⟩ ?_ ?_
  · rintro turn σ H2 hturn ⟨x2, x3, x4, x5, rfl, D⟩
    refine ⟨_, rfl, d, c, 14, rfl, D, by decide, by decide, fun wa names ties H3 st3 wat wok hl14 => ?_⟩
    have n14 : names.length ≤ 14 := by omega
    obtain ⟨na, ta, tv, h1, h2, h3, h4⟩ := wat.at_
    have w100 : ∀ x ∈ names, x.length ≤ 100 := fun x hx => by have := (wok.nw x hx).1.hi; omega
    refine ⟨_, rfl, _, rfl, _, rfl, wa, _, _, _, rfl, rfl, h1, rfl, d, c, na, names, rfl, st3.dk, h2, by omega, fun r4 one H4 st4 e4 sub4 => ?_⟩
    have l4 := sub4.length_le
    refine ⟨d, c, r4, _, rfl, st4.dk, .inr (SqT.of e4), (by rw [List.length_map]; omega), fun l5 ys H5 st5 nl5 e5 perm => ?_⟩
    obtain ⟨xs, rfl, px⟩ := strs_perm perm
    have lx := px.length_eq
    have x100 : ∀ x ∈ xs, x.length ≤ 100 := fun x hx => w100 x (sub4.subset (px.mem_iff.mp hx))
    refine ⟨l5, _, rfl, .inl ⟨SqL.of e5, fun nt hnt => ?_⟩⟩
    have k5 := (st4.keepT st3.dk).trans (st5.keepT st4.dk)
    have s6 := same_new hnt (.tup (xs.map V.str))
    have D6 := st5.dk.same s6
    have k6 := k5.trans s6.keepT
    have w6 := wat.keep k6
    have r6 : RowAt K (upd H5 nt (.tup (xs.map V.str))) (.ref nt) := ⟨nt, xs, rfl, SqT.of upd_same, by omega, x100⟩
    have e6 : SqT K (upd H5 nt (.tup (xs.map V.str))) nt (xs.map V.str) := SqT.of upd_same
    have h16 := k6.seqT h1
    have h26 := k6.seqT h2
    generalize upd H5 nt (.tup (xs.map V.str)) = H6 at D6 w6 r6 e6 h16 h26 ⊢
    clear s6 k6 k5
    refine ⟨_, rfl, (by show 0 ≤ sizeLine; decide), fun e0 he0 => ?_⟩
    have s7 := same_new he0 (.tup [])
    have r7 : RowAt K (upd H6 e0 (.tup [])) (.ref e0) := ⟨e0, [], rfl, SqT.of upd_same, by decide, fun x hx => by cases hx⟩
    have D7 := D6.same s7
    have k7 := s7.keepT
    generalize upd H6 e0 (.tup []) = H7 at s7 r7 D7 k7 ⊢
    refine ⟨_, rfl, wa, _, _, _, rfl, rfl, k7.seqT h16, rfl, ?_⟩
    refine ⟨_, rfl, wa, _, _, _, rfl, rfl, k7.seqT h16, rfl, _, rfl, rfl, na, _, rfl, k7.seqT h26, fun rv hrv => ?_⟩
    have s8 := same_new hrv (.tup (names.map V.str).reverse)
    have r8 : RowAt K (upd H7 rv (.tup (names.map V.str).reverse)) (.ref rv) := ⟨rv, names.reverse, rfl, SqT.of (by rw [List.map_reverse]; exact upd_same), by rw [List.length_reverse]; omega, fun x hx => w100 x (List.mem_reverse.mp hx)⟩
    have D8 := D7.same s8
    have k8 := k7.trans s8.keepT
    have r78 := r7.keep s8.keepT
    generalize upd H7 rv (.tup (names.map V.str).reverse) = H8 at s8 r8 D8 k8 r78 ⊢
    refine ⟨_, rfl, _, rfl, _, rfl, d, c, wa, nt, names, xs, ties, rfl, D8, w6.keep k8, wok, n14, k8.seqT e6, by omega, x100, fun t9 ys9 H9 st9 e9 l9 y9 => ?_⟩
    have k9 := st9.keepT D8
    refine ⟨_, rfl, _, rfl, (by show 0 ≤ sizeLine; decide), fun e1 he1 => ?_⟩
    have s10 := same_new he1 (.tup [])
    have D10 := st9.dk.same s10
    have k10 := s10.keepT
    have e10 : SqT K (upd H9 e1 (.tup [])) e1 (([] : List Str).map V.str) := SqT.of upd_same
    generalize upd H9 e1 (.tup []) = H10 at D10 k10 e10 ⊢
    refine ⟨d, c, wa, e1, names, [], ties, rfl, D10, w6.keep (k8.trans (k9.trans k10)), wok, n14, e10, by decide, fun x hx => (by cases hx), fun t11 ys11 H11 st11 e11 l11 y11 => ?_⟩
    have k11 := st11.keepT D10
    refine ⟨(by show 6 ≤ sizeLine; decide), fun L hL => ?_⟩
    have s12 := same_new hL (.lst [V.ref nt, V.ref e0, V.ref na, V.ref rv, V.ref t9, V.ref t11])
    have D12 := st11.dk.same s12
    have ka := (k9.trans k10).trans (k11.trans s12.keepT)
    have w12 := w6.keep (k8.trans ka)
    have eL : (upd H11 L (.lst [V.ref nt, V.ref e0, V.ref na, V.ref rv, V.ref t9, V.ref t11])) L = some (.lst [V.ref nt, V.ref e0, V.ref na, V.ref rv, V.ref t9, V.ref t11]) := upd_same
    have rows : ∀ v ∈ [V.ref nt, V.ref e0, V.ref na, V.ref rv, V.ref t9, V.ref t11], RowAt K (upd H11 L (.lst [V.ref nt, V.ref e0, V.ref na, V.ref rv, V.ref t9, V.ref t11])) v := fun v hv => by
      simp only [List.mem_cons, List.not_mem_nil, or_false] at hv
      rcases hv with rfl | rfl | rfl | rfl | rfl | rfl
      · exact r6.keep (k8.trans ka)
      · exact r78.keep ka
      · exact ⟨na, names, rfl, (k8.trans ka).seqT h26, by omega, w100⟩
      · exact r8.keep ka
      · exact ⟨t9, ys9, rfl, ((k10.trans k11).trans s12.keepT).seqT e9, by omega, y9⟩
      · exact ⟨t11, ys11, rfl, s12.seqT e11, by omega, y11⟩
    refine ⟨L, rfl, ⟨_, SqL.of upd_same⟩, ?_⟩
    generalize upd H11 L (.lst [V.ref nt, V.ref e0, V.ref na, V.ref rv, V.ref t9, V.ref t11]) = H12 at D12 w12 eL rows ⊢
    clear ka s12 k11 st11 k10 k9 st9 k8 k7 s8 s7
    refine for_list (K := K) (xs := [V.ref nt, V.ref e0, V.ref na, V.ref rv, V.ref t9, V.ref t11]) (fun i σ G => ∃ (x5 : Option V), σ = [some (.ref a), some (.ref d), some (.int (0 + (turn : Int))), some (.ref wa), some (.ref nt), x5] ∧ Same H12 G) ⟨_, rfl, Same.refl H12⟩ (fun i σ G _ ⟨_, _, z⟩ => SqL.of (z _ _ eL)) ?_ ?_
    · rintro i v σ G hv ⟨x5, rfl, sg⟩
      obtain ⟨r, zs, rfl, hz, lz, z100⟩ := rows v (List.mem_of_getElem? hv)
      refine ⟨_, rfl, _, rfl, wa, r, names, zs, ties, rfl, w12.keep sg.keepT, wok, n14, sg.seqT hz, lz, z100, fun G2 sg2 => ⟨_, rfl, iteF ?_⟩⟩
      exact ⟨_, rfl, sg.trans sg2⟩
    · rintro σ G ⟨x5, rfl, sg⟩
      exact ⟨_, _, _, _, rfl, D12.same sg⟩
  · rintro σ H2 ⟨x2, x3, x4, x5, rfl, D⟩
    exact q _
end
end K05

namespace K05
open PySem L2 Wd Wm Tm Km
theorem all_mk {l : PySem.W.OpenLaw} {w : World} {K : PySem.W.Frag} {h : Heap} {mg : Str → Option Value} {fa f1 f2 f3 f4 f5 f6 f7 f8 f9 f10 f11 f12 f13 f14 f15 f16 f17 f18 : Addr} (X : K.In h) (G : h.Ns mainGlobals mg) (hfa : mg "law" = some (.ref fa))
    {od1 an1 od2 an2 od3 an3 od4 an4 od5 an5 od6 an6 od7 an7 od8 an8 od9 an9 od10 an10 od11 an11 od12 an12 od13 an13 od14 an14 od15 an15 od16 an16 od17 an17 od18 an18 : Option Addr} {sl1 sl2 sl3 sl4 sl5 sl6 sl7 sl8 sl9 sl10 sl11 sl12 sl13 sl14 sl15 sl16 sl17 sl18 : Array (Option Value)} {oc1 kV1 dc1 pm1 cd1 ct1 oc2 kV2 dc2 pm2 cd2 ct2 oc3 kV3 dc3 pm3 cd3 ct3 oc4 kV4 dc4 pm4 cd4 ct4 oc5 kV5 dc5 pm5 cd5 ct5 oc6 kV6 dc6 pm6 cd6 ct6 oc7 kV7 dc7 pm7 cd7 ct7 oc8 kV8 dc8 pm8 cd8 ct8 oc9 kV9 dc9 pm9 cd9 ct9 oc10 kV10 dc10 pm10 cd10 ct10 oc11 kV11 dc11 pm11 cd11 ct11 oc12 kV12 dc12 pm12 cd12 ct12 oc13 kV13 dc13 pm13 cd13 ct13 oc14 kV14 dc14 pm14 cd14 ct14 oc15 kV15 dc15 pm15 cd15 ct15 oc16 kV16 dc16 pm16 cd16 ct16 oc17 kV17 dc17 pm17 cd17 ct17 oc18 kV18 dc18 pm18 cd18 ct18 : Value}
    {aS aR aA aN aB : Addr} {nmS qS : Str} {NS : Addr} {bsS : List Value} {hdS : Bool} {snS : List Str} {sbS : List Value} {abS : Bool} {clS : Option Bool} {ddS : Option Addr} {k0S k1S k2S k3S k5S : Option Value} {newS : String} {nmN qN : Str} {NN : Addr} {bsN : List Value} {snN : List Str} {sbN : List Value} {abN : Bool} {clN : Option Bool} {ddN : Option Addr} {k0N k1N k2N k3N k5N : Option Value} {fIN cdaN ccN : Addr} {qIN c1N c2N flN : Str} {p1N p2N p3N p4N p5N p6N p7N p8N p9N p10N q0N q1N q2N q3N r1N r2N : Pos} {kVN dcN pmN ctN cclN ccvN : Value} {anN odN cddN cldN : Option Addr} {slN ccsN cslN : Array (Option Value)} {cvsN : Array Value} {tfN : Tok}
    (a1 : PySem.W.nsIn K mainGlobals "check_names" = some (some (.ref f1))) (l1 : K.lookup f1 = some ⟨oc1, od1, .func (PySem.W.fnOf "check_names" "check_names" (defArgs s_check_names) (defBody s_check_names) (defScope s_check_names) .none kV1 dc1 pm1 an1 cd1 ct1), sl1⟩) (c1 : PySem.W.codeIn K cd1 "check_names" = true) (k1 : PySem.W.keepIn K (.ref f1) = true)
    (a2 : PySem.W.nsIn K mainGlobals "web_of" = some (some (.ref f2))) (l2 : K.lookup f2 = some ⟨oc2, od2, .func (PySem.W.fnOf "web_of" "web_of" (defArgs s_web_of) (defBody s_web_of) (defScope s_web_of) .none kV2 dc2 pm2 an2 cd2 ct2), sl2⟩) (c2 : PySem.W.codeIn K cd2 "web_of" = true) (k2 : PySem.W.keepIn K (.ref f2) = true)
    (a3 : PySem.W.nsIn K mainGlobals "web_without" = some (some (.ref f3))) (l3 : K.lookup f3 = some ⟨oc3, od3, .func (PySem.W.fnOf "web_without" "web_without" (defArgs s_web_without) (defBody s_web_without) (defScope s_web_without) .none kV3 dc3 pm3 an3 cd3 ct3), sl3⟩) (c3 : PySem.W.codeIn K cd3 "web_without" = true) (k3 : PySem.W.keepIn K (.ref f3) = true)
    (a4 : PySem.W.nsIn K mainGlobals "_law_deck" = some (some (.ref f4))) (l4 : K.lookup f4 = some ⟨oc4, od4, .func (PySem.W.fnOf "_law_deck" "_law_deck" (defArgs s_law_deck) (defBody s_law_deck) (defScope s_law_deck) .none kV4 dc4 pm4 an4 cd4 ct4), sl4⟩) (c4 : PySem.W.codeIn K cd4 "_law_deck" = true) (k4 : PySem.W.keepIn K (.ref f4) = true)
    (a5 : PySem.W.nsIn K mainGlobals "_law_take" = some (some (.ref f5))) (l5 : K.lookup f5 = some ⟨oc5, od5, .func (PySem.W.fnOf "_law_take" "_law_take" (defArgs s_law_take) (defBody s_law_take) (defScope s_law_take) .none kV5 dc5 pm5 an5 cd5 ct5), sl5⟩) (c5 : PySem.W.codeIn K cd5 "_law_take" = true) (k5 : PySem.W.keepIn K (.ref f5) = true)
    (a6 : PySem.W.nsIn K mainGlobals "_law_names" = some (some (.ref f6))) (l6 : K.lookup f6 = some ⟨oc6, od6, .func (PySem.W.fnOf "_law_names" "_law_names" (defArgs s_law_names) (defBody s_law_names) (defScope s_law_names) .none kV6 dc6 pm6 an6 cd6 ct6), sl6⟩) (c6 : PySem.W.codeIn K cd6 "_law_names" = true) (k6 : PySem.W.keepIn K (.ref f6) = true)
    (a7 : PySem.W.nsIn K mainGlobals "_law_size" = some (some (.ref f7))) (l7 : K.lookup f7 = some ⟨oc7, od7, .func (PySem.W.fnOf "_law_size" "_law_size" (defArgs s_law_size) (defBody s_law_size) (defScope s_law_size) .none kV7 dc7 pm7 an7 cd7 ct7), sl7⟩) (c7 : PySem.W.codeIn K cd7 "_law_size" = true) (k7 : PySem.W.keepIn K (.ref f7) = true)
    (a8 : PySem.W.nsIn K mainGlobals "_law_web" = some (some (.ref f8))) (l8 : K.lookup f8 = some ⟨oc8, od8, .func (PySem.W.fnOf "_law_web" "_law_web" (defArgs s_law_web) (defBody s_law_web) (defScope s_law_web) .none kV8 dc8 pm8 an8 cd8 ct8), sl8⟩) (c8 : PySem.W.codeIn K cd8 "_law_web" = true) (k8 : PySem.W.keepIn K (.ref f8) = true)
    (a9 : PySem.W.nsIn K mainGlobals "_law_same" = some (some (.ref f9))) (l9 : K.lookup f9 = some ⟨oc9, od9, .func (PySem.W.fnOf "_law_same" "_law_same" (defArgs s_law_same) (defBody s_law_same) (defScope s_law_same) .none kV9 dc9 pm9 an9 cd9 ct9), sl9⟩) (c9 : PySem.W.codeIn K cd9 "_law_same" = true) (k9 : PySem.W.keepIn K (.ref f9) = true)
    (a10 : PySem.W.nsIn K mainGlobals "_law_some" = some (some (.ref f10))) (l10 : K.lookup f10 = some ⟨oc10, od10, .func (PySem.W.fnOf "_law_some" "_law_some" (defArgs s_law_some) (defBody s_law_some) (defScope s_law_some) .none kV10 dc10 pm10 an10 cd10 ct10), sl10⟩) (c10 : PySem.W.codeIn K cd10 "_law_some" = true) (k10 : PySem.W.keepIn K (.ref f10) = true)
    (a11 : PySem.W.nsIn K mainGlobals "_law_shuffled" = some (some (.ref f11))) (l11 : K.lookup f11 = some ⟨oc11, od11, .func (PySem.W.fnOf "_law_shuffled" "_law_shuffled" (defArgs s_law_shuffled) (defBody s_law_shuffled) (defScope s_law_shuffled) .none kV11 dc11 pm11 an11 cd11 ct11), sl11⟩) (c11 : PySem.W.codeIn K cd11 "_law_shuffled" = true) (k11 : PySem.W.keepIn K (.ref f11) = true)
    (a12 : PySem.W.nsIn K mainGlobals "_law_caught" = some (some (.ref f12))) (l12 : K.lookup f12 = some ⟨oc12, od12, .func (PySem.W.fnOf "_law_caught" "_law_caught" (defArgs s_law_caught) (defBody s_law_caught) (defScope s_law_caught) .none kV12 dc12 pm12 an12 cd12 ct12), sl12⟩) (c12 : PySem.W.codeIn K cd12 "_law_caught" = true) (k12 : PySem.W.keepIn K (.ref f12) = true)
    (a13 : PySem.W.nsIn K mainGlobals "_law_wrong" = some (some (.ref f13))) (l13 : K.lookup f13 = some ⟨oc13, od13, .func (PySem.W.fnOf "_law_wrong" "_law_wrong" (defArgs s_law_wrong) (defBody s_law_wrong) (defScope s_law_wrong) .none kV13 dc13 pm13 an13 cd13 ct13), sl13⟩) (c13 : PySem.W.codeIn K cd13 "_law_wrong" = true) (k13 : PySem.W.keepIn K (.ref f13) = true)
    (a14 : PySem.W.nsIn K mainGlobals "_law_kept" = some (some (.ref f14))) (l14 : K.lookup f14 = some ⟨oc14, od14, .func (PySem.W.fnOf "_law_kept" "_law_kept" (defArgs s_law_kept) (defBody s_law_kept) (defScope s_law_kept) .none kV14 dc14 pm14 an14 cd14 ct14), sl14⟩) (c14 : PySem.W.codeIn K cd14 "_law_kept" = true) (k14 : PySem.W.keepIn K (.ref f14) = true)
    (a15 : PySem.W.nsIn K mainGlobals "_law_told" = some (some (.ref f15))) (l15 : K.lookup f15 = some ⟨oc15, od15, .func (PySem.W.fnOf "_law_told" "_law_told" (defArgs s_law_told) (defBody s_law_told) (defScope s_law_told) .none kV15 dc15 pm15 an15 cd15 ct15), sl15⟩) (c15 : PySem.W.codeIn K cd15 "_law_told" = true) (k15 : PySem.W.keepIn K (.ref f15) = true)
    (a16 : PySem.W.nsIn K mainGlobals "_law_right" = some (some (.ref f16))) (l16 : K.lookup f16 = some ⟨oc16, od16, .func (PySem.W.fnOf "_law_right" "_law_right" (defArgs s_law_right) (defBody s_law_right) (defScope s_law_right) .none kV16 dc16 pm16 an16 cd16 ct16), sl16⟩) (c16 : PySem.W.codeIn K cd16 "_law_right" = true) (k16 : PySem.W.keepIn K (.ref f16) = true)
    (a17 : PySem.W.nsIn K mainGlobals "_law_spoilt" = some (some (.ref f17))) (l17 : K.lookup f17 = some ⟨oc17, od17, .func (PySem.W.fnOf "_law_spoilt" "_law_spoilt" (defArgs s_law_spoilt) (defBody s_law_spoilt) (defScope s_law_spoilt) .none kV17 dc17 pm17 an17 cd17 ct17), sl17⟩) (c17 : PySem.W.codeIn K cd17 "_law_spoilt" = true) (k17 : PySem.W.keepIn K (.ref f17) = true)
    (a18 : PySem.W.nsIn K mainGlobals "law" = some (some (.ref f18))) (l18 : K.lookup f18 = some ⟨oc18, od18, .func (PySem.W.fnOf "law" "law" (defArgs s_law) (defBody s_law) (defScope s_law) .none kV18 dc18 pm18 an18 cd18 ct18), sl18⟩) (c18 : PySem.W.codeIn K cd18 "law" = true) (k18 : PySem.W.keepIn K (.ref f18) = true)
    (z0 : PySem.W.nsIn K mainGlobals "len" = some none)
    (z1 : PySem.W.nsIn K mainGlobals "sum" = some none)
    (z2 : PySem.W.nsIn K mainGlobals "range" = some none)
    (z3 : PySem.W.nsIn K mainGlobals "sorted" = some none)
    (z4 : PySem.W.nsIn K mainGlobals "min" = some none)
    (z5 : PySem.W.nsIn K mainGlobals "int" = some none)
    (z6 : PySem.W.nsIn K mainGlobals "tuple" = some none)
    (z7 : PySem.W.nsIn K mainGlobals "isinstance" = some none)
    (z8 : PySem.W.nsIn K mainGlobals "str" = some none)
    (z9 : PySem.W.nsIn K mainGlobals "bool" = some none)
    (z10 : PySem.W.nsIn K mainGlobals "zip" = some none)
    (z11 : PySem.W.nsIn K mainGlobals "enumerate" = some none)
    (z12 : PySem.W.nsIn K mainGlobals "set" = some none)
    (z13 : PySem.W.nsIn K mainGlobals "all" = some none)
    (z14 : PySem.W.nsIn K mainGlobals "list" = some none)
    (z15 : PySem.W.nsIn K mainGlobals "max" = some none)
    (z16 : PySem.W.nsIn K mainGlobals "any" = some none)
    (z17 : PySem.W.nsIn K mainGlobals "reversed" = some none)
    (x1 : PySem.W.nsIn K mainGlobals "SetError" = some (some (.ref aS)))
    (x2 : PySem.W.nsIn K mainGlobals "NoRow" = some (some (.ref aR)))
    (x3 : PySem.W.nsIn K mainGlobals "NoAsk" = some (some (.ref aA)))
    (x4 : PySem.W.nsIn K mainGlobals "NoName" = some (some (.ref aN)))
    (x5 : PySem.W.nsIn K mainGlobals "NoWeb" = some (some (.ref aB)))
    (y5 : K.lookup aS = some (excClassObj nmS qS aS NS bsS bmV hdS snS sbS abS clS ddS k0S k1S k2S k3S k5S newS))
    (I0N : K.lookup aN = some (excClassObj nmN qN aN NN bsN (.ref aS :: bmV) true snN sbN abN clN ddN k0N k1N k2N k3N k5N "ValueError.__new__"))
    (I1N : PySem.W.nsIn K NN "__init__" = some (some (.ref fIN)))
    (I2N : PySem.W.tailIn K bmV (.ref aS :: bmV) = true)
    (I3N : PySem.W.nsOkIn K NN = true)
    (I4N : K.lookup fIN = some ⟨.type "function", odN, .func (PySem.W.ksFn "__init__" qIN (iniArgs "word" r1N r2N) (iniBody "word" c1N c2N p1N p2N p3N p4N p5N p6N p7N p8N p9N p10N q0N q1N q2N q3N) (iniScope "word") .none kVN dcN pmN anN (.ref cdaN) ctN ccN), slN⟩)
    (I5N : PySem.W.codeIn K (.ref cdaN) qIN = true)
    (I6N : K.lookup cdaN = some ⟨cclN, cddN, .fields cvsN, ccsN⟩)
    (I7N : cvsN[2]? = some (.str flN tfN))
    (I8N : ((l.prog.main.file : Str) == flN) = true)
    (I9N : K.lookup ccN = some ⟨ccvN, cldN, .cell (some (.ref aN)), cslN⟩)
    (I10N : c1N.length ≤ 1000000 ∧ c2N.length ≤ 1000000)
    (I11N : (p8N.endLine == p9N.line) = true)
    (I12N : PySem.W.ks_superIn K aN aN "__init__" = some (some (.builtin "ValueError.__init__")))
    (I13N : PySem.W.mroIn K aN (.ref aN) = some true)
    (I14N : PySem.W.mroIn K aN (.type "ValueError") = some true)
    (I15N : PySem.W.findIn K (.ref aN) "__setattr__" = some (some (.builtin "object.__setattr__")))
    (I16N : PySem.W.findIn K (.ref aN) "word" = some none)
    (I17N : PySem.W.mroIn K aN (.type "object") = some true)
    (hopq : PySem.W.nsIn K cStatics "thirdparty.any" = some none)
    (htop : (l.prog.main.scope.names.lookup ("super" : Str)).isSome = false)
    (hsup : PySem.W.nsIn K mainGlobals "super" = some none)
    (e1N : PySem.W.findIn K (.ref aN) "__getattribute__" = some (some (.builtin "BaseException.__getattribute__")))
    (e2N : PySem.W.findIn K (.ref aN) "__getattr__" = some none)
    (e3N : PySem.W.findIn K (.ref aN) "__class__" = some (some (.builtin "object.__class__")))
    (e5N : PySem.W.mroIn K aN (.type "BaseException") = some true)
    (i0N : PySem.W.kitOne K (.ref aN) (.ref aA) = some false)
    (i1N : PySem.W.kitOne K (.ref aN) (.ref aN) = some true)
    (i2N : PySem.W.kitOne K (.ref aN) (.ref aR) = some false)
    (i3N : PySem.W.kitOne K (.ref aN) (.ref aB) = some false)
    (i4N : PySem.W.kitOne K (.ref aN) (.type "ValueError") = some true)
    (gv : PySem.W.nsIn K mainGlobals "ValueError" = some none) :
    ∃ fd : FuncData, (∀ (s : Shared) (v : Value), BindsTo s fd ⟨[v], []⟩ [("script", v)]) ∧ ∀ base : Heap, K.In base → base.Ns mainGlobals mg → FnOk l.prog w K mg base CX0 7 fa fd ["script"] (spLaw K) := by
  have e := hfa.symm.trans (PySem.W.mg_of X G a18)
  cases e
  have T : Tx mg := ⟨PySem.W.mg_none_of X G z0, PySem.W.mg_none_of X G z1, PySem.W.mg_none_of X G z2, PySem.W.mg_none_of X G z3, PySem.W.mg_none_of X G z4, PySem.W.mg_none_of X G z5, PySem.W.mg_none_of X G z6, PySem.W.mg_none_of X G z7, PySem.W.mg_none_of X G z8, PySem.W.mg_none_of X G z9, PySem.W.mg_none_of X G z10, PySem.W.mg_none_of X G z11, PySem.W.mg_none_of X G z12, PySem.W.mg_none_of X G z13, PySem.W.mg_none_of X G z14, PySem.W.mg_none_of X G z15, PySem.W.mg_none_of X G z16, PySem.W.mg_none_of X G z17⟩
  have F1 := fun_mk (st := s_check_names) l1 c1 k1
  have b1 := F1.binds (ps := ["web", "names"]) fun _ _ _ _ _ _ us hl => match us, hl with | [_, _], _ => rfl
  have F2 := fun_mk (st := s_web_of) l2 c2 k2
  have b2 := F2.binds (ps := ["web", "names"]) fun _ _ _ _ _ _ us hl => match us, hl with | [_, _], _ => rfl
  have F3 := fun_mk (st := s_web_without) l3 c3 k3
  have b3 := F3.binds (ps := ["web", "names"]) fun _ _ _ _ _ _ us hl => match us, hl with | [_, _], _ => rfl
  have F4 := fun_mk (st := s_law_deck) l4 c4 k4
  have b4 := F4.binds (ps := ["script"]) fun _ _ _ _ _ _ us hl => match us, hl with | [_], _ => rfl
  have F5 := fun_mk (st := s_law_take) l5 c5 k5
  have b5 := F5.binds (ps := ["deck", "many"]) fun _ _ _ _ _ _ us hl => match us, hl with | [_, _], _ => rfl
  have F6 := fun_mk (st := s_law_names) l6 c6 k6
  have b6 := F6.binds (ps := ["deck", "many"]) fun _ _ _ _ _ _ us hl => match us, hl with | [_, _], _ => rfl
  have F7 := fun_mk (st := s_law_size) l7 c7 k7
  have b7 := F7.binds (ps := ["deck", "most"]) fun _ _ _ _ _ _ us hl => match us, hl with | [_, _], _ => rfl
  have F8 := fun_mk (st := s_law_web) l8 c8 k8
  have b8 := F8.binds (ps := ["deck", "most"]) fun _ _ _ _ _ _ us hl => match us, hl with | [_, _], _ => rfl
  have F9 := fun_mk (st := s_law_same) l9 c9 k9
  have b9 := F9.binds (ps := ["found", "due"]) fun _ _ _ _ _ _ us hl => match us, hl with | [_, _], _ => rfl
  have F10 := fun_mk (st := s_law_some) l10 c10 k10
  have b10 := F10.binds (ps := ["deck", "names"]) fun _ _ _ _ _ _ us hl => match us, hl with | [_, _], _ => rfl
  have F11 := fun_mk (st := s_law_shuffled) l11 c11 k11
  have b11 := F11.binds (ps := ["deck", "things"]) fun _ _ _ _ _ _ us hl => match us, hl with | [_, _], _ => rfl
  have F12 := fun_mk (st := s_law_caught) l12 c12 k12
  have b12 := F12.binds (ps := ["e"]) fun _ _ _ _ _ _ us hl => match us, hl with | [_], _ => rfl
  have F13 := fun_mk (st := s_law_wrong) l13 c13 k13
  have b13 := F13.binds (ps := ["web", "names"]) fun _ _ _ _ _ _ us hl => match us, hl with | [_, _], _ => rfl
  have F14 := fun_mk (st := s_law_kept) l14 c14 k14
  have b14 := F14.binds (ps := ["web", "left"]) fun _ _ _ _ _ _ us hl => match us, hl with | [_, _], _ => rfl
  have F15 := fun_mk (st := s_law_told) l15 c15 k15
  have b15 := F15.binds (ps := ["asked", "web", "names"]) fun _ _ _ _ _ _ us hl => match us, hl with | [_, _, _], _ => rfl
  have F16 := fun_mk (st := s_law_right) l16 c16 k16
  have b16 := F16.binds (ps := ["web", "names"]) fun _ _ _ _ _ _ us hl => match us, hl with | [_, _], _ => rfl
  have F17 := fun_mk (st := s_law_spoilt) l17 c17 k17
  have b17 := F17.binds (ps := ["deck", "web", "names"]) fun _ _ _ _ _ _ us hl => match us, hl with | [_, _, _], _ => rfl
  have F18 := fun_mk (st := s_law) l18 c18 k18
  refine ⟨PySem.W.fnOf "law" "law" (defArgs s_law) (defBody s_law) (defScope s_law) .none kV18 dc18 pm18 an18 cd18 ct18, fun s v => .of_eq rfl, fun base _ _ => ?_⟩
  have TV : mg "ValueError" = none := PySem.W.mg_none_of X G gv
  have CLN : ∃ nm q N bs sn sub ab col dd k0 k1 k2 k3 k5, K.lookup aN = some (excClassObj nm q aN N bs (.ref aS :: bmV) true sn sub ab col dd k0 k1 k2 k3 k5 "ValueError.__new__") := ⟨_, _, _, _, _, _, _, _, _, _, _, _, _, _, I0N⟩
  have INN : Ini l.prog K aN aS fIN "word" := ⟨⟨_, _, _, _, _, _, _, _, _, _, _, _, _, _, _, _, _, _, _, _, _, _, _, _, _, _, _, _, I10N, I11N, I4N, (fun _ _ => rfl), I5N, ⟨_, _, _, _, _, _, I6N, I7N, I8N⟩, ⟨_, _, _, I9N⟩⟩, CLN, I12N, I13N, I14N, hopq, ⟨⟨_, _, _, _, _, _, _, _, _, _, _, _, _, _, _, I0N⟩, I15N, I16N, I17N⟩, htop, rfl, rfl, rfl, (by decide), (by decide)⟩
  have RIN : RaiseI l.prog K aN aS "word" := ⟨⟨fIN, INN, _, _, _, _, _, _, _, _, _, _, _, _, _, _, I0N, I2N, I3N, I1N⟩⟩
  have WXN : ExW K aN "word" := ⟨⟨_, by unfold PySem.W.clsIn; rw [I0N], rfl⟩, I16N⟩
  have EC : Exn l.prog K mg aS aR aA aN aB := ⟨PySem.W.mg_of X G x1, PySem.W.mg_of X G x2, PySem.W.mg_of X G x3, PySem.W.mg_of X G x4, PySem.W.mg_of X G x5, PySem.W.mg_none_of X G hsup, RIN, ⟨_, _, _, _, _, _, _, _, _, _, _, _, _, _, _, _, I0N⟩, ⟨_, _, _, _, _, _, _, _, _, _, _, _, _, _, _, _, y5⟩, ⟨e1N, e2N, e3N, I17N, e5N⟩, WXN, i0N, i1N, i2N, i3N, i4N⟩
  have oT : Own l.prog w K mg base 1 "_law_take" ["deck", "many"] spTake := ⟨f5, _, ok_take F5 T, b5, k5, PySem.W.mg_of X G a5⟩
  have oD : Own l.prog w K mg base 1 "_law_deck" ["script"] (spDeck K) := ⟨f4, _, ok_deck F4 T, b4, k4, PySem.W.mg_of X G a4⟩
  have oN : Own l.prog w K mg base 2 "_law_names" ["deck", "many"] spNames := ⟨f6, _, ok_names F6 T oT, b6, k6, PySem.W.mg_of X G a6⟩
  have oZ : Own l.prog w K mg base 2 "_law_size" ["deck", "most"] spSize := ⟨f7, _, ok_size F7 T oT, b7, k7, PySem.W.mg_of X G a7⟩
  have oW : Own l.prog w K mg base 3 "_law_web" ["deck", "most"] (spWeb K) := ⟨f8, _, ok_web F8 T oT oN oZ, b8, k8, PySem.W.mg_of X G a8⟩
  have oS : Own l.prog w K mg base 4 "_law_same" ["found", "due"] (spSame K 4) := ⟨f9, _, ok_same F9 T b9 (PySem.W.mg_of X G a9) 4, b9, k9, PySem.W.mg_of X G a9⟩
  have oCh : OwnX l.prog w K mg base 2 "check_names" ["web", "names"] (spCheck K aN) := ⟨f1, _, ok_check F1 T EC, b1, k1, PySem.W.mg_of X G a1⟩
  have oO : OwnX l.prog w K mg base 3 "web_of" ["web", "names"] (spOf K aN) := ⟨f2, _, ok_of F2 T oCh, b2, k2, PySem.W.mg_of X G a2⟩
  have oX : OwnX l.prog w K mg base 4 "web_without" ["web", "names"] (spWithout K aN) := ⟨f3, _, ok_without F3 T oCh oO, b3, k3, PySem.W.mg_of X G a3⟩
  have oM : Own l.prog w K mg base 2 "_law_some" ["deck", "names"] (spSome K) := ⟨f10, _, ok_some F10 T oT, b10, k10, PySem.W.mg_of X G a10⟩
  have oH : Own l.prog w K mg base 2 "_law_shuffled" ["deck", "things"] (spShuf K) := ⟨f11, _, ok_shuf F11 T oT, b11, k11, PySem.W.mg_of X G a11⟩
  have oCt : Own l.prog w K mg base 1 "_law_caught" ["e"] (spCaught K aN) := ⟨f12, _, ok_caught F12 T TV EC, b12, k12, PySem.W.mg_of X G a12⟩
  have oWr : Own l.prog w K mg base 1 "_law_wrong" ["web", "names"] (spWrong K) := ⟨f13, _, ok_wrong F13 T, b13, k13, PySem.W.mg_of X G a13⟩
  have oKp : Own l.prog w K mg base 1 "_law_kept" ["web", "left"] (spKept K) := ⟨f14, _, ok_kept F14 T, b14, k14, PySem.W.mg_of X G a14⟩
  have oTd : Own l.prog w K mg base 5 "_law_told" ["asked", "web", "names"] (spTold l.prog w K mg base aN) := ⟨f15, _, ok_told F15 T EC oCt, b15, k15, PySem.W.mg_of X G a15⟩
  have oRt : Own l.prog w K mg base 6 "_law_right" ["web", "names"] (spRight K) := ⟨f16, _, ok_right F16 T oWr oKp oTd oS oX oO, b16, k16, PySem.W.mg_of X G a16⟩
  have oSp : Own l.prog w K mg base 2 "_law_spoilt" ["deck", "web", "names"] (spSpoilt K) := ⟨f17, _, ok_spoilt F17 T oT, b17, k17, PySem.W.mg_of X G a17⟩
  exact ok_law F18 T oD oW oM oH oSp oRt
theorem walk {l : PySem.W.OpenLaw} {q : Program} {loose : List Str} {XP : (Str → Option Value) → Heap → Prop} {YP : World → Heap → Prop} {d : DefRec} {K : Params → PySem.W.Frag} (hn : l.most = some 63) (hdf : d.params.defaults = [])
    (hY : ∀ (w : World) (h : Heap), YP w h → (K w.params).In h)
    (F : ∀ (w : World) (mg : Str → Option Value) (fa : Addr) (h : Heap), (K w.params).In h → h.Ns mainGlobals mg → mg d.name = some (.ref fa) →
      ∃ fd : FuncData, (∀ (s : Shared) (u : Value), BindsTo s fd ⟨[u], []⟩ [("script", u)]) ∧ ∀ base : Heap, (K w.params).In base → base.Ns mainGlobals mg → FnOk l.prog w (K w.params) mg base CX0 7 fa fd ["script"] (spLaw (K w.params))) :
    PySem.W.WalkO q loose XP YP l.row.toRowW d [] (fun f vs => PySem.call f vs) :=
  L2.walk_of (n := 63) (k := 7) (x := "script") (CX := fun _ => CX0) (sp := fun w => spLaw (K w.params)) hn (by decide) hdf ⟨rfl, by decide, by decide⟩ hY F (fun _ _ a ns hl _ hS => ⟨a, ns, rfl, hS, hl, fun _ => rfl⟩) fun _ _ _ _ _ z => z
end K05
open PySem PySem.W PyProof.Rows
set_option maxRecDepth 100000 in
set_option maxHeartbeats 0 in
theorem PySem.Challenge.cw_eachgreatest_k05_without_and_of_holds : PySem.Challenge.rw_eachgreatest_k05_without_and_of.Holds := by
  w_on; o_law; k_head; (case hw => w_witness2)
  k_fill
  refine K05.walk (l := PySem.Challenge.rw_eachgreatest_k05_without_and_of) rfl rfl (fun w h Y => PySem.W.kIn_of Y) ?F
  case F =>
    intro w mg fa h KX G hmg
    refine' K05.all_mk KX G hmg ?a1 ?l1 ?c1 ?k1 ?a2 ?l2 ?c2 ?k2 ?a3 ?l3 ?c3 ?k3 ?a4 ?l4 ?c4 ?k4 ?a5 ?l5 ?c5 ?k5 ?a6 ?l6 ?c6 ?k6 ?a7 ?l7 ?c7 ?k7 ?a8 ?l8 ?c8 ?k8 ?a9 ?l9 ?c9 ?k9 ?a10 ?l10 ?c10 ?k10 ?a11 ?l11 ?c11 ?k11 ?a12 ?l12 ?c12 ?k12 ?a13 ?l13 ?c13 ?k13 ?a14 ?l14 ?c14 ?k14 ?a15 ?l15 ?c15 ?k15 ?a16 ?l16 ?c16 ?k16 ?a17 ?l17 ?c17 ?k17 ?a18 ?l18 ?c18 ?k18 ?z0 ?z1 ?z2 ?z3 ?z4 ?z5 ?z6 ?z7 ?z8 ?z9 ?z10 ?z11 ?z12 ?z13 ?z14 ?z15 ?z16 ?z17 ?x1 ?x2 ?x3 ?x4 ?x5 ?y5 ?I0N ?I1N ?I2N ?I3N ?I4N ?I5N ?I6N ?I7N ?I8N ?I9N ?I10N ?I11N ?I12N ?I13N ?I14N ?I15N ?I16N ?I17N ?hopq ?htop ?hsup ?e1N ?e2N ?e3N ?e5N ?i0N ?i1N ?i2N ?i3N ?i4N ?gv
    (case a1 => k_is)
    (case l1 => k_is)
    (case c1 => k_is)
    (case k1 => k_is)
    (case a2 => k_is)
    (case l2 => k_is)
    (case c2 => k_is)
    (case k2 => k_is)
    (case a3 => k_is)
    (case l3 => k_is)
    (case c3 => k_is)
    (case k3 => k_is)
    (case a4 => k_is)
    (case l4 => k_is)
    (case c4 => k_is)
    (case k4 => k_is)
    (case a5 => k_is)
    (case l5 => k_is)
    (case c5 => k_is)
    (case k5 => k_is)
    (case a6 => k_is)
    (case l6 => k_is)
    (case c6 => k_is)
    (case k6 => k_is)
    (case a7 => k_is)
    (case l7 => k_is)
    (case c7 => k_is)
    (case k7 => k_is)
    (case a8 => k_is)
    (case l8 => k_is)
    (case c8 => k_is)
    (case k8 => k_is)
    (case a9 => k_is)
    (case l9 => k_is)
    (case c9 => k_is)
    (case k9 => k_is)
    (case a10 => k_is)
    (case l10 => k_is)
    (case c10 => k_is)
    (case k10 => k_is)
    (case a11 => k_is)
    (case l11 => k_is)
    (case c11 => k_is)
    (case k11 => k_is)
    (case a12 => k_is)
    (case l12 => k_is)
    (case c12 => k_is)
    (case k12 => k_is)
    (case a13 => k_is)
    (case l13 => k_is)
    (case c13 => k_is)
    (case k13 => k_is)
    (case a14 => k_is)
    (case l14 => k_is)
    (case c14 => k_is)
    (case k14 => k_is)
    (case a15 => k_is)
    (case l15 => k_is)
    (case c15 => k_is)
    (case k15 => k_is)
    (case a16 => k_is)
    (case l16 => k_is)
    (case c16 => k_is)
    (case k16 => k_is)
    (case a17 => k_is)
    (case l17 => k_is)
    (case c17 => k_is)
    (case k17 => k_is)
    (case a18 => k_is)
    (case l18 => k_is)
    (case c18 => k_is)
    (case k18 => k_is)
    (case z0 => k_is)
    (case z1 => k_is)
    (case z2 => k_is)
    (case z3 => k_is)
    (case z4 => k_is)
    (case z5 => k_is)
    (case z6 => k_is)
    (case z7 => k_is)
    (case z8 => k_is)
    (case z9 => k_is)
    (case z10 => k_is)
    (case z11 => k_is)
    (case z12 => k_is)
    (case z13 => k_is)
    (case z14 => k_is)
    (case z15 => k_is)
    (case z16 => k_is)
    (case z17 => k_is)
    (case x1 => k_is)
    (case x2 => k_is)
    (case x3 => k_is)
    (case x4 => k_is)
    (case x5 => k_is)
    (case y5 => k_is)
    (case I0N => k_is)
    (case I1N => k_is)
    (case I2N => first | k_is | kernel_rfl | rfl | decide +kernel)
    (case I3N => first | k_is | kernel_rfl | rfl | decide +kernel)
    (case I4N => k_is)
    (case I5N => k_is)
    (case I6N => k_is)
    (case I7N => first | rfl | kernel_rfl)
    (case I8N => first | rfl | decide +kernel)
    (case I9N => k_is)
    (case I10N => decide +kernel)
    (case I11N => first | rfl | decide +kernel)
    (case I12N => first | ks_is | kernel_rfl)
    (case I13N => k_is)
    (case I14N => k_is)
    (case I15N => k_is)
    (case I16N => k_is)
    (case I17N => k_is)
    (case hopq => k_is)
    (case htop => first | rfl | decide +kernel)
    (case hsup => k_is)
    (case e1N => k_is)
    (case e2N => k_is)
    (case e3N => k_is)
    (case e5N => k_is)
    (case i0N => kit_is)
    (case i1N => kit_is)
    (case i2N => kit_is)
    (case i3N => kit_is)
    (case i4N => kit_is)
    (case gv => k_is)
