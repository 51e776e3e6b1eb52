import PyProof.Rows.All
import Wide.All
import OpenK.AllK
import Wide.FinOn
import PyProof.EqAt
import PyProof.EqKinds
import PyProof.TupleCall
import KE.BitLaws
import KE.KSortTupG
import KE.KSuper
import KE.KDictList
import PySem.Challenge.RW_eachgreatest_k02_texts_of_no_web
set_option Elab.async false
set_option linter.all false
set_option maxRecDepth 100000
/-! THE HAND LAYER, for ints, bools, texts, own classes, lists, tuples, dicts, comprehensions, walks over dicts, enumerate, zip, reversed, texts, calls, loops. Paste it whole ahead of your own text; what your proof does not reach may be deleted. -/
namespace L2
open PySem PySem.Spec PyProof.Rows

/-- a key: an int or a str -/
abbrev Key := Sum Int Str
def keyIs : Key → Value → Bool
  | .inl k, v => Value.isInt k v
  | .inr x, v => Value.isStrOf x v
def keyH (w : World) : Key → Int
  | .inl k => hashInt k
  | .inr x => hashStr w x
theorem keyIs_shape : ∀ {k : Key} {v : Value}, keyIs k v = true → (∃ i t, k = Sum.inl i ∧ v = Value.int i t) ∨ (∃ x t, k = Sum.inr x ∧ v = Value.str x t)
  | .inl i, v, h => by
    obtain ⟨t, e⟩ := Value.isInt_shape (k := i) (v := v) h
    exact .inl ⟨i, t, rfl, e⟩
  | .inr x, v, h => by
    obtain ⟨t, e⟩ := Value.isStrOf_shape (x := x) (v := v) h
    exact .inr ⟨x, t, rfl, e⟩
theorem keyIs_int (i : Int) (t : Tok) : keyIs (.inl i) (.int i t) = true := by simp [keyIs, Value.isInt]
theorem keyIs_str (x : Str) (t : Tok) : keyIs (.inr x) (.str x t) = true := by simp [keyIs, Value.isStrOf]
theorem key_ll (a b : Int) : decide ((Sum.inl a : Key) = Sum.inl b) = (a == b) := by
  by_cases e : a = b
  · subst e; simp
  · have h : ¬ (Sum.inl a : Key) = Sum.inl b := fun q => e (Sum.inl.inj q)
    rw [decide_eq_false h]
    exact (beq_eq_false_iff_ne.mpr e).symm
theorem key_rr (a b : Str) : decide ((Sum.inr a : Key) = Sum.inr b) = decide (a = b) := by
  by_cases e : a = b
  · subst e; simp
  · have h : ¬ (Sum.inr a : Key) = Sum.inr b := fun q => e (Sum.inr.inj q)
    rw [decide_eq_false h, decide_eq_false e]
theorem key_lr (a : Int) (b : Str) : decide ((Sum.inl a : Key) = Sum.inr b) = false := decide_eq_false (fun q => nomatch q)
theorem key_rl (a : Str) (b : Int) : decide ((Sum.inr a : Key) = Sum.inl b) = false := decide_eq_false (fun q => nomatch q)

def mixKind (prog : Program) (w : World) : PySem.KeyKind prog w Key where
  is := keyIs
  hash := keyH w
  inj := fun v a b ha hb => by
    rcases keyIs_shape ha with ⟨i, t, rfl, rfl⟩ | ⟨x, t, rfl, rfl⟩
    · rcases keyIs_shape hb with ⟨j, u, rfl, e⟩ | ⟨y, u, rfl, e⟩
      · injection e with e1 _; rw [e1]
      · exact nomatch e
    · rcases keyIs_shape hb with ⟨j, u, rfl, e⟩ | ⟨y, u, rfl, e⟩
      · exact nomatch e
      · injection e with e1 _; rw [e1]
  byValue := fun k v h => by
    rcases keyIs_shape h with ⟨i, t, rfl, rfl⟩ | ⟨x, t, rfl, rfl⟩ <;> rfl
  pyHash := fun hv h => by
    rcases keyIs_shape hv with ⟨i, t, rfl, rfl⟩ | ⟨x, t, rfl, rfl⟩
    · exact wpAny_pyHash_int h
    · exact wpAny_pyHash_str h
  eqBool := fun hu hv h => by
    rcases keyIs_shape hu with ⟨i, t, rfl, rfl⟩ | ⟨x, t, rfl, rfl⟩
    · rcases keyIs_shape hv with ⟨j, u, rfl, rfl⟩ | ⟨y, u, rfl, rfl⟩
      · rw [key_ll] at h; exact wpAny_eqBool_int h
      · rw [key_lr] at h; exact SeqAt.EqAt.int_str i t y u _ _ _ _ h
    · rcases keyIs_shape hv with ⟨j, u, rfl, rfl⟩ | ⟨y, u, rfl, rfl⟩
      · rw [key_rl] at h; exact SeqAt.EqAt.str_int x t j u _ _ _ _ h
      · rw [key_rr] at h; exact wpAny_eqBool_str h
  «strs» := fun k x t v h => by
    rcases keyIs_shape h with ⟨i, u, rfl, e⟩ | ⟨y, u, rfl, e⟩
    · exact nomatch e
    · injection e with e1 _
      subst e1
      cases v <;> rfl

theorem mixKind_int (prog : Program) (w : World) (i : Int) (t : Tok) : (mixKind prog w).is (.inl i) (.int i t) = true := keyIs_int i t
theorem mixKind_str (prog : Program) (w : World) (x : Str) (t : Tok) : (mixKind prog w).is (.inr x) (.str x t) = true := keyIs_str x t
end L2

namespace L2
open PySem PySem.Spec PyProof.Rows

/-- a value, without the heap -/
inductive V where
  | non | bl (b : Bool) | int (i : Int) | str (x : Str) | byt (b : Array UInt8) | flt (b : UInt64) | ref (a : Addr) | ty (n : String)
  deriving DecidableEq

def RelV : V → Value → Prop
  | .non, u => u = Value.none
  | .bl b, u => u = Value.bool b
  | .int i, u => ∃ t, u = Value.int i t
  | .str x, u => ∃ t, u = Value.str x t
  | .byt b, u => ∃ t, u = Value.bytes b t
  | .flt b, u => ∃ t, u = Value.float b t
  | .ref a, u => u = Value.ref a
  | .ty n, u => u = Value.type n

abbrev Vals : List V → List Value → Prop := Paired RelV
theorem Vals.length {xs : List V} {us : List Value} (r : Vals xs us) : xs.length = us.length := Paired.length r
theorem Vals.get : ∀ {xs : List V} {us : List Value} {i : Nat} {x : V}, Vals xs us → xs[i]? = some x → ∃ u, us[i]? = some u ∧ RelV x u
  | _, _, _, _, .nil, e => by simp at e
  | _, _, 0, _, .cons r _, e => by simp at e; subst e; exact ⟨_, rfl, r⟩
  | _, _, i + 1, x, .cons _ t, e => by
    obtain ⟨u, h1, h2⟩ := Vals.get (i := i) (x := x) t (by simpa using e)
    exact ⟨u, by simpa using h1, h2⟩
theorem Vals.set {x : V} {u : Value} (r : RelV x u) : ∀ {xs : List V} {us : List Value} (i : Nat), Vals xs us → Vals (xs.set i x) (us.set i u)
  | _, _, _, .nil => .nil
  | _, _, 0, .cons _ t => .cons r t
  | _, _, i + 1, .cons q t => .cons q (Vals.set r i t)
theorem Vals.append : ∀ {xs ys : List V} {us ws : List Value}, Vals xs us → Vals ys ws → Vals (xs ++ ys) (us ++ ws)
  | _, _, _, _, .nil, s => s
  | _, _, _, _, .cons r t, s => .cons r (Vals.append t s)
theorem Vals.take : ∀ {xs : List V} {us : List Value} (n : Nat), Vals xs us → Vals (xs.take n) (us.take n)
  | _, _, 0, _ => .nil
  | _, _, _ + 1, .nil => .nil
  | _, _, n + 1, .cons r t => .cons r (Vals.take n t)
theorem Vals.drop : ∀ {xs : List V} {us : List Value} (n : Nat), Vals xs us → Vals (xs.drop n) (us.drop n)
  | _, _, 0, r => r
  | _, _, _ + 1, .nil => .nil
  | _, _, n + 1, .cons _ t => Vals.drop n t
def RelO : Option V → Option Value → Prop
  | some v, some u => RelV v u
  | none, none => True
  | _, _ => False
def KV {κ : Type} : List (κ × V) → List (κ × Value) → Prop := Paired fun (p : κ × V) (q : κ × Value) => p.1 = q.1 ∧ RelV p.2 q.2

/-- a key of a dict (00_mix): an int or a text -/
def kV : Key → V
  | .inl i => .int i
  | .inr x => .str x

/-- what stands at a tracked address -/
inductive HO where
  /-- a list -/
  | lst (xs : List V)
  /-- a tuple (never changes) -/
  | tup (xs : List V)
  /-- a dict whose keys are ints and texts; one whose keys are tuples of ints and texts (the empty one is both) -/
  | dK (kvs : List (Key × V)) | dT (kvs : List (List Key × V))
  /-- a set of ints: its members, its size -/
  | set (S : Int → Bool) (n : Nat)
  /-- an instance of the class at C, its dict at dx, its attributes -/
  | ins (C dx : Addr) (fs : List (Str × V))
  /-- the dict of the instance at x -/
  | own (x : Addr)
  /-- the dict of an exception -/
  | xd (fs : List (Str × V))
  /-- a bound method, f of x -/
  | met (f x : Addr)
  /-- a range object lo, lo + 1, .. below hi -/
  | rng (lo hi : Int)
  /-- a thing that is known to the object (the script; a dict while a loop walks it): read, never written while it is so -/
  | frz (o : Obj) (u : HO)
  /-- a code object's table -/
  | tbl (ps : Array Value)
  /-- any other thing, by what is true of its one object (a def of one's own: SetO a S n := HO.ext fun h => ..) -/
  | ext (φ : Heap → Prop)

abbrev Hp := Addr → Option HO
def upd (H : Hp) (a : Addr) (o : HO) : Hp := fun b => if b = a then some o else H b
theorem upd_same {H : Hp} {a : Addr} {o : HO} : upd H a o a = some o := by unfold upd; rw [if_pos rfl]
theorem upd_ne {H : Hp} {a b : Addr} {o : HO} (h : b ≠ a) : upd H a o b = H b := by unfold upd; rw [if_neg h]
/-- two objects of different content stand apart -/
theorem ne_of {H : Hp} {a b : Addr} {o u : HO} (h : H a = some o) (h' : H b = some u) (d : o ≠ u) : a ≠ b := by
  intro e; subst e; rw [h] at h'; exact d (Option.some.inj h')
theorem ne_of_none {H : Hp} {a b : Addr} {o : HO} (h : H a = some o) (h' : H b = none) : a ≠ b := by
  intro e; subst e; rw [h] at h'; cases h'

section
variable (P : Program) (w : World)
def ObjOk (H : Hp) (h : Heap) (a : Addr) : HO → Prop
  | .lst xs => xs.length ≤ sizeLine ∧ ∃ (its : List Value) (n : Nat), Vals xs its ∧ h.get? a = some { cls := .type "list", data := .seq its.toArray n }
  | .tup xs => xs.length ≤ sizeLine ∧ ∃ its : List Value, Vals xs its ∧ IsTup h a its.toArray
  | .dK kvs => kvs.length ≤ sizeLine ∧ (a == sysModules) = false ∧ ∃ vs, KV kvs vs ∧ h.DictOf (mixKind P w) a vs
  | .dT kvs => kvs.length ≤ sizeLine ∧ (a == sysModules) = false ∧ ∃ xs : List (List Key × Addr × Value),
      Paired (fun (p : List Key × V) (q : List Key × Addr × Value) => p.1 = q.1 ∧ H q.2.1 = some (.tup (p.1.map kV)) ∧ RelV p.2 q.2.2) kvs xs ∧
      ∃ o es ep, h.get? a = some o ∧ o.ExactDict ∧ o.data = .dict es ep ∧ es.toList = xs.map (entryOfKey (tupleKind (mixKind P w))) ∧ (xs.map (·.1)).Nodup
  | .set S n => h.SetOf (intKind P w) a S n
  | .ins C dx fs => H dx = some (.own a) ∧ fs.length ≤ 1000 ∧ dx ≠ a ∧ h.get? a = some (PySem.W.instObj C dx) ∧
      ∃ mA, h.Ns1 dx mA ∧ (∀ f, RelO (fs.lookup f) (mA f)) ∧ PySem.Within mA (fs.map (·.1))
  | .own _ => ∃ o, h.get? a = some o
  | .xd fs => ∃ mA, h.Ns1 a mA ∧ ∀ f, RelO (fs.lookup f) (mA f)
  | .rng lo hi => ∃ t u v, h.get? a = some { cls := .type "range", data := .fields #[.int lo t, .int hi u, .int 1 v] }
  | .frz o u => h.get? a = some o ∧ ObjOk H h a u
  | .tbl ps => h.get? a = some { cls := .none, data := .fields ps }
  | .met f x => h.get? a = some (PySem.W.methodObj (.ref f) (.ref x))
  | .ext φ => φ h ∧ (∃ o, h.get? a = some o) ∧ ∀ h1 h2 : Heap, φ h1 → (∀ o, h1.get? a = some o → h2.get? a = some o) → φ h2
/-- the abstract heap is held -/
def HOk (H : Hp) (h : Heap) : Prop := ∀ a o, H a = some o → ObjOk P w H h a o
end

section
variable {P : Program} {w : World} {H H' : Hp} {h h' : Heap} {a : Addr} {o : HO}
theorem ObjOk.lt (x : ObjOk P w H h a o) : a < h.objs.size := by
  cases o with
  | lst xs => obtain ⟨_, _, _, _, e⟩ := x; exact Heap.lt_size e
  | tup xs => obtain ⟨_, _, _, p⟩ := x; exact p.lt
  | dK kvs => obtain ⟨_, _, _, _, o, _, _, e, _⟩ := x; exact Heap.lt_size e
  | dT kvs => obtain ⟨_, _, _, _, o, _, _, e, _⟩ := x; exact Heap.lt_size e
  | set S n => obtain ⟨o, _, _, _, e, _⟩ := x; exact Heap.lt_size e
  | ins C dx fs => obtain ⟨_, _, _, e, _⟩ := x; exact Heap.lt_size e
  | own y => obtain ⟨_, e⟩ := x; exact Heap.lt_size e
  | xd fs => obtain ⟨_, ⟨_, _, _, e, _⟩, _⟩ := x; exact Heap.lt_size e
  | rng lo hi => obtain ⟨_, _, _, e⟩ := x; exact Heap.lt_size e
  | frz ob u => obtain ⟨e, _⟩ := x; exact Heap.lt_size e
  | tbl ps => exact Heap.lt_size (show h.get? a = some _ from x)
  | met f y => exact Heap.lt_size (show h.get? a = some _ from x)
  | ext φ => obtain ⟨_, ⟨_, e⟩, _⟩ := x; exact Heap.lt_size e
theorem Paired.mapP {α β : Type} {F G : α → β → Prop} : ∀ {l₁ : List α} {l₂ : List β}, Paired F l₁ l₂ → (∀ a b, F a b → G a b) → Paired G l₁ l₂
  | _, _, .nil, _ => .nil
  | _, _, .cons r t, f => .cons (f _ _ r) (Paired.mapP t f)
/-- what an object's description leans on: its own object, its own dict, the tuples -/
theorem ObjOk.stay (x : ObjOk P w H h a o) (k : ∀ b u, (b = a ∨ H b = some (.own a)) → h.get? b = some u → h'.get? b = some u)
    (ho : ∀ b, H b = some (.own a) → H' b = some (.own a)) (ht : ∀ b xs, H b = some (.tup xs) → H' b = some (.tup xs)) : ObjOk P w H' h' a o := by
  induction o with
  | lst xs => obtain ⟨z, its, n, r, e⟩ := x; exact ⟨z, its, n, r, k _ _ (.inl rfl) e⟩
  | tup xs => obtain ⟨z, its, r, ob, e, c⟩ := x; exact ⟨z, its, r, ob, k _ _ (.inl rfl) e, c⟩
  | dK kvs => obtain ⟨z, y, vs, r, ob, es, ep, e, c⟩ := x; exact ⟨z, y, vs, r, ob, es, ep, k _ _ (.inl rfl) e, c⟩
  | dT kvs =>
    obtain ⟨z, y, xs, r, ob, es, ep, e, c⟩ := x
    exact ⟨z, y, xs, Paired.mapP r fun p q z => ⟨z.1, ht _ _ z.2.1, z.2.2⟩, ob, es, ep, k _ _ (.inl rfl) e, c⟩
  | set S n => obtain ⟨ob, es, ep, t, e, c⟩ := x; exact ⟨ob, es, ep, t, k _ _ (.inl rfl) e, c⟩
  | ins C dx fs =>
    obtain ⟨d, z, ne, e, mA, ⟨od, es, ep, e2, c⟩, r⟩ := x
    exact ⟨ho _ d, z, ne, k _ _ (.inl rfl) e, mA, ⟨od, es, ep, k _ _ (.inr d) e2, c⟩, r⟩
  | own y => obtain ⟨ob, e⟩ := x; exact ⟨ob, k _ _ (.inl rfl) e⟩
  | xd fs => obtain ⟨mA, ⟨od, es, ep, e, c⟩, r⟩ := x; exact ⟨mA, ⟨od, es, ep, k _ _ (.inl rfl) e, c⟩, r⟩
  | rng lo hi => obtain ⟨t, u, v, e⟩ := x; exact ⟨t, u, v, k _ _ (.inl rfl) e⟩
  | frz ob u ih => obtain ⟨e, q⟩ := x; exact ⟨k _ _ (.inl rfl) e, ih q⟩
  | tbl ps =>
    have e : h.get? a = some { cls := .none, data := .fields ps } := x
    show h'.get? a = some { cls := .none, data := .fields ps }
    exact k a _ (.inl rfl) e
  | met f y =>
    have e : h.get? a = some (PySem.W.methodObj (.ref f) (.ref y)) := x
    show h'.get? a = some (PySem.W.methodObj (.ref f) (.ref y))
    exact k a _ (.inl rfl) e
  | ext φ => obtain ⟨p, ⟨o, e⟩, st⟩ := x; exact ⟨st _ _ p fun o q => k _ _ (.inl rfl) q, ⟨o, k _ _ (.inl rfl) e⟩, st⟩
theorem HOk.lt (x : HOk P w H h) (e : H a = some o) : a < h.objs.size := (x a o e).lt
theorem HOk.fresh (x : HOk P w H h) (e : h.objs.size ≤ a) : H a = none := by
  cases q : H a with
  | none => rfl
  | some u => exact absurd (Nat.lt_of_lt_of_le (x.lt q) e) (Nat.lt_irrefl _)
/-- every object of the heap is kept -/
theorem HOk.kept (x : HOk P w H h) (k : ∀ b u, h.get? b = some u → h'.get? b = some u) : HOk P w H h' := fun a o e =>
  (x a o e).stay (fun b u _ q => k b u q) (fun _ q => q) fun _ _ q => q
/-- a new object is laid and tracked -/
theorem HOk.laid (x : HOk P w H h) (k : ∀ b u, h.get? b = some u → h'.get? b = some u) (hp : h.objs.size ≤ a) (new : ObjOk P w (upd H a o) h' a o) : HOk P w (upd H a o) h' := fun b u e => by
  have hn := x.fresh hp
  by_cases hb : b = a
  · subst hb; rw [upd_same] at e; cases e; exact new
  · rw [upd_ne hb] at e
    exact (x b u e).stay (fun c v _ q => k c v q) (fun c q => by rw [upd_ne (ne_of_none q hn)]; exact q) fun c xs q => by rw [upd_ne (ne_of_none q hn)]; exact q
end

/-- what may be read as u: it is u, or a known u -/
def Rd (H : Hp) (a : Addr) (u : HO) : Prop := H a = some u ∨ ∃ o, H a = some (.frz o u)
theorem Rd.of {H : Hp} {a : Addr} {u : HO} (h : H a = some u) : Rd H a u := .inl h
theorem Rd.ok {P : Program} {w : World} {H : Hp} {h : Heap} {a : Addr} {u : HO} (r : Rd H a u) (x : HOk P w H h) : ObjOk P w H h a u := by
  rcases r with r | ⟨o, r⟩
  · exact x a u r
  · obtain ⟨_, q⟩ := x a _ r
    exact q
/-- what may be written -/
def Mut : Option HO → Prop
  | some (.lst _) => True
  | some (.dK _) => True
  | some (.dT _) => True
  | some (.set _ _) => True
  | some (.ins _ _ _) => True
  | some (.ext _) => True
  | _ => False
section
variable {P : Program} {w : World} {H : Hp} {h h' : Heap} {x e : Addr} {o' : HO}
/-- the object at e is changed: x itself, or the dict of the instance x -/
theorem HOk.write (ok : HOk P w H h) (mu : Mut (H x)) (he : e = x ∨ H e = some (.own x)) (k : ∀ b u, b ≠ e → h.get? b = some u → h'.get? b = some u) (heo : ∃ u, h'.get? e = some u)
    (new : ObjOk P w (upd H x o') h' x o') : HOk P w (upd H x o') h' := fun b u q => by
  have nown : ∀ c y, H c = some (.own y) → c ≠ x := fun c y r z => by subst z; rw [r] at mu; exact mu
  have ntup : ∀ c xs, H c = some (.tup xs) → c ≠ x := fun c xs r z => by subst z; rw [r] at mu; exact mu
  by_cases hb : b = x
  · subst hb; rw [upd_same] at q; cases q; exact new
  · rw [upd_ne hb] at q
    by_cases hbe : b = e
    · have q' : H b = some (.own x) := by
        rcases he with z | z
        · exact absurd (hbe.trans z) hb
        · rw [hbe]; exact z
      rw [q] at q'; cases q'
      obtain ⟨v, hv⟩ := heo
      exact ⟨v, by rw [hbe]; exact hv⟩
    · refine (ok b u q).stay (fun c v hc r => k c v ?_ r) (fun c r => by rw [upd_ne (nown c b r)]; exact r) fun c xs r => by rw [upd_ne (ntup c xs r)]; exact r
      rcases hc with rfl | hc
      · exact hbe
      · rintro rfl
        rcases he with z | z
        · exact nown c b hc z
        · rw [hc] at z; cases z; exact hb rfl
end

/-! ### kept unless tracked; of the frames at fs (the callers') the slots may change (an exception that passes writes there); of the records at ex (iterators) nothing is said -/
structure Un (fs ex : List Addr) (H H' : Hp) (h h' : Heap) : Prop where
  keep : ∀ b o, h.get? b = some o → H b = none → b ∉ fs → b ∉ ex → h'.get? b = some o
  slot : ∀ b o, h.get? b = some o → H b = none → b ∈ fs → b ∉ ex → ∃ sl, h'.get? b = some { o with slots := sl }
  free : ∀ b o, h.get? b = some o → H b = none → b ∉ ex → H' b = none
  there : ∀ b o, h.get? b = some o → b ∉ ex → ∃ o', h'.get? b = some o'
  tups : ∀ b xs, H b = some (.tup xs) → H' b = some (.tup xs)
  frzs : ∀ b o u, H b = some (.frz o u) → H' b = some (.frz o u)
  tbls : ∀ b ps, H b = some (.tbl ps) → ∃ more, H' b = some (.tbl (ps ++ more))
section
variable {fs fs' ex ex' : List Addr} {H H1 H2 : Hp} {h h1 h2 h' : Heap} {a x e : Addr} {o : HO}
theorem Un.any (u : Un fs ex H H1 h h1) {b : Addr} {ob : Obj} (q : h.get? b = some ob) (n : H b = none) (hx : b ∉ ex) : ∃ sl, h1.get? b = some { ob with slots := sl } := by
  by_cases hb : b ∈ fs
  · exact u.slot b ob q n hb hx
  · exact ⟨ob.slots, u.keep b ob q n hb hx⟩
theorem Un.trans (a : Un fs ex H H1 h h1) (b : Un fs ex H1 H2 h1 h2) : Un fs ex H H2 h h2 where
  keep := fun c ob q n hc hx => b.keep c ob (a.keep c ob q n hc hx) (a.free c ob q n hx) hc hx
  slot := fun c ob q n hc hx => by
    obtain ⟨sl, e1⟩ := a.slot c ob q n hc hx
    obtain ⟨sl', e2⟩ := b.slot c _ e1 (a.free c ob q n hx) hc hx
    exact ⟨sl', e2⟩
  free := fun c ob q n hx => by
    obtain ⟨o', e1⟩ := a.there c ob q hx
    exact b.free c o' e1 (a.free c ob q n hx) hx
  there := fun c ob q hx => by
    obtain ⟨o', e1⟩ := a.there c ob q hx
    exact b.there c o' e1 hx
  tups := fun c xs q => b.tups c xs (a.tups c xs q)
  frzs := fun c ob xs q => b.frzs c ob xs (a.frzs c ob xs q)
  tbls := fun c ps q => by
    obtain ⟨m1, e1⟩ := a.tbls c ps q
    obtain ⟨m2, e2⟩ := b.tbls c _ e1
    exact ⟨m1 ++ m2, by rw [e2, Array.append_assoc]⟩
theorem Un.kept (k : ∀ b u, h.get? b = some u → h'.get? b = some u) : Un fs ex H H h h' :=
  ⟨fun b ob q _ _ _ => k b ob q, fun b ob q _ _ _ => ⟨ob.slots, k b ob q⟩, fun _ _ _ n _ => n, fun b ob q _ => ⟨ob, k b ob q⟩, fun _ _ q => q, fun _ _ _ q => q, fun _ ps q => ⟨#[], by rw [q]; simp⟩⟩
theorem Un.refl : Un fs ex H H h h := Un.kept fun _ _ q => q
theorem Un.laid (k : ∀ b u, h.get? b = some u → h'.get? b = some u) (hp : h.objs.size ≤ a) (hn : H a = none) : Un fs ex H (upd H a o) h h' where
  keep := fun b u q _ _ _ => k b u q
  slot := fun b u q _ _ _ => ⟨u.slots, k b u q⟩
  free := fun b u q n _ => by rw [upd_ne (Nat.ne_of_lt (Nat.lt_of_lt_of_le (Heap.lt_size q) hp))]; exact n
  there := fun b u q _ => ⟨u, k b u q⟩
  tups := fun b xs q => by rw [upd_ne (ne_of_none q hn)]; exact q
  frzs := fun b u xs q => by rw [upd_ne (ne_of_none q hn)]; exact q
  tbls := fun b ps q => ⟨#[], by rw [upd_ne (ne_of_none q hn), q]; simp⟩
theorem Un.write (mu : Mut (H x)) (he : e = x ∨ H e = some (.own x)) (k : ∀ b u, b ≠ e → h.get? b = some u → h'.get? b = some u) (heo : ∃ u, h'.get? e = some u) : Un fs ex H (upd H x o) h h' := by
  have hx : ∀ b, H b = none → b ≠ x := fun b n z => by subst z; rw [n] at mu; exact mu
  have hb : ∀ b, H b = none → b ≠ e := fun b n z => by
    subst z
    rcases he with r | r
    · exact hx b n r
    · rw [n] at r; cases r
  have hm : ∀ b u, H b = some u → ¬ Mut (some u) → b ≠ x := fun b u q nm z => by subst z; rw [q] at mu; exact nm mu
  refine ⟨fun b u q n _ _ => k b u (hb b n) q, fun b u q n _ _ => ⟨u.slots, k b u (hb b n) q⟩, fun b u q n _ => by rw [upd_ne (hx b n)]; exact n, fun b u q _ => ?_,
    fun b xs q => by rw [upd_ne (hm b _ q fun z => z)]; exact q, fun b u xs q => by rw [upd_ne (hm b _ q fun z => z)]; exact q, fun b ps q => ⟨#[], by rw [upd_ne (hm b _ q fun z => z), q]; simp⟩⟩
  by_cases hbe : b = e
  · subst hbe; exact heo
  · exact ⟨u, k b u hbe q⟩
theorem Un.mono (u : Un fs ex H H1 h h1) (hs : ∀ b ∈ fs, b ∈ fs') (hx : ∀ b ∈ ex, b ∈ ex') : Un fs' ex' H H1 h h1 :=
  ⟨fun b ob q n hb he => u.keep b ob q n (fun z => hb (hs b z)) fun z => he (hx b z), fun _ _ q n _ he => u.any q n fun z => he (hx _ z), fun b ob q n he => u.free b ob q n fun z => he (hx b z), fun b ob q he => u.there b ob q fun z => he (hx b z), u.tups, u.frzs, u.tbls⟩
end

/-! ### the heap without what is tracked -/
def trk (h : Heap) (H : Hp) : List Addr := (List.range h.objs.size).filter fun a => (H a).isSome
def hidT (h : Heap) (H : Hp) : Heap := PySem.W.hideAll h (trk h H)
theorem hidT_size (h : Heap) (H : Hp) : (hidT h H).objs.size = h.objs.size := PySem.W.hideAll_size _ _
theorem hidT_get {h : Heap} {H : Hp} {b : Addr} {o : Obj} (e : h.get? b = some o) (n : H b = none) : (hidT h H).get? b = some o :=
  PySem.W.hideAll_get _ e fun hm => by
    have q : (H b).isSome = true := (List.mem_filter.mp hm).2
    rw [n] at q; simp at q
theorem of_hidT {h : Heap} {H : Hp} {b : Addr} {o : Obj} (e : (hidT h H).get? b = some o) : h.get? b = some o ∧ H b = none := by
  have e' : h.get? b = some o := PySem.W.of_hideAll (trk h H) e
  refine ⟨e', ?_⟩
  cases q : H b with
  | none => rfl
  | some x =>
    have hm : b ∈ trk h H := List.mem_filter.mpr ⟨List.mem_range.mpr (Heap.lt_size e'), by simp [q]⟩
    have z : (hidT h H).get? b = none := PySem.W.hideAll_none (trk h H) hm
    rw [z] at e; cases e

/-! ### OpenK's ledger, filled with every new object but one -/
def allNews (g h : Heap) (L : Addr) : List (Addr × Obj) := (List.range h.objs.size).filterMap fun a => if a = L ∨ (g.get? a).isSome = true then none else (h.get? a).map fun o => (a, o)
def rest (g h : Heap) (L d : Addr) : List (Addr × Obj) := (allNews g h L).filter fun p => decide (p.1 ≠ d)
end L2

namespace L2
open PySem PySem.Spec PyProof.Rows

/-- the module's facts, over the base: the heap at the law's entry without what is tracked there -/
structure Mod (K : PySem.W.Frag) (mg : Str → Option Value) (base : Heap) : Prop where
  kin : K.In base
  glob : base.Ns mainGlobals mg
  blt : ∃ mb, base.Ns builtinsNs mb ∧ ∀ x : Str, x ≠ "__name__" → mb x = bootBuiltins x
  nolimit : base.NoLimit

/-- the context: a def's body (or a comprehension's block) running. base: fixed through the whole law; s₀, H₀: the entry; outer: the frames whose slots others may change (a def's callers); stack: all frames that run;
   ex: iterators that were made ahead of the entry and are walked here (a comprehension's); fn: the names whose cells were made at the entry (a def: all; a comprehension's block: its own); calm: not within an except suite; pn: pins that every state bears; xe: what is wanted of an exception that leaves the code -/
structure Cx where
  prog : Program
  w : World
  K : PySem.W.Frag
  mg : Str → Option Value
  base : Heap
  A : Around
  N : List Str
  s_0 : Shared
  H_0 : Hp
  env : Env
  outer : List Env
  stack : List Env
  ex : List Addr
  fn : Str → Bool
  calm : Bool
  pn : List (Addr × Obj)
  xe : Value → Shared → Prop
/-- the callers' frames -/
def frs (l : List Env) : List Addr := l.filterMap (·.frame)
abbrev Cx.fs (X : Cx) : List Addr := frs X.outer

def Vis (sc : Scope) (x : Str) : Prop := sc.names.lookup x = some .local ∨ sc.names.lookup x = some .cell ∨ sc.names.lookup x = some .free
def Loc (sc : Scope) (x : Str) : Prop := sc.names.lookup x = some .local ∨ sc.names.lookup x = some .cell
def Look (env : Env) (h : Heap) (m : Str → Option Value) (x : Str) (u : Value) : Prop :=
  (env.kindOf x = some .local ∧ m x = some u) ∨ ((env.kindOf x = some .cell ∨ env.kindOf x = some .free) ∧ ∃ c, env.cells.lookup x = some c ∧ h.IsCell c (some u))

structure Cx.Ok (X : Cx) : Prop where
  mod : Mod X.K X.mg X.base
  kind : X.env.scope.kind = .function
  glob : X.env.globals = mainGlobals
  blt : X.env.builtins = builtinsNs
  above : X.s_0.heap.objs.size ≤ X.env.locals
  inj : ∀ x y c, X.env.cells.lookup x = some c → X.env.cells.lookup y = some c → x = y
  has : ∀ x, (X.env.kindOf x = some .cell ∨ X.env.kindOf x = some .free) → ∃ c, X.env.cells.lookup x = some c
  cab : ∀ x c, X.fn x = true → X.env.cells.lookup x = some c → X.s_0.heap.objs.size ≤ c
  hd : X.calm = true → X.A.handled = none
  frames : X.A.frames = some X.stack
  stk : X.stack = X.outer ∨ (X.stack = X.env :: X.outer ∧ X.env.frame = some X.env.locals)
  exf : ∀ b ∈ X.ex, b ≠ X.env.locals ∧ ∀ x c, X.env.cells.lookup x = some c → c ≠ b
  bs : ∀ b o, X.base.get? b = some o → X.s_0.heap.get? b = some o ∧ X.H_0 b = none
  bsz : X.base.objs.size ≤ X.s_0.heap.objs.size
  noex : ∀ b o, X.base.get? b = some o → b ∉ X.ex
  exfs : ∀ b ∈ X.ex, b ∉ X.fs
  funs : X.s_0.heap.FunFrames X.base X.outer
  frf : ∀ b ∈ X.fs, X.H_0 b = none

structure Inv (X : Cx) (pins : List (Addr × Obj)) (σ : List (Option V)) (H : Hp) (s : Shared) : Prop where
  ok : X.Ok
  os : s.os = X.s_0.os
  bare : AllBare s.gens
  base : Un X.fs X.ex X.H_0 H X.s_0.heap s.heap
  loc : ∃ m, s.heap.Ns X.env.locals m ∧ ∀ (i : Nat) (x : Str) (v : V), X.N[i]? = some x → σ[i]? = some (some v) → Vis X.env.scope x → ∃ u, RelV v u ∧ Look X.env s.heap m x u
  cell : ∀ x c, X.env.cells.lookup x = some c → ∃ v, s.heap.IsCell c v
  free : H X.env.locals = none
  freeC : ∀ x c, X.env.cells.lookup x = some c → H c = none
  pin : ∀ p ∈ X.pn ++ pins, s.heap.get? p.1 = some p.2 ∧ H p.1 = none ∧ p.1 ≠ X.env.locals ∧ p.1 ∉ X.fs ∧ ∀ v, p.2.data ≠ .cell v
  hok : HOk X.prog X.w H s.heap
  len : σ.length = X.N.length

section
variable {X : Cx} {pins : List (Addr × Obj)} {σ : List (Option V)} {H H' : Hp} {s : Shared} {h' : Heap}

theorem Cx.Ok.nofr (ok : X.Ok) {b : Addr} {o : Obj} (e : X.base.get? b = some o) : b ∉ X.fs := fun hb => by
  have := (ok.funs.mem hb).1
  rw [e] at this; cases this
theorem Inv.bs (I : Inv X pins σ H s) : ∀ b o, X.base.get? b = some o → s.heap.get? b = some o ∧ H b = none := fun b o e =>
  ⟨I.base.keep b o (I.ok.bs b o e).1 (I.ok.bs b o e).2 (I.ok.nofr e) (I.ok.noex b o e), I.base.free b o (I.ok.bs b o e).1 (I.ok.bs b o e).2 (I.ok.noex b o e)⟩
theorem Inv.bk (I : Inv X pins σ H s) : ∀ b o, X.base.get? b = some o → s.heap.get? b = some o := fun b o e => (I.bs b o e).1
theorem Inv.mod (I : Inv X pins σ H s) : Mod X.K X.mg X.base := I.ok.mod
theorem Inv.kIn (I : Inv X pins σ H s) : X.K.In s.heap := I.ok.mod.kin.keeps I.bk
theorem Inv.nolimit (I : Inv X pins σ H s) : s.heap.NoLimit := I.ok.mod.nolimit.keeps I.bk
/-- the frame over the base: for OpenK's rules (K.In X.base is I.mod.kin) -/
theorem Inv.fr (I : Inv X pins σ H s) : ∃ m, Fr X.base X.env.locals s.heap m :=
  let ⟨m, hn, _⟩ := I.loc
  ⟨m, hn, I.bk, Nat.le_trans I.ok.bsz I.ok.above⟩
theorem Inv.lt (I : Inv X pins σ H s) : X.env.locals < s.heap.objs.size := let ⟨_, hn, _⟩ := I.loc; hn.lt
theorem Inv.sz (I : Inv X pins σ H s) : X.s_0.heap.objs.size ≤ s.heap.objs.size := Nat.le_trans I.ok.above (Nat.le_of_lt I.lt)
theorem Inv.nofs (I : Inv X pins σ H s) {a : Addr} (h : s.heap.objs.size ≤ a) : a ∉ X.fs := fun hb => by
  obtain ⟨_, o, ho, _⟩ := I.ok.funs.mem hb
  exact absurd (Nat.lt_of_lt_of_le (Heap.lt_size ho) (Nat.le_trans I.sz h)) (Nat.lt_irrefl _)
theorem Inv.cne (I : Inv X pins σ H s) : ∀ x c, X.env.cells.lookup x = some c → c ≠ X.env.locals := fun x c e z => by
  obtain ⟨v, o, ho, hd⟩ := I.cell x c e
  obtain ⟨m, ⟨o', es, ep, ho', hd', _⟩, _⟩ := I.loc
  rw [z, ho'] at ho; cases ho; rw [hd'] at hd; cases hd
theorem Inv.funs (I : Inv X pins σ H s) : s.heap.FunFrames X.base X.outer := by
  have all : ∀ (l : List Env), (∀ b ∈ frs l, b ∈ X.fs) → X.s_0.heap.FunFrames X.base l → s.heap.FunFrames X.base l := by
    intro l
    induction l with
    | nil => intro _ _; trivial
    | cons env r ih =>
      intro hs hl
      obtain ⟨hk, ⟨L, o, hf, hn, ho, hd⟩, hr⟩ := hl
      have hL : L ∈ X.fs := hs L (by unfold frs; rw [List.filterMap_cons, hf]; exact List.mem_cons_self)
      obtain ⟨sl, e⟩ := I.base.slot L o ho (I.ok.frf L hL) hL fun z => I.ok.exfs L z hL
      exact ⟨hk, ⟨L, _, hf, hn, e, hd⟩, ih (fun b hb => hs b (by unfold frs; rw [List.filterMap_cons, hf]; exact List.mem_cons_of_mem _ hb)) hr⟩
  exact all X.outer (fun _ hb => hb) I.ok.funs

/-- the frames that run, for a call -/
theorem Inv.stack (I : Inv X pins σ H s) : s.heap.FunFrames X.base X.stack := by
  rcases I.ok.stk with e | ⟨e, hf⟩
  · rw [e]; exact I.funs
  · rw [e]
    obtain ⟨m, hn, _⟩ := I.loc
    refine .cons (by rw [I.ok.kind]; decide) hf hn ?_ I.funs
    exact Heap.get?_none_of_le (Nat.le_trans I.ok.bsz I.ok.above)
theorem Inv.stkSub (I : Inv X pins σ H s) : ∀ b ∈ frs X.stack, b ∈ X.env.locals :: X.fs := fun b hb => by
  rcases I.ok.stk with e | ⟨e, hf⟩
  · rw [e] at hb; exact List.mem_cons_of_mem _ hb
  · rw [e] at hb
    unfold frs at hb
    rw [List.filterMap_cons, hf] at hb
    exact hb
theorem Inv.stkFree (I : Inv X pins σ H s) : ∀ b ∈ frs X.stack, H b = none := fun b hb => by
  rcases List.mem_cons.mp (I.stkSub b hb) with e | hb
  · rw [e]; exact I.free
  · obtain ⟨_, o, ho, _⟩ := I.ok.funs.mem hb
    exact I.base.free b o ho (I.ok.frf b hb) fun z => I.ok.exfs b z hb

/-- THE STEP: the untracked objects but the frame and the records at ch are kept (the callers' frames up to slots), the frame's map is kept, the new abstract heap is held -/
theorem Inv.step {g' : Array GenState} {t' : Nat} {d' : Drawn} {ch : List Addr} (I : Inv X pins σ H s)
    (hch : ∀ b ∈ ch, (b ∈ X.ex ∨ X.s_0.heap.objs.size ≤ b) ∧ b ≠ X.env.locals ∧ (∀ x c, X.env.cells.lookup x = some c → c ≠ b) ∧ ∀ p ∈ X.pn ++ pins, p.1 ≠ b)
    (keep : ∀ b o, b ≠ X.env.locals → b ∉ X.fs → b ∉ ch → s.heap.get? b = some o → H b = none → h'.get? b = some o)
    (slot : ∀ b o, b ≠ X.env.locals → b ∈ X.fs → b ∉ ch → s.heap.get? b = some o → H b = none → ∃ sl, h'.get? b = some { o with slots := sl }) (free : ∀ b o, b ∉ ch → s.heap.get? b = some o → H b = none → H' b = none)
    (there : ∀ b o, b ∉ ch → s.heap.get? b = some o → ∃ o', h'.get? b = some o')
    (tups : ∀ b xs, H b = some (.tup xs) → H' b = some (.tup xs)) (frzs : ∀ b o u, H b = some (.frz o u) → H' b = some (.frz o u)) (tbls : ∀ b ps, H b = some (.tbl ps) → ∃ more, H' b = some (.tbl (ps ++ more)))
    (ns : ∀ m, s.heap.Ns X.env.locals m → h'.Ns X.env.locals m) (hok : HOk X.prog X.w H' h') (hg : AllBare g') :
    Inv X pins σ H' { s with heap := h', gens := g', drawn := d', toks := t' } := by
  have neL : ∀ b o, X.s_0.heap.get? b = some o → b ≠ X.env.locals := fun b o e => Nat.ne_of_lt (Nat.lt_of_lt_of_le (Heap.lt_size e) I.ok.above)
  have neC : ∀ b o, X.s_0.heap.get? b = some o → b ∉ X.ex → b ∉ ch := fun b o e hx hb => by
    rcases (hch b hb).1 with z | z
    · exact hx z
    · exact absurd (Nat.lt_of_lt_of_le (Heap.lt_size e) z) (Nat.lt_irrefl _)
  have cellK : ∀ x c, X.env.cells.lookup x = some c → ∀ v, s.heap.IsCell c v → h'.IsCell c v := fun x c e v ⟨o, ho, hd⟩ => by
    have nch : c ∉ ch := fun z => (hch c z).2.2.1 x c e rfl
    by_cases hc : c ∈ X.fs
    · obtain ⟨sl, q⟩ := slot c o (I.cne x c e) hc nch ho (I.freeC x c e)
      exact ⟨_, q, hd⟩
    · exact ⟨o, keep c o (I.cne x c e) hc nch ho (I.freeC x c e), hd⟩
  refine ⟨I.ok, I.os, hg, ⟨fun b o e n hb hx => ?_, fun b o e n hb hx => ?_, fun b o e n hx => ?_, fun b o e hx => ?_, fun b xs e => tups b xs (I.base.tups b xs e), fun b o xs e => frzs b o xs (I.base.frzs b o xs e), fun b ps e => ?_⟩, ?_, fun x c e => ?_, ?_, fun x c e => ?_, fun p hp => ?_, hok, I.len⟩
  · exact keep b o (neL b o e) hb (neC b o e hx) (I.base.keep b o e n hb hx) (I.base.free b o e n hx)
  · obtain ⟨sl, e1⟩ := I.base.slot b o e n hb hx
    obtain ⟨sl', e2⟩ := slot b _ (neL b o e) hb (neC b o e hx) e1 (I.base.free b o e n hx)
    exact ⟨sl', e2⟩
  · obtain ⟨o', e1⟩ := I.base.there b o e hx
    exact free b o' (neC b o e hx) e1 (I.base.free b o e n hx)
  · obtain ⟨o', e1⟩ := I.base.there b o e hx
    exact there b o' (neC b o e hx) e1
  · obtain ⟨m1, e1⟩ := I.base.tbls b ps e
    obtain ⟨m2, e2⟩ := tbls b _ e1
    exact ⟨m1 ++ m2, by rw [e2, Array.append_assoc]⟩
  · obtain ⟨m, hn, hl⟩ := I.loc
    refine ⟨m, ns m hn, fun i x v e1 e2 e3 => ?_⟩
    obtain ⟨u, r, l⟩ := hl i x v e1 e2 e3
    refine ⟨u, r, ?_⟩
    rcases l with l | ⟨k, c, e, z⟩
    · exact .inl l
    · exact .inr ⟨k, c, e, cellK x c e _ z⟩
  · obtain ⟨v, z⟩ := I.cell x c e
    exact ⟨v, cellK x c e v z⟩
  · obtain ⟨m, ⟨o, _, _, ho, _⟩, _⟩ := I.loc
    exact free _ o (fun z => (hch _ z).2.1 rfl) ho I.free
  · obtain ⟨v, o, ho, hd⟩ := I.cell x c e
    exact free c o (fun z => (hch c z).2.2.1 x c e rfl) ho (I.freeC x c e)
  · obtain ⟨e, n, ne, nf, d⟩ := I.pin p hp
    have nch : p.1 ∉ ch := fun z => (hch p.1 z).2.2.2 p hp rfl
    exact ⟨keep p.1 p.2 ne nf nch e n, free p.1 p.2 nch e n, ne, nf, d⟩
/-- .. where the frame's own object is kept too -/
theorem Inv.un {t' : Nat} (I : Inv X pins σ H s) (u : Un X.fs [] H H' s.heap h') (hok : HOk X.prog X.w H' h') : Inv X pins σ H' { s with heap := h', toks := t' } := by
  obtain ⟨m, ⟨o, es, ep, ho, r⟩, _⟩ := id I.loc
  obtain ⟨sl, hL⟩ := u.any ho I.free (by simp)
  exact I.step (g' := s.gens) (d' := s.drawn) (ch := []) (fun _ z => nomatch z) (fun b o _ hb _ e n => u.keep b o e n hb (by simp)) (fun b o _ hb _ e n => u.slot b o e n hb (by simp)) (fun b o _ e n => u.free b o e n (by simp)) (fun b o _ e => u.there b o e (by simp)) u.tups u.frzs u.tbls (fun m' hm => by
    obtain ⟨o', es', ep', ho', r'⟩ := hm
    rw [ho] at ho'; cases ho'
    exact ⟨_, es', ep', hL, r'⟩) hok I.bare
/-- behind a call (or a comprehension's block): the slots of this frame may have changed too, the records at ch may have turned -/
theorem Inv.call {g' : Array GenState} {t' : Nat} {d' : Drawn} {ch : List Addr} (I : Inv X pins σ H s) (u : Un (frs X.stack) ch H H' s.heap h') (hok : HOk X.prog X.w H' h') (hg : AllBare g')
    (hch : ∀ b ∈ ch, (b ∈ X.ex ∨ X.s_0.heap.objs.size ≤ b) ∧ b ≠ X.env.locals ∧ (∀ x c, X.env.cells.lookup x = some c → c ≠ b) ∧ ∀ p ∈ X.pn ++ pins, p.1 ≠ b) :
    Inv X pins σ H' { s with heap := h', gens := g', drawn := d', toks := t' } := by
  obtain ⟨m, ⟨o, es, ep, ho, r⟩, _⟩ := id I.loc
  obtain ⟨sl, hL⟩ := u.any ho I.free fun z => (hch _ z).2.1 rfl
  exact I.step (ch := ch) hch (fun b o hL hb hc e n => u.keep b o e n (fun z => (List.mem_cons.mp (I.stkSub b z)).elim hL hb) hc) (fun b o _ _ hc e n => u.any e n hc) (fun b o hc e n => u.free b o e n hc) (fun b o hc e => u.there b o e hc) u.tups u.frzs u.tbls (fun m' hm => by
    obtain ⟨o', es', ep', ho', r'⟩ := hm
    rw [ho] at ho'; cases ho'
    exact ⟨_, es', ep', hL, r'⟩) hok hg
/-- an untracked record of ours (an iterator) has turned -/
theorem Inv.turned {t' : Nat} {it : Addr} (I : Inv X pins σ H s) (k : ∀ b o, b ≠ it → s.heap.get? b = some o → h'.get? b = some o) (hn : H it = none) (hL : it ≠ X.env.locals)
    (h1 : it ∈ X.ex ∨ X.s_0.heap.objs.size ≤ it) (h2 : ∀ x c, X.env.cells.lookup x = some c → c ≠ it) (h3 : ∀ p ∈ X.pn ++ pins, p.1 ≠ it) : Inv X pins σ H { s with heap := h', toks := t' } := by
  have nit : ∀ b u, H b = some u → b ≠ it := fun b u e z => by rw [z, hn] at e; cases e
  refine I.step (g' := s.gens) (d' := s.drawn) (ch := [it]) (fun b hb => ?_) (fun b o _ _ hc e _ => k b o (fun z => hc (by simp [z])) e) (fun b o _ _ hc e _ => ⟨o.slots, k b o (fun z => hc (by simp [z])) e⟩) (fun _ _ _ _ n => n)
    (fun b o hc e => ⟨o, k b o (fun z => hc (by simp [z])) e⟩) (fun _ _ e => e) (fun _ _ _ e => e) (fun b ps e => ⟨#[], by rw [e]; simp⟩) (fun m hm => ?_) (fun b u e => ?_) I.bare
  · have e : b = it := by simpa using hb
    subst e
    exact ⟨h1, hL, h2, h3⟩
  · obtain ⟨o, es, ep, ho, r⟩ := hm
    exact ⟨o, es, ep, k _ o (Ne.symm hL) ho, r⟩
  · refine (I.hok b u e).stay (fun c v hc q => k c v ?_ q) (fun _ q => q) fun _ _ q => q
    rcases hc with z | z
    · rw [z]; exact nit b u e
    · exact nit c _ z
theorem Inv.tok (I : Inv X pins σ H s) (t : Nat) : Inv X pins σ H { s with toks := t } := I.un (h' := s.heap) (t' := t) Un.refl I.hok
/-- all objects kept -/
theorem Inv.kept {t' : Nat} (I : Inv X pins σ H s) (k : ∀ b u, s.heap.get? b = some u → h'.get? b = some u) : Inv X pins σ H { s with heap := h', toks := t' } := I.un (Un.kept k) (I.hok.kept k)
/-- a new object laid and tracked -/
theorem Inv.laid {a : Addr} {o : HO} {t' : Nat} (I : Inv X pins σ H s) (k : ∀ b u, s.heap.get? b = some u → h'.get? b = some u) (hp : s.heap.objs.size ≤ a) (new : ObjOk X.prog X.w (upd H a o) h' a o) :
    Inv X pins σ (upd H a o) { s with heap := h', toks := t' } := I.un (Un.laid k hp (I.hok.fresh hp)) (I.hok.laid k hp new)
/-- an object written -/
theorem Inv.write {x e : Addr} {o : HO} {t' : Nat} (I : Inv X pins σ H s) (mu : Mut (H x)) (he : e = x ∨ H e = some (.own x)) (k : ∀ b u, b ≠ e → s.heap.get? b = some u → h'.get? b = some u) (heo : ∃ u, h'.get? e = some u)
    (new : ObjOk X.prog X.w (upd H x o) h' x o) : Inv X pins σ (upd H x o) { s with heap := h', toks := t' } := I.un (Un.write mu he k heo) (I.hok.write mu he k heo new)
/-- forgetting slots, pins -/
theorem Inv.weak {σ' : List (Option V)} (I : Inv X pins σ H s) (hl : σ'.length = σ.length) (w : ∀ (i : Nat) v, σ'[i]? = some (some v) → σ[i]? = some (some v)) : Inv X pins σ' H s :=
  ⟨I.ok, I.os, I.bare, I.base, let ⟨m, hn, hl'⟩ := I.loc; ⟨m, hn, fun i x v e1 e2 e3 => hl' i x v e1 (w i v e2) e3⟩, I.cell, I.free, I.freeC, I.pin, I.hok, hl.trans I.len⟩
theorem Inv.pins_of {pins' : List (Addr × Obj)} (I : Inv X pins σ H s) (h : ∀ p ∈ pins', s.heap.get? p.1 = some p.2 ∧ H p.1 = none ∧ p.1 ≠ X.env.locals ∧ p.1 ∉ X.fs ∧ ∀ v, p.2.data ≠ .cell v) : Inv X pins' σ H s :=
  ⟨I.ok, I.os, I.bare, I.base, I.loc, I.cell, I.free, I.freeC, fun p hp => (List.mem_append.mp hp).elim (fun z => I.pin p (List.mem_append_left _ z)) (h p), I.hok, I.len⟩

theorem nodup_ix {N : List Str} (hN : N.Nodup) {i j : Nat} {x : Str} (a : N[i]? = some x) (b : N[j]? = some x) : i = j := by
  obtain ⟨h1, e1⟩ := List.getElem?_eq_some_iff.mp a
  obtain ⟨h2, e2⟩ := List.getElem?_eq_some_iff.mp b
  exact (List.getElem_inj hN).mp (e1.trans e2.symm)

/-- a name is stored; what changed -/
theorem store_ok2 {M : Model} {A : Around} {E : Value → Shared → Prop} {i : Nat} {x : Str} {v : V} {u : Value} {Q : Unit → Shared → Prop} (I : Inv X pins σ H s) (hN : X.N.Nodup) (hi : X.N[i]? = some x) (hx : Loc X.env.scope x) (r : RelV v u)
    (h : ∀ s', Inv X pins (σ.set i (some v)) H s' → (∃ a, Heap.SameBut a s.heap s'.heap ∧ (a = X.env.locals ∨ X.env.cells.lookup x = some a)) → Q () s') (hf : X.fn x = true ∨ X.env.scope.names.lookup x = some .local := by first | exact .inl rfl | exact .inr rfl | assumption) : wpAny M A (storeName X.env x u) Q E s := by
  obtain ⟨m, hn, hl⟩ := id I.loc
  have hcls : (X.env.scope.kind == .class || (X.env.scope.kind == .module && X.env.locals != X.env.globals)) = false := by rw [I.ok.kind]; rfl
  have hiσ : i < σ.length := by rw [I.len]; exact (List.getElem?_eq_some_iff.mp hi).1
  have cne := I.cne
  have tracked : ∀ {a : Addr} {h' : Heap}, (∃ o, s.heap.get? a = some o ∧ H a = none) → Heap.SameBut a s.heap h' → HOk X.prog X.w H h' := fun {a h'} ha hs b ob e => by
    obtain ⟨_, _, hfree⟩ := ha
    refine (I.hok b ob e).stay (fun c w' hc q => (hs.2 c ?_).trans q) (fun _ q => q) fun _ _ q => q
    rintro rfl
    rcases hc with rfl | hc
    · rw [hfree] at e; cases e
    · rw [hfree] at hc; cases hc
  rcases hx with hk | hk
  · refine wpAny_storeName_local hk hn (fun h' hn' hs => ?_) hcls
    obtain ⟨oL, _, _, hoL, _⟩ := id hn
    refine h _ ⟨I.ok, I.os, I.bare, ⟨fun b o e n hb hx => ?_, fun b o e n hb hx => ?_, I.base.free, fun b o e hx => ?_, I.base.tups, I.base.frzs, I.base.tbls⟩, ⟨_, hn', fun j y v' e1 e2 e3 => ?_⟩, fun y c e => ?_, I.free, I.freeC, fun p hp => ?_, tracked ⟨oL, hoL, I.free⟩ hs, by simpa using I.len⟩ ⟨_, hs, .inl rfl⟩
    · exact (hs.2 b (Nat.ne_of_lt (Nat.lt_of_lt_of_le (Heap.lt_size e) I.ok.above))).trans (I.base.keep b o e n hb hx)
    · obtain ⟨sl, e1⟩ := I.base.slot b o e n hb hx
      exact ⟨sl, (hs.2 b (Nat.ne_of_lt (Nat.lt_of_lt_of_le (Heap.lt_size e) I.ok.above))).trans e1⟩
    · obtain ⟨o', e1⟩ := I.base.there b o e hx
      exact ⟨o', (hs.2 b (Nat.ne_of_lt (Nat.lt_of_lt_of_le (Heap.lt_size e) I.ok.above))).trans e1⟩
    · by_cases hj : j = i
      · subst hj
        rw [hi] at e1; cases e1
        rw [List.getElem?_set_self hiσ] at e2
        cases e2
        exact ⟨u, r, .inl ⟨hk, by simp⟩⟩
      · rw [List.getElem?_set_ne (Ne.symm hj)] at e2
        obtain ⟨u', r', q⟩ := hl j y v' e1 e2 e3
        refine ⟨u', r', ?_⟩
        rcases q with ⟨k, e⟩ | ⟨k, c, e, z⟩
        · refine .inl ⟨k, ?_⟩
          have : y ≠ x := fun e => hj (nodup_ix hN e1 (e ▸ hi))
          simp [this, e]
        · exact .inr ⟨k, c, e, z.sameBut hs (cne y c e)⟩
    · obtain ⟨w', z⟩ := I.cell y c e
      exact ⟨w', z.sameBut hs (cne y c e)⟩
    · obtain ⟨e, n, ne, nf, d⟩ := I.pin p hp
      exact ⟨(hs.2 p.1 ne).trans e, n, ne, nf, d⟩
  · have hfn : X.fn x = true := by
      rcases hf with z | z
      · exact z
      · rw [z] at hk; cases hk
    obtain ⟨c, hc⟩ := I.ok.has x (.inl hk)
    obtain ⟨w', z⟩ := I.cell x c hc
    refine wpAny_storeName_cell I.ok.kind hk hc z (fun h' hc' hs => ?_)
    obtain ⟨oc, hoc, hocd⟩ := id z
    refine h { s with heap := h' } ⟨I.ok, I.os, I.bare, ⟨fun b o e n hb hx => ?_, fun b o e n hb hx => ?_, I.base.free, fun b o e hx => ?_, I.base.tups, I.base.frzs, I.base.tbls⟩, ⟨m, hn.sameBut hs (Ne.symm (cne x c hc)), fun j y v' e1 e2 e3 => ?_⟩, fun y c' e => ?_, I.free, I.freeC, fun p hp => ?_, tracked ⟨oc, hoc, I.freeC x c hc⟩ hs, by simpa using I.len⟩ ⟨c, hs, .inr hc⟩
    · exact (hs.2 b (Nat.ne_of_lt (Nat.lt_of_lt_of_le (Heap.lt_size e) (I.ok.cab x c hfn hc)))).trans (I.base.keep b o e n hb hx)
    · obtain ⟨sl, e1⟩ := I.base.slot b o e n hb hx
      exact ⟨sl, (hs.2 b (Nat.ne_of_lt (Nat.lt_of_lt_of_le (Heap.lt_size e) (I.ok.cab x c hfn hc)))).trans e1⟩
    · obtain ⟨o', e1⟩ := I.base.there b o e hx
      exact ⟨o', (hs.2 b (Nat.ne_of_lt (Nat.lt_of_lt_of_le (Heap.lt_size e) (I.ok.cab x c hfn hc)))).trans e1⟩
    · by_cases hj : j = i
      · subst hj
        rw [hi] at e1; cases e1
        rw [List.getElem?_set_self hiσ] at e2
        cases e2
        exact ⟨u, r, .inr ⟨.inl hk, c, hc, hc'⟩⟩
      · rw [List.getElem?_set_ne (Ne.symm hj)] at e2
        obtain ⟨u', r', q⟩ := hl j y v' e1 e2 e3
        refine ⟨u', r', ?_⟩
        rcases q with q | ⟨k, c', e, z'⟩
        · exact .inl q
        · refine .inr ⟨k, c', e, z'.sameBut hs ?_⟩
          rintro rfl
          exact hj (nodup_ix hN e1 (I.ok.inj _ _ _ e hc ▸ hi))
    · by_cases hcc : c' = c
      · subst hcc; exact ⟨_, hc'⟩
      · obtain ⟨w2, z2⟩ := I.cell y c' e
        exact ⟨w2, z2.sameBut hs hcc⟩
    · obtain ⟨e, n, ne, nf, d⟩ := I.pin p hp
      refine ⟨(hs.2 p.1 ?_).trans e, n, ne, nf, d⟩
      intro q
      rw [q, hoc] at e
      have q' : oc = p.2 := Option.some.inj e
      exact d w' (by rw [← q']; exact hocd)
theorem store_ok {M : Model} {A : Around} {E : Value → Shared → Prop} {i : Nat} {x : Str} {v : V} {u : Value} {Q : Unit → Shared → Prop} (I : Inv X pins σ H s) (hN : X.N.Nodup) (hi : X.N[i]? = some x) (hx : Loc X.env.scope x) (r : RelV v u)
    (h : ∀ s', Inv X pins (σ.set i (some v)) H s' → Q () s') (hf : X.fn x = true ∨ X.env.scope.names.lookup x = some .local := by first | exact .inl rfl | exact .inr rfl | assumption) : wpAny M A (storeName X.env x u) Q E s :=
  store_ok2 I hN hi hx r (fun s' I' _ => h s' I') hf
/-- behind a call or a block, the state as it is -/
theorem Inv.call' {s' : Shared} {ch : List Addr} (I : Inv X pins σ H s) (ho : s'.os = s.os) (u : Un (frs X.stack) ch H H' s.heap s'.heap) (hok : HOk X.prog X.w H' s'.heap) (hg : AllBare s'.gens)
    (hch : ∀ b ∈ ch, (b ∈ X.ex ∨ X.s_0.heap.objs.size ≤ b) ∧ b ≠ X.env.locals ∧ (∀ x c, X.env.cells.lookup x = some c → c ≠ b) ∧ ∀ p ∈ X.pn ++ pins, p.1 ≠ b) : Inv X pins σ H' s' := by
  obtain ⟨h', g', d', t', o'⟩ := s'
  have e : o' = s.os := ho
  subst e
  exact I.call (g' := g') (t' := t') (d' := d') u hok hg hch
end

/-! ### the judgements -/
/-- an exception: its class, its own dict's address (where it has one), the abstract heap behind it -/
abbrev XK := Value → Option Addr → Hp → Prop
abbrev St := List (Option V)
abbrev VK := V → Hp → Prop
/-- an expression's reading; a test's; an argument list's -/
abbrev TE := St → Hp → VK → Prop
abbrev TT := St → Hp → (Bool → Hp → Prop) → Prop
abbrev TA := St → Hp → (List V → Hp → Prop) → Prop
/-- what is wanted behind a statement -/
structure Ends where
  nx : St → Hp → Prop
  rt : VK
  bk : St → Hp → Prop := fun _ _ => False
  ct : St → Hp → Prop := fun _ _ => False
abbrev TS := Ends → St → Hp → Prop

def EP (X : Cx) (pins : List (Addr × Obj)) (σ : St) (Q : VK) (u : Value) (s' : Shared) : Prop := ∃ v H', Inv X pins σ H' s' ∧ RelV v u ∧ Q v H'
def TP (X : Cx) (pins : List (Addr × Obj)) (σ : St) (Q : Bool → Hp → Prop) (b : Bool) (s' : Shared) : Prop := ∃ H', Inv X pins σ H' s' ∧ Q b H'
def AP (X : Cx) (pins : List (Addr × Obj)) (σ : St) (Q : List V → Hp → Prop) (us : List Value) (s' : Shared) : Prop := ∃ vs H', Inv X pins σ H' s' ∧ Vals vs us ∧ Q vs H'
def SP (X : Cx) (pins : List (Addr × Obj)) (D : Ends) (f : Flow) (s' : Shared) : Prop :=
  match f with
  | .next => ∃ σ' H', Inv X pins σ' H' s' ∧ D.nx σ' H'
  | .brk => ∃ σ' H', Inv X pins σ' H' s' ∧ D.bk σ' H'
  | .cont => ∃ σ' H', Inv X pins σ' H' s' ∧ D.ct σ' H'
  | .ret u => ∃ v σ' H', Inv X pins σ' H' s' ∧ RelV v u ∧ D.rt v H'

def PE (X : Cx) (e : Expr) (t : TE) : Prop :=
  ∀ (pins : List (Addr × Obj)) (s : Shared) (σ : St) (H : Hp) (Q : VK), Inv X pins σ H s → t σ H Q → wpAny (model X.prog X.w) X.A (eval e X.env) (EP X pins σ Q) X.xe s
def PT (X : Cx) (e : Expr) (t : TT) : Prop :=
  ∀ (pins : List (Addr × Obj)) (s : Shared) (σ : St) (H : Hp) (Q : Bool → Hp → Prop), Inv X pins σ H s → t σ H Q → wpAny (model X.prog X.w) X.A (isTrue e X.env (eval e X.env)) (TP X pins σ Q) X.xe s
/-- a test whatever its 'whole' is (and, or) -/
def PW (X : Cx) (e : Expr) (t : TT) : Prop :=
  ∀ (whole : Sem Value) (pins : List (Addr × Obj)) (s : Shared) (σ : St) (H : Hp) (Q : Bool → Hp → Prop), Inv X pins σ H s → t σ H Q → wpAny (model X.prog X.w) X.A (isTrue e X.env whole) (TP X pins σ Q) X.xe s
theorem PW.pt {X : Cx} {e : Expr} {t : TT} (h : PW X e t) : PT X e t := h _
/-- an argument list (no star), from the left -/
def PA (X : Cx) (es : List Expr) (t : TA) : Prop :=
  ∀ (pos : Pos) (pins : List (Addr × Obj)) (s : Shared) (σ : St) (H : Hp) (Q : List V → Hp → Prop), Inv X pins σ H s → t σ H Q → wpAny (model X.prog X.w) X.A (spliced (backTo pos (starEach es X.env))) (AP X pins σ Q) X.xe s
def PS (X : Cx) (st : Stmt) (t : TS) : Prop :=
  ∀ (pins : List (Addr × Obj)) (s : Shared) (σ : St) (H : Hp) (D : Ends), Inv X pins σ H s → t D σ H → wpAny (model X.prog X.w) X.A (exec st X.env) (SP X pins D) X.xe s
def PSs (X : Cx) (st : List Stmt) (t : TS) : Prop :=
  ∀ (pins : List (Addr × Obj)) (s : Shared) (σ : St) (H : Hp) (D : Ends), Inv X pins σ H s → t D σ H → wpAny (model X.prog X.w) X.A (execs st X.env) (SP X pins D) X.xe s
/-- weaken the end -/
theorem thn {α : Type} {t : Sem α} {Q Q' : α → Shared → Prop} {M : Model} {A : Around} {E : Value → Shared → Prop} {s : Shared} (h : wpAny M A t Q E s) (hQ : ∀ a s, Q a s → Q' a s) : wpAny M A t Q' E s := wpAny_mono h hQ fun _ _ x => x
end L2

namespace L2
open PySem PySem.Spec PyProof.Rows
section
variable {X : Cx}

/-- two expressions in a row -/
theorem bin {a b : Expr} {ta tb : TE} (ha : PE X a ta) (hb : PE X b tb) {pins : List (Addr × Obj)} {s : Shared} {σ : St} {H : Hp} {R : V → V → Hp → Prop} (I : Inv X pins σ H s) (h : ta σ H fun x H1 => tb σ H1 fun y H2 => R x y H2)
    {α : Type} {Q : α → Shared → Prop} {f : Value → Value → Sem α}
    (hf : ∀ v u s2 x y H2, Inv X pins σ H2 s2 → RelV x v → RelV y u → R x y H2 → wpAny (model X.prog X.w) X.A (f v u) Q X.xe s2) :
    wpAny (model X.prog X.w) X.A (eval a X.env) (fun v s₁ => wpAny (model X.prog X.w) X.A (eval b X.env) (fun u s₂ => wpAny (model X.prog X.w) X.A (f v u) Q X.xe s₂) X.xe s₁) X.xe s := by
  refine thn (ha pins s σ H _ I h) fun v s1 ⟨x, H1, I1, r1, q1⟩ => ?_
  refine thn (hb pins s1 σ H1 _ I1 q1) fun u s2 ⟨y, H2, I2, r2, q2⟩ => ?_
  exact hf v u s2 x y H2 I2 r1 r2 q2

/-! ### names and constants -/
def tVar (i : Nat) : TE := fun σ H Q => ∃ v, σ[i]? = some (some v) ∧ Q v H
def tC (v : V) : TE := fun _ H Q => Q v H
theorem pe_var {i : Nat} {x : Str} {pos : Pos} (hN : X.N[i]? = some x) (hv : Vis X.env.scope x) (hd : (x == ("__debug__" : Str)) = false := by decide) (hcd : (x == ("__classdict__" : Str)) = false := by decide) : PE X (.Name x pos) (tVar i) := by
  intro pins s σ H Q I h
  obtain ⟨v, e, h⟩ := h
  obtain ⟨m, hn, hl⟩ := I.loc
  obtain ⟨u, r, l⟩ := hl i x v hN e hv
  have fin : EP X pins σ Q u s := ⟨v, H, I, r, h⟩
  rcases l with ⟨hk, hm⟩ | ⟨hk, c, hc, hcell⟩
  · exact wpAny_Name (wpAny_loadName_local I.ok.kind hk hn hm fin) hd
  · rcases hk with hk | hk
    · exact wpAny_Name (wpAny_loadName_cell I.ok.kind hk hc hcell fin) hd
    · exact wpAny_Name (wpAny_loadName_free I.ok.kind hk hc hcell fin hcd) hd
theorem pe_int {i j pos} : PE X (.Constant (.int i) j pos) (tC (.int i)) := fun _ _ _ H _ I h => wpAny_Constant_int ⟨.int i, H, I.tok _, ⟨_, rfl⟩, h⟩
theorem pe_bl {b j pos} : PE X (.Constant (.bool b) j pos) (tC (.bl b)) := fun _ _ _ H _ I h => Constant_bool ⟨.bl b, H, I, rfl, h⟩
theorem pe_non {j pos} : PE X (.Constant .none j pos) (tC .non) := fun _ _ _ H _ I h => Constant_none ⟨.non, H, I, rfl, h⟩
theorem pe_str {x j pos} : PE X (.Constant (.str x) j pos) (tC (.str x)) := fun _ _ _ H _ I h => Calls.Constant_str ⟨.str x, H, I.tok _, ⟨_, rfl⟩, h⟩

/-- a global name of the def -/
def Gl (X : Cx) (x : Str) : Prop := X.env.kindOf x = some .globalImplicit
theorem ld_glob {E : Value → Shared → Prop} {pins : List (Addr × Obj)} {s : Shared} {σ : St} {H : Hp} {x : Str} {u : Value} {pos : Pos} {Q : Value → Shared → Prop} (I : Inv X pins σ H s) (hg : Gl X x) (hm : X.mg x = some u) (h : Q u s)
    (hd : (x == ("__debug__" : Str)) = false := by decide) : wpAny (model X.prog X.w) X.A (eval (.Name x pos) X.env) Q E s :=
  Calls.Name_function_global I.ok.kind hg (Calls.loadGlobal_global (by rw [I.ok.glob]; exact I.mod.glob.keeps I.bk) hm h) hd
theorem ld_blt {E : Value → Shared → Prop} {pins : List (Addr × Obj)} {s : Shared} {σ : St} {H : Hp} {x : Str} {u : Value} {pos : Pos} {Q : Value → Shared → Prop} (I : Inv X pins σ H s) (hg : Gl X x) (hm : X.mg x = none) (hv : bootBuiltins x = some u) (h : Q u s)
    (hn : x ≠ "__name__" := by decide) (hd : (x == ("__debug__" : Str)) = false := by decide) : wpAny (model X.prog X.w) X.A (eval (.Name x pos) X.env) Q E s := by
  obtain ⟨mb, h1, h2⟩ := I.mod.blt
  exact Calls.Name_function_global I.ok.kind hg (Calls.loadGlobal_builtin (by rw [I.ok.glob]; exact I.mod.glob.keeps I.bk) hm (by rw [I.ok.blt]; exact h1.keeps I.bk) ((h2 x hn).trans hv) h) hd
/-- a module's constant, a class, a function, as a value -/
theorem pe_glob {x : Str} {v : V} {u : Value} {pos : Pos} (hg : Gl X x) (hm : X.mg x = some u) (r : RelV v u) (hd : (x == ("__debug__" : Str)) = false := by decide) : PE X (.Name x pos) (tC v) :=
  fun _ _ _ H _ I h => ld_glob I hg hm ⟨v, H, I, r, h⟩ hd
theorem pe_bltn {x : Str} {v : V} {u : Value} {pos : Pos} (hg : Gl X x) (hm : X.mg x = none) (hv : bootBuiltins x = some u) (r : RelV v u) (hn : x ≠ "__name__" := by decide) (hd : (x == ("__debug__" : Str)) = false := by decide) : PE X (.Name x pos) (tC v) :=
  fun _ _ _ H _ I h => ld_blt I hg hm hv ⟨v, H, I, r, h⟩ hn hd

/-! ### arithmetic -/
/-- two ints -/
def t2I (ta tb : TE) (k : Int → Int → Hp → Prop) : St → Hp → Prop := fun σ H => ta σ H fun x H1 => tb σ H1 fun y H2 => ∃ i j, x = .int i ∧ y = .int j ∧ k i j H2
def tAdd (ta tb : TE) : TE := fun σ H Q => t2I ta tb (fun i j H2 => Q (.int (i + j)) H2) σ H
def tSub (ta tb : TE) : TE := fun σ H Q => t2I ta tb (fun i j H2 => Q (.int (i - j)) H2) σ H
/-- the left factor below 2^64 -/
def tMul (ta tb : TE) : TE := fun σ H Q => t2I ta tb (fun i j H2 => (-(2 ^ 64) < i ∧ i < 2 ^ 64) ∧ Q (.int (i * j)) H2) σ H
variable {a b : Expr} {ta tb : TE} {pos : Pos}
/-! ### comparisons -/
def PC (X : Cx) (op : CmpOp) (a b : Expr) (t : TE) : Prop :=
  ∀ (pins : List (Addr × Obj)) (s : Shared) (σ : St) (H : Hp) (Q : VK), Inv X pins σ H s → t σ H Q →
    wpAny (model X.prog X.w) X.A (eval a X.env) (fun v s₁ => wpAny (model X.prog X.w) X.A (eval b X.env) (fun u s₂ => wpAny (model X.prog X.w) X.A (compareOp op v u) (EP X pins σ Q) X.xe s₂) X.xe s₁) X.xe s
theorem nobehind (b : Expr) {op : CmpOp} (h : op ≠ .In) (h2 : op ≠ .NotIn) : behindInMarks op b = false := by
  have e1 : (op == CmpOp.In) = false := by cases op <;> first | rfl | exact absurd rfl h
  have e2 : (op == CmpOp.NotIn) = false := by cases op <;> first | rfl | exact absurd rfl h2
  cases b <;> simp [behindInMarks, e1, e2]
def tCmp (p : Int → Int → Bool) (ta tb : TE) : TE := fun σ H Q => t2I ta tb (fun i j H2 => Q (.bl (p i j)) H2) σ H
abbrev tLt : TE → TE → TE := tCmp fun i j => decide (i < j)
abbrev tLe : TE → TE → TE := tCmp fun i j => decide (i ≤ j)
abbrev tGt : TE → TE → TE := tCmp fun i j => decide (j < i)
abbrev tGe : TE → TE → TE := tCmp fun i j => decide (j ≤ i)
abbrev tEqI : TE → TE → TE := tCmp fun i j => decide (i = j)
abbrev tNeI : TE → TE → TE := tCmp fun i j => !decide (i = j)
/-- is None -/
def tIsN (ta : TE) : TE := fun σ H Q => ta σ H fun x H1 => Q (.bl (decide (x = .non))) H1
def tNotN (ta : TE) : TE := fun σ H Q => ta σ H fun x H1 => Q (.bl (!decide (x = .non))) H1
/-- a comparison as a value, as a test -/
def tB (t : TE) : TT := fun σ H Q => t σ H fun x H1 => ∃ c, x = .bl c ∧ Q c H1
theorem pt_cmp {op : CmpOp} {t : TE} (h : PC X op a b t) (h1 : behindInMarks op b = false := by first | exact nobehind _ (by decide) (by decide) | rfl) : PT X (.Compare a [op] [b] pos) (tB t) := by
  intro pins s σ H Q I hw
  refine wpAny_isTrue_Compare1 (thn (h pins s σ H _ I hw) fun v s1 h1 => thn h1 fun u s2 h2 => thn h2 fun c s3 ⟨x, H1, I1, r1, q1⟩ => ?_) h1
  obtain ⟨d, rfl, q⟩ := q1
  cases r1
  exact wpAny_truthy_bool ⟨H1, I1, q⟩
/-- an expression whose value is a bool, as a test -/
theorem pt_val {e : Expr} {t : TE} (h : PE X e t) (he : ∀ whole, isTrue e X.env whole = (do let v ← whole; standAt e.pos; holding [v] (truthy v)) := by intro _; rfl) : PT X e (tB t) := by
  intro pins s σ H Q I hw
  refine isTrue_plain (thn (h pins s σ H _ I hw) fun v s1 ⟨x, H1, I1, r1, q1⟩ => ?_) (he _)
  obtain ⟨d, rfl, q⟩ := q1
  cases r1
  exact wpAny_truthy_bool ⟨H1, I1, q⟩

/-! ### and, or, not -/
variable {tA tB' : TT} {rest : List Expr}
def tAnd (t u : TT) : TT := fun σ H Q => t σ H fun c H1 => if c = true then u σ H1 Q else Q false H1
def tOr (t u : TT) : TT := fun σ H Q => t σ H fun c H1 => if c = true then Q true H1 else u σ H1 Q
def tNot (t : TT) : TT := fun σ H Q => t σ H fun c H1 => Q (!c) H1
theorem pw_and1 (ha : PT X a tA) : PW X (.BoolOp .And [a] pos) tA := by
  intro wh pins s σ H Q I h
  refine isTrue_and (thn (ha pins s σ H Q I h) fun c s1 e => ?_)
  cases c with
  | true => exact isTrue_and_nil e
  | false => exact e
theorem pw_or1 (ha : PT X a tA) : PW X (.BoolOp .Or [a] pos) tA := by
  intro wh pins s σ H Q I h
  refine isTrue_or (thn (ha pins s σ H Q I h) fun c s1 e => ?_)
  cases c with
  | false => exact isTrue_or_nil e
  | true => exact e
theorem pw_and (ha : PT X a tA) (hb : PW X (.BoolOp .And (b :: rest) pos) tB') : PW X (.BoolOp .And (a :: b :: rest) pos) (tAnd tA tB') := by
  intro wh pins s σ H Q I h
  refine isTrue_and (thn (ha pins s σ H _ I h) fun c s1 ⟨H1, I1, q1⟩ => ?_)
  cases c with
  | true => exact hb wh pins s1 σ H1 Q I1 q1
  | false => exact ⟨H1, I1, q1⟩
theorem pw_or (ha : PT X a tA) (hb : PW X (.BoolOp .Or (b :: rest) pos) tB') : PW X (.BoolOp .Or (a :: b :: rest) pos) (tOr tA tB') := by
  intro wh pins s σ H Q I h
  refine isTrue_or (thn (ha pins s σ H _ I h) fun c s1 ⟨H1, I1, q1⟩ => ?_)
  cases c with
  | true => exact ⟨H1, I1, q1⟩
  | false => exact hb wh pins s1 σ H1 Q I1 q1
theorem pt_not (ha : PT X a tA) : PT X (.UnaryOp .Not a pos) (tNot tA) := by
  intro pins s σ H Q I h
  exact isTrue_not (ha pins s σ H (fun c H1 => Q (!c) H1) I h)
/-- .. as values (bools) -/
def tAndV (ta tb : TE) : TE := fun σ H Q => ta σ H fun x H1 => ∃ c, x = .bl c ∧ if c = true then tb σ H1 Q else Q (.bl false) H1
def tOrV (ta tb : TE) : TE := fun σ H Q => ta σ H fun x H1 => ∃ c, x = .bl c ∧ if c = true then Q (.bl true) H1 else tb σ H1 Q
def tNotV (ta : TE) : TE := fun σ H Q => ta σ H fun x H1 => ∃ c, x = .bl c ∧ Q (.bl (!c)) H1
theorem pe_one {op} {t : TE} (h : PE X a t) : PE X (.BoolOp op [a] pos) t := fun pins s σ H Q I hw => BoolOp_one (h pins s σ H Q I hw)
theorem pe_and (ha : PE X a ta) (hb : PE X (.BoolOp .And (b :: rest) pos) tb) : PE X (.BoolOp .And (a :: b :: rest) pos) (tAndV ta tb) := by
  intro pins s σ H Q I h
  refine BoolOp_and (thn (ha pins s σ H _ I h) fun v s1 ⟨x, H1, I1, r1, q1⟩ => ?_)
  obtain ⟨c, rfl, q1⟩ := q1
  cases r1
  refine wpAny_truthy_bool ?_
  cases c with
  | true => exact hb pins s1 σ H1 Q I1 q1
  | false => exact ⟨.bl false, H1, I1, rfl, q1⟩
theorem pe_not (ha : PE X a ta) : PE X (.UnaryOp .Not a pos) (tNotV ta) := by
  intro pins s σ H Q I h
  refine UnaryOp_ (thn (ha pins s σ H _ I h) fun v s1 ⟨x, H1, I1, r1, q1⟩ => ?_)
  obtain ⟨c, rfl, q1⟩ := q1
  cases r1
  exact not_of (wpAny_truthy_bool ⟨.bl (!c), H1, I1, rfl, q1⟩)
/-- a if t else b -/
def tIf (t : TT) (ta tb : TE) : TE := fun σ H Q => t σ H fun c H1 => if c = true then ta σ H1 Q else tb σ H1 Q
theorem pe_ifExp {c : Expr} (hc : PT X c tA) (ha : PE X a ta) (hb : PE X b tb) : PE X (.IfExp c a b pos) (tIf tA ta tb) := by
  intro pins s σ H Q I h
  refine wpAny_IfExp (thn (hc pins s σ H _ I h) fun d s1 ⟨H1, I1, q1⟩ => ?_)
  cases d with
  | true => exact ha pins s1 σ H1 Q I1 q1
  | false => exact hb pins s1 σ H1 Q I1 q1
end
end L2

namespace L2
open PySem PySem.Spec PyProof.Rows

/-! ### a list, a tuple that is read: tracked, frozen, or an object of the module -/
def SqL (K : PySem.W.Frag) (H : Hp) (a : Addr) (xs : List V) : Prop :=
  Rd H a (.lst xs) ∨
    ∃ (o : Obj) (its : Array Value) (n : Nat), K.lookup a = some o ∧ o.cls = .type "list" ∧ o.dict = none ∧ o.data = .seq its n ∧ its.size ≤ sizeLine ∧ Vals xs its.toList
def SqT (K : PySem.W.Frag) (H : Hp) (a : Addr) (xs : List V) : Prop :=
  Rd H a (.tup xs) ∨
    ∃ (o : Obj) (its : Array Value) (n : Nat), K.lookup a = some o ∧ o.cls = .type "tuple" ∧ o.data = .seq its n ∧ its.size ≤ sizeLine ∧ Vals xs its.toList
def absV : Value → Option V
  | .none => some .non
  | .bool b => some (.bl b)
  | .int i _ => some (.int i)
  | .str x _ => some (.str x)
  | .bytes b _ => some (.byt b)
  | .float b _ => some (.flt b)
  | .ref a => some (.ref a)
  | .type n => some (.ty n)
  | _ => none
theorem RelV.abs {x : V} {u : Value} (r : RelV x u) : absV u = some x := by
  cases x with
  | non => cases r; rfl
  | bl _ => cases r; rfl
  | int _ => obtain ⟨t, rfl⟩ := r; rfl
  | str _ => obtain ⟨t, rfl⟩ := r; rfl
  | byt _ => obtain ⟨t, rfl⟩ := r; rfl
  | flt _ => obtain ⟨t, rfl⟩ := r; rfl
  | ref _ => cases r; rfl
  | ty _ => cases r; rfl
theorem RelV.inj {x y : V} {u : Value} (r : RelV x u) (q : RelV y u) : x = y := Option.some.inj (r.abs.symm.trans q.abs)
theorem Vals.inj : ∀ {xs ys : List V} {us : List Value}, Vals xs us → Vals ys us → xs = ys
  | _, _, _, .nil, .nil => rfl
  | _, _, _, .cons r t, .cons r' t' => by rw [r.inj r', Vals.inj t t']
section
variable {X : Cx} {pins : List (Addr × Obj)} {σ : St} {H : Hp} {s : Shared} {a : Addr} {xs ys : List V}
theorem SqL.of {K : PySem.W.Frag} (h : H a = some (.lst xs)) : SqL K H a xs := .inl (.inl h)
theorem SqT.of {K : PySem.W.Frag} (h : H a = some (.tup xs)) : SqT K H a xs := .inl (.inl h)
theorem Inv.list (I : Inv X pins σ H s) (h : SqL X.K H a xs) : ∃ its : List Value, Vals xs its ∧ PlainL s.heap a its.toArray ∧ xs.length ≤ sizeLine := by
  rcases h with h | ⟨o, its, n, hk, hc, hd, hs, hz, r⟩
  · obtain ⟨z, its, n, r, e⟩ := h.ok I.hok
    exact ⟨its, r, ⟨_, n, e, rfl, rfl, rfl⟩, z⟩
  · refine ⟨its.toList, r, ⟨o, n, I.kIn a o hk, hc, hd, by simpa using hs⟩, ?_⟩
    have e := r.length
    simp only [Array.length_toList] at e
    omega
theorem Inv.tuple (I : Inv X pins σ H s) (h : SqT X.K H a xs) : ∃ its : List Value, Vals xs its ∧ IsTup s.heap a its.toArray ∧ xs.length ≤ sizeLine := by
  rcases h with h | ⟨o, its, n, hk, hc, hs, hz, r⟩
  · obtain ⟨z, its, r, p⟩ := h.ok I.hok
    exact ⟨its, r, p, z⟩
  · refine ⟨its.toList, r, ⟨o, I.kIn a o hk, hc, n, by simpa using hs⟩, ?_⟩
    have e := r.length
    simp only [Array.length_toList] at e
    omega
theorem Inv.list_inj (I : Inv X pins σ H s) (h : SqL X.K H a xs) (h' : SqL X.K H a ys) : xs = ys := by
  obtain ⟨its, r, ⟨o, n, e, _, _, d⟩, _⟩ := I.list h
  obtain ⟨its', r', ⟨o', n', e', _, _, d'⟩, _⟩ := I.list h'
  rw [e] at e'; cases e'
  rw [d] at d'
  injection d' with d1 _
  have : its = its' := by simpa using congrArg Array.toList d1
  subst this
  exact r.inj r'
theorem Inv.tuple_inj (I : Inv X pins σ H s) (h : SqT X.K H a xs) (h' : SqT X.K H a ys) : xs = ys := by
  obtain ⟨its, r, ⟨o, e, _, n, d⟩, _⟩ := I.tuple h
  obtain ⟨its', r', ⟨o', e', _, n', d'⟩, _⟩ := I.tuple h'
  rw [e] at e'; cases e'
  rw [d] at d'
  injection d' with d1 _
  have : its = its' := by simpa using congrArg Array.toList d1
  subst this
  exact r.inj r'
end

/-! ### another wish about exceptions -/
abbrev Cx.wish (X : Cx) (E : Value → Shared → Prop) : Cx := { X with xe := E }
/-- no exception leaves -/
abbrev Cx.nox (X : Cx) : Cx := X.wish fun _ _ => False
theorem Cx.Ok.wish {X : Cx} (ok : X.Ok) (E : Value → Shared → Prop) : (X.wish E).Ok :=
  ⟨ok.mod, ok.kind, ok.glob, ok.blt, ok.above, ok.inj, ok.has, ok.cab, ok.hd, ok.frames, ok.stk, ok.exf, ok.bs, ok.bsz, ok.noex, ok.exfs, ok.funs, ok.frf⟩
theorem Cx.Ok.unwish {X : Cx} {E : Value → Shared → Prop} (ok : (X.wish E).Ok) : X.Ok :=
  ⟨ok.mod, ok.kind, ok.glob, ok.blt, ok.above, ok.inj, ok.has, ok.cab, ok.hd, ok.frames, ok.stk, ok.exf, ok.bs, ok.bsz, ok.noex, ok.exfs, ok.funs, ok.frf⟩
section
variable {X : Cx} {pins : List (Addr × Obj)} {σ : St} {H : Hp} {s : Shared} {E : Value → Shared → Prop}
theorem Inv.wish (I : Inv X pins σ H s) (E : Value → Shared → Prop) : Inv (X.wish E) pins σ H s := ⟨I.ok.wish E, I.os, I.bare, I.base, I.loc, I.cell, I.free, I.freeC, I.pin, I.hok, I.len⟩
theorem Inv.unwish (I : Inv (X.wish E) pins σ H s) : Inv X pins σ H s := ⟨I.ok.unwish, I.os, I.bare, I.base, I.loc, I.cell, I.free, I.freeC, I.pin, I.hok, I.len⟩
theorem SP.unwish {D : Ends} {f : Flow} {s' : Shared} (h : SP (X.wish E) pins D f s') : SP X pins D f s' := by
  cases f with
  | next => obtain ⟨σ', H', I, q⟩ := h; exact ⟨σ', H', I.unwish, q⟩
  | brk => obtain ⟨σ', H', I, q⟩ := h; exact ⟨σ', H', I.unwish, q⟩
  | cont => obtain ⟨σ', H', I, q⟩ := h; exact ⟨σ', H', I.unwish, q⟩
  | ret u => obtain ⟨v, σ', H', I, r, q⟩ := h; exact ⟨v, σ', H', I.unwish, r, q⟩
theorem PE.nox {e : Expr} {t : TE} (h : PE X.nox e t) : PE X e t := fun pins s σ H Q I hw =>
  wpAny_mono (h pins s σ H Q (I.wish _) hw) (fun _ _ ⟨v, H', I', r, q⟩ => ⟨v, H', I'.unwish, r, q⟩) fun _ _ z => False.elim z
theorem PT.nox {e : Expr} {t : TT} (h : PT X.nox e t) : PT X e t := fun pins s σ H Q I hw =>
  wpAny_mono (h pins s σ H Q (I.wish _) hw) (fun _ _ ⟨H', I', q⟩ => ⟨H', I'.unwish, q⟩) fun _ _ z => False.elim z
theorem PSs.nox {st : List Stmt} {t : TS} (h : PSs X.nox st t) : PSs X st t := fun pins s σ H D I hw =>
  wpAny_mono (h pins s σ H D (I.wish _) hw) (fun _ _ q => q.unwish) fun _ _ z => False.elim z
end

/-! ### blocks and small statements -/
section
variable {X : Cx} {st : Stmt} {rest : List Stmt} {t u : TS} {e : Expr} {te : TE} {pos : Pos}
def tNext : TS := fun D σ H => D.nx σ H
def tSeq (t u : TS) : TS := fun D σ H => t { D with nx := u D } σ H
theorem pss_nil : PSs X [] tNext := fun _ _ σ H _ I h => wpAny_execs_nil ⟨σ, H, I, h⟩
theorem pss_cons (h1 : PS X st t) (h2 : PSs X rest u) : PSs X (st :: rest) (tSeq t u) := by
  intro pins s σ H D I h
  refine wpAny_execs_cons (thn (h1 pins s σ H { D with nx := u D } I h) fun f s1 q => ?_)
  cases f with
  | next =>
    obtain ⟨σ', H', I', q⟩ := q
    exact h2 pins s1 σ' H' D I' q
  | ret v => exact q
  | brk => exact q
  | cont => exact q
theorem pss_one (h1 : PS X st t) : PSs X [st] t := by
  intro pins s σ H D I h
  refine wpAny_execs_cons (thn (h1 pins s σ H D I h) fun f s1 q => ?_)
  cases f with
  | next => exact wpAny_execs_nil q
  | ret v => exact q
  | brk => exact q
  | cont => exact q
def tBreak : TS := fun D σ H => D.bk σ H
def tCont : TS := fun D σ H => D.ct σ H
/-- in a def's body nothing is shown -/
theorem Inv.quiet {pins : List (Addr × Obj)} {σ : St} {H : Hp} {s : Shared} (I : Inv X pins σ H s) : interactive X.env = false := by simp [interactive, I.ok.kind]
/-- an expression whose value is dropped -/
def tDrop (te : TE) : TS := fun D σ H => te σ H fun _ H1 => D.nx σ H1
theorem ps_expr (he : PE X e te) (hs : swapsWith e none pos.line X.env = pure false := by rfl) : PS X (.Expr e pos) (tDrop te) := by
  intro pins s σ H D I h
  exact wpAny_Expr_any (thn (he pins s σ H _ I h) fun v s1 ⟨x, H1, I1, r1, q1⟩ => ⟨σ, H1, I1, q1⟩) I.quiet hs
def tRet (te : TE) : TS := fun D σ H => te σ H D.rt
theorem ps_ret (he : PE X e te) : PS X (.Return (some e) pos) (tRet te) := by
  intro pins s σ H D I h
  exact wpAny_Return_some (thn (he pins s σ H _ I h) fun v s1 ⟨x, H1, I1, r1, q1⟩ => ⟨x, σ, H1, I1, r1, q1⟩)
def tRetN : TS := fun D _ H => D.rt .non H
def tIfS (c : TT) (t u : TS) : TS := fun D σ H => c σ H fun b H1 => if b = true then t D σ H1 else u D σ H1
theorem ps_if {c : Expr} {a b : List Stmt} {tc : TT} (hc : PT X c tc) (ha : PSs X a t) (hb : PSs X b u) : PS X (.If c a b pos) (tIfS tc t u) := by
  intro pins s σ H D I h
  refine wpAny_If (thn (hc pins s σ H _ I h) fun d s1 ⟨H1, I1, q1⟩ => ?_)
  cases d with
  | true => exact ha pins s1 σ H1 D I1 q1
  | false => exact hb pins s1 σ H1 D I1 q1
/-- code that the proof never comes to -/
def tNever : TS := fun _ _ _ => False
end

/-! ### targets -/
abbrev TG := V → St → Hp → (St → Hp → Prop) → Prop
abbrev TGs := List V → St → Hp → (St → Hp → Prop) → Prop
def PG (X : Cx) (target : Expr) (t : TG) : Prop :=
  ∀ (pins : List (Addr × Obj)) (s : Shared) (σ : St) (H : Hp) (v : V) (u : Value) (Q : St → Hp → Prop), Inv X pins σ H s → RelV v u → t v σ H Q →
    wpAny (model X.prog X.w) X.A (assign target X.env u) (fun _ s' => ∃ σ' H', Inv X pins σ' H' s' ∧ Q σ' H') X.xe s
/-- several targets, one after another -/
def PGs (X : Cx) (ts : List Expr) (t : TGs) : Prop :=
  ∀ (pins : List (Addr × Obj)) (s : Shared) (σ : St) (H : Hp) (vs : List V) (us : List Value) (Q : St → Hp → Prop), Inv X pins σ H s → Vals vs us → t vs σ H Q →
    wpAny (model X.prog X.w) X.A (assignInOrder ((assignEach ts X.env).map (·.2)) us) (fun _ s' => ∃ σ' H', Inv X pins σ' H' s' ∧ Q σ' H') X.xe s
/-- o[i] = v, by values -/
abbrev TSet := V → V → V → Hp → (Hp → Prop) → Prop
def PSet (X : Cx) (t : TSet) : Prop :=
  ∀ (pins : List (Addr × Obj)) (s : Shared) (σ : St) (H : Hp) (o i v : V) (ov iv u : Value) (Q : Hp → Prop), Inv X pins σ H s → RelV o ov → RelV i iv → RelV v u → t o i v H Q →
    wpAny (model X.prog X.w) X.A (setItem ov iv u) (fun _ s' => ∃ H', Inv X pins σ H' s' ∧ Q H') X.xe s
/-- a op= b, by values -/
abbrev TIp := V → V → Hp → VK → Prop
def PIp (X : Cx) (op : Operator) (t : TIp) : Prop :=
  ∀ (pins : List (Addr × Obj)) (s : Shared) (σ : St) (H : Hp) (x y : V) (v u : Value) (Q : VK), Inv X pins σ H s → RelV x v → RelV y u → t x y H Q →
    wpAny (model X.prog X.w) X.A (inplaceOp op v u) (EP X pins σ Q) X.xe s
section
variable {X : Cx} {pos : Pos}
def gName (i : Nat) : TG := fun v σ H Q => Q (σ.set i (some v)) H
theorem pg_name {i : Nat} {x : Str} (hN : X.N.Nodup) (hi : X.N[i]? = some x) (hx : Loc X.env.scope x) (hf : X.fn x = true ∨ X.env.scope.names.lookup x = some .local := by first | exact .inl rfl | exact .inr rfl | assumption) : PG X (.Name x pos) (gName i) := by
  intro pins s σ H v u Q I r h
  exact wpAny_assign_Name (store_ok I hN hi hx r (fun s' I' => ⟨_, H, I', h⟩) hf)
def gNil : TGs := fun vs σ H Q => vs = [] ∧ Q σ H
def gCons (t : TG) (u : TGs) : TGs := fun vs σ H Q => ∃ v r, vs = v :: r ∧ t v σ H fun σ' H' => u r σ' H' Q
theorem pgs_nil : PGs X [] gNil := by
  intro pins s σ H vs us Q I r h
  obtain ⟨e, h⟩ := h
  subst e
  cases r
  exact assignInOrder_nil ⟨σ, H, I, h⟩
theorem pgs_cons {e : Expr} {es : List Expr} {t : TG} {u : TGs} (h1 : PG X e t) (h2 : PGs X es u)
    (hs : (assignEach (e :: es) X.env).map (·.2) = assign e X.env :: (assignEach es X.env).map (·.2) := by rfl) : PGs X (e :: es) (gCons t u) := by
  intro pins s σ H vs us Q I r h
  obtain ⟨v, vr, e1, h⟩ := h
  subst e1
  cases r with
  | cons r rr =>
    rw [hs]
    refine assignInOrder_cons (thn (h1 pins s σ H _ _ _ I r h) fun _ s1 ⟨σ1, H1, I1, q1⟩ => ?_)
    exact h2 pins s1 σ1 H1 _ _ Q I1 rr q1
/-- (a, b, ..) = a tuple of that length -/
def gTup (K : PySem.W.Frag) (n : Nat) (t : TGs) : TG := fun v σ H Q => ∃ a xs, v = .ref a ∧ SqT K H a xs ∧ xs.length = n ∧ t xs σ H Q
theorem pg_tup {es : List Expr} {k : Nat} {t : TGs} {n : Nat} (hc : X.calm = true) (h : PGs X es t)
    (hn : (assignEach es X.env).length = n := by rfl) (hst : (assignEach es X.env).findIdx? (·.1) = none := by rfl) : PG X (.Tuple es k pos) (gTup X.K n t) := by
  intro pins s σ H v u Q I r hw
  obtain ⟨a, xs, e1, hq, hl, hw⟩ := hw
  subst e1
  cases r
  obtain ⟨its, rv, ht, hz⟩ := I.tuple hq
  refine assign_Tuple_tuple (I.ok.hd hc) ht (by simp [hn, ← hl, rv.length]) hst fun h' hx => ?_
  have I1 : Inv X pins σ H { s with heap := h' } := I.kept (t' := s.toks) fun b o e => hx b o (Nat.ne_of_lt (Heap.lt_size e)) e
  exact h pins _ σ H xs _ Q I1 (by simpa using rv) hw
/-- o[i] = .. -/
def gSub (to ti : TE) (t : TSet) : TG := fun v σ H Q => to σ H fun o H1 => ti σ H1 fun i H2 => t o i v H2 fun H3 => Q σ H3
theorem pg_sub {o i : Expr} {to ti : TE} {t : TSet} (ho : PE X o to) (hi : PE X i ti) (hs : PSet X t)
    (ha : ∀ v, assign (.Subscript o i pos) X.env v = (do
      let ov ← holding [v] (eval o X.env)
      let iv ← holding [v, ov] (eval i X.env)
      standAt pos
      holding [v, ov, iv] (setItem ov iv v)
      release [v, ov, iv] []) := by intro _; rfl) : PG X (.Subscript o i pos) (gSub to ti t) := by
  intro pins s σ H v u Q I r h
  rw [ha]
  refine wpAny_bind (wpAny_holding (thn (ho pins s σ H _ I h) fun ov s1 ⟨x, H1, I1, r1, q1⟩ => ?_))
  refine wpAny_bind (wpAny_holding (thn (hi pins s1 σ H1 _ I1 q1) fun iv s2 ⟨y, H2, I2, r2, q2⟩ => ?_))
  refine wpAny_bind (wpAny_standAt (wpAny_bind (wpAny_holding (thn (hs pins s2 σ H2 x y v ov iv u _ I2 r1 r2 r q2) fun _ s3 ⟨H3, I3, q3⟩ => ?_))))
  exact wpAny_release ⟨σ, H3, I3, q3⟩
/-- target = value -/
def tAsg (te : TE) (g : TG) : TS := fun D σ H => te σ H fun x H1 => g x σ H1 D.nx
theorem ps_asg {tg e : Expr} {te : TE} {g : TG} (he : PE X e te) (hg : PG X tg g) (hs : swapsWithSole [tg] e pos.line X.env = pure false := by rfl) (hw : swappedStores [tg] e X.env = pure none := by rfl)
    (h1 : (assignEach [tg] X.env).map (·.2) = [assign tg X.env] := by rfl) : PS X (.Assign [tg] e pos) (tAsg te g) := by
  intro pins s σ H D I h
  refine wpAny_Assign_stores (thn (he pins s σ H _ I h) fun v s1 ⟨x, H1, I1, r1, q1⟩ => ?_) hs hw
  rw [h1]
  exact thn (hg pins s1 σ H1 x v _ I1 r1 q1) fun _ s2 q => q
/-- name = value -/
theorem ps_set {i : Nat} {x : Str} {e : Expr} {te : TE} {pos' : Pos} (hN : X.N.Nodup) (hi : X.N[i]? = some x) (hx : Loc X.env.scope x) (he : PE X e te) (hs : swapsWith e (some (.Name x pos')) pos.line X.env = pure false := by rfl) (hf : X.fn x = true ∨ X.env.scope.names.lookup x = some .local := by first | exact .inl rfl | exact .inr rfl | assumption) :
    PS X (.Assign [.Name x pos'] e pos) (tAsg te (gName i)) := by
  intro pins s σ H D I h
  refine wpAny_Assign_Name (thn (he pins s σ H _ I h) fun v s1 ⟨y, H1, I1, r1, q1⟩ => ?_) hs
  exact store_ok I1 hN hi hx r1 (fun s2 I2 => ⟨_, H1, I2, q1⟩) hf
/-- a, b = x, y with plain local names: stored from the right; the pair itself is not tracked (the opening rows as in PyProof/Rows/TupAssign.lean:23) -/
def tPar (i j : Nat) (ta : TA) : TS := fun D σ H => ta σ H fun vs H1 => ∃ v w, vs = [v, w] ∧ D.nx ((σ.set i (some v)).set j (some w)) H1
/-- name op= e -/
def tAug (i : Nat) (te : TE) (ti : TIp) : TS := fun D σ H => ∃ x, σ[i]? = some (some x) ∧ te σ H fun y H1 => ti x y H1 fun z H2 => D.nx (σ.set i (some z)) H2
/-- o[i] op= e -/
def tAugS (to ti te : TE) (tget : V → V → Hp → VK → Prop) (tip : TIp) (tset : TSet) : TS := fun D σ H => to σ H fun o H1 => ti σ H1 fun i H2 => tget o i H2 fun x H3 => te σ H3 fun y H4 => tip x y H4 fun z H5 => tset o i z H5 fun H6 => D.nx σ H6
/-- o[i], by values -/
def PGet (X : Cx) (t : V → V → Hp → VK → Prop) : Prop :=
  ∀ (pins : List (Addr × Obj)) (s : Shared) (σ : St) (H : Hp) (o i : V) (ov iv : Value) (Q : VK), Inv X pins σ H s → RelV o ov → RelV i iv → t o i H Q →
    wpAny (model X.prog X.w) X.A (getItem ov iv) (EP X pins σ Q) X.xe s
/-- ints -/
def ipI (f : Int → Int → Int) : TIp := fun x y H Q => ∃ i j, x = .int i ∧ y = .int j ∧ Q (.int (f i j)) H
end

/-! ### while -/
section
variable {X : Cx} {pos : Pos}
/-- the invariant W with its measure -/
def tWhile (c : TT) (tb : TS) : TS := fun D σ H => ∃ W : Nat → St → Hp → Prop, (∃ m, W m σ H) ∧ ∀ m σ H, W m σ H →
  c σ H fun b H1 => if b = true then ∃ N : St → Hp → Prop, (∀ σ' H', N σ' H' → ∃ m', m' < m ∧ W m' σ' H') ∧ tb { D with nx := N, ct := N, bk := D.nx } σ H1 else D.nx σ H1
theorem ps_while {c : Expr} {body : List Stmt} {tc : TT} {tb : TS} (hp : PassesOwn (model X.prog X.w) X.A X.env X.xe) (hc : PT X c tc) (hb : PSs X body tb) : PS X (.While c body [] pos) (tWhile tc tb) := by
  intro pins s σ H D I h
  obtain ⟨W, ⟨m0, w0⟩, turn⟩ := h
  refine wpAny_While (codeAny_whileLoop (fun n s' => ∃ σ' H', Inv X pins σ' H' s' ∧ W n σ' H') ?_ m0 ⟨σ, H, I, w0⟩)
  rintro n s1 ⟨σ1, H1, I1, w1⟩
  refine wpAny_passesOwn hp (thn (hc pins s1 σ1 H1 _ I1 (turn n σ1 H1 w1)) fun b s2 ⟨H2, I2, q2⟩ => ?_)
  cases b with
  | true =>
    obtain ⟨N, hN, q2⟩ := q2
    rw [if_pos rfl]
    refine wpAny_passesOwn hp (thn (hb pins s2 σ1 H2 _ I2 q2) fun f s3 q3 => ?_)
    cases f with
    | next =>
      obtain ⟨σ3, H3, I3, n3⟩ := q3
      obtain ⟨m', hm, w3⟩ := hN σ3 H3 n3
      exact ⟨m', hm, σ3, H3, I3, w3⟩
    | cont =>
      obtain ⟨σ3, H3, I3, n3⟩ := q3
      obtain ⟨m', hm, w3⟩ := hN σ3 H3 n3
      exact ⟨m', hm, σ3, H3, I3, w3⟩
    | brk => exact q3
    | ret v => exact q3
  | false =>
    rw [if_neg Bool.false_ne_true]
    exact wpAny_execs_nil ⟨σ1, H2, I2, q2⟩
end

/-! ### what a loop or a comprehension walks -/
/-- at turn i: it yields x (the heap may grow), or it stops -/
structure It where
  go : Nat → Hp → Prop
  yld : Nat → Hp → V → Hp → Prop
  stop : Nat → Hp → Prop
/-- the iterator's own objects may turn: they are not the frame's, not pinned, younger than the entry (or a comprehension's own) -/
def FpOk (X : Cx) (pins : List (Addr × Obj)) (H : Hp) (b : Addr) : Prop :=
  H b = none ∧ b ≠ X.env.locals ∧ b ∉ X.fs ∧ (b ∈ X.ex ∨ X.s_0.heap.objs.size ≤ b) ∧ (∀ x c, X.env.cells.lookup x = some c → c ≠ b) ∧ ∀ p ∈ X.pn ++ pins, p.1 ≠ b
theorem Inv.fpOk {X : Cx} {pins : List (Addr × Obj)} {σ : St} {H H' : Hp} {s : Shared} {b : Addr} (I : Inv X pins σ H s) (hb : s.heap.objs.size ≤ b) (hn : H' b = none) : FpOk X pins H' b := by
  refine ⟨hn, Nat.ne_of_gt (Nat.lt_of_lt_of_le I.lt hb), I.nofs hb, .inr (Nat.le_trans I.sz hb), fun x c e z => ?_, fun p hp z => ?_⟩
  · obtain ⟨v, q⟩ := I.cell x c e
    exact absurd (Nat.lt_of_lt_of_le q.lt (by rw [z]; exact hb)) (Nat.lt_irrefl _)
  · exact absurd (Nat.lt_of_lt_of_le (Heap.lt_size (I.pin p hp).1) (by rw [z]; exact hb)) (Nat.lt_irrefl _)
structure Turn (P : Program) (w : World) (K : PySem.W.Frag) (tg : Expr) (J : It) (fp : List Addr) (it : Addr) (tn : Nat → Heap → Prop) : Prop where
  mem : it ∈ fp
  obj : ∀ i h, tn i h → ∀ b ∈ fp, ∃ o, h.get? b = some o ∧ ∀ v, o.data ≠ .cell v
  keep : ∀ i h h', tn i h → (∀ b ∈ fp, ∀ o, h.get? b = some o → h'.get? b = some o) → tn i h'
  item : ∀ (X : Cx), X.prog = P → X.w = w → X.K = K → X.calm = true → ∀ (i : Nat) (pins : List (Addr × Obj)) (s : Shared) (σ : St) (H : Hp) (E : Value → Shared → Prop), Inv X pins σ H s → (∀ b ∈ fp, FpOk X pins H b) → tn i s.heap → J.go i H →
    wpAny (model P w) X.A (pyNext (.ref it)) (fun r s1 => ∃ u, r = some u ∧
      wpAny (model P w) X.A (letOwnedTupleGo tg (.ref it) u) (fun _ s2 => ∃ x H', Inv X pins σ H' s2 ∧ RelV x u ∧ J.yld i H x H' ∧ tn (i + 1) s2.heap ∧ ∀ b ∈ fp, H' b = none) E s1) E s
  done : ∀ (X : Cx), X.prog = P → X.w = w → X.K = K → X.calm = true → ∀ (i : Nat) (pins : List (Addr × Obj)) (s : Shared) (σ : St) (H : Hp) (E : Value → Shared → Prop), Inv X pins σ H s → (∀ b ∈ fp, FpOk X pins H b) → tn i s.heap → J.stop i H →
    wpAny (model P w) X.A (pyNext (.ref it)) (fun r s1 => r = none ∧ Inv X pins σ H s1) E s
  self : ∀ (A : Around) (i : Nat) (s : Shared) (Q : Value → Shared → Prop) (E : Value → Shared → Prop), tn i s.heap → Q (.ref it) s → wpAny (model P w) A (pyIter (.ref it)) Q E s
abbrev TI := St → Hp → (It → Hp → Prop) → Prop
/-- an iterator has come -/
def PIE (X : Cx) (pins : List (Addr × Obj)) (σ : St) (tg : Expr) (R : It → Hp → Prop) (itv : Value) (s2 : Shared) : Prop :=
  ∃ (it : Addr) (fp : List Addr) (tn : Nat → Heap → Prop) (J : It) (H' : Hp), itv = .ref it ∧ Inv X pins σ H' s2 ∧ Turn X.prog X.w X.K tg J fp it tn ∧ tn 0 s2.heap ∧ (∀ b ∈ fp, FpOk X pins H' b) ∧ R J H'
def PI (X : Cx) (tg iter : Expr) (wi : TI) : Prop :=
  ∀ (pins : List (Addr × Obj)) (s : Shared) (σ : St) (H : Hp) (R : It → Hp → Prop), Inv X pins σ H s → wi σ H R →
    wpAny (model X.prog X.w) X.A (eval iter X.env) (fun v s1 => wpAny (model X.prog X.w) X.A (pyIter v) (PIE X pins σ tg R) X.xe s1) X.xe s

/-- the step ahead of the store is nothing for an iterator that keeps no tuple -/
theorem go_of {M : Model} {A : Around} {E : Value → Shared → Prop} {s : Shared} {tg : Expr} {it : Addr} {u : Value} {o : Obj} {n : String} {vs : Array Value} {Q : Unit → Shared → Prop} (ho : s.heap.get? it = some o) (hc : o.cls = .type n) (hd : o.data = .fields vs)
    (hn : ["enumerate", "zip", "dict_itemiterator", "dict_reverseitemiterator", "odict_iterator", "itertools.zip_longest", "itertools.pairwise"].contains n = false) (hQ : Q () s) : wpAny M A (letOwnedTupleGo tg (.ref it) u) Q E s := by
  unfold letOwnedTupleGo
  cases tg <;> first
    | exact wpAny_pure hQ
    | (cases u <;> first
        | exact wpAny_pure hQ
        | (refine wpAny_bind (wpAny_load ho ?_)
           rw [hc, hd]
           show wpAny M A (if (["enumerate", "zip", "dict_itemiterator", "dict_reverseitemiterator", "odict_iterator", "itertools.zip_longest", "itertools.pairwise"].contains n && vs[0]? == some (rawInt _)) = true then _ else _) Q E s
           rw [if_neg (by intro h; rw [hn, Bool.false_and] at h; cases h)]
           exact wpAny_pure hQ))

/-- the list at a, as it stands at each turn (a loop may append to it) -/
def Itl (K : PySem.W.Frag) (a : Addr) : It :=
  ⟨fun i H => ∃ xs x, SqL K H a xs ∧ xs[i]? = some x, fun i H x H' => H' = H ∧ ∀ xs, SqL K H a xs → xs[i]? = some x, fun i H => ∃ xs, SqL K H a xs ∧ xs.length ≤ i⟩
def Itt (K : PySem.W.Frag) (a : Addr) : It :=
  ⟨fun i H => ∃ xs x, SqT K H a xs ∧ xs[i]? = some x, fun i H x H' => H' = H ∧ ∀ xs, SqT K H a xs → xs[i]? = some x, fun i H => ∃ xs, SqT K H a xs ∧ xs.length ≤ i⟩
/-- lo, lo + 1, .. (n of them) -/
def Itr (lo : Int) (n : Nat) : It := ⟨fun i _ => i < n, fun i H x H' => H' = H ∧ x = .int (lo + i), fun i _ => n ≤ i⟩
theorem turn_list {P : Program} {w : World} {K : PySem.W.Frag} {tg : Expr} (a it : Addr) : Turn P w K tg (Itl K a) [it] it (fun i h => h.IsListIter it a i) where
  mem := by simp
  obj := fun i h st b hb => by
    have e : b = it := by simpa using hb
    subst e
    obtain ⟨o, e, c, d⟩ := st
    exact ⟨o, e, fun v z => by rw [d] at z; cases z⟩
  keep := fun i h h' st k => st.at fun o e => k it (by simp) o e
  item := by
    intro X hP hw hK hc i pins s σ H E I hf st hg
    subst hP hw hK
    obtain ⟨xs, x, hq, hx⟩ := hg
    obtain ⟨its, rv, p, hz⟩ := I.list hq
    obtain ⟨u, hu, ru⟩ := rv.get hx
    obtain ⟨f0, f1, f2, f3, f4, f5⟩ := hf it (by simp)
    refine wpAny_pyNext_list_item st p.isList (x := u) (by simpa using hu) fun h' st' sb => ?_
    have I1 : Inv X pins σ H { s with heap := h' } := I.turned (t' := s.toks) (fun b o hb e => (sb.2 b hb).trans e) f0 f1 f3 f4 f5
    obtain ⟨o, e, c, d⟩ := id st'
    exact ⟨u, rfl, go_of (s := { s with heap := h' }) e c d (by decide) ⟨x, H, I1, ru, ⟨rfl, fun ys hy => by rw [I.list_inj hy hq]; exact hx⟩, st', fun b hb => (hf b hb).1⟩⟩
  done := by
    intro X hP hw hK hc i pins s σ H E I hf st hg
    subst hP hw hK
    obtain ⟨xs, hq, hx⟩ := hg
    obtain ⟨its, rv, p, hz⟩ := I.list hq
    obtain ⟨f0, f1, f2, f3, f4, f5⟩ := hf it (by simp)
    have hl := rv.length
    exact wpAny_pyNext_list_end (I.ok.hd hc) st p.isList (by simp; omega) fun h' eb => ⟨rfl, I.turned (t' := s.toks) (fun b o hb e => eb b o hb e) f0 f1 f3 f4 f5⟩
  self := fun _ _ _ _ _ st h => wpAny_pyIter_listiter st h
theorem turn_tuple {P : Program} {w : World} {K : PySem.W.Frag} {tg : Expr} (a it : Addr) : Turn P w K tg (Itt K a) [it] it (fun i h => h.IsTupleIter it a i) where
  mem := by simp
  obj := fun i h st b hb => by
    have e : b = it := by simpa using hb
    subst e
    obtain ⟨o, e, c, d⟩ := st
    exact ⟨o, e, fun v z => by rw [d] at z; cases z⟩
  keep := fun i h h' st k => st.at fun o e => k it (by simp) o e
  item := by
    intro X hP hw hK hc i pins s σ H E I hf st hg
    subst hP hw hK
    obtain ⟨xs, x, hq, hx⟩ := hg
    obtain ⟨its, rv, p, hz⟩ := I.tuple hq
    obtain ⟨u, hu, ru⟩ := rv.get hx
    obtain ⟨f0, f1, f2, f3, f4, f5⟩ := hf it (by simp)
    refine wpAny_pyNext_tuple_item st (show s.heap.IsTuple a its.toArray from p) (x := u) (by simpa using hu) fun h' st' sb => ?_
    have I1 : Inv X pins σ H { s with heap := h' } := I.turned (t' := s.toks) (fun b o hb e => (sb.2 b hb).trans e) f0 f1 f3 f4 f5
    obtain ⟨o, e, c, d⟩ := id st'
    exact ⟨u, rfl, go_of (s := { s with heap := h' }) e c d (by decide) ⟨x, H, I1, ru, ⟨rfl, fun ys hy => by rw [I.tuple_inj hy hq]; exact hx⟩, st', fun b hb => (hf b hb).1⟩⟩
  done := by
    intro X hP hw hK hc i pins s σ H E I hf st hg
    subst hP hw hK
    obtain ⟨xs, hq, hx⟩ := hg
    obtain ⟨its, rv, p, hz⟩ := I.tuple hq
    obtain ⟨f0, f1, f2, f3, f4, f5⟩ := hf it (by simp)
    have hl := rv.length
    exact wpAny_pyNext_tuple_end (I.ok.hd hc) st (show s.heap.IsTuple a its.toArray from p) (by simp; omega) fun h' eb => ⟨rfl, I.turned (t' := s.toks) (fun b o hb e => eb b o hb e) f0 f1 f3 f4 f5⟩
  self := fun _ _ _ _ _ st h => wpAny_pyIter_tupleiter st h
theorem turn_range {P : Program} {w : World} {K : PySem.W.Frag} {tg : Expr} (it : Addr) (lo : Int) (n : Nat) : Turn P w K tg (Itr lo n) [it] it (fun i h => IsRangeIter h it (lo + (i : Nat) * 1) ((n : Int) - (i : Nat)) 1) where
  mem := by simp
  obj := fun i h st b hb => by
    have e : b = it := by simpa using hb
    subst e
    exact ⟨_, st, fun v z => by
      have z' : Data.fields _ = Data.cell v := z
      cases z'⟩
  keep := fun i h h' st k => k it (by simp) _ st
  item := by
    intro X hP hw hK hc i pins s σ H E I hf st hg
    subst hP hw hK
    obtain ⟨f0, f1, f2, f3, f4, f5⟩ := hf it (by simp)
    have W := Walks.range (prog := X.prog) (w := X.w) (I.ok.hd hc) it lo 1 n
    refine W.item i s _ _ hg st fun v h' tk hv st' kk => ?_
    obtain ⟨t, rfl⟩ := hv
    have I1 : Inv X pins σ H { s with heap := h', toks := tk } := I.turned (fun b o hb e => kk b o (by simpa using hb) e) f0 f1 f3 f4 f5
    refine ⟨_, rfl, go_of (s := { s with heap := h', toks := tk }) (n := "range_iterator") st' rfl rfl (by decide) ⟨.int (lo + i), H, I1, ⟨t, ?_⟩, ⟨rfl, rfl⟩, st', fun b hb => (hf b hb).1⟩⟩
    rw [Int.mul_one]
  done := by
    intro X hP hw hK hc i pins s σ H E I hf st hg
    subst hP hw hK
    obtain ⟨f0, f1, f2, f3, f4, f5⟩ := hf it (by simp)
    exact wpAny_pyNext_range_end (I.ok.hd hc) st (by have : n ≤ i := hg; omega) fun h' eb => ⟨rfl, I.turned (t' := s.toks) (fun b o hb e => eb b o hb e) f0 f1 f3 f4 f5⟩
  self := fun _ _ _ _ _ st h => wpAny_pyIter_rangeiter st h
end L2

namespace L2
open PySem PySem.Spec PyProof.Rows
section
variable {X : Cx} {tg : Expr}
def iList (K : PySem.W.Frag) (tl : TE) : TI := fun σ H R => tl σ H fun x H1 => ∃ a, x = .ref a ∧ (∃ xs, SqL K H1 a xs) ∧ R (Itl K a) H1
def iTup (K : PySem.W.Frag) (tl : TE) : TI := fun σ H R => tl σ H fun x H1 => ∃ a, x = .ref a ∧ (∃ xs, SqT K H1 a xs) ∧ R (Itt K a) H1
theorem pi_list {l : Expr} {tl : TE} (hl : PE X l tl) : PI X tg l (iList X.K tl) := by
  intro pins s σ H R I h
  refine thn (hl pins s σ H _ I h) fun v s1 ⟨x, H1, I1, r1, q1⟩ => ?_
  obtain ⟨a, e, ⟨xs, hq⟩, q⟩ := q1
  subst e
  cases r1
  obtain ⟨its, rv, p, hz⟩ := I1.list hq
  refine wpAny_pyIter_list p.isList ?_
  refine ⟨s1.heap.objs.size, [s1.heap.objs.size], _, _, H1, rfl, I1.kept (t' := s1.toks) fun b o e => Heap.get?_push_of_some _ e, turn_list a _, ⟨_, Heap.get?_push_size _ rfl, rfl, rfl⟩, fun b hb => ?_, q⟩
  have e : b = s1.heap.objs.size := by simpa using hb
  subst e
  exact I1.fpOk (Nat.le_refl _) (I1.hok.fresh (Nat.le_refl _))
theorem pi_tup {l : Expr} {tl : TE} (hl : PE X l tl) : PI X tg l (iTup X.K tl) := by
  intro pins s σ H R I h
  refine thn (hl pins s σ H _ I h) fun v s1 ⟨x, H1, I1, r1, q1⟩ => ?_
  obtain ⟨a, e, ⟨xs, hq⟩, q⟩ := q1
  subst e
  cases r1
  obtain ⟨its, rv, p, hz⟩ := I1.tuple hq
  refine wpAny_pyIter_tuple (show s1.heap.IsTuple a its.toArray from p) ?_
  refine ⟨s1.heap.objs.size, [s1.heap.objs.size], _, _, H1, rfl, I1.kept (t' := s1.toks) fun b o e => Heap.get?_push_of_some _ e, turn_tuple a _, ⟨_, Heap.get?_push_size _ rfl, rfl, rfl⟩, fun b hb => ?_, q⟩
  have e : b = s1.heap.objs.size := by simpa using hb
  subst e
  exact I1.fpOk (Nat.le_refl _) (I1.hok.fresh (Nat.le_refl _))
/-- a range object just made, walked -/
theorem range_it {pins : List (Addr × Obj)} {σ : St} {H : Hp} {s : Shared} {R : It → Hp → Prop} {E : Value → Shared → Prop} {lo hi : Int} {t u v : Tok} {tk : Nat} (I : Inv X pins σ H s) (h1 : -(2 ^ 62) ≤ lo) (h2 : lo < 2 ^ 62) (h3 : -(2 ^ 62) ≤ hi) (h4 : hi < 2 ^ 62)
    (q : R (Itr lo (hi - lo).toNat) H) : wpAny (model X.prog X.w) X.A (pyIter (.ref s.heap.objs.size)) (PIE X pins σ tg R) E { s with heap := s.heap.push { cls := .type "range", data := .fields #[.int lo t, .int hi u, .int 1 v] }, toks := tk } := by
  refine wpAny_pyIter_range (IsRange.new ..) (small_one h1 h2 h3 h4) ?_
  have I1 : Inv X pins σ H { s with heap := s.heap.push { cls := .type "range", data := .fields #[.int lo t, .int hi u, .int 1 v] }, toks := tk } := I.kept fun b o e => Heap.get?_push_of_some _ e
  refine ⟨(s.heap.push { cls := .type "range", data := .fields #[.int lo t, .int hi u, .int 1 v] }).objs.size, [(s.heap.push { cls := .type "range", data := .fields #[.int lo t, .int hi u, .int 1 v] }).objs.size], _, _, H, rfl,
    I1.kept (t' := tk) fun b o e => Heap.get?_push_of_some _ e, turn_range _ lo (hi - lo).toNat, ?_, fun b hb => ?_, q⟩
  · have e1 : lo + ((0 : Nat) : Int) * 1 = lo := by simp
    have e2 : (((hi - lo).toNat : Nat) : Int) - ((0 : Nat) : Int) = Builtin.Range.rangeSize lo hi 1 := by rw [rangeSize_one]; split <;> omega
    show IsRangeIter _ _ (lo + ((0 : Nat) : Int) * 1) ((((hi - lo).toNat : Nat) : Int) - ((0 : Nat) : Int)) 1
    rw [e1, e2]
    exact Heap.get?_push_size _ rfl
  · have e : b = (s.heap.push { cls := .type "range", data := .fields #[.int lo t, .int hi u, .int 1 v] }).objs.size := by simpa using hb
    subst e
    exact I1.fpOk (Nat.le_refl _) (I1.hok.fresh (Nat.le_refl _))
def iRng1 (ta : TA) : TI := fun σ H R => ta σ H fun vs H1 => ∃ j : Int, vs = [.int j] ∧ -(2 ^ 62) ≤ j ∧ j < 2 ^ 62 ∧ R (Itr 0 j.toNat) H1
def iRng2 (ta : TA) : TI := fun σ H R => ta σ H fun vs H1 => ∃ i j : Int, vs = [.int i, .int j] ∧ (-(2 ^ 62) ≤ i ∧ i < 2 ^ 62 ∧ -(2 ^ 62) ≤ j ∧ j < 2 ^ 62) ∧ R (Itr i (j - i).toNat) H1
theorem pi_range1 {a : Expr} {ta : TA} {p pos : Pos} (hg : Gl X "range") (hm : X.mg "range" = none) (ha : PA X [a] ta) (hs : starEach [a] X.env = [(false, eval a X.env)] := by rfl) : PI X tg (.Call (.Name "range" p) [a] [] pos) (iRng1 ta) := by
  intro pins s σ H R I h
  refine Call_ (ld_blt I hg hm boot_range (PyProof.Rows.callWith_type1 (thn (ha pos pins s σ H _ I h) fun us s1 ⟨vs, H1, I1, r1, q1⟩ => ?_) hs rfl))
  obtain ⟨j, e, q1, q2, q⟩ := q1
  subst e
  cases r1 with
  | cons r rr =>
    cases rr
    obtain ⟨t, rfl⟩ := r
    exact call_range_1 (range_it I1 (by omega) (by omega) q1 q2 (by simpa using q))
theorem pi_range2 {a b : Expr} {ta : TA} {p pos : Pos} (hg : Gl X "range") (hm : X.mg "range" = none) (ha : PA X [a, b] ta) (hs : starEach [a, b] X.env = [(false, eval a X.env), (false, eval b X.env)] := by rfl) (hs2 : starEach [b] X.env = [(false, eval b X.env)] := by rfl) :
    PI X tg (.Call (.Name "range" p) [a, b] [] pos) (iRng2 ta) := by
  intro pins s σ H R I h
  refine Call_ (ld_blt I hg hm boot_range (PyProof.Rows.callWith_type1 (thn (ha pos pins s σ H _ I h) fun us s1 ⟨vs, H1, I1, r1, q1⟩ => ?_) (by rw [hs, hs2]) (by rw [hs2]; rfl)))
  obtain ⟨i, j, e, ⟨q1, q2, q3, q4⟩, q⟩ := q1
  subst e
  cases r1 with
  | cons r rr =>
    cases rr with
    | cons r' rr =>
      cases rr
      obtain ⟨t, rfl⟩ := r
      obtain ⟨t', rfl⟩ := r'
      exact call_range_2 (range_it I1 q1 q2 q3 q4 q)

/-! ### for -/
/-- W: the invariant by the turn and a measure; N: what the body is to reach -/
def tFor (wi : TI) (g : TG) (tb : TS) : TS := fun D σ H => wi σ H fun J H1 => ∃ W : Nat → Nat → St → Hp → Prop, (∃ m, W 0 m σ H1) ∧ ∀ i m σ H, W i m σ H →
  (J.stop i H ∧ D.nx σ H) ∨ (J.go i H ∧ ∃ N : St → Hp → Prop, (∀ σ' H', N σ' H' → ∃ m', m' < m ∧ W (i + 1) m' σ' H') ∧ ∀ x H', J.yld i H x H' → g x σ H' fun σ2 H2 => tb { D with nx := N, ct := N, bk := D.nx } σ2 H2)
/-- the records at fp as they stand -/
def pinsAt (fp : List Addr) (h : Heap) : List (Addr × Obj) := fp.filterMap fun b => (h.get? b).map fun o => (b, o)
theorem mem_pinsAt {fp : List Addr} {h : Heap} {b : Addr} {o : Obj} (hb : b ∈ fp) (e : h.get? b = some o) : (b, o) ∈ pinsAt fp h := List.mem_filterMap.mpr ⟨b, hb, by rw [e]; rfl⟩
theorem of_pinsAt {fp : List Addr} {h : Heap} {p : Addr × Obj} (hp : p ∈ pinsAt fp h) : p.1 ∈ fp ∧ h.get? p.1 = some p.2 := by
  obtain ⟨b, hb, e⟩ := List.mem_filterMap.mp hp
  cases q : h.get? b with
  | none => rw [q] at e; cases e
  | some o =>
    rw [q] at e
    have e' : (b, o) = p := Option.some.inj e
    subst e'
    exact ⟨hb, q⟩
theorem Inv.pinned {pins : List (Addr × Obj)} {σ : St} {H : Hp} {s : Shared} {fp : List Addr} (I : Inv X pins σ H s) (hf : ∀ b ∈ fp, FpOk X pins H b) (ho : ∀ b ∈ fp, ∃ o, s.heap.get? b = some o ∧ ∀ v, o.data ≠ .cell v) : Inv X (pins ++ pinsAt fp s.heap) σ H s :=
  I.pins_of fun p hp => (List.mem_append.mp hp).elim (fun z => I.pin p (List.mem_append_right _ z)) fun z => by
    obtain ⟨hb, e⟩ := of_pinsAt z
    obtain ⟨f0, f1, f2, _⟩ := hf p.1 hb
    obtain ⟨o, e', d⟩ := ho p.1 hb
    rw [e] at e'; cases e'
    exact ⟨e, f0, f1, f2, d⟩
theorem Inv.unpinned {pins pl : List (Addr × Obj)} {σ : St} {H : Hp} {s : Shared} (I : Inv X (pins ++ pl) σ H s) : Inv X pins σ H s := I.pins_of fun p hp => I.pin p (List.mem_append_right _ (List.mem_append_left _ hp))
theorem ps_for {iter : Expr} {body : List Stmt} {wi : TI} {g : TG} {tb : TS} {pos : Pos} (hp : PassesOwn (model X.prog X.w) X.A X.env X.xe) (hc : X.calm = true) (hi : PI X tg iter wi) (hg : PG X tg g) (hb : PSs X body tb)
    (hs : ∀ x, foldedSetIterable iter X.env x = pure x := by intro _; rfl) : PS X (.For tg iter body [] pos) (tFor wi g tb) := by
  intro pins s σ H D I h
  refine wpAny_For (thn (hi pins s σ H _ I h) fun v s1 h1 => thn h1 fun itv s2 h2 => ?_) hs
  obtain ⟨it, fp, tn, J, H2, e, I2, T, st2, f2, W, ⟨m0, w0⟩, turn⟩ := h2
  subst e
  -- what stays true of the iterator's objects through the loop
  have stat : ∀ {H' : Hp}, (∀ b ∈ fp, H' b = none) → ∀ b ∈ fp, FpOk X pins H' b := fun hn b hb => ⟨hn b hb, (f2 b hb).2⟩
  refine codeAny_forLoop_any (fun n s' => ∃ i σ' H', Inv X pins σ' H' s' ∧ tn i s'.heap ∧ (∀ b ∈ fp, H' b = none) ∧ W i n σ' H') ?_ m0 ⟨0, σ, H2, I2, st2, fun b hb => (f2 b hb).1, w0⟩
  rintro n s3 ⟨i, σ3, H3, I3, st3, fr3, w3⟩
  rcases turn i n σ3 H3 w3 with ⟨stop, qn⟩ | ⟨go, N, hN, step⟩
  · refine wpAny_passesOwn hp (thn (T.done X rfl rfl rfl hc i pins s3 σ3 H3 X.xe I3 (stat fr3) st3 stop) fun r s4 ⟨hr, I4⟩ => ?_)
    subst hr
    exact wpAny_execs_nil ⟨σ3, H3, I4, qn⟩
  · refine wpAny_passesOwn hp (thn (T.item X rfl rfl rfl hc i pins s3 σ3 H3 X.xe I3 (stat fr3) st3 go) fun r s4 ⟨u, hr, h4⟩ => ?_)
    subst hr
    refine wpAny_passesOwn hp (thn h4 fun _ s5 ⟨x, H5, I5, r5, y5, st5, fr5⟩ => ?_)
    have I5' := I5.pinned (stat fr5) (T.obj _ _ st5)
    refine wpAny_passesOwn hp (thn (hg _ s5 σ3 H5 x u _ I5' r5 (step x H5 y5)) fun _ s6 ⟨σ6, H6, I6, q6⟩ => ?_)
    refine wpAny_passesOwn hp (thn (hb _ s6 σ6 H6 _ I6 q6) fun f s7 q7 => ?_)
    have again : ∀ {σ7 : St} {H7 : Hp}, Inv X (pins ++ pinsAt fp s5.heap) σ7 H7 s7 → N σ7 H7 → ∃ m, m < n ∧ ∃ i σ' H', Inv X pins σ' H' s7 ∧ tn i s7.heap ∧ (∀ b ∈ fp, H' b = none) ∧ W i m σ' H' := fun {σ7 H7} I7 n7 => by
      obtain ⟨m', hm, w7⟩ := hN σ7 H7 n7
      refine ⟨m', hm, i + 1, σ7, H7, I7.unpinned, T.keep _ _ _ st5 fun b hb o e => (I7.pin (b, o) (List.mem_append_right _ (List.mem_append_right _ (mem_pinsAt hb e)))).1, fun b hb => ?_, w7⟩
      obtain ⟨o, e, d⟩ := T.obj _ _ st5 b hb
      exact (I7.pin (b, o) (List.mem_append_right _ (List.mem_append_right _ (mem_pinsAt hb e)))).2.1
    cases f with
    | next => obtain ⟨σ7, H7, I7, n7⟩ := q7; exact again I7 n7
    | cont => obtain ⟨σ7, H7, I7, n7⟩ := q7; exact again I7 n7
    | brk => obtain ⟨σ7, H7, I7, q7⟩ := q7; exact ⟨σ7, H7, I7.unpinned, q7⟩
    | ret v => obtain ⟨x7, σ7, H7, I7, r7, q7⟩ := q7; exact ⟨x7, σ7, H7, I7.unpinned, r7, q7⟩
end

/-! ### the forms one uses -/
/-- over a list that the body leaves as it is -/
theorem for_list {K : PySem.W.Frag} {a : Addr} {xs : List V} {g : TG} {tb : TS} {D : Ends} {σ : St} {H : Hp} (Pv : Nat → St → Hp → Prop) (h0 : Pv 0 σ H) (hl : ∀ i σ H, i ≤ xs.length → Pv i σ H → SqL K H a xs)
    (hs : ∀ i x σ H, xs[i]? = some x → Pv i σ H → g x σ H fun σ2 H2 => tb { D with nx := Pv (i + 1), ct := Pv (i + 1), bk := D.nx } σ2 H2) (hd : ∀ σ H, Pv xs.length σ H → D.nx σ H) :
    ∃ W : Nat → Nat → St → Hp → Prop, (∃ m, W 0 m σ H) ∧ ∀ i m σ H, W i m σ H →
      ((Itl K a).stop i H ∧ D.nx σ H) ∨ ((Itl K a).go i H ∧ ∃ N : St → Hp → Prop, (∀ σ' H', N σ' H' → ∃ m', m' < m ∧ W (i + 1) m' σ' H') ∧ ∀ x H', (Itl K a).yld i H x H' → g x σ H' fun σ2 H2 => tb { D with nx := N, ct := N, bk := D.nx } σ2 H2) := by
  refine ⟨fun i m σ H => m = xs.length - i ∧ i ≤ xs.length ∧ Pv i σ H, ⟨xs.length, by simp, Nat.zero_le _, h0⟩, ?_⟩
  rintro i m σ H ⟨rfl, hi, p⟩
  have q := hl i σ H hi p
  by_cases hlt : i < xs.length
  · refine .inr ⟨⟨xs, xs[i], q, by simp [hlt]⟩, Pv (i + 1), fun σ' H' p' => ⟨xs.length - (i + 1), by omega, rfl, hlt, p'⟩, fun x H' y => ?_⟩
    obtain ⟨e, y⟩ := y
    subst e
    exact hs i x σ _ (y xs q) p
  · have e : i = xs.length := by omega
    subst e
    exact .inl ⟨⟨xs, q, Nat.le_refl _⟩, hd σ H p⟩
theorem for_range {lo : Int} {n : Nat} {g : TG} {tb : TS} {D : Ends} {σ : St} {H : Hp} (Pv : Nat → St → Hp → Prop) (h0 : Pv 0 σ H)
    (hs : ∀ i σ H, i < n → Pv i σ H → g (.int (lo + i)) σ H fun σ2 H2 => tb { D with nx := Pv (i + 1), ct := Pv (i + 1), bk := D.nx } σ2 H2) (hd : ∀ σ H, Pv n σ H → D.nx σ H) :
    ∃ W : Nat → Nat → St → Hp → Prop, (∃ m, W 0 m σ H) ∧ ∀ i m σ H, W i m σ H →
      ((Itr lo n).stop i H ∧ D.nx σ H) ∨ ((Itr lo n).go i H ∧ ∃ N : St → Hp → Prop, (∀ σ' H', N σ' H' → ∃ m', m' < m ∧ W (i + 1) m' σ' H') ∧ ∀ x H', (Itr lo n).yld i H x H' → g x σ H' fun σ2 H2 => tb { D with nx := N, ct := N, bk := D.nx } σ2 H2) := by
  refine ⟨fun i m σ H => m = n - i ∧ i ≤ n ∧ Pv i σ H, ⟨n, by simp, Nat.zero_le _, h0⟩, ?_⟩
  rintro i m σ H ⟨rfl, hi, p⟩
  by_cases hlt : i < n
  · refine .inr ⟨hlt, Pv (i + 1), fun σ' H' p' => ⟨n - (i + 1), by omega, rfl, hlt, p'⟩, fun x H' y => ?_⟩
    obtain ⟨e, y⟩ := y
    subst e y
    exact hs i σ _ hlt p
  · have e : i = n := by omega
    subst e
    exact .inl ⟨Nat.le_refl _, hd σ H p⟩
end L2

namespace L2
open PySem PySem.Spec PyProof.Rows

abbrev R2 := V → V → Hp → VK → Prop
/-- a two-place operation on values: f is binaryOp op, inplaceOp op or compareOp op -/
def OpR (X : Cx) (f : Value → Value → Sem Value) (r : R2) : Prop :=
  ∀ (pins : List (Addr × Obj)) (s : Shared) (σ : St) (H : Hp) (x y : V) (v u : Value) (Q : VK), Inv X pins σ H s → RelV x v → RelV y u → r x y H Q →
    wpAny (model X.prog X.w) X.A (f v u) (EP X pins σ Q) X.xe s
/-- a one-place operation -/
def UnR (X : Cx) (f : Value → Sem Value) (r : V → Hp → VK → Prop) : Prop :=
  ∀ (pins : List (Addr × Obj)) (s : Shared) (σ : St) (H : Hp) (x : V) (v : Value) (Q : VK), Inv X pins σ H s → RelV x v → r x H Q →
    wpAny (model X.prog X.w) X.A (f v) (EP X pins σ Q) X.xe s
/-- a call of a value that is known (a builtin, a type) with values -/
def CallR (X : Cx) (f : Value) (r : List V → Hp → VK → Prop) : Prop :=
  ∀ (pins : List (Addr × Obj)) (s : Shared) (σ : St) (H : Hp) (xs : List V) (us : List Value) (Q : VK), Inv X pins σ H s → Vals xs us → r xs H Q →
    wpAny (model X.prog X.w) X.A (call f us) (EP X pins σ Q) X.xe s
/-- a value's truth -/
def TruR (X : Cx) (r : V → Hp → (Bool → Hp → Prop) → Prop) : Prop :=
  ∀ (pins : List (Addr × Obj)) (s : Shared) (σ : St) (H : Hp) (x : V) (v : Value) (Q : Bool → Hp → Prop), Inv X pins σ H s → RelV x v → r x H Q →
    wpAny (model X.prog X.w) X.A (truthy v) (TP X pins σ Q) X.xe s

def tOp (r : R2) (ta tb : TE) : TE := fun σ H Q => ta σ H fun x H1 => tb σ H1 fun y H2 => r x y H2 Q
def tUn (r : V → Hp → VK → Prop) (ta : TE) : TE := fun σ H Q => ta σ H fun x H1 => r x H1 Q
/-- ints in, under C, and a value out -/
def rI (C : Int → Int → Prop) (g : Int → Int → V) : R2 := fun x y H Q => ∃ i j, x = .int i ∧ y = .int j ∧ C i j ∧ Q (g i j) H
def rI0 (g : Int → Int → V) : R2 := fun x y H Q => ∃ i j, x = .int i ∧ y = .int j ∧ Q (g i j) H
def rU (g : Int → V) : V → Hp → VK → Prop := fun x H Q => ∃ i, x = .int i ∧ Q (g i) H

section
variable {X : Cx} {a b c : Expr} {ta tb tc : TE} {pos : Pos}

theorem binT (ha : PE X a ta) (hb : PE X b tb) {pins : List (Addr × Obj)} {s : Shared} {σ : St} {H : Hp} {R : V → V → Hp → Prop} (I : Inv X pins σ H s)
    (h : ta σ H fun x H1 => tb σ H1 fun y H2 => R x y H2) {Q : Value → Shared → Prop} {f : Value → Value → Sem Value}
    (hf : ∀ v u s2 x y H2, Inv X pins σ H2 s2 → RelV x v → RelV y u → R x y H2 → wpAny (model X.prog X.w) X.A (f v u) Q X.xe s2) :
    wpAny (model X.prog X.w) X.A (eval a X.env) (fun v s₁ => wpAny (model X.prog X.w) X.A (eval b X.env) (fun u s₂ => wpAny (model X.prog X.w) X.A (f v u) Q X.xe s₂) X.xe s₁) X.xe s := by
  refine thn (ha pins s σ H _ I h) fun v s1 ⟨x, H1, I1, r1, q1⟩ => ?_
  refine thn (hb pins s1 σ H1 _ I1 q1) fun u s2 ⟨y, H2, I2, r2, q2⟩ => ?_
  exact hf v u s2 x y H2 I2 r1 r2 q2

theorem pe_op {op : Operator} {r : R2} (ho : OpR X (binaryOp op) r) (ha : PE X a ta) (hb : PE X b tb) : PE X (.BinOp a op b pos) (tOp r ta tb) := by
  intro pins s σ H Q I h
  exact wpAny_BinOp (binT ha hb I h fun v u s2 x y H2 I2 rx ry q => ho pins s2 σ H2 x y v u Q I2 rx ry q)
theorem pe_un {op : UnaryOp} {r : V → Hp → VK → Prop} (ho : UnR X (unaryOp op) r) (ha : PE X a ta) : PE X (.UnaryOp op a pos) (tUn r ta) := by
  intro pins s σ H Q I h
  exact UnaryOp_ (thn (ha pins s σ H _ I h) fun v s1 ⟨x, H1, I1, r1, q1⟩ => ho pins s1 σ H1 x v Q I1 r1 q1)
/-! ### ints -/
theorem opI {f : Value → Value → Sem Value} {C : Int → Int → Prop} {g : Int → Int → Int}
    (rule : ∀ (i j : Int) (t u : Tok) (s : Shared) (Q : Value → Shared → Prop) (E : Value → Shared → Prop), C i j → Q (.int (g i j) s.toks) { s with toks := s.toks + 1 } → wpAny (model X.prog X.w) X.A (f (.int i t) (.int j u)) Q E s) :
    OpR X f (rI C fun i j => .int (g i j)) := by
  intro pins s σ H x y v u Q I rx ry h
  obtain ⟨i, j, rfl, rfl, hc, q⟩ := h
  obtain ⟨t, rfl⟩ := rx
  obtain ⟨t', rfl⟩ := ry
  exact rule i j t t' s _ _ hc ⟨.int (g i j), H, I.tok _, ⟨_, rfl⟩, q⟩
theorem opI0 {f : Value → Value → Sem Value} {g : Int → Int → Int}
    (rule : ∀ (i j : Int) (t u : Tok) (s : Shared) (Q : Value → Shared → Prop) (E : Value → Shared → Prop), Q (.int (g i j) s.toks) { s with toks := s.toks + 1 } → wpAny (model X.prog X.w) X.A (f (.int i t) (.int j u)) Q E s) :
    OpR X f (rI0 fun i j => .int (g i j)) := by
  intro pins s σ H x y v u Q I rx ry h
  obtain ⟨i, j, rfl, rfl, q⟩ := h
  obtain ⟨t, rfl⟩ := rx
  obtain ⟨t', rfl⟩ := ry
  exact rule i j t t' s _ _ ⟨.int (g i j), H, I.tok _, ⟨_, rfl⟩, q⟩
theorem opB0 {f : Value → Value → Sem Value} {g : Int → Int → Bool}
    (rule : ∀ (i j : Int) (t u : Tok) (s : Shared) (Q : Value → Shared → Prop) (E : Value → Shared → Prop), Q (.bool (g i j)) s → wpAny (model X.prog X.w) X.A (f (.int i t) (.int j u)) Q E s) :
    OpR X f (rI0 fun i j => .bl (g i j)) := by
  intro pins s σ H x y v u Q I rx ry h
  obtain ⟨i, j, rfl, rfl, q⟩ := h
  obtain ⟨t, rfl⟩ := rx
  obtain ⟨t', rfl⟩ := ry
  exact rule i j t t' s _ _ ⟨.bl (g i j), H, I, rfl, q⟩

def CDiv (i j : Int) : Prop := 0 < j ∧ j < 1073741824
def CDivN (i j : Int) : Prop := j ≠ 0 ∧ j.natAbs < 1073741824
def CPow (i j : Int) : Prop := 0 ≤ j ∧ j ≤ 1000000 ∧ i.natAbs < 2 ^ 64
def CMul (i j : Int) : Prop := (-(2 ^ 64) < i ∧ i < 2 ^ 64) ∨ (-(2 ^ 64) < j ∧ j < 2 ^ 64)
theorem CMul.ok {i j : Int} (h : CMul i j) : IntMulOk i j := by
  rcases h with ⟨h1, h2⟩ | ⟨h1, h2⟩
  · exact .of_left (intBits_le_64 h1 h2)
  · exact .of_right (intBits_le_64 h1 h2)
theorem op_add : OpR X (binaryOp .Add) (rI0 fun i j => .int (i + j)) := opI0 fun _ _ _ _ _ _ _ q => add_int q
theorem op_sub : OpR X (binaryOp .Sub) (rI0 fun i j => .int (i - j)) := opI0 fun _ _ _ _ _ _ _ q => sub_int q
theorem op_mul : OpR X (binaryOp .Mult) (rI CMul fun i j => .int (i * j)) := opI fun _ _ _ _ _ _ _ hc q => mul_int q hc.ok
/-- // by a positive divisor -/
theorem op_fdiv : OpR X (binaryOp .FloorDiv) (rI CDiv fun i j => .int (i / j)) := opI fun i j _ _ _ _ _ hc q => by
  have h1 : (0 : Int) < j := hc.1
  have h2 : j < 1073741824 := hc.2
  exact floordiv_int (by omega) (by rw [Int.fdiv_eq_ediv_of_nonneg i (by omega)]; exact q) (.inl (PyProof.noPylong_small (by omega)))
/-- % by a positive divisor of any size -/
theorem op_mod : OpR X (binaryOp .Mod) (rI (fun _ j => 0 < j) fun i j => .int (i % j)) := opI fun i j _ _ _ _ _ hc q => by
  have h1 : (0 : Int) < j := hc
  exact mod_int' (by omega) (by rw [Int.fmod_eq_emod_of_nonneg i (by omega)]; exact q)
theorem unI {f : Value → Sem Value} {g : Int → Int}
    (rule : ∀ (i : Int) (t : Tok) (s : Shared) (Q : Value → Shared → Prop) (E : Value → Shared → Prop), Q (.int (g i) s.toks) { s with toks := s.toks + 1 } → wpAny (model X.prog X.w) X.A (f (.int i t)) Q E s) :
    UnR X f (rU fun i => .int (g i)) := by
  intro pins s σ H x v Q I rx h
  obtain ⟨i, rfl, q⟩ := h
  obtain ⟨t, rfl⟩ := rx
  exact rule i t s _ _ ⟨.int (g i), H, I.tok _, ⟨_, rfl⟩, q⟩
theorem un_neg : UnR X (unaryOp .USub) (rU fun i => .int (-i)) := unI fun _ _ _ _ _ q => neg_int q
/-! ### bools among ints: n += (a < b) -/
end

/-! ### comparisons -/
/-- the scalars that == tells apart as data does -/
def scal : V → V → Bool
  | .non, .non => true | .non, .int _ => true | .int _, .non => true | .non, .bl _ => true | .bl _, .non => true | .non, .str _ => true | .str _, .non => true
  | .int _, .int _ => true | .bl _, .bl _ => true | .str _, .str _ => true | .byt _, .byt _ => true
  | .int _, .str _ => true | .str _, .int _ => true | .bl _, .str _ => true | .str _, .bl _ => true
  | _, _ => false
def rEq : R2 := fun x y H Q => scal x y = true ∧ Q (.bl (decide (x = y))) H
def rNe : R2 := fun x y H Q => scal x y = true ∧ Q (.bl (!decide (x = y))) H

theorem dec_int {i j : Int} : decide (V.int i = V.int j) = (i == j) := by
  rw [Bool.eq_iff_iff]
  simp
theorem dec_bl {i j : Bool} : decide (V.bl i = V.bl j) = (i == j) := by
  rw [Bool.eq_iff_iff]
  simp
theorem dec_str {i j : Str} : decide (V.str i = V.str j) = (i == j) := by
  rw [Bool.eq_iff_iff]
  simp
theorem dec_byt {i j : Array UInt8} : decide (V.byt i = V.byt j) = (i.toList == j.toList) := by
  rw [Bool.eq_iff_iff]
  cases i
  cases j
  simp

section
variable {X : Cx} {a b c : Expr} {ta tb tc : TE} {pos : Pos}
theorem fin_bl {pins : List (Addr × Obj)} {σ : St} {H : Hp} {s : Shared} {Q : VK} {k k' : Bool} (I : Inv X pins σ H s) (q : Q (.bl k) H) (e : k = k') : EP X pins σ Q (.bool k') s := by
  subst e
  exact ⟨.bl k, H, I, rfl, q⟩
theorem op_eq : OpR X (compareOp .Eq) rEq := by
  intro pins s σ H x y v u Q I rx ry h
  obtain ⟨hs, q⟩ := h
  cases x with
  | non =>
    cases rx
    cases y with
    | non => cases ry; exact PySem.EqNone.eq_none_none (fin_bl I q (by simp))
    | bl j => cases ry; exact PySem.EqNone.eq_none_bool (fin_bl I q (by simp))
    | int j => obtain ⟨t', rfl⟩ := ry; exact PySem.EqNone.eq_none_int (fin_bl I q (by simp))
    | str j => obtain ⟨t', rfl⟩ := ry; exact PySem.EqNone.eq_none_str (fin_bl I q (by simp))
    | _ => exact absurd (show false = true from hs) Bool.false_ne_true
  | bl i =>
    cases rx
    cases y with
    | non => cases ry; exact PySem.EqNone.eq_bool_none (fin_bl I q (by simp))
    | bl j => cases ry; exact eq_bool (fin_bl I q dec_bl)
    | str j => obtain ⟨t', rfl⟩ := ry; exact PySem.EqMixed.eq_bool_str (fin_bl I q (by simp))
    | _ => exact absurd (show false = true from hs) Bool.false_ne_true
  | int i =>
    obtain ⟨t, rfl⟩ := rx
    cases y with
    | non => cases ry; exact PySem.EqNone.eq_int_none (fin_bl I q (by simp))
    | int j => obtain ⟨t', rfl⟩ := ry; exact eq_int (fin_bl I q dec_int)
    | str j => obtain ⟨t', rfl⟩ := ry; exact PySem.EqMixed.eq_int_str (fin_bl I q (by simp))
    | _ => exact absurd (show false = true from hs) Bool.false_ne_true
  | str i =>
    obtain ⟨t, rfl⟩ := rx
    cases y with
    | non => cases ry; exact PySem.EqNone.eq_str_none (fin_bl I q (by simp))
    | bl j => cases ry; exact PySem.EqMixed.eq_str_bool (fin_bl I q (by simp))
    | int j => obtain ⟨t', rfl⟩ := ry; exact PySem.EqMixed.eq_str_int (fin_bl I q (by simp))
    | str j => obtain ⟨t', rfl⟩ := ry; exact eq_str (fin_bl I q dec_str)
    | _ => exact absurd (show false = true from hs) Bool.false_ne_true
  | byt i =>
    obtain ⟨t, rfl⟩ := rx
    cases y with
    | byt j => obtain ⟨t', rfl⟩ := ry; exact PySem.W.eq_bytes (fin_bl I q dec_byt)
    | _ => exact absurd (show false = true from hs) Bool.false_ne_true
  | _ => cases y <;> exact absurd (show false = true from hs) Bool.false_ne_true
theorem op_ne : OpR X (compareOp .NotEq) rNe := by
  intro pins s σ H x y v u Q I rx ry h
  obtain ⟨hs, q⟩ := h
  cases x with
  | non =>
    cases rx
    cases y with
    | non => cases ry; exact PySem.EqNone.ne_none_none (fin_bl I q (by simp))
    | bl j => cases ry; exact PySem.EqNone.ne_none_bool (fin_bl I q (by simp))
    | int j => obtain ⟨t', rfl⟩ := ry; exact PySem.EqNone.ne_none_int (fin_bl I q (by simp))
    | str j => obtain ⟨t', rfl⟩ := ry; exact PySem.EqNone.ne_none_str (fin_bl I q (by simp))
    | _ => exact absurd (show false = true from hs) Bool.false_ne_true
  | bl i =>
    cases rx
    cases y with
    | non => cases ry; exact PySem.EqNone.ne_bool_none (fin_bl I q (by simp))
    | bl j => cases ry; exact ne_bool (fin_bl I q (congrArg not dec_bl))
    | str j => obtain ⟨t', rfl⟩ := ry; exact PySem.EqMixed.ne_bool_str (fin_bl I q (by simp))
    | _ => exact absurd (show false = true from hs) Bool.false_ne_true
  | int i =>
    obtain ⟨t, rfl⟩ := rx
    cases y with
    | non => cases ry; exact PySem.EqNone.ne_int_none (fin_bl I q (by simp))
    | int j => obtain ⟨t', rfl⟩ := ry; exact ne_int (fin_bl I q (congrArg not dec_int))
    | str j => obtain ⟨t', rfl⟩ := ry; exact PySem.EqMixed.ne_int_str (fin_bl I q (by simp))
    | _ => exact absurd (show false = true from hs) Bool.false_ne_true
  | str i =>
    obtain ⟨t, rfl⟩ := rx
    cases y with
    | non => cases ry; exact PySem.EqNone.ne_str_none (fin_bl I q (by simp))
    | bl j => cases ry; exact PySem.EqMixed.ne_str_bool (fin_bl I q (by simp))
    | int j => obtain ⟨t', rfl⟩ := ry; exact PySem.EqMixed.ne_str_int (fin_bl I q (by simp))
    | str j => obtain ⟨t', rfl⟩ := ry; exact ne_str (fin_bl I q (congrArg not dec_str))
    | _ => exact absurd (show false = true from hs) Bool.false_ne_true
  | byt i =>
    obtain ⟨t, rfl⟩ := rx
    cases y with
    | byt j => obtain ⟨t', rfl⟩ := ry; exact PySem.W.ne_bytes (fin_bl I q (congrArg not dec_byt))
    | _ => exact absurd (show false = true from hs) Bool.false_ne_true
  | _ => cases y <;> exact absurd (show false = true from hs) Bool.false_ne_true

theorem op_lt : OpR X (compareOp .Lt) (rI0 fun i j => .bl (decide (i < j))) := opB0 fun _ _ _ _ _ _ _ q => lt_int q
theorem op_le : OpR X (compareOp .LtE) (rI0 fun i j => .bl (decide (i ≤ j))) := opB0 fun _ _ _ _ _ _ _ q => le_int q
theorem op_gt : OpR X (compareOp .Gt) (rI0 fun i j => .bl (decide (j < i))) := opB0 fun _ _ _ _ _ _ _ q => gt_int q
theorem op_notN : OpR X (compareOp .IsNot) (fun x y H Q => y = .non ∧ Q (.bl (!decide (x = .non))) H) := by
  intro pins s σ H x y v u Q I rx ry h
  obtain ⟨rfl, q⟩ := h
  cases ry
  refine isnot_none_gen (fin_bl I q ?_)
  cases x <;> first
    | (cases rx; rfl)
    | (obtain ⟨t, rfl⟩ := rx; rfl)

/-- is, is not of two objects that are tracked lists or instances -/
def isObj : HO → Bool
  | .lst _ => true
  | .ins _ _ _ => true
  | _ => false
/-- two rules for one operation: by cases -/
theorem OpR.or {f : Value → Value → Sem Value} {r r' : R2} (h : OpR X f r) (h' : OpR X f r') : OpR X f (fun x y H Q => r x y H Q ∨ r' x y H Q) := by
  intro pins s σ H x y v u Q I rx ry q
  rcases q with q | q
  · exact h pins s σ H x y v u Q I rx ry q
  · exact h' pins s σ H x y v u Q I rx ry q

theorem nomark (b : Expr) {op : CmpOp} (h : op ≠ .In := by decide) (h2 : op ≠ .NotIn := by decide) : behindInMarks op b = false := by
  have e1 : (op == CmpOp.In) = false := by cases op <;> first | rfl | exact absurd rfl h
  have e2 : (op == CmpOp.NotIn) = false := by cases op <;> first | rfl | exact absurd rfl h2
  cases b <;> simp [behindInMarks, e1, e2]
/-- a comparison as a value; hm: nomark b, or (for in, not in) by with_unfolding_all rfl -/
theorem pe_cmpR {op : CmpOp} {r : R2} (ho : OpR X (compareOp op) r) (ha : PE X a ta) (hb : PE X b tb) (hm : behindInMarks op b = false) : PE X (.Compare a [op] [b] pos) (tOp r ta tb) := by
  intro pins s σ H Q I h
  exact wpAny_Compare1 (binT ha hb I h fun v u s2 x y H2 I2 rx ry q => ho pins s2 σ H2 x y v u Q I2 rx ry q) hm
/-- a reading of a value as a test -/
def tTest (t : TE) : TT := fun σ H Q => t σ H fun x H' => ∃ k, x = .bl k ∧ Q k H'
theorem pt_cmpR {op : CmpOp} {r : R2} (ho : OpR X (compareOp op) r) (ha : PE X a ta) (hb : PE X b tb) (hm : behindInMarks op b = false) : PT X (.Compare a [op] [b] pos) (tTest (tOp r ta tb)) := by
  intro pins s σ H Q I h
  refine wpAny_isTrue_Compare1 (thn (ha pins s σ H _ I h) fun v s1 ⟨x, H1, I1, r1, q1⟩ => thn (hb pins s1 σ H1 _ I1 q1) fun u s2 ⟨y, H2, I2, r2, q2⟩ =>
    thn (ho pins s2 σ H2 x y v u _ I2 r1 r2 q2) fun c s3 ⟨z, H3, I3, r3, k, e, q3⟩ => ?_) hm
  subst e
  cases r3
  exact wpAny_truthy_bool ⟨H3, I3, q3⟩
/-- a op1 b op2 c -/
def tChain (r r' : R2) (ta tb tc : TE) : TE := fun σ H Q => ta σ H fun x H1 => tb σ H1 fun y H2 => r x y H2 fun z H3 => ∃ k, z = .bl k ∧
  (if k = true then tc σ H3 fun w' H4 => r' y w' H4 Q else Q (.bl false) H3)
theorem pe_chain {op op' : CmpOp} {r r' : R2} (ho : OpR X (compareOp op) r) (ho' : OpR X (compareOp op') r') (ha : PE X a ta) (hb : PE X b tb) (hc : PE X c tc)
    (hm : lastMarks [op, op'] [b, c] = false := by with_unfolding_all rfl) : PE X (.Compare a [op, op'] [b, c] pos) (tChain r r' ta tb tc) := by
  intro pins s σ H Q I h
  refine Compare_chain (thn (ha pins s σ H _ I h) fun v s1 ⟨x, H1, I1, r1, q1⟩ => chain_link (thn (hb pins s1 σ H1 _ I1 q1) fun u s2 ⟨y, H2, I2, r2, q2⟩ =>
    thn (ho pins s2 σ H2 x y v u _ I2 r1 r2 q2) fun d s3 ⟨z, H3, I3, r3, k, e, q3⟩ => ?_)) hm
  subst e
  cases r3
  refine wpAny_truthy_bool ?_
  cases k with
  | false => exact ite_ff ⟨.bl false, H3, I3, rfl, q3⟩
  | true => exact ite_tt (chain_last (thn (hc pins s3 σ H3 _ I3 q3) fun w' s4 ⟨z', H4, I4, r4, q4⟩ => ho' pins s4 σ H4 y z' u w' Q I4 r2 r4 q4))
theorem pt_chain {op op' : CmpOp} {r r' : R2} (ho : OpR X (compareOp op) r) (ho' : OpR X (compareOp op') r') (ha : PE X a ta) (hb : PE X b tb) (hc : PE X c tc)
    (hm : lastMarks [op, op'] [b, c] = false := by with_unfolding_all rfl) : PT X (.Compare a [op, op'] [b, c] pos) (tTest (tChain r r' ta tb tc)) := by
  intro pins s σ H Q I h
  refine isTrue_chain (thn (ha pins s σ H _ I h) fun v s1 ⟨x, H1, I1, r1, q1⟩ => test_link (thn (hb pins s1 σ H1 _ I1 q1) fun u s2 ⟨y, H2, I2, r2, q2⟩ =>
    thn (ho pins s2 σ H2 x y v u _ I2 r1 r2 q2) fun d s3 ⟨z, H3, I3, r3, k, e, q3⟩ => ?_)) hm
  subst e
  cases r3
  refine wpAny_truthy_bool ?_
  cases k with
  | false =>
    obtain ⟨k', e', q'⟩ := q3
    cases e'
    exact ite_ff ⟨H3, I3, q'⟩
  | true =>
    refine ite_tt (test_last (thn (hc pins s3 σ H3 _ I3 q3) fun w' s4 ⟨z', H4, I4, r4, q4⟩ => thn (ho' pins s4 σ H4 y z' u w' _ I4 r2 r4 q4) fun d' s5 ⟨z2, H5, I5, r5, k2, e2, q5⟩ => ?_))
    subst e2
    cases r5
    exact wpAny_truthy_bool ⟨H5, I5, q5⟩

/-! ### truth -/
/-- a value's truth by the abstract heap -/
def TruV (K : PySem.W.Frag) (x : V) (H : Hp) (k : Bool) : Prop :=
  match x with
  | .non => k = false
  | .bl b => k = b
  | .int i => k = (i != 0)
  | .str y => y.length ≤ sizeLine ∧ k = ((y.length : Int) != 0)
  | .byt y => y.size ≤ sizeLine ∧ k = ((y.size : Int) != 0)
  | .ref p => (∃ xs, SqL K H p xs ∧ k = !xs.isEmpty) ∨ (∃ xs, SqT K H p xs ∧ k = !xs.isEmpty) ∨ ∃ kvs, H p = some (.dK kvs) ∧ k = !kvs.isEmpty
  | _ => False
theorem isEmpty_kv {κ : Type} {kvs : List (κ × V)} {vs : List (κ × Value)} (r : KV kvs vs) : (!vs.isEmpty) = !kvs.isEmpty := by
  cases r <;> rfl
theorem isEmpty_of {xs : List V} {its : List Value} (r : Vals xs its) : (!its.toArray.isEmpty) = !xs.isEmpty := by
  cases r <;> simp
theorem line63 : (sizeLine : Nat) < 2 ^ 63 := by rw [sizeLine_eq]; decide
theorem tru_ok : TruR X (fun x H Q => ∃ k, TruV X.K x H k ∧ Q k H) := by
  intro pins s σ H x v Q I rx h
  obtain ⟨k, e, q⟩ := h
  have hl := line63
  have hs : sizeLine = 16777216 := sizeLine_eq
  cases x with
  | non =>
    cases rx
    have e' : k = false := e
    subst e'
    exact truthy_none ⟨H, I, q⟩
  | bl b =>
    cases rx
    have e' : k = b := e
    subst e'
    exact wpAny_truthy_bool ⟨H, I, q⟩
  | int i =>
    obtain ⟨t, rfl⟩ := rx
    have e' : k = (i != 0) := e
    subst e'
    exact PySem.P.truthy_int ⟨H, I, q⟩
  | str y =>
    obtain ⟨t, rfl⟩ := rx
    obtain ⟨hy, e'⟩ : y.length ≤ sizeLine ∧ k = ((y.length : Int) != 0) := e
    subst e'
    exact PySem.P.truthy_str (by omega) ⟨H, I.tok _, q⟩
  | byt y =>
    obtain ⟨t, rfl⟩ := rx
    obtain ⟨hy, e'⟩ : y.size ≤ sizeLine ∧ k = ((y.size : Int) != 0) := e
    subst e'
    exact PySem.W.truthy_bytes (by omega) ⟨H, I.tok _, q⟩
  | ref p =>
    cases rx
    have e' : (∃ xs, SqL X.K H p xs ∧ k = !xs.isEmpty) ∨ (∃ xs, SqT X.K H p xs ∧ k = !xs.isEmpty) ∨ ∃ kvs, H p = some (.dK kvs) ∧ k = !kvs.isEmpty := e
    rcases e' with ⟨xs, hx, e'⟩ | ⟨xs, hx, e'⟩ | ⟨kvs, hx, e'⟩
    · subst e'
      obtain ⟨its, r, pl, hz⟩ := I.list hx
      have hlen := r.length
      exact wpAny_truthy_list pl.isList (by simp only [List.size_toArray]; omega) ⟨H, I.tok _, by rw [isEmpty_of r]; exact q⟩
    · subst e'
      obtain ⟨its, r, pl, hz⟩ := I.tuple hx
      have hlen := r.length
      exact truthy_tuple pl (by simp only [List.size_toArray]; omega) ⟨H, I.tok _, by rw [isEmpty_of r]; exact q⟩
    · subst e'
      obtain ⟨hz, hS, vs, r, m⟩ : kvs.length ≤ sizeLine ∧ (p == sysModules) = false ∧ ∃ vs, KV kvs vs ∧ s.heap.DictOf (mixKind X.prog X.w) p vs := I.hok p _ hx
      have hlen : kvs.length = vs.length := Paired.length r
      exact wpAny_truthy_dict hS m (by omega) ⟨H, I.tok _, by rw [isEmpty_kv r]; exact q⟩
  | _ => exact (show False from e).elim
/-- any expression whose test is its value's truth (a name, a call, a subscript, a field ..: he by fun _ => rfl) -/
theorem pt_truth (ha : PE X a ta) (he : ∀ whole, isTrue a X.env whole = (do let v ← whole; standAt a.pos; holding [v] (truthy v))) :
    PT X a (fun σ H Q => ta σ H fun x H' => ∃ k, TruV X.K x H' k ∧ Q k H') := by
  intro pins s σ H Q I h
  exact isTrue_plain (thn (ha pins s σ H _ I h) fun v s1 ⟨x, H1, I1, r1, q1⟩ => tru_ok pins s1 σ H1 x v Q I1 r1 q1) (he _)

/-! ### strs and bytes -/
theorem op_add_str : OpR X (binaryOp .Add) (fun x y H Q => ∃ i j, x = .str i ∧ y = .str j ∧ i.length + j.length ≤ sizeLine ∧ Q (.str (i ++ j)) H) := by
  intro pins s σ H x y v u Q I rx ry h
  obtain ⟨i, j, rfl, rfl, hz, q⟩ := h
  obtain ⟨t, rfl⟩ := rx
  obtain ⟨t', rfl⟩ := ry
  exact add_str (fun t' tk => ⟨.str (i ++ j), H, I.tok _, ⟨_, rfl⟩, q⟩) hz
def PlainIxT (b : Expr) : Prop := ∀ o i, subscripted b false o i = operate [o, i] (getItem o i)
/-! ### scalar builtins, by CallR -/
theorem vals1 {x : V} {us : List Value} (r : Vals [x] us) : ∃ u, us = [u] ∧ RelV x u := by
  cases r with
  | cons r1 r2 => cases r2; exact ⟨_, rfl, r1⟩
theorem vals2 {x y : V} {us : List Value} (r : Vals [x, y] us) : ∃ u w', us = [u, w'] ∧ RelV x u ∧ RelV y w' := by
  cases r with
  | cons r1 r2 =>
    cases r2 with
    | cons r3 r4 => cases r4; exact ⟨_, _, rfl, r1, r3⟩
theorem call_min2 (hc : X.calm = true) : CallR X (.builtin "min") (fun xs H Q => ∃ i j, xs = [.int i, .int j] ∧ Q (.int (if j < i then j else i)) H) := by
  intro pins s σ H xs us Q I r h
  obtain ⟨i, j, rfl, q⟩ := h
  obtain ⟨u, w', rfl, ⟨t, rfl⟩, ⟨t', rfl⟩⟩ := vals2 r
  refine min_two_ints (I.ok.hd hc) fun h' tk k => ⟨_, H, I.kept k, ?_, q⟩
  by_cases hj : j < i
  · rw [if_pos hj, if_pos hj]; exact ⟨_, rfl⟩
  · rw [if_neg hj, if_neg hj]; exact ⟨_, rfl⟩
theorem call_int1 : CallR X (.type "int") (fun xs H Q => (∃ i, xs = [.int i] ∧ Q (.int i) H) ∨ ∃ k, xs = [.bl k] ∧ Q (.int (if k then 1 else 0)) H) := by
  intro pins s σ H xs us Q I r h
  rcases h with ⟨i, rfl, q⟩ | ⟨k, rfl, q⟩
  · obtain ⟨u, rfl, t, rfl⟩ := vals1 r
    exact call_int_int ⟨.int i, H, I, ⟨_, rfl⟩, q⟩
  · obtain ⟨u, rfl, r1⟩ := vals1 r
    cases r1
    exact call_int_bool ⟨.int (if k then 1 else 0), H, I.tok _, ⟨_, rfl⟩, q⟩
/-- len of a str, a bytes, a list, a tuple -/
def LenV (K : PySem.W.Frag) (x : V) (H : Hp) (n : Nat) : Prop :=
  match x with
  | .str y => y.length ≤ sizeLine ∧ n = y.length
  | .byt y => y.size ≤ sizeLine ∧ n = y.size
  | .ref p => (∃ xs, SqL K H p xs ∧ n = xs.length) ∨ ∃ xs, SqT K H p xs ∧ n = xs.length
  | _ => False
end
end L2

namespace L2
open PySem PySem.Spec PyProof.Rows

/-! ### an instance, its attributes a map -/
structure ObjM (h : Heap) (x dx C : Addr) (mA : Str → Option Value) : Prop where
  obj : h.get? x = some (PySem.W.instObj C dx)
  ns : h.Ns1 dx mA
  ne : dx ≠ x

theorem lookIn_ns {h : Heap} {dx : Addr} {mA : Str → Option Value} (n : h.Ns1 dx mA) : ∃ od, h.get? dx = some od ∧ ∀ name, PySem.W.lookIn name od = some (mA name) := by
  obtain ⟨o, es, ep, ho, hd, hk, _, hm⟩ := n
  refine ⟨o, ho, fun name => ?_⟩
  have e := hm name
  unfold nsFind findBy at e
  rw [← Array.find?_toList] at e
  unfold PySem.W.lookIn
  rw [hd]
  dsimp only
  split
  · rename_i y q
    rw [q] at e
    exact congrArg some e
  · rename_i q
    rw [q] at e
    have a : es.toList.any (·.refKey) = false := by
      rw [List.any_eq_false]
      intro y hy
      obtain ⟨z, t, hkey⟩ := hk y (Array.mem_toList_iff.mp hy)
      simp [DictEntry.refKey, hkey]
    have a' : ¬ es.toList.any (·.refKey) = true := by rw [a]; exact Bool.false_ne_true
    rw [if_neg a']
    exact congrArg some e

theorem ObjM.look {h : Heap} {x dx C : Addr} {mA : Str → Option Value} (I : ObjM h x dx C mA) : ∃ od, PySem.W.InstAt h x (PySem.W.instObj C dx) C (some od) ∧ ∀ name, PySem.W.lookIn name od = some (mA name) :=
  let ⟨od, ho, hl⟩ := lookIn_ns I.ns
  ⟨od, ⟨I.obj, rfl, rfl, ho⟩, hl⟩

section
variable {prog : Program} {w : World} {A : Around} {E : Value → Shared → Prop} {s : Shared} {K : PySem.W.Frag} {x dx C f : Addr} {mA : Str → Option Value} {name : Str} {v : Value}

end

/-! ### the attributes as a list of pairs -/
def putF (f : Str) (v : V) : List (Str × V) → List (Str × V)
  | [] => [(f, v)]
  | (g, x) :: r => if g = f then (g, v) :: r else (g, x) :: putF f v r
section
variable {P : Program} {w : World} {H H' : Hp} {h h' : Heap} {a C dx : Addr} {fs fs' : List (Str × V)}
end

/-! ### what of the text a class must have -/
structure Cls (K : PySem.W.Frag) (C : Addr) : Prop where
  pg : PySem.W.plainGet K C Str.empty = true
  hd : PySem.W.hasDictIn K C = true
  po : PySem.W.plainOver K C = true
  sa : PySem.W.findIn K (.ref C) "__setattr__" = some (some (.builtin "object.__setattr__"))
theorem Cls.get {K : PySem.W.Frag} {C : Addr} (c : Cls K C) (f : Str) : PySem.W.plainGet K C f = true := c.pg
/-- no class of it has the name -/
def NoAttr (K : PySem.W.Frag) (C : Addr) (f : Str) : Prop := PySem.W.findIn K (.ref C) f = some none
/-- a constant of the class -/
structure Con (K : PySem.W.Frag) (C : Addr) (f : Str) (v : V) (u : Value) : Prop where
  at_ : PySem.W.findIn K (.ref C) f = some (some u)
  rel : RelV v u
  get : PySem.W.specialIn K u "__get__" = some none
  cp : PySem.W.copiedNames.contains f = false
/-- a method: a plain def of the class or of one above it -/
structure Meth (K : PySem.W.Frag) (C : Addr) (m : Str) (f : Addr) : Prop where
  at_ : PySem.W.findIn K (.ref C) m = some (some (.ref f))
  fn : PySem.W.isFn K (.ref f) = true
  kp : PySem.W.keepIn K (.ref f) = true

section
variable {X : Cx} {pins : List (Addr × Obj)} {σ : St} {H : Hp} {s : Shared} {a C dx : Addr} {fs : List (Str × V)} {f : Str} {v : V} {A : Around} {E : Value → Shared → Prop}

/-- a new instance, tracked, without attributes -/
theorem Inv.made (I : Inv X pins σ H s) : Inv X pins σ (upd (upd H s.heap.objs.size (.own (s.heap.objs.size + 1))) (s.heap.objs.size + 1) (.ins C s.heap.objs.size []))
    { s with heap := (s.heap.push PySem.W.emptyDict).push (PySem.W.instObj C s.heap.objs.size) } := by
  have e1 : (s.heap.push PySem.W.emptyDict).get? s.heap.objs.size = some PySem.W.emptyDict := Heap.get?_push_size s.heap rfl
  have e2 : ((s.heap.push PySem.W.emptyDict).push (PySem.W.instObj C s.heap.objs.size)).get? (s.heap.objs.size + 1) = some (PySem.W.instObj C s.heap.objs.size) := by
    have := Heap.get?_push_size (s.heap.push PySem.W.emptyDict) (o := PySem.W.instObj C s.heap.objs.size) rfl
    rwa [Heap.size_push] at this
  have e3 : (s.heap.push PySem.W.emptyDict).Ns s.heap.objs.size (fun _ => none) := ⟨PySem.W.emptyDict, #[], _, e1, rfl, (fun e he => absurd he (by simp)), fun _ => rfl⟩
  have I1 := I.laid (a := s.heap.objs.size) (o := .own (s.heap.objs.size + 1)) (h' := s.heap.push PySem.W.emptyDict) (t' := s.toks) (fun b u q => Heap.get?_push_of_some _ q) (Nat.le_refl _) ⟨_, e1⟩
  refine I1.laid (a := s.heap.objs.size + 1) (o := .ins C s.heap.objs.size []) (t' := s.toks) (fun b u q => Heap.get?_push_of_some _ q) (Nat.le_of_eq (Heap.size_push _ _)) ?_
  have ne : s.heap.objs.size ≠ s.heap.objs.size + 1 := Nat.ne_of_lt (Nat.lt_succ_self _)
  refine ⟨by rw [upd_ne ne, upd_same], Nat.zero_le _, ne, e2, fun _ => none, (Heap.Ns1.of_empty e3).at fun o q => Heap.get?_push_of_some _ q, fun _ => True.intro, fun y hy => absurd rfl hy⟩

/-- e.f where nothing but the object is asked: through attributeBase (super) and the last hold -/
theorem attr_of {prog : Program} {w : World} {env : Env} {e : Expr} {f : Str} {pos : Pos} {s : Shared} {Q : Value → Shared → Prop} (hb : attributeBase e f env (eval e env) = eval e env)
    (h : wpAny (model prog w) A (eval e env) (fun o s₁ => wpAny (model prog w) A (getAttr o f true) Q E s₁) E s) : wpAny (model prog w) A (eval (.Attribute e f pos) env) Q E s :=
  Attribute_any_ h (by rw [arm_eval_Attribute, hb])
end

/-! ### readings and rules -/
/-- e.f, an attribute of the instance -/
def tFld (K : PySem.W.Frag) (ta : TE) (f : Str) : TE := fun σ H Q => ta σ H fun x H1 => ∃ a C dx fs v, x = .ref a ∧ H1 a = some (.ins C dx fs) ∧ Cls K C ∧ NoAttr K C f ∧ fs.lookup f = some v ∧ Q v H1
/-- e.f, a constant of the class -/
def tCon (K : PySem.W.Frag) (ta : TE) (f : Str) : TE := fun σ H Q => ta σ H fun x H1 => ∃ a C dx fs v u, x = .ref a ∧ H1 a = some (.ins C dx fs) ∧ Cls K C ∧ Con K C f v u ∧ fs.lookup f = none ∧ Q v H1
/-- e.f = value -/
def sFld (K : PySem.W.Frag) (ta tv : TE) (f : Str) : TS := fun D σ H => tv σ H fun y H1 => ta σ H1 fun x H2 => ∃ a C dx fs, x = .ref a ∧ H2 a = some (.ins C dx fs) ∧ Cls K C ∧ NoAttr K C f ∧ fs.length < 1000 ∧
  D.nx σ (upd H2 a (.ins C dx (putF f y fs)))
/-- an augmented operator on two values -/
def InOp (X : Cx) (op : Operator) (rd : V → V → Hp → VK → Prop) : Prop :=
  ∀ (pins : List (Addr × Obj)) (s : Shared) (σ : St) (H : Hp) (x y : V) (u v : Value) (Q : VK), Inv X pins σ H s → RelV x u → RelV y v → rd x y H Q → wpAny (model X.prog X.w) X.A (inplaceOp op u v) (EP X pins σ Q) X.xe s
/-- e.f op= value -/
def sFldAug (K : PySem.W.Frag) (ta tv : TE) (rd : V → V → Hp → VK → Prop) (f : Str) : TS := fun D σ H => ta σ H fun x H1 => ∃ a C dx fs v, x = .ref a ∧ H1 a = some (.ins C dx fs) ∧ Cls K C ∧ NoAttr K C f ∧ fs.lookup f = some v ∧
  tv σ H1 fun y H2 => rd v y H2 fun z H3 => ∃ dx' fs', H3 a = some (.ins C dx' fs') ∧ fs'.length < 1000 ∧ D.nx σ (upd H3 a (.ins C dx' (putF f z fs')))

section
variable {X : Cx} {o e value : Expr} {f : Str} {pos pos' tpos : Pos} {ta tv : TE}
def rAdd : V → V → Hp → VK → Prop := fun x y H Q => ∃ i j, x = .int i ∧ y = .int j ∧ Q (.int (i + j)) H
def rSub : V → V → Hp → VK → Prop := fun x y H Q => ∃ i j, x = .int i ∧ y = .int j ∧ Q (.int (i - j)) H
end

/-! ### isinstance -/
section
variable {X : Cx} {pins : List (Addr × Obj)} {σ : St} {H : Hp} {s : Shared} {A : Around} {E : Value → Shared → Prop} {Q : Value → Shared → Prop} {c : Value} {b : Bool}
/-- the type of a value, as the fragment's deciders take it; for an instance its class -/
inductive TyOf (K : PySem.W.Frag) (H : Hp) : V → Value → Prop where
  | non : TyOf K H .non (.type "NoneType")
  | bl (x : Bool) : TyOf K H (.bl x) (.type "bool")
  | int (i : Int) : TyOf K H (.int i) (.type "int")
  | str (x : Str) : TyOf K H (.str x) (.type "str")
  | flt (x : UInt64) : TyOf K H (.flt x) (.type "float")
  | lst {a : Addr} {xs : List V} (e : H a = some (.lst xs)) : TyOf K H (.ref a) (.type "list")
  | frz {a : Addr} {o : Obj} {xs : List V} (e : H a = some (.frz o (.lst xs))) : TyOf K H (.ref a) (.type "list")
  | tup {a : Addr} {xs : List V} (e : H a = some (.tup xs)) : TyOf K H (.ref a) (.type "tuple")
  | dK {a : Addr} {kvs : List (Key × V)} (e : H a = some (.dK kvs)) : TyOf K H (.ref a) (.type "dict")
  | dT {a : Addr} {kvs : List (List Key × V)} (e : H a = some (.dT kvs)) : TyOf K H (.ref a) (.type "dict")
  | ins {a C dx : Addr} {fs : List (Str × V)} (e : H a = some (.ins C dx fs)) (cl : Cls K C) (ha : PySem.W.findIn K (.ref C) "__class__" = some (some (.builtin "object.__class__")))
      (hn : PySem.W.specialIn K (.builtin "object.__class__") "__get__" = some (some (.builtin "getset_descriptor.__get__"))) (htk : PySem.W.takesIn K (.builtin "object.__class__") = some true)
      (hm : PySem.W.mroIn K C (.type "object") = some true) : TyOf K H (.ref a) (.ref C)
end
end L2

namespace L2
open PySem PySem.Spec PyProof.Rows

/-! ### room -/
structure Room (k : Nat) (A : Around) : Prop where
  hd : A.handled = none
  dp : A.depth + 3 * k + 5 < recursionLimit
  un : A.units + 16 * k + 200 < cLine
theorem Room.mono {j k : Nat} {A : Around} (r : Room k A) (h : j ≤ k) : Room j A := ⟨r.hd, by have := r.dp; omega, by have := r.un; omega⟩
theorem Room.deeper {k : Nat} {A : Around} (r : Room (k + 1) A) (env : Env) : Room k (A.deeper env) :=
  ⟨r.hd, by have := r.dp; show A.depth + 1 + 3 * k + 5 < _; omega, by have := r.un; show A.units + 3 + 16 * k + 200 < _; omega⟩
theorem make_depth {A : Around} {C : Addr} {us : List Value} {kw : List (Str × Value)} : (A.under (.builtin "type.__call__" ⟨.ref C :: us, kw⟩)).depth = A.depth + 1 := by
  first | rfl | simp [Around.under, Code.weight, Code.isCreation, Code.isGuard, Code.isCaller, Code.frames, Code.isFrame, guardIds]
theorem make_units {A : Around} {C : Addr} {us : List Value} {kw : List (Str × Value)} : (A.under (.builtin "type.__call__" ⟨.ref C :: us, kw⟩)).units = A.units + 1 := by
  first | rfl | simp [Around.under, Code.cUnits, Code.frames, Code.isFrame]
theorem Room.make {k : Nat} {A : Around} (r : Room (k + 1) A) (C : Addr) (us : List Value) (kw : List (Str × Value)) : Room k (A.under (.builtin "type.__call__" ⟨.ref C :: us, kw⟩)) :=
  ⟨r.hd, by have := r.dp; rw [make_depth]; omega, by have := r.un; rw [make_units]; omega⟩
theorem Room.depth {k : Nat} {A : Around} (r : Room k A) : A.depth < recursionLimit := by have := r.dp; omega
theorem Room.units {k : Nat} {A : Around} (r : Room k A) : A.units + 64 < cLine := by have := r.un; omega
/-! ### argument lists and displays -/
def tNil : TA := fun _ H Q => Q [] H
def tCons (ta : TE) (tr : TA) : TA := fun σ H Q => ta σ H fun x H1 => tr σ H1 fun xs H2 => Q (x :: xs) H2
section
variable {X : Cx} {e : Expr} {es : List Expr} {te : TE} {t : TA} {pos : Pos}
theorem pa_nil : PA X [] tNil := fun _ _ _ _ H Q I h => Calls.spliced_nil ⟨[], H, I, .nil, h⟩
theorem pa_cons (ha : PE X e te) (hr : PA X es t) (hs : starEach (e :: es) X.env = (false, eval e X.env) :: starEach es X.env := by rfl) : PA X (e :: es) (tCons te t) := by
  intro pos pins s σ H Q I h
  rw [hs]
  show wpAny _ _ (spliced ((false, eval e X.env) :: backTo pos (starEach es X.env))) _ _ s
  refine Calls.spliced_cons (thn (ha pins s σ H _ I h) fun u s1 ⟨x, H1, I1, r1, q1⟩ => ?_)
  exact thn (hr pos pins s1 σ H1 _ I1 q1) fun us s2 ⟨xs, H2, I2, r2, q2⟩ => ⟨x :: xs, H2, I2, .cons r1 r2, q2⟩

/-- a tuple, a list of written items -/
def tTup (t : TA) : TE := fun σ H Q => t σ H fun xs H1 => xs.length ≤ sizeLine ∧ ∀ p, H1 p = none → Q (.ref p) (upd H1 p (.tup xs))
def tLst (t : TA) : TE := fun σ H Q => t σ H fun xs H1 => xs.length ≤ sizeLine ∧ ∀ p, H1 p = none → Q (.ref p) (upd H1 p (.lst xs))
theorem pe_tup {x1} (h : PA X es t) : PE X (.Tuple es x1 pos) (tTup t) := by
  intro pins s σ H Q I hq
  refine wpAny_Tuple_spliced (thn (h pos pins s σ H _ I hq) fun us s1 ⟨xs, H1, I1, r, z, q⟩ => ⟨by rw [← r.length]; exact z, ?_⟩)
  have hf : H1 s1.heap.objs.size = none := I1.hok.fresh (Nat.le_refl _)
  refine ⟨.ref s1.heap.objs.size, upd H1 s1.heap.objs.size (.tup xs), I1.laid (t' := s1.toks) (fun b u e => Heap.get?_push_of_some _ e) (Nat.le_refl _) ?_, rfl, q _ hf⟩
  exact ⟨z, us, r, ⟨_, Heap.get?_push_size _ rfl, rfl, _, rfl⟩⟩
theorem pe_lst (h : PA X es t) : PE X (.List es pos) (tLst t) := by
  intro pins s σ H Q I hq
  refine wpAny_List_spliced (thn (h pos pins s σ H _ I hq) fun us s1 ⟨xs, H1, I1, r, z, q⟩ => ⟨by rw [← r.length]; exact z, ?_⟩)
  have hf : H1 s1.heap.objs.size = none := I1.hok.fresh (Nat.le_refl _)
  refine ⟨.ref s1.heap.objs.size, upd H1 s1.heap.objs.size (.lst xs), I1.laid (t' := s1.toks) (fun b u e => Heap.get?_push_of_some _ e) (Nat.le_refl _) ?_, rfl, q _ hf⟩
  exact ⟨z, us, 0, r, Heap.get?_push_size _ rfl⟩
end

/-! ### what a def promises -/
/-- a def's promise: the bound arguments in the parameters' order, the heap, the wanted end, the wanted exception -/
abbrev Sp := List V → Hp → VK → XK → Prop
/-- how an exception lies behind a call (file 08 gives it): the callers' frames, abstract heap and state ahead of the call, the wish, the exception, the state -/
abbrev CXT := List Env → Hp → Shared → XK → Value → Shared → Prop

/-- the state at a call -/
structure Env0 (P : Program) (w : World) (K : PySem.W.Frag) (mg : Str → Option Value) (base : Heap) (A : Around) (outer : List Env) (s : Shared) (H : Hp) : Prop where
  frames : A.frames = some outer
  mod : Mod K mg base
  bs : ∀ b o, base.get? b = some o → s.heap.get? b = some o ∧ H b = none
  bsz : base.objs.size ≤ s.heap.objs.size
  funs : s.heap.FunFrames base outer
  frf : ∀ b ∈ frs outer, H b = none
  hok : HOk P w H s.heap
  bare : AllBare s.gens
/-- a call's end -/
def CE (outer : List Env) (P : Program) (w : World) (H : Hp) (s : Shared) (Q : VK) (u : Value) (s' : Shared) : Prop :=
  ∃ v H', s'.os = s.os ∧ AllBare s'.gens ∧ Un (frs outer) [] H H' s.heap s'.heap ∧ HOk P w H' s'.heap ∧ RelV v u ∧ Q v H'
def CR (CX : CXT) (outer : List Env) (P : Program) (w : World) (H : Hp) (s : Shared) (Q : VK) (E : XK) (r : Result) (s' : Shared) : Prop :=
  match r with
  | .ok (.ret u) => CE outer P w H s Q u s'
  | .ok _ => False
  | .error e => CX outer H s E e s'
structure FnOk (P : Program) (w : World) (K : PySem.W.Frag) (mg : Str → Option Value) (base : Heap) (CX : CXT) (k : Nat) (f : Addr) (fd : FuncData) (ps : List Str) (sp : Sp) : Prop where
  len : ∀ vs H Q E, sp vs H Q E → vs.length = ps.length
  run : ∀ (A : Around) (outer : List Env) (s : Shared) (H : Hp) (args : Args) (us : List Value) (vs : List V) (Q : VK) (E : XK), Room k A → Env0 P w K mg base A outer s H → BindsTo s fd args (ps.zip us) → Vals vs us → sp vs H Q E →
    codeAny (model P w) A (.call (.ref f) args) (CR CX outer P w H s Q E) s
theorem FnOk.mono {P : Program} {w : World} {K : PySem.W.Frag} {mg : Str → Option Value} {base : Heap} {CX : CXT} {j k : Nat} {f : Addr} {fd : FuncData} {ps : List Str} {sp : Sp} (F : FnOk P w K mg base CX j f fd ps sp) (h : j ≤ k) :
    FnOk P w K mg base CX k f fd ps sp := ⟨F.len, fun A outer s H args us vs Q E hr => F.run A outer s H args us vs Q E (hr.mono h)⟩
/-- a weaker promise -/
theorem FnOk.imp {P : Program} {w : World} {K : PySem.W.Frag} {mg : Str → Option Value} {base : Heap} {CX : CXT} {k : Nat} {f : Addr} {fd : FuncData} {ps : List Str} {sp sp' : Sp} (F : FnOk P w K mg base CX k f fd ps sp)
    (h : ∀ vs H Q E, sp' vs H Q E → sp vs H Q E) : FnOk P w K mg base CX k f fd ps sp' :=
  ⟨fun vs H Q E q => F.len vs H Q E (h _ _ _ _ q), fun A outer s H args us vs Q E hr he hb hv hs => F.run A outer s H args us vs Q E hr he hb hv (h _ _ _ _ hs)⟩

theorem Env0.make {P : Program} {w : World} {K : PySem.W.Frag} {mg : Str → Option Value} {base : Heap} {A : Around} {outer : List Env} {s : Shared} {H : Hp} (e : Env0 P w K mg base A outer s H) (C : Addr) (us : List Value) (kw : List (Str × Value)) :
    Env0 P w K mg base (A.under (.builtin "type.__call__" ⟨.ref C :: us, kw⟩)) outer s H := ⟨by first | exact e.frames | (simpa [Around.under, Code.envs, Code.isFrame, pushEnvs] using e.frames), e.mod, e.bs, e.bsz, e.funs, e.frf, e.hok, e.bare⟩
section
variable {X : Cx} {pins : List (Addr × Obj)} {σ : St} {H : Hp} {s s' : Shared}
/-- from a body: what a callee wants -/
theorem Inv.env0 (I : Inv X pins σ H s) : Env0 X.prog X.w X.K X.mg X.base X.A X.stack s H :=
  ⟨I.ok.frames, I.ok.mod, I.bs, Nat.le_trans I.ok.bsz I.sz, I.stack, I.stkFree, I.hok, I.bare⟩
/-- behind a call -/
theorem Inv.after {Q : VK} {u : Value} (I : Inv X pins σ H s) (h : CE X.stack X.prog X.w H s Q u s') : EP X pins σ Q u s' := by
  obtain ⟨v, H', os, bare, un, hok, r, q⟩ := h
  obtain ⟨hh, g, d, t, os'⟩ := s'
  obtain rfl : os' = s.os := os
  exact ⟨v, H', I.call (h' := hh) (g' := g) (d' := d) (t' := t) (ch := []) un hok bare (fun b z => absurd z (by simp)), r, q⟩
end

/-! ### calls -/
/-- f(..): the written arguments, then the defaults dvs; E: what is wanted of an exception -/
def tCall (sp : Sp) (dvs : List V) (E : XK) (t : TA) : TE := fun σ H Q => t σ H fun vs H1 => sp (vs ++ dvs) H1 Q E
/-- o.m(..) of an instance of the class at C -/
def tMeth (C : Addr) (m : Str) (sp : Sp) (dvs : List V) (E : XK) (ta : TE) (t : TA) : TE := fun σ H Q => ta σ H fun x H1 => ∃ a dx fs, x = .ref a ∧ H1 a = some (.ins C dx fs) ∧ fs.lookup m = none ∧
  t σ H1 fun vs H2 => sp (x :: (vs ++ dvs)) H2 Q E
/-- C(..): a new instance and its dict, then __init__ -/
def tMake (C : Addr) (sp : Sp) (dvs : List V) (E : XK) (t : TA) : TE := fun σ H Q => t σ H fun vs H1 => ∀ x dx, H1 x = none → H1 dx = none → dx ≠ x →
  sp (.ref x :: (vs ++ dvs)) (upd (upd H1 dx (.own x)) x (.ins C dx [])) (fun v H2 => v = .non ∧ Q (.ref x) H2) E

/-- how the parameters are bound: us the positional arguments, kw the keywords' values by name, ds the defaults that fill up -/
def Binds (K : PySem.W.Frag) (fd : FuncData) (ps : List Str) (ds : List Value) : Prop :=
  ∀ (s : Shared) (us : List Value), K.In s.heap → (us ++ ds).length = ps.length → BindsTo s fd ⟨us, []⟩ (ps.zip (us ++ ds))
/-- every parameter is given -/
theorem Binds.all {K : PySem.W.Frag} {fd : FuncData} {ps : List Str} (h : ∀ us : List Value, us.length = ps.length → bindArgs fd ⟨us, []⟩ = pure (ps.zip us)) : Binds K fd ps [] := fun s us _ hl => by
  rw [List.append_nil] at hl ⊢
  exact .of_eq (h us hl)

/-- an exception of a callee reaches what this body wants of exceptions -/
def Passes (CX : CXT) (X : Cx) (E : XK) : Prop := ∀ (pins : List (Addr × Obj)) (σ : St) (H : Hp) (s : Shared) (e : Value) (s' : Shared), Inv X pins σ H s → CX X.stack H s E e s' → X.xe e s'

section
variable {X : Cx} {CX : CXT} {k : Nat} {f C : Addr} {fd : FuncData} {ps : List Str} {sp : Sp} {dvs : List V} {ds : List Value} {E : XK} {x m : Str} {p pos apos : Pos} {e o : Expr} {es : List Expr} {ta : TE} {t : TA}

/-- the callee runs -/
theorem run_fn {pins : List (Addr × Obj)} {σ : St} {H : Hp} {s : Shared} {Q : VK} {us : List Value} {vs : List V} (F : FnOk X.prog X.w X.K X.mg X.base CX k f fd ps sp) (hr : Room k X.A) (hb : Binds X.K fd ps ds) (hd : Vals dvs ds) (hx : Passes CX X E)
    (I : Inv X pins σ H s) (r : Vals vs us) (h : sp (vs ++ dvs) H Q E) : wpAny (model X.prog X.w) X.A (call (.ref f) us) (EP X pins σ Q) X.xe s := by
  have r2 : Vals (vs ++ dvs) (us ++ ds) := r.append hd
  have hl : (us ++ ds).length = ps.length := by rw [← r2.length]; exact F.len _ _ _ _ h
  refine wpAny_call (codeAny_mono (F.run X.A X.stack s H ⟨us, []⟩ (us ++ ds) (vs ++ dvs) Q E hr I.env0 (hb s us I.kIn hl) r2 h) fun r s' hq => ?_)
  cases r with
  | error e => exact hx pins σ H s e s' I hq
  | ok fl =>
    cases fl with
    | ret u => exact I.after hq
    | next => exact False.elim hq
    | brk => exact False.elim hq
    | cont => exact False.elim hq

theorem pe_call (F : FnOk X.prog X.w X.K X.mg X.base CX k f fd ps sp) (hr : Room k X.A) (hg : Gl X x) (hm : X.mg x = some (.ref f)) (hk : PySem.W.keepIn X.K (.ref f) = true) (hb : Binds X.K fd ps ds) (hd : Vals dvs ds) (hx : Passes CX X E)
    (ha : PA X (e :: es) t) (hdb : (x == ("__debug__" : Str)) = false := by decide) (he : starEach (e :: es) X.env = (false, eval e X.env) :: starEach es X.env := by rfl) (hpl : (backTo pos (starEach es X.env)).any (·.1) = false := by rfl) :
    PE X (.Call (.Name x p) (e :: es) [] pos) (tCall sp dvs E t) := by
  intro pins s σ H Q I h
  refine wpAny_Call_Name_kw (ld_glob I hg hm ?_ hdb)
  refine PySem.W.callWith_K (h₀ := X.base) I.ok.mod.kin hk (thn (ha pos pins s σ H _ I h) fun us s1 ⟨vs, H1, I1, r, q⟩ => ⟨I1.kIn, ?_⟩) he hpl
  exact run_fn F hr hb hd hx I1 r q
/-- what a class must have to be made -/
structure Mk (K : PySem.W.Frag) (C f : Addr) : Prop where
  makes : PySem.W.makesIn K C = true
  init : PySem.W.findIn K (.ref C) "__init__" = some (some (.ref f))
  fn : PySem.W.isFn K (.ref f) = true
  kp : PySem.W.keepIn K (.ref C) = true

end

/-! ### keywords -/
/-- the values of the keywords, from the left -/
def PK (X : Cx) (kws : List Keyword) (t : TA) : Prop :=
  ∀ (pos : Pos) (pins : List (Addr × Obj)) (s : Shared) (σ : St) (H : Hp) (Q : List V → Hp → Prop), Inv X pins σ H s → t σ H Q → wpAny (model X.prog X.w) X.A (evalAll ((backToKw pos (keywordEach kws X.env)).map (·.2))) (AP X pins σ Q) X.xe s
section
variable {X : Cx} {CX : CXT} {k : Nat} {f C : Addr} {fd : FuncData} {ps ks : List Str} {sp : Sp} {E : XK} {x m : Str} {p pos apos kpos : Pos} {e o : Expr} {es : List Expr} {kws : List Keyword} {te ta : TE} {t tk : TA} {nm : Option Str}
/-- how a call with keywords binds: g puts the positional values us and the keywords' values ws (names ks) in the parameters' order, defaults among them -/
structure KBinds (K : PySem.W.Frag) (fd : FuncData) (ps ks : List Str) (g : List Value → List Value → List Value) (gV : List V → List V → List V) : Prop where
  to : ∀ (s : Shared) (us ws : List Value), K.In s.heap → (g us ws).length = ps.length → BindsTo s fd ⟨us, ks.zip ws⟩ (ps.zip (g us ws))
  rel : ∀ {vs : List V} {us : List Value} {zs : List V} {ws : List Value}, Vals vs us → Vals zs ws → Vals (gV vs zs) (g us ws)
def tCallK (sp : Sp) (gV : List V → List V → List V) (E : XK) (t tk : TA) : TE := fun σ H Q => t σ H fun vs H1 => tk σ H1 fun zs H2 => sp (gV vs zs) H2 Q E
variable {g : List Value → List Value → List Value} {gV : List V → List V → List V}
end

/-! ### a def's body keeps its promise -/
/-- names: the parameters first -/
structure FnScope (N P : List Str) (sc : Scope) : Prop where
  kind : sc.kind = .function
  co : sc.isCoroutine = false
  gen : sc.isGenerator = false
  nd : N.Nodup
  pre : N.take P.length = P
  par : ∀ x ∈ P, sc.names.lookup x = some .local ∨ sc.names.lookup x = some .cell
  nofree : ∀ y ∈ sc.names, y.2 ≠ .free

theorem bindL_out {kindOf : Str → Option NameKind} {x : Str} : ∀ {binds : List (Str × Value)} {m : Str → Option Value}, (∀ v, (x, v) ∉ binds) → bindL kindOf binds m x = m x
  | [], _, _ => rfl
  | (n, v) :: r, m, h => by
    unfold bindL
    rw [bindL_out fun w hw => h w (List.mem_cons_of_mem _ hw)]
    split
    · have : x ≠ n := by rintro rfl; exact h v List.mem_cons_self
      simp [this]
    · rfl
theorem bindC_out {kindOf : Str → Option NameKind} {x : Str} : ∀ {binds : List (Str × Value)} {m : Str → Option Value}, (∀ v, (x, v) ∉ binds) → bindC kindOf binds m x = m x
  | [], _, _ => rfl
  | (n, v) :: r, m, h => by
    unfold bindC
    rw [bindC_out fun w hw => h w (List.mem_cons_of_mem _ hw)]
    split
    · rfl
    · have : x ≠ n := by rintro rfl; exact h v List.mem_cons_self
      simp [this]
theorem bindL_get {kindOf : Str → Option NameKind} {x : Str} {v : Value} : ∀ {P : List Str} {vs : List Value} {i : Nat} {m : Str → Option Value}, P.Nodup → P[i]? = some x → vs[i]? = some v → kindOf x = some .local →
    bindL kindOf (P.zip vs) m x = some v
  | [], _, _, _, _, h, _, _ => by simp at h
  | _ :: _, [], _, _, _, _, h, _ => by simp at h
  | p :: P, w :: vs, 0, m, nd, h1, h2, hk => by
    simp at h1 h2; subst h1; subst h2
    show bindL kindOf ((p, w) :: P.zip vs) m p = _
    unfold bindL
    rw [bindL_out fun v hv => (List.nodup_cons.mp nd).1 (List.of_mem_zip hv).1, if_pos hk]
    simp
  | p :: P, w :: vs, i + 1, m, nd, h1, h2, hk => by
    show bindL kindOf ((p, w) :: P.zip vs) m x = _
    unfold bindL
    exact bindL_get (i := i) (List.nodup_cons.mp nd).2 (by simpa using h1) (by simpa using h2) hk
theorem bindC_get {kindOf : Str → Option NameKind} {x : Str} {v : Value} : ∀ {P : List Str} {vs : List Value} {i : Nat} {m : Str → Option Value}, P.Nodup → P[i]? = some x → vs[i]? = some v → kindOf x ≠ some .local →
    bindC kindOf (P.zip vs) m x = some v
  | [], _, _, _, _, h, _, _ => by simp at h
  | _ :: _, [], _, _, _, _, h, _ => by simp at h
  | p :: P, w :: vs, 0, m, nd, h1, h2, hk => by
    simp at h1 h2; subst h1; subst h2
    show bindC kindOf ((p, w) :: P.zip vs) m p = _
    unfold bindC
    rw [bindC_out fun v hv => (List.nodup_cons.mp nd).1 (List.of_mem_zip hv).1, if_neg hk]
    simp
  | p :: P, w :: vs, i + 1, m, nd, h1, h2, hk => by
    show bindC kindOf ((p, w) :: P.zip vs) m x = _
    unfold bindC
    exact bindC_get (i := i) (List.nodup_cons.mp nd).2 (by simpa using h1) (by simpa using h2) hk

/-- the names' values at the entry -/
def start (N : List Str) (vs : List V) : St := vs.map some ++ List.replicate (N.length - vs.length) none

/-- the context of a def's body, at its entry; an exception leaves the frame, then lies as CX says -/
def cxOf (CX : CXT) (P : Program) (w : World) (K : PySem.W.Frag) (mg : Str → Option Value) (base : Heap) (N : List Str) (qual : Str) (scope : Scope) (f : Addr) (cd : Value) (A : Around) (outer : List Env) (s : Shared) (H : Hp) (E : XK) : Cx where
  prog := P
  w := w
  K := K
  mg := mg
  base := base
  A := A.deeper (envOfC qual scope s.heap.objs.size f cd)
  N := N
  s_0 := s
  H_0 := H
  env := envOfC qual scope s.heap.objs.size f cd
  outer := outer
  stack := envOfC qual scope s.heap.objs.size f cd :: outer
  ex := []
  calm := true
  fn := fun _ => true
  pn := []
  xe := fun e s' => wpAny (model P w) (A.deeper (envOfC qual scope s.heap.objs.size f cd)) (leaving (envOfC qual scope s.heap.objs.size f cd) e) (fun _ s'' => CX outer H s E e s'') (fun e' s'' => CX outer H s E e' s'') s'

theorem cell_has {sc : Scope} {n : Nat} {x : Str} (h : sc.names.lookup x = some .cell) : ∃ c, (cellsFrom n sc.names []).lookup x = some c := by
  have q := PySem.W.cellsFrom_some sc.names n [] (.inl h)
  exact Option.isSome_iff_exists.mp q

theorem inv_start {CX : CXT} {P : Program} {w : World} {K : PySem.W.Frag} {mg : Str → Option Value} {base : Heap} {N ps : List Str} {qual : Str} {scope : Scope} {f : Addr} {cd : Value} {A : Around} {outer : List Env} {s s1 : Shared} {H : Hp} {E : XK} {us : List Value} {vs : List V}
    (S : FnScope N ps scope) (hd : A.handled = none) (e0 : Env0 P w K mg base A outer s H) (hl : vs.length = ps.length) (r : Vals vs us)
    (x : InCallC s s.heap.objs.size (bindL (envOfC qual scope s.heap.objs.size f cd).kindOf (ps.zip us) fun _ => none) (cellsFrom (s.heap.objs.size + 1) scope.names []) (bindC (envOfC qual scope s.heap.objs.size f cd).kindOf (ps.zip us) fun _ => none) s1) :
    Inv (cxOf CX P w K mg base N qual scope f cd A outer s H E) [] (start N vs) H s1 := by
  have hpl : ps.length ≤ N.length := by have := congrArg List.length S.pre; rw [List.length_take] at this; omega
  obtain ⟨h1, tk, rfl, hk⟩ := x.done
  have noA : ∀ b : Addr, b ∉ (cxOf CX P w K mg base N qual scope f cd A outer s H E).ex := fun b z => absurd (show b ∈ ([] : List Addr) from z) (by simp)
  refine ⟨⟨e0.mod, S.kind, rfl, rfl, Nat.le_refl _, fun y z c h1 h2 => ?_, fun y hy => ?_, fun y c _ h => ?_, fun _ => hd, Around.frames_deeper e0.frames, .inr ⟨rfl, rfl⟩, fun b z => absurd z (noA b), e0.bs, e0.bsz, fun b _ _ => noA b, fun b z => absurd z (noA b), e0.funs, e0.frf⟩,
    rfl, e0.bare, Un.kept hk, ⟨_, x.toInCall.ns, fun i y v h1 h2 h3 => ?_⟩, fun y c h => ⟨_, x.cell y c h⟩, e0.hok.fresh (Nat.le_refl _), fun y c h => ?_, fun p hp => absurd (show p ∈ ([] : List (Addr × Obj)) from hp) (by simp), e0.hok.kept hk, ?_⟩
  · exact name_of_addr x.apart (PySem.mem_of_lookup h1) (PySem.mem_of_lookup h2)
  · have hy : scope.names.lookup y = some .cell ∨ scope.names.lookup y = some .free := hy
    rcases hy with hy | hy
    · exact cell_has hy
    · exact absurd rfl (S.nofree _ (PySem.mem_of_lookup hy))
  · exact Nat.le_of_lt (x.above y c (PySem.mem_of_lookup h))
  · have hi : i < vs.length := by
      unfold start at h2
      by_cases hi : i < vs.length
      · exact hi
      · rw [List.getElem?_append_right (by simpa using hi)] at h2
        rw [List.getElem?_replicate] at h2
        split at h2 <;> cases h2
    have ha : vs[i]? = some v := by
      unfold start at h2
      rw [List.getElem?_append_left (by simpa using hi), List.getElem?_map] at h2
      cases e : vs[i]? with
      | none => rw [e] at h2; cases h2
      | some a => rw [e] at h2; cases h2; rfl
    obtain ⟨u, hu, rv⟩ := r.get ha
    have hp : ps[i]? = some y := by
      rw [← S.pre, List.getElem?_take_of_lt (by omega)]; exact h1
    have ndP : ps.Nodup := by rw [← S.pre]; exact S.nd.sublist (List.take_sublist _ _)
    refine ⟨u, rv, ?_⟩
    rcases S.par y (List.mem_of_getElem? hp) with k | k
    · exact .inl ⟨k, bindL_get ndP hp hu k⟩
    · obtain ⟨c, e⟩ := cell_has (n := s.heap.objs.size + 1) k
      refine .inr ⟨.inl k, c, e, ?_⟩
      have q := x.cell y c e
      rw [bindC_get ndP hp hu (by show scope.names.lookup y ≠ _; rw [k]; decide)] at q
      exact q
  · exact e0.hok.fresh (Nat.le_of_lt (x.above y c (PySem.mem_of_lookup h)))
  · unfold start
    show _ = N.length
    rw [List.length_append, List.length_map, List.length_replicate]
    omega

/-- THE RULE: a def (or a method) of the text, by its body. The body's reading t is chosen for each entry; it is run at the parameters' values -/
theorem fn_of {CX : CXT} {P : Program} {w : World} {K : PySem.W.Frag} {mg : Str → Option Value} {base : Heap} {k : Nat} {f : Addr} {name qual : Str} {params : Arguments} {body : List Stmt} {scope : Scope} {dV kV doc pm cdv ct oc : Value} {an od : Option Addr}
    {osl : Array (Option Value)} {N ps : List Str} {sp : Sp} (lk : K.lookup f = some ⟨oc, od, .func (PySem.W.fnOf name qual params body scope dV kV doc pm an cdv ct), osl⟩) (hcd : PySem.W.codeIn K cdv qual = true) (S : FnScope N ps scope)
    (len : ∀ vs H Q E, sp vs H Q E → vs.length = ps.length)
    (hbody : ∀ (A : Around) (outer : List Env) (s : Shared) (H : Hp) (vs : List V) (Q : VK) (E : XK), Room k (A.deeper (envOfC qual scope s.heap.objs.size f cdv)) → sp vs H Q E →
      ∃ t, PSs (cxOf CX P w K mg base N qual scope f cdv A outer s H E) body t ∧ t { nx := fun _ H' => Q .non H', rt := Q } (start N vs) H) :
    FnOk P w K mg base CX (k + 1) f (PySem.W.fnOf name qual params body scope dV kV doc pm an cdv ct) ps sp := by
  refine ⟨len, fun A outer s H args us vs Q E hr e0 hb r hsp => ?_⟩
  have hl := len _ _ _ _ hsp
  have KX : K.In s.heap := e0.mod.kin.keeps fun b o e => (e0.bs b o e).1
  have lim : s.heap.NoLimit := e0.mod.nolimit.keeps fun b o e => (e0.bs b o e).1
  have hkind : ∀ y ∈ ps.zip us, scope.names.lookup y.1 = some .local ∨ (scope.names.lookup y.1 = some .cell ∧ ((cellsFrom (s.heap.objs.size + 1) scope.names []).lookup y.1).isSome = true) := fun ⟨n, v⟩ hy => by
    rcases S.par n (List.of_mem_zip hy).1 with q | q
    · exact .inl q
    · exact .inr ⟨q, PySem.W.cellsFrom_some _ _ _ (.inl q)⟩
  refine codeAny_call_function hr.depth (KX _ _ lk) rfl S.co S.gen rfl (PySem.W.codeRec_of KX hcd) (hb _ _ _ _ ?_)
  refine wpAny_newFunctionEnv_cells S.kind hkind fun env he s1 x => ?_
  subst he
  refine ⟨lim.keeps x.toInCall.keep, codeAny_func ?_⟩
  obtain ⟨t, ht, hq⟩ := hbody A outer s H vs Q E (hr.deeper _) hsp
  have I : Inv (cxOf CX P w K mg base N qual scope f cdv A outer s H E) [] (start N vs) H s1 := inv_start S hr.hd e0 hl r x
  refine wpAny_mono (ht [] s1 (start N vs) H _ I hq) (fun fl s' hs => ?_) fun e s' hs => hs
  have fin : ∀ {σ' : St} {H' : Hp} {v : V} {u : Value}, Inv (cxOf CX P w K mg base N qual scope f cdv A outer s H E) [] σ' H' s' → RelV v u → Q v H' → CE outer P w H s Q u s' :=
    fun {σ' H' v u} J rv q => ⟨v, H', J.os, J.bare, J.base, J.hok, rv, q⟩
  cases fl with
  | ret u =>
    obtain ⟨v, σ', H', J, rv, q⟩ := hs
    exact fin J rv q
  | next =>
    obtain ⟨σ', H', J, q⟩ := hs
    exact fin (v := V.non) (u := Value.none) J rfl q
  | brk =>
    obtain ⟨_, _, _, q⟩ := hs
    exact False.elim q
  | cont =>
    obtain ⟨_, _, _, q⟩ := hs
    exact False.elim q
end L2

namespace L2
open PySem PySem.Spec PyProof.Rows
section
variable {X : Cx} {x : Str} {p pos : Pos} {e : Expr} {es : List Expr} {t : TA} {id T : String} {r : List V → Hp → VK → Prop}

def tCB (r : List V → Hp → VK → Prop) (t : TA) : TE := fun σ H Q => t σ H fun vs H1 => r vs H1 Q
/-- f(e, ..), f a built-in function -/
theorem pe_callB (hc : CallR X (.builtin id) r) (hg : Gl X x) (hm : X.mg x = none) (hv : bootBuiltins x = some (.builtin id)) (ha : PA X (e :: es) t) (hn : x ≠ "__name__" := by decide) (hdb : (x == ("__debug__" : Str)) = false := by decide)
    (he : starEach (e :: es) X.env = (false, eval e X.env) :: starEach es X.env := by rfl) (hpl : (backTo pos (starEach es X.env)).any (·.1) = false := by rfl) : PE X (.Call (.Name x p) (e :: es) [] pos) (tCB r t) := by
  intro pins s σ H Q I h
  refine wpAny_Call_Name_kw (ld_blt I hg hm hv ?_ hn hdb)
  exact PyProof.Rows.callWith_builtin1 (thn (ha pos pins s σ H _ I h) fun us s1 ⟨vs, H1, I1, r1, q1⟩ => hc pins s1 σ H1 vs us Q I1 r1 q1) he hpl
/-- T(e, ..), T a built-in type -/
theorem pe_callTy (hc : CallR X (.type T) r) (hg : Gl X x) (hm : X.mg x = none) (hv : bootBuiltins x = some (.type T)) (ha : PA X (e :: es) t) (hn : x ≠ "__name__" := by decide) (hdb : (x == ("__debug__" : Str)) = false := by decide)
    (he : starEach (e :: es) X.env = (false, eval e X.env) :: starEach es X.env := by rfl) (hpl : (backTo pos (starEach es X.env)).any (·.1) = false := by rfl) : PE X (.Call (.Name x p) (e :: es) [] pos) (tCB r t) := by
  intro pins s σ H Q I h
  refine wpAny_Call_Name_kw (ld_blt I hg hm hv ?_ hn hdb)
  exact PyProof.Rows.callWith_type1 (thn (ha pos pins s σ H _ I h) fun us s1 ⟨vs, H1, I1, r1, q1⟩ => hc pins s1 σ H1 vs us Q I1 r1 q1) he hpl
end
end L2

namespace HT
open PySem PyProof.Rows

/-- t < u of tuples of ints -/
def lexLt : List Int → List Int → Bool
  | [], [] => false
  | [], _ :: _ => true
  | _ :: _, [] => false
  | x :: xs, y :: ys => if x = y then lexLt xs ys else decide (x < y)
section
open PySem.SeqAt
open PySem.AutoSeq1 (wpAny_loadPart')
open PySem.MeetsSeq PySem.MeetsSeq2 PySem.MeetsSeq3

end

section
variable {prog : Program} {w : World} {A : Around} {E : Value → Shared → Prop} {s : Shared}

/-! ### t[a:b], not the whole -/
/-- a slice's bound as a place among n (d where it is left out) -/
def sIx (n d : Nat) : Option Int → Nat
  | none => d
  | some v => if v < 0 then (v + (n : Int)).toNat else min v.toNat n
theorem sIx_none (n d : Nat) : sIx n d none = d := rfl
theorem sIx_nat (n d k : Nat) : sIx n d (some (k : Int)) = min k n := by
  show (if (k : Int) < 0 then ((k : Int) + (n : Int)).toNat else min (k : Int).toNat n) = min k n
  rw [if_neg (by omega), Int.toNat_natCast]
theorem sIx_le (n d : Nat) (hd : d ≤ n) (o : Option Int) : sIx n d o ≤ n := by
  cases o with
  | none => exact hd
  | some v =>
    show (if v < 0 then (v + (n : Int)).toNat else min v.toNat n) ≤ n
    by_cases hv : v < 0
    · rw [if_pos hv]; omega
    · rw [if_neg hv]; exact Nat.min_le_right _ _
theorem clip_eq (v : Int) (n d : Nat) : (if v < 0 then max (v + (n : Int)) 0 else min v (n : Int)) = ((sIx n d (some v) : Nat) : Int) := by
  show (if v < 0 then max (v + (n : Int)) 0 else min v (n : Int)) = (((if v < 0 then (v + (n : Int)).toNat else min v.toNat n) : Nat) : Int)
  by_cases hv : v < 0
  · simp only [if_pos hv]; omega
  · simp only [if_neg hv]; omega
theorem adjust_gen (lo hi : Option Int) (n : Nat) : Builtin.Slice.sliceAdjust lo hi 1 (n : Int) = (((sIx n 0 lo : Nat) : Int), ((sIx n n hi : Nat) : Int)) := by
  have h1 : ¬ ((1 : Int) < 0) := by omega
  unfold Builtin.Slice.sliceAdjust
  simp only [h1, if_false]
  refine Prod.ext ?_ ?_
  · cases lo with
    | none => rfl
    | some v => exact clip_eq v n 0
  · cases hi with
    | none => rfl
    | some v => exact clip_eq v n n
theorem places_gen (i j : Nat) : Builtin.Slice.slicePlaces (i : Int) (j : Int) 1 = j - i := by
  unfold Builtin.Slice.slicePlaces
  have h1 : (1 : Int) > 0 := by omega
  simp only [h1, if_true, Int.ediv_one]
  split <;> omega
theorem slicePart_ {v : Value} {o : Option Int} {Q : Option Int → Shared → Prop} (p : IsPart v o) (h : Q o s) : wpAny (model prog w) A (Builtin.Slice.slicePartIndex v) Q E s := by
  cases p with
  | none => exact slicePart_none h
  | int i t => exact slicePart_int h
theorem sliceApplied_gen {sl : Addr} {vl vu : Value} {lo hi : Option Int} {n : Nat} {Q : Int × Int × Nat → Shared → Prop} (hs : s.heap.IsSliceOf sl vl vu .none) (pl : IsPart vl lo) (pu : IsPart vu hi)
    (h : Q (((sIx n 0 lo : Nat) : Int), 1, sIx n n hi - sIx n 0 lo) s) : wpAny (model prog w) A (Builtin.Slice.sliceApplied (.ref sl) (pure (n : Int))) Q E s := by
  obtain ⟨os, hos, hcs, hds⟩ := id hs
  unfold Builtin.Slice.sliceApplied Builtin.Slice.sliceFields
  refine wpAny_bind (wpAny_bind (wpAny_field hos hds (x := vl) rfl (wpAny_bind (wpAny_field hos hds (x := vu) rfl (wpAny_bind (wpAny_field hos hds (x := .none) rfl (wpAny_pure ?_)))))))
  refine wpAny_bind (slicePart_none ?_)
  show wpAny _ _ (if ((1 : Int) == 0) = true then _ else _) _ _ s
  rw [if_neg (by decide)]
  refine wpAny_bind (slicePart_ pl (wpAny_bind (slicePart_ pu (wpAny_bind (wpAny_pure ?_)))))
  show wpAny _ _ (match Builtin.Slice.sliceAdjust lo hi 1 (n : Int) with | (lo, hi) => pure (lo, (1 : Int), Builtin.Slice.slicePlaces lo hi 1)) _ _ s
  rw [adjust_gen lo hi n]
  show wpAny _ _ (pure (((sIx n 0 lo : Nat) : Int), (1 : Int), Builtin.Slice.slicePlaces ((sIx n 0 lo : Nat) : Int) ((sIx n n hi : Nat) : Int) 1)) _ _ s
  rw [places_gen]
  exact wpAny_pure h
theorem pick_gen (xs : Array Value) (i k : Nat) : ((List.range k).filterMap fun (m : Nat) => xs[((i : Int) + (m : Int) * 1).toNat]?).toArray = ((xs.toList.drop i).take k).toArray := by
  have e : (fun (m : Nat) => xs[((i : Int) + (m : Int) * 1).toNat]?) = fun m => xs[i + m]? := by
    funext m
    have : ((i : Int) + (m : Int) * 1).toNat = i + m := by omega
    rw [this]
  rw [e]
  have := pick_run xs i k
  rw [List.filterMap_map] at this
  have e2 : ((fun x => xs[x]?) ∘ fun x => i + x) = fun m => xs[i + m]? := rfl
  rw [e2] at this
  rw [this]

theorem getItem_tuple_cut {t sl : Addr} {items : Array Value} {vl vu : Value} {lo hi : Option Int} {Q : Value → Shared → Prop} (ht : IsTup s.heap t items) (hs : s.heap.IsSliceOf sl vl vu .none) (pl : IsPart vl lo) (pu : IsPart vu hi)
    (hw : ¬ (sIx items.size 0 lo = 0 ∧ sIx items.size items.size hi = items.size))
    (h : Q (.ref s.heap.objs.size) { s with heap := s.heap.push { cls := .type "tuple", data := .seq ((items.toList.drop (sIx items.size 0 lo)).take (sIx items.size items.size hi - sIx items.size 0 lo)).toArray } })
    (hsz : items.size ≤ sizeLine) : wpAny (model prog w) A (getItem (.ref t) (.ref sl)) Q E s := by
  have htake : sizeOk (.seq ((items.toList.drop (sIx items.size 0 lo)).take (sIx items.size items.size hi - sIx items.size 0 lo)).toArray) := by
    show ((items.toList.drop (sIx items.size 0 lo)).take (sIx items.size items.size hi - sIx items.size 0 lo)).toArray.size ≤ sizeLine
    rw [List.size_toArray, List.length_take, List.length_drop, Array.length_toList]
    omega
  have hj : sIx items.size items.size hi ≤ items.size := sIx_le _ _ (Nat.le_refl _) hi
  obtain ⟨os, hos, hcs, hds⟩ := id hs
  have hTs : s.TypeIs (.ref sl) "slice" := ⟨os, hos, hcs⟩
  unfold getItem
  try with_reducible refine wpAny_holding ?_
  first | refine wpAny_bind (wpAny_pure ?_) | skip
  refine wpAny_bind (wpAny_sequenceKey ht.typeIs (by decide) ?_)
  refine wpAny_bind (wpAny_callSpecial?_slot (name := Str.ofString "__getitem__") ht.typeIs PyProof.Rows.slot_tuple_getitem
    (wpAny_call_entry PyProof.Rows.slot_tuple_getitem ht.typeIs entry_tuple_getitem ?_ (args_tuple_getitem _ _)))
  show wpAny _ _ (Builtin.Tuple.tupleItemsOf (.ref t) >>= _) _ _ s
  refine wpAny_bind (tupleItemsOf_ ht ?_)
  refine wpAny_bind (wpAny_typeOf hTs ?_)
  rw [if_pos (by decide)]
  refine wpAny_bind (sliceApplied_gen hs pl pu ?_)
  have hno : ¬ ((((sIx items.size 0 lo : Nat) : Int) == 0 && (1 : Int) == 1 && (sIx items.size items.size hi - sIx items.size 0 lo) == items.size) = true) := by
    intro q
    rw [Bool.and_eq_true, Bool.and_eq_true] at q
    have q1 : ((sIx items.size 0 lo : Nat) : Int) = 0 := eq_of_beq q.1.1
    have q2 : sIx items.size items.size hi - sIx items.size 0 lo = items.size := eq_of_beq q.2
    exact hw ⟨by omega, by omega⟩
  show wpAny _ _ (if (((sIx items.size 0 lo : Nat) : Int) == 0 && (1 : Int) == 1 && (sIx items.size items.size hi - sIx items.size 0 lo) == items.size) = true then _ else _) _ _ s
  rw [if_neg hno, pick_gen]
  first
    | exact wpAny_bind (m := Builtin.Tuple.tupleExact _) (wpAny_newObj_type (wpAny_pure ⟨_, rfl, wpAny_pure h⟩) htake)
    | exact wpAny_bind (m := Builtin.Tuple.tupleExact _) (wpAny_newObj_type (wpAny_bind (wpAny_pure (wpAny_pure ⟨_, rfl, wpAny_pure h⟩))) htake)
    | exact wpAny_bind (wpAny_bind (m := Builtin.Tuple.tupleExact _) (wpAny_newObj_type (wpAny_pure (wpAny_pure ⟨_, rfl, wpAny_pure h⟩)) htake))
    | exact wpAny_bind (wpAny_bind (m := Builtin.Tuple.tupleExact _) (wpAny_newObj_type (wpAny_pure ⟨_, rfl, wpAny_pure h⟩) htake))
end
end HT

namespace L2
open PySem PySem.Spec PyProof.Rows

/-! ### the parts of a slice -/
abbrev TO := St → Hp → (Option Int → Hp → Prop) → Prop
/-- a slice's part (left out, or an int) -/
def PO (X : Cx) (e : Option Expr) (t : TO) : Prop :=
  ∀ (pins : List (Addr × Obj)) (s : Shared) (σ : St) (H : Hp) (Q : Option Int → Hp → Prop), Inv X pins σ H s → t σ H Q →
    wpAny (model X.prog X.w) X.A (evalPart e X.env) (fun u s' => ∃ o H', Inv X pins σ H' s' ∧ IsPart u o ∧ Q o H') X.xe s
def tNoPart : TO := fun _ H Q => Q none H
def tPart (t : TE) : TO := fun σ H Q => t σ H fun x H1 => ∃ i, x = .int i ∧ Q (some i) H1

section
variable {X : Cx} {e : Expr} {te : TE} {lo hi : Option Expr} {tl th : TO} {pos p2 : Pos}

theorem po_none : PO X none tNoPart := by
  intro pins s σ H Q I h
  rw [evalPart_none]
  exact wpAny_pure ⟨none, H, I, .none, h⟩
theorem po_some (h : PE X e te) : PO X (some e) (tPart te) := by
  intro pins s σ H Q I hw
  rw [evalPart_some]
  refine thn (h pins s σ H _ I hw) fun u s1 ⟨x, H1, I1, r1, q1⟩ => ?_
  obtain ⟨i, rfl, q⟩ := q1
  obtain ⟨t, rfl⟩ := r1
  exact ⟨some i, H1, I1, .int i t, q⟩

/-- what a slice of a value is, by values: the slice object stands at sl -/
def SlR (X : Cx) (r : V → Option Int → Option Int → Hp → VK → Prop) : Prop :=
  ∀ (pins : List (Addr × Obj)) (s : Shared) (σ : St) (H : Hp) (x : V) (v vl vu : Value) (lo hi : Option Int) (sl : Addr) (Q : VK), Inv X pins σ H s → RelV x v → s.heap.IsSliceOf sl vl vu .none → IsPart vl lo → IsPart vu hi → r x lo hi H Q →
    ∃ T id, typeLookup (.type T) "__getitem__" = pure (some (.builtin id)) ∧ s.TypeIs v T ∧ wpAny (model X.prog X.w) X.A (getItem v (.ref sl)) (EP X pins σ Q) X.xe s
theorem SlR.or {r r' : V → Option Int → Option Int → Hp → VK → Prop} (h : SlR X r) (h' : SlR X r') : SlR X (fun x lo hi H Q => r x lo hi H Q ∨ r' x lo hi H Q) := by
  intro pins s σ H x v vl vu lo hi sl Q I rx hs pl pu q
  rcases q with q | q
  · exact h pins s σ H x v vl vu lo hi sl Q I rx hs pl pu q
  · exact h' pins s σ H x v vl vu lo hi sl Q I rx hs pl pu q
def tSl (r : V → Option Int → Option Int → Hp → VK → Prop) (te : TE) (tl th : TO) : TE := fun σ H Q => te σ H fun x H1 => tl σ H1 fun l H2 => th σ H2 fun u H3 => r x l u H3 Q
/-- a[lo:hi], any a -/
theorem pe_slice {r : V → Option Int → Option Int → Hp → VK → Prop} (hr : SlR X r) (he : PE X e te) (hl : PO X lo tl) (hu : PO X hi th) : PE X (.Subscript e (.Slice lo hi none p2) pos) (tSl r te tl th) := by
  intro pins s σ H Q I h
  refine Subscript_ (thn (he pins s σ H _ I h) fun v s1 ⟨x, H1, I1, r1, q1⟩ => ?_)
  refine wpAny_Slice (thn (hl pins s1 σ H1 _ I1 q1) fun vl s2 ⟨l, H2, I2, pl, q2⟩ => thn (hu pins s2 σ H2 _ I2 q2) fun vu s3 ⟨u, H3, I3, pu, q3⟩ => ?_)
  rw [evalPart_none]
  refine wpAny_pure ?_
  have I4 : Inv X pins σ H3 { s3 with heap := s3.heap.push { cls := .type "slice", data := .fields #[vl, vu, .none] } } := I3.kept (t' := s3.toks) fun b ob q => Heap.get?_push_of_some _ q
  obtain ⟨T, id, hT, ht, hg⟩ := hr pins { s3 with heap := s3.heap.push { cls := .type "slice", data := .fields #[vl, vu, .none] } } σ H3 x v vl vu l u s3.heap.objs.size Q I4 r1 (Heap.IsSliceOf.new ..) pl pu q3
  show wpAny (model X.prog X.w) X.A (subscriptTail e (.Slice lo hi none p2) v (.ref s3.heap.objs.size)) (EP X pins σ Q) X.xe { s3 with heap := s3.heap.push { cls := .type "slice", data := .fields #[vl, vu, .none] } }
  exact tail_any (ops := [.ref s3.heap.objs.size, v]) ht hT hg (by with_unfolding_all rfl)

/-- the items of xs[lo:hi] -/
def cutV (xs : List V) (lo hi : Option Int) : List V := (xs.drop (HT.sIx xs.length 0 lo)).take (HT.sIx xs.length xs.length hi - HT.sIx xs.length 0 lo)
theorem cutV_length (xs : List V) (lo hi : Option Int) : (cutV xs lo hi).length ≤ xs.length := by
  unfold cutV
  rw [List.length_take, List.length_drop]
  omega
/-- t[lo:hi], not the whole of it (the whole would be t itself) -/
def rSlT (K : PySem.W.Frag) : V → Option Int → Option Int → Hp → VK → Prop := fun x lo hi H Q => ∃ a xs, x = .ref a ∧ SqT K H a xs ∧
  ¬ (HT.sIx xs.length 0 lo = 0 ∧ HT.sIx xs.length xs.length hi = xs.length) ∧ ∀ p, H p = none → Q (.ref p) (upd H p (.tup (cutV xs lo hi)))
theorem sl_tup : SlR X (rSlT X.K) := by
  intro pins s σ H x v vl vu lo hi sl Q I rx hs pl pu h
  obtain ⟨a, xs, rfl, hx, hw, q⟩ := h
  cases rx
  obtain ⟨its, r, ht, hz⟩ := I.tuple hx
  have hlen : its.toArray.size = xs.length := by rw [List.size_toArray]; exact r.length.symm
  refine ⟨"tuple", _, PyProof.Rows.slot_tuple_getitem.lookup, ht.typeIs, ?_⟩
  refine HT.getItem_tuple_cut ht hs pl pu (by rw [hlen]; exact hw) ?_ (by rw [hlen]; exact hz)
  rw [hlen]
  refine ⟨.ref s.heap.objs.size, _, I.laid (t' := s.toks) (o := .tup (cutV xs lo hi)) (fun b ob q => Heap.get?_push_of_some _ q) (Nat.le_refl _) ?_, rfl, q _ (I.hok.fresh (Nat.le_refl _))⟩
  exact ⟨Nat.le_trans (cutV_length xs lo hi) hz, _, (r.drop (HT.sIx xs.length 0 lo)).take (HT.sIx xs.length xs.length hi - HT.sIx xs.length 0 lo), IsTup.new _ _⟩

/-! ### t < u, t + u -/
def rLtT (K : PySem.W.Frag) : R2 := fun x y H Q => ∃ a b ns ms, x = .ref a ∧ y = .ref b ∧ SqT K H a (ns.map V.int) ∧ SqT K H b (ms.map V.int) ∧ Q (.bl (HT.lexLt ns ms)) H
/-- t + u, t not empty: u empty gives t itself -/
def rCatT (K : PySem.W.Frag) : R2 := fun x y H Q => ∃ a b xs ys, x = .ref a ∧ y = .ref b ∧ SqT K H a xs ∧ SqT K H b ys ∧ xs ≠ [] ∧ xs.length + ys.length ≤ sizeLine ∧
  (ys = [] → Q (.ref a) H) ∧ (ys ≠ [] → ∀ p, H p = none → Q (.ref p) (upd H p (.tup (xs ++ ys))))
end
end L2

namespace L2
open PySem PySem.Spec PyProof.Rows

/-! ### places -/
/-- the place that an index of any sign means -/
def ixN (n : Nat) (i : Int) : Option Nat := if 0 ≤ i then (if i < n then some i.toNat else none) else if -(n : Int) ≤ i then some (i + n).toNat else none
def atI {α : Type} (xs : List α) (i : Int) : Option α := (ixN xs.length i).bind fun j => xs[j]?
theorem ixN_seq {n : Nat} {i : Int} {j : Nat} (h : ixN n i = some j) : seqIndex? i n = some j ∧ j < n ∧ -(n : Int) ≤ i ∧ i < n := by
  unfold ixN at h
  by_cases h0 : 0 ≤ i
  · rw [if_pos h0] at h
    by_cases h1 : i < n
    · rw [if_pos h1] at h
      have e : i.toNat = j := Option.some.inj h
      exact ⟨by rw [seqIndex_of h0 h1, e], by omega, by omega, h1⟩
    · rw [if_neg h1] at h; cases h
  · rw [if_neg h0] at h
    by_cases h1 : -(n : Int) ≤ i
    · rw [if_pos h1] at h
      have e : (i + n).toNat = j := Option.some.inj h
      exact ⟨by rw [seqIndex_neg (by omega) h1, e], by omega, h1, by omega⟩
    · rw [if_neg h1] at h; cases h
theorem atI_get {α : Type} {xs : List α} {i : Int} {v : α} (h : atI xs i = some v) : ∃ j, seqIndex? i xs.length = some j ∧ xs[j]? = some v ∧ j < xs.length ∧ -(xs.length : Int) ≤ i ∧ i < xs.length := by
  unfold atI at h
  cases e : ixN xs.length i with
  | none => rw [e] at h; cases h
  | some j =>
    rw [e] at h
    obtain ⟨h1, h2, h3, h4⟩ := ixN_seq e
    exact ⟨j, h1, h, h2, h3, h4⟩
theorem atI_nat {α : Type} {xs : List α} {j : Nat} {v : α} (h : xs[j]? = some v) : atI xs (j : Int) = some v := by
  have hj : j < xs.length := (List.getElem?_eq_some_iff.mp h).1
  have e : ixN xs.length (j : Int) = some j := by
    unfold ixN
    rw [if_pos (by omega), if_pos (by omega)]; simp
  unfold atI; rw [e]; exact h
theorem atI_last {α : Type} (xs : List α) (v : α) : atI (xs ++ [v]) (-1) = some v := by
  have hl : (xs ++ [v]).length = xs.length + 1 := by simp
  have e : ixN (xs ++ [v]).length (-1) = some xs.length := by
    unfold ixN
    rw [hl, if_neg (by decide), if_pos (by omega)]
    congr 1
    omega
  unfold atI
  rw [e]
  show (xs ++ [v])[xs.length]? = some v
  simp

/-! ### what may be subscripted -/
/-- what stands as an index of a plain subscript -/
def PlainIx (b : Expr) : Prop := ∀ o i, subscripted b false o i = operate [o, i] (getItem o i)
/-- a subscript by values -/
def IxR (X : Cx) (r : R2) : Prop :=
  ∀ (value slice : Expr) (pins : List (Addr × Obj)) (s : Shared) (σ : St) (H : Hp) (x y : V) (v u : Value) (Q : VK), Inv X pins σ H s → RelV x v → RelV y u → r x y H Q →
    subscripted slice false v u = operate [v, u] (getItem v u) → wpAny (model X.prog X.w) X.A (subscriptTail value slice v u) (EP X pins σ Q) X.xe s
/-- a call of a builtin's method by values: the receiver, the arguments -/
def MtR (X : Cx) (id : String) (r : V → List V → Hp → VK → Prop) : Prop :=
  ∀ (pins : List (Addr × Obj)) (s : Shared) (σ : St) (H : Hp) (x : V) (xs : List V) (v : Value) (us : List Value) (Q : VK), Inv X pins σ H s → RelV x v → Vals xs us → r x xs H Q →
    wpAny (model X.prog X.w) X.A (call (.builtin id) (v :: us)) (EP X pins σ Q) X.xe s
section
variable {X : Cx} {a b : Expr} {ta tb : TE} {pos : Pos}
theorem IxR.or {r r' : R2} (h : IxR X r) (h' : IxR X r') : IxR X (fun x y H Q => r x y H Q ∨ r' x y H Q) := by
  intro value slice pins s σ H x y v u Q I rx ry q hs
  rcases q with q | q
  · exact h value slice pins s σ H x y v u Q I rx ry q hs
  · exact h' value slice pins s σ H x y v u Q I rx ry q hs
theorem MtR.or {id : String} {r r' : V → List V → Hp → VK → Prop} (h : MtR X id r) (h' : MtR X id r') : MtR X id (fun x xs H Q => r x xs H Q ∨ r' x xs H Q) := by
  intro pins s σ H x xs v us Q I rx rs q
  rcases q with q | q
  · exact h pins s σ H x xs v us Q I rx rs q
  · exact h' pins s σ H x xs v us Q I rx rs q
/-- a[b] -/
theorem pe_ix {r : R2} (hr : IxR X r) (ha : PE X a ta) (hb : PE X b tb) (hs : PlainIx b) : PE X (.Subscript a b pos) (tOp r ta tb) := by
  intro pins s σ H Q I h
  exact Subscript_ (binT ha hb I h fun v u s2 x y H2 I2 rx ry q => hr a b pins s2 σ H2 x y v u Q I2 rx ry q (hs _ _))

def rIxL (K : PySem.W.Frag) : R2 := fun x y H Q => ∃ p xs i v, x = .ref p ∧ y = .int i ∧ SqL K H p xs ∧ atI xs i = some v ∧ Q v H
def rIxT (K : PySem.W.Frag) : R2 := fun x y H Q => ∃ p xs i v, x = .ref p ∧ y = .int i ∧ SqT K H p xs ∧ atI xs i = some v ∧ Q v H
def rIxS : R2 := fun x y H Q => ∃ z i c, x = .str z ∧ y = .int i ∧ z.length ≤ sizeLine ∧ atI z.cps.toList i = some c ∧ Q (.str ⟨#[c]⟩) H
theorem ix_list : IxR X (rIxL X.K) := by
  intro value slice pins s σ H x y v u Q I rx ry h hs
  obtain ⟨p, xs, i, z, rfl, rfl, hq, he, q⟩ := h
  cases rx
  obtain ⟨t, rfl⟩ := ry
  obtain ⟨its, r, pl, hz⟩ := I.list hq
  obtain ⟨j, h1, h2, h3, h4, h5⟩ := atI_get he
  obtain ⟨w, ew, rw'⟩ := r.get h2
  have hl := r.length
  have hn := line63
  have fin : EP X pins σ Q w s := ⟨z, H, I, rw', q⟩
  by_cases h0 : 0 ≤ i
  · have hj : i.toNat = j := by
      rw [seqIndex_of h0 h5] at h1
      exact Option.some.inj h1
    exact item_listR pl.isList h0 (by omega) (by rw [hj]; simpa using ew) fin hs
  · have hj : (i + (its.toArray.size : Int)).toNat = j := by
      rw [seqIndex_neg (by omega) h4] at h1
      rw [List.size_toArray, ← hl]
      exact Option.some.inj h1
    exact subscriptTail_builtinR (x := w) pl.isList.typeIs slot_list_getitem.lookup
      (wpAny_getItem_list_neg (Q := fun r s' => r = w ∧ EP X pins σ Q r s') pl.isList (by omega) (by rw [List.size_toArray] <;> omega) (by omega) (by rw [hj]; simpa using ew) ⟨rfl, fin⟩) hs
theorem ix_tup : IxR X (rIxT X.K) := by
  intro value slice pins s σ H x y v u Q I rx ry h hs
  obtain ⟨p, xs, i, z, rfl, rfl, hq, he, q⟩ := h
  cases rx
  obtain ⟨t, rfl⟩ := ry
  obtain ⟨its, r, pl, hz⟩ := I.tuple hq
  obtain ⟨j, h1, h2, h3, h4, h5⟩ := atI_get he
  obtain ⟨w, ew, rw'⟩ := r.get h2
  have hl := r.length
  have hn := line63
  have fin : EP X pins σ Q w s := ⟨z, H, I, rw', q⟩
  exact subscriptTail_builtinR (x := w) pl.typeIs slot_tuple_getitem.lookup
    (getItem_tuple (j := j) (Q := fun r s' => r = w ∧ EP X pins σ Q r s') pl (by omega) (by omega) (by rw [List.size_toArray, ← hl]; exact h1) (by simpa using ew) ⟨rfl, fin⟩) hs
theorem ix_str : IxR X rIxS := by
  intro value slice pins s σ H x y v u Q I rx ry h hs
  obtain ⟨z, i, c, rfl, rfl, hz, he, q⟩ := h
  obtain ⟨t, rfl⟩ := rx
  obtain ⟨t', rfl⟩ := ry
  obtain ⟨j, h1, h2, h3, h4, h5⟩ := atI_get he
  have hl : z.cps.toList.length = z.length := by simp [Str.length]
  rw [hl] at h1 h4 h5
  have hn := line63
  exact tail_any (typeIs_str s z t) slot_str_getitem.lookup (getItem_str (c := c) (by
    have e1 : decide (i < -(2 ^ 63 : Int)) = false := decide_eq_false (by omega)
    have e2 : decide (i ≥ 2 ^ 63) = false := decide_eq_false (by omega)
    rw [e1, e2, Bool.or_false]) (by rw [h1]; simpa using h2) ⟨.str ⟨#[c]⟩, H, I.tok _, ⟨_, rfl⟩, q⟩) hs
/-- list, tuple or str -/
def rIx (K : PySem.W.Frag) : R2 := fun x y H Q => rIxL K x y H Q ∨ rIxT K x y H Q ∨ rIxS x y H Q
/-! ### xs[i] = v, any sign -/
/-- the list's object behind a store -/
theorem mapSeq_set (its : List Value) (n j : Nat) (u : Value) : Obj.mapSeq (·.setIfInBounds j u) { cls := .type "list", data := .seq its.toArray n } = { cls := .type "list", data := .seq (its.set j u).toArray n } := by
  simp [Obj.mapSeq]
theorem Inv.lst {pins : List (Addr × Obj)} {σ : St} {H : Hp} {s : Shared} {p : Addr} {xs : List V} (I : Inv X pins σ H s) (h : H p = some (.lst xs)) :
    ∃ (its : List Value) (n : Nat), Vals xs its ∧ s.heap.get? p = some { cls := .type "list", data := .seq its.toArray n } ∧ xs.length ≤ sizeLine := by
  obtain ⟨z, its, n, r, e⟩ := I.hok p _ h
  exact ⟨its, n, r, e, z⟩
/-- the list at p is written by an update of its object -/
theorem Inv.lstUpd {pins : List (Addr × Obj)} {σ : St} {H : Hp} {s : Shared} {p : Addr} {xs ys : List V} {its its' : List Value} {n n' : Nat} {f : Obj → Obj} (I : Inv X pins σ H s) (h : H p = some (.lst xs))
    (ho : s.heap.get? p = some { cls := .type "list", data := .seq its.toArray n }) (hf : f { cls := .type "list", data := .seq its.toArray n } = { cls := .type "list", data := .seq its'.toArray n' }) (r : Vals ys its') (hz : ys.length ≤ sizeLine) (t : Nat) :
    Inv X pins σ (upd H p (.lst ys)) { s with heap := s.heap.update p f, toks := t } := by
  have e : (s.heap.update p f).get? p = some { cls := .type "list", data := .seq its'.toArray n' } := by
    rw [Heap.get?_update_self f ho (by rw [hf] <;> rfl), hf]
  refine I.write (x := p) (e := p) (by rw [h]; trivial) (.inl rfl) (fun b u hb q => (Heap.get?_update_other _ _ (Ne.symm hb)).trans q) ⟨_, e⟩ ?_
  exact ⟨hz, its', n', r, e⟩
def rSetL : V → V → V → Hp → (Hp → Prop) → Prop := fun o i v H Q => ∃ p xs k j, o = .ref p ∧ i = .int k ∧ H p = some (.lst xs) ∧ ixN xs.length k = some j ∧ Q (upd H p (.lst (xs.set j v)))
theorem set_list : PSet X rSetL := by
  intro pins s σ H o i v ov iv u Q I ro ri rv h
  obtain ⟨p, xs, k, j, rfl, rfl, hp, hj, q⟩ := h
  cases ro
  obtain ⟨t, rfl⟩ := ri
  obtain ⟨its, n, r, ho, hz⟩ := I.lst hp
  obtain ⟨h1, h2, h3, h4⟩ := ixN_seq hj
  have hl := r.length
  have hn := line63
  have I' : Inv X pins σ (upd H p (.lst (xs.set j v))) { s with heap := s.heap.update p (Obj.mapSeq (·.setIfInBounds j u)) } :=
    I.lstUpd hp ho (mapSeq_set its n j u) (r.set rv j) (by rw [List.length_set]; exact hz) s.toks
  by_cases h0 : 0 ≤ k
  · have hk : k.toNat = j := by
      rw [seqIndex_of h0 h4] at h1
      exact Option.some.inj h1
    exact PySem.W.ki_setAt ho h0 (by omega) (by rw [List.size_toArray, ← hl]; exact h4) (by rw [hk]; exact ⟨_, I', q⟩)
  · have hk : (k + (its.toArray.size : Int)).toNat = j := by
      rw [seqIndex_neg (by omega) h3] at h1
      rw [List.size_toArray, ← hl]
      exact Option.some.inj h1
    exact PySem.W.ki_setBack ho (by omega) (by rw [List.size_toArray, ← hl]; exact h3) (by omega) (by rw [hk]; exact ⟨_, I', q⟩)

/-! ### slices -/
theorem slice_bounds (lo hi : Option Int) (n : Nat) : (sliceBounds lo hi none n).1 = ((HT.sIx n 0 lo : Nat) : Int) ∧ (sliceBounds lo hi none n).2.1 = ((HT.sIx n n hi : Nat) : Int) ∧ (sliceBounds lo hi none n).2.2 = 1 := by
  refine ⟨?_, ?_, rfl⟩
  · cases lo with
    | none => simp [sliceBounds, HT.sIx]
    | some i =>
      simp only [sliceBounds, HT.sIx, Option.getD_none, show (1 : Int) > 0 by decide, if_true]
      by_cases h : i < 0
      · simp only [h, if_true] <;> omega
      · simp only [h, if_false] <;> omega
  · cases hi with
    | none => simp [sliceBounds, HT.sIx]
    | some i =>
      simp only [sliceBounds, HT.sIx, Option.getD_none, show (1 : Int) > 0 by decide, if_true]
      by_cases h : i < 0
      · simp only [h, if_true] <;> omega
      · simp only [h, if_false] <;> omega
theorem slicePick_cut (its : List Value) (lo hi : Option Int) : slicePick its.toArray lo hi none = ((its.drop (HT.sIx its.length 0 lo)).take (HT.sIx its.length its.length hi - HT.sIx its.length 0 lo)).toArray := by
  obtain ⟨h1, h2, h3⟩ := slice_bounds lo hi its.toArray.size
  unfold slicePick
  rw [h1, h2, h3]
  simp only [sliceRange_one, pick_run, List.size_toArray] <;> rfl
/-- xs[lo:hi] of a list: a new list -/
def rSlL (K : PySem.W.Frag) : V → Option Int → Option Int → Hp → VK → Prop := fun x lo hi H Q => ∃ a xs, x = .ref a ∧ SqL K H a xs ∧ ∀ p, H p = none → Q (.ref p) (upd H p (.lst (cutV xs lo hi)))
theorem sl_list : SlR X (rSlL X.K) := by
  intro pins s σ H x v vl vu lo hi sl Q I rx hs pl pu h
  obtain ⟨a, xs, rfl, hx, q⟩ := h
  cases rx
  obtain ⟨its, r, ht, hz⟩ := I.list hx
  have hlen := r.length
  refine ⟨"list", _, slot_list_getitem.lookup, ht.isList.typeIs, ?_⟩
  refine wpAny_getItem_list_slice ht.isList hs pl pu .none (by simp) ?_ (by rw [List.size_toArray] <;> omega)
  rw [slicePick_cut, ← hlen]
  refine ⟨.ref s.heap.objs.size, _, I.laid (t' := s.toks) (o := .lst (cutV xs lo hi)) (fun b ob q => Heap.get?_push_of_some _ q) (Nat.le_refl _) ?_, rfl, q _ (I.hok.fresh (Nat.le_refl _))⟩
  exact ⟨Nat.le_trans (cutV_length xs lo hi) hz, _, 0, (r.drop (HT.sIx xs.length 0 lo)).take (HT.sIx xs.length xs.length hi - HT.sIx xs.length 0 lo), Heap.get?_push_size _ rfl⟩

/-! ### in, not in: flat items -/
def flatV : V → Bool
  | .non => true
  | .bl _ => true
  | .int _ => true
  | .str _ => true
  | _ => false
/-- == of flat values -/
def eqV : V → V → Bool
  | .non, .non => true
  | .bl a, .bl b => a == b
  | .bl a, .int b => (if a then 1 else 0) == b
  | .int a, .bl b => a == (if b then 1 else 0)
  | .int a, .int b => a == b
  | .str a, .str b => a == b
  | _, _ => false
theorem eqAt_V {A : Around} {s : Shared} {y x : V} {u v : Value} (ry : RelV y u) (rx : RelV x v) (fy : flatV y = true) (fx : flatV x = true) : SeqAt.EqAt A s u v (eqV y x) := by
  cases y with
  | non =>
    cases ry
    cases x with
    | non => cases rx; exact SeqAt.EqAt.same _
    | bl b => cases rx; exact SeqAt.EqAt.none_bool b
    | int b => obtain ⟨t, rfl⟩ := rx; exact SeqAt.EqAt.none_int b t
    | str b => obtain ⟨t, rfl⟩ := rx; exact SeqAt.EqAt.none_str b t
    | _ => exact absurd (show false = true from fx) Bool.false_ne_true
  | bl a =>
    cases ry
    cases x with
    | non => cases rx; exact SeqAt.EqAt.bool_none a
    | bl b => cases rx; exact SeqAt.EqAt.bool_bool a b
    | int b => obtain ⟨t, rfl⟩ := rx; exact SeqAt.EqAt.bool_int a b t
    | str b => obtain ⟨t, rfl⟩ := rx; exact SeqAt.EqAt.bool_str a b t
    | _ => exact absurd (show false = true from fx) Bool.false_ne_true
  | int a =>
    obtain ⟨t', rfl⟩ := ry
    cases x with
    | non => cases rx; exact SeqAt.EqAt.int_none a t'
    | bl b => cases rx; exact SeqAt.EqAt.int_bool a t' b
    | int b => obtain ⟨t, rfl⟩ := rx; exact SeqAt.EqAt.int_int a t' b t
    | str b => obtain ⟨t, rfl⟩ := rx; exact SeqAt.EqAt.int_str a t' b t
    | _ => exact absurd (show false = true from fx) Bool.false_ne_true
  | str a =>
    obtain ⟨t', rfl⟩ := ry
    cases x with
    | non => cases rx; exact SeqAt.EqAt.str_none a t'
    | bl b => cases rx; exact SeqAt.EqAt.str_bool a t' b
    | int b => obtain ⟨t, rfl⟩ := rx; exact SeqAt.EqAt.str_int a t' b t
    | str b => obtain ⟨t, rfl⟩ := rx; exact SeqAt.EqAt.str_str a t' b t
    | _ => exact absurd (show false = true from fx) Bool.false_ne_true
  | _ => exact absurd (show false = true from fy) Bool.false_ne_true
/-- the items' answers, read off the values (a value's own answer does not lean on its token) -/
def eqU (x : V) (u : Value) : Bool := match u with
  | .none => eqV .non x
  | .bool b => eqV (.bl b) x
  | .int i _ => eqV (.int i) x
  | .str z _ => eqV (.str z) x
  | _ => false
theorem eqU_of {x y : V} {u : Value} (r : RelV y u) (f : flatV y = true) : eqU x u = eqV y x := by
  cases y with
  | non => cases r; rfl
  | bl b => cases r; rfl
  | int i => obtain ⟨t, rfl⟩ := r; rfl
  | str z => obtain ⟨t, rfl⟩ := r; rfl
  | _ => exact absurd (show false = true from f) Bool.false_ne_true
theorem any_eqU {x : V} : ∀ {xs : List V} {us : List Value}, Vals xs us → xs.all flatV = true → us.any (eqU x) = xs.any fun y => eqV y x
  | _, _, .nil, _ => rfl
  | y :: xs, u :: us, .cons r t, f => by
    rw [List.all_cons, Bool.and_eq_true] at f
    rw [List.any_cons, List.any_cons, eqU_of r f.1, any_eqU t f.2]
theorem mem_eqAt {A : Around} {s : Shared} {x : V} {v : Value} (rx : RelV x v) (fx : flatV x = true) : ∀ {xs : List V} {us : List Value}, Vals xs us → xs.all flatV = true → ∀ u ∈ us, SeqAt.EqAt A s u v (eqU x u)
  | _, _, .nil, _ => fun u hu => by cases hu
  | y :: xs, u :: us, .cons r t, f => fun u' hu => by
    rw [List.all_cons, Bool.and_eq_true] at f
    rcases List.mem_cons.mp hu with rfl | hu
    · rw [eqU_of r f.1]; exact eqAt_V r rx f.1 fx
    · exact mem_eqAt rx fx t f.2 u' hu
def inV (x : V) (xs : List V) : Bool := xs.any fun y => eqV y x
/-- x in a list or tuple of flat items -/
def rIn (K : PySem.W.Frag) (neg : Bool) : R2 := fun x y H Q => ∃ p xs, y = .ref p ∧ (SqL K H p xs ∨ SqT K H p xs) ∧ flatV x = true ∧ xs.all flatV = true ∧ Q (.bl (if neg then !inV x xs else inV x xs)) H
theorem op_in_seq : OpR X (compareOp .In) (rIn X.K false) := by
  intro pins s σ H x y v u Q I rx ry h
  obtain ⟨p, xs, rfl, hq, fx, fs, q⟩ := h
  cases ry
  rcases hq with hq | hq
  · obtain ⟨its, r, pl, hz⟩ := I.list hq
    refine SeqAt.in_listAt (eqU x) pl.isList (fun w hw => mem_eqAt rx fx r fs w (by simpa using hw)) ⟨.bl _, H, I, rfl, ?_⟩
    rw [show its.toArray.any (eqU x) = its.any (eqU x) by simp, any_eqU r fs]
    exact q
  · obtain ⟨its, r, pl, hz⟩ := I.tuple hq
    refine SeqAt.in_tupleAt (eqU x) pl (fun w hw => mem_eqAt rx fx r fs w (by simpa using hw)) ⟨.bl _, H, I, rfl, ?_⟩
    rw [show its.toArray.any (eqU x) = its.any (eqU x) by simp, any_eqU r fs]
    exact q
theorem op_notIn_seq : OpR X (compareOp .NotIn) (rIn X.K true) := by
  intro pins s σ H x y v u Q I rx ry h
  obtain ⟨p, xs, rfl, hq, fx, fs, q⟩ := h
  cases ry
  rcases hq with hq | hq
  · obtain ⟨its, r, pl, hz⟩ := I.list hq
    refine SeqAt.notIn_listAt (eqU x) pl.isList (fun w hw => mem_eqAt rx fx r fs w (by simpa using hw)) ⟨.bl _, H, I, rfl, ?_⟩
    rw [show its.toArray.any (eqU x) = its.any (eqU x) by simp, any_eqU r fs]
    exact q
  · obtain ⟨its, r, pl, hz⟩ := I.tuple hq
    refine SeqAt.notIn_tupleAt (eqU x) pl (fun w hw => mem_eqAt rx fx r fs w (by simpa using hw)) ⟨.bl _, H, I, rfl, ?_⟩
    rw [show its.toArray.any (eqU x) = its.any (eqU x) by simp, any_eqU r fs]
    exact q
/-! ### len, list(x), tuple(x) of any list or tuple that is read -/
theorem call_len_seq : CallR X (.builtin "len") (fun xs H Q => ∃ p ys, xs = [.ref p] ∧ (SqL X.K H p ys ∨ SqT X.K H p ys) ∧ Q (.int ys.length) H) := by
  intro pins s σ H xs us Q I r h
  obtain ⟨p, ys, rfl, hq, q⟩ := h
  obtain ⟨u, rfl, rx⟩ := vals1 r
  cases rx
  have hn := line63
  rcases hq with hq | hq
  · obtain ⟨its, r', pl, hz⟩ := I.list hq
    have hlen := r'.length
    exact Calls.call_len_list pl.isList (by simp only [List.size_toArray] <;> omega) ⟨.int ys.length, H, I.tok _, ⟨s.toks + 1, by rw [List.size_toArray, hlen]⟩, q⟩
  · obtain ⟨its, r', pl, hz⟩ := I.tuple hq
    have hlen := r'.length
    exact len_tuple pl (by simp only [List.size_toArray] <;> omega) ⟨.int ys.length, H, I.tok _, ⟨s.toks + 1, by rw [List.size_toArray, hlen]⟩, q⟩
theorem call_len_str : CallR X (.builtin "len") (fun xs H Q => ∃ z, xs = [.str z] ∧ z.length ≤ sizeLine ∧ Q (.int z.length) H) := by
  intro pins s σ H xs us Q I r h
  obtain ⟨z, rfl, hz, q⟩ := h
  obtain ⟨u, rfl, t, rfl⟩ := vals1 r
  have hn := line63
  exact len_str (by omega) ⟨.int z.length, H, I.tok _, ⟨_, rfl⟩, q⟩
theorem CallR.or {f : Value} {r r' : List V → Hp → VK → Prop} (h : CallR X f r) (h' : CallR X f r') : CallR X f (fun xs H Q => r xs H Q ∨ r' xs H Q) := by
  intro pins s σ H xs us Q I rs q
  rcases q with q | q
  · exact h pins s σ H xs us Q I rs q
  · exact h' pins s σ H xs us Q I rs q
theorem call_list_of : CallR X (.type "list") (fun xs H Q => ∃ p ys, xs = [.ref p] ∧ (SqL X.K H p ys ∨ SqT X.K H p ys) ∧ ∀ l, H l = none → Q (.ref l) (upd H l (.lst ys))) := by
  intro pins s σ H xs us Q I r h
  obtain ⟨p, ys, rfl, hq, q⟩ := h
  obtain ⟨u, rfl, rx⟩ := vals1 r
  cases rx
  have fin : ∀ (its : List Value), Vals ys its → ys.length ≤ sizeLine → ∀ (h' : Heap) (c' : Nat), (∀ b o', s.heap.get? b = some o' → h'.get? b = some o') →
      h'.get? s.heap.objs.size = some { cls := .type "list", dict := none, data := .seq its.toArray c', slots := #[] } → EP X pins σ Q (.ref s.heap.objs.size) { s with heap := h' } := fun its r' hz h' c' kp e =>
    ⟨.ref s.heap.objs.size, _, I.laid (t' := s.toks) kp (Nat.le_refl _) (show ObjOk X.prog X.w _ h' _ (.lst ys) from ⟨hz, its, c', r', e⟩), rfl, q _ (I.hok.fresh (Nat.le_refl _))⟩
  rcases hq with hq | hq
  · obtain ⟨its, r', pl, hz⟩ := I.list hq
    have hlen := r'.length
    obtain ⟨o, ho, hc, n, hd⟩ := pl.isList
    exact call_list_seq p (.inl rfl) ho hc hd (fun h' c' kp e => fin its r' hz h' c' kp e) (by simp only [List.size_toArray] <;> omega)
  · obtain ⟨its, r', pl, hz⟩ := I.tuple hq
    have hlen := r'.length
    obtain ⟨o, ho, hc, n, hd⟩ := pl
    exact call_list_seq p (.inr rfl) ho hc hd (fun h' c' kp e => fin its r' hz h' c' kp e) (by simp only [List.size_toArray] <;> omega)
theorem call_tuple_of : CallR X (.type "tuple") (fun xs H Q => ∃ p ys, xs = [.ref p] ∧ ((SqL X.K H p ys ∧ ∀ l, H l = none → Q (.ref l) (upd H l (.tup ys))) ∨ (SqT X.K H p ys ∧ Q (.ref p) H))) := by
  intro pins s σ H xs us Q I r h
  obtain ⟨p, ys, rfl, h⟩ := h
  obtain ⟨u, rfl, rx⟩ := vals1 r
  cases rx
  rcases h with ⟨hq, q⟩ | ⟨hq, q⟩
  · obtain ⟨its, r', pl, hz⟩ := I.list hq
    have hlen := r'.length
    refine call_tuple_list pl.isList (fun h' kp => ?_) (by simp only [List.size_toArray] <;> omega)
    have I1 : Inv X pins σ H { s with heap := h' } := I.kept (t' := s.toks) kp
    have I2 : Inv X pins σ (upd H h'.objs.size (.tup ys)) { s with heap := h'.push { cls := .type "tuple", data := .seq its.toArray } } :=
      I1.laid (t' := s.toks) (fun b o e => Heap.get?_push_of_some _ e) (Nat.le_refl _) (show ObjOk X.prog X.w _ _ _ (.tup ys) from ⟨hz, its, r', IsTup.new _ _⟩)
    exact ⟨.ref h'.objs.size, _, I2, rfl, q _ (I1.hok.fresh (Nat.le_refl _))⟩
  · obtain ⟨its, r', pl, hz⟩ := I.tuple hq
    exact call_tuple_same pl ⟨.ref p, H, I, rfl, q⟩

/-! ### the call of a builtin's method: o.m(..) -/
/-- the value is of that builtin type -/
def tyV (K : PySem.W.Frag) (T : String) (x : V) (H : Hp) : Prop := match x with
  | .str _ => T = "str"
  | .int _ => T = "int"
  | .ref p => (T = "list" ∧ ∃ xs, SqL K H p xs) ∨ (T = "tuple" ∧ ∃ o, K.lookup p = some o ∧ o.cls = .type "tuple" ∧ o.dict = none) ∨
      (T = "dict" ∧ ((∃ kvs, H p = some (.dK kvs)) ∨ ∃ kvs, H p = some (.dT kvs))) ∨ (T = "set" ∧ ∃ S n, H p = some (.set S n))
  | _ => False
theorem tyV_is {pins : List (Addr × Obj)} {σ : St} {H : Hp} {s : Shared} {T : String} {x : V} {v : Value} (I : Inv X pins σ H s) (r : RelV x v) (ty : tyV X.K T x H) :
    s.TypeIs v T ∧ ∀ a, v = .ref a → ∃ ob, s.heap.get? a = some ob ∧ ob.dict = none := by
  cases x with
  | str z =>
    obtain ⟨t, rfl⟩ := r
    cases (show T = "str" from ty)
    exact ⟨typeIs_str s z t, fun _ e => nomatch e⟩
  | int i =>
    obtain ⟨t, rfl⟩ := r
    cases (show T = "int" from ty)
    exact ⟨typeIs_int s i t, fun _ e => nomatch e⟩
  | ref p =>
    cases r
    rcases ty with ⟨rfl, xs, hq⟩ | ⟨rfl, o, hk, hc, hd⟩ | ⟨rfl, hk⟩ | ⟨rfl, S, n, hk⟩
    · obtain ⟨its, _, pl, _⟩ := I.list hq
      refine ⟨pl.isList.typeIs, fun a e => ?_⟩
      cases e
      obtain ⟨o, n, e, c, hd, _⟩ := pl
      exact ⟨o, e, hd⟩
    · refine ⟨⟨o, I.kIn p o hk, hc⟩, fun a e => ?_⟩
      cases e
      exact ⟨o, I.kIn _ o hk, hd⟩
    · have z : ∃ o, s.heap.get? p = some o ∧ o.ExactDict := by
        rcases hk with ⟨kvs, hk⟩ | ⟨kvs, hk⟩
        · obtain ⟨_, _, _, _, o, _, _, e, ex, _⟩ := I.hok p _ hk
          exact ⟨o, e, ex⟩
        · obtain ⟨_, _, _, _, o, _, _, e, ex, _⟩ := I.hok p _ hk
          exact ⟨o, e, ex⟩
      obtain ⟨o, e, ex⟩ := z
      refine ⟨⟨o, e, ex.1⟩, fun a e2 => ?_⟩
      cases e2
      exact ⟨o, e, ex.2.1⟩
    · obtain ⟨o, _, _, _, e, ex, _⟩ := I.hok p _ hk
      refine ⟨⟨o, e, ex.1⟩, fun a e2 => ?_⟩
      cases e2
      exact ⟨o, e, ex.2.1⟩
  | _ => exact False.elim ty
def tBM0 (K : PySem.W.Frag) (T : String) (r : V → List V → Hp → VK → Prop) (to : TE) : TE := fun σ H Q => to σ H fun x H1 => tyV K T x H1 ∧ r x [] H1 Q
def tBM (K : PySem.W.Frag) (T : String) (r : V → List V → Hp → VK → Prop) (to : TE) (t : TA) : TE := fun σ H Q => to σ H fun x H1 => tyV K T x H1 ∧ t σ H1 fun xs H2 => r x xs H2 Q
variable {o e : Expr} {es : List Expr} {to : TE} {t : TA} {name : Str} {apos cpos : Pos} {T id : String} {r : V → List V → Hp → VK → Prop}
theorem pe_bm (pa : PlainAttrs T) (slot : Slot T name id) (hty : typeOf (.builtin id) = pure (.type "method_descriptor")) (hm : MtR X id r) (ho : PE X o to) (ha : PA X (e :: es) t)
    (hbase : attributeBase o name X.env (eval o X.env) = eval o X.env := by rfl)
    (hfew : ((backTo cpos (starEach (e :: es) X.env)).all (fun x => !x.1) && (backToKw cpos (keywordEach [] X.env)).all (fun x => x.1.isSome)
      && decide ((e :: es).length + ([] : List Keyword).length + (if ([] : List Keyword).isEmpty then 0 else 1) < 30)) = true := by rfl)
    (hline : (apos.endLine == cpos.line) = true := by rfl) (hs : starEach (e :: es) X.env = (false, eval e X.env) :: starEach es X.env := by rfl) (hplain : (backTo cpos (starEach es X.env)).any (·.1) = false := by rfl) :
    PE X (.Call (.Attribute o name apos) (e :: es) [] cpos) (tBM X.K T r to t) := by
  intro pins s σ H Q I h
  refine wpAny_Call_method_late hbase hfew hline rfl (thn (ho pins s σ H _ I h) fun v s1 ⟨x, H1, I1, r1, ty, q1⟩ => ?_)
  obtain ⟨h1, h2⟩ := tyV_is I1 r1 ty
  refine ⟨T, id, pa, slot, hty, h1, h2, ?_⟩
  have hA := ha cpos pins s1 σ H1 _ I1 q1
  rw [hs] at hA ⊢
  refine Calls.callWith_builtin (by show (false || (backTo cpos (starEach es X.env)).any (·.1)) = false; rw [hplain] <;> rfl) (Calls.evalArgs_plain ?_)
  exact thn hA fun us s2 ⟨vs, H2, I2, r2, q2⟩ => hm pins s2 σ H2 x vs v us Q I2 r1 r2 q2
/- xs.append(e), list.index on a module's tuple .. are MtR facts of 06m -/
end
end L2

namespace L2
open PySem PySem.Spec PyProof.Rows

def MtM (X : Cx) (id : String) (r : V → List V → Hp → VK → Prop) : Prop :=
  ∀ (pins : List (Addr × Obj)) (s : Shared) (σ : St) (H : Hp) (x : V) (xs : List V) (v : Value) (us : List Value) (Q : VK), Inv X pins σ H s → RelV x v → Vals xs us → r x xs H Q →
    wpAny (model X.prog X.w) X.A (call (.builtin id) (v :: us)) (EP X pins σ Q) X.xe s

/-! ### lists of values -/
theorem Vals.one : ∀ {x : V} {us : List Value}, Vals [x] us → ∃ u, us = [u] ∧ RelV x u
  | _, _, .cons r .nil => ⟨_, rfl, r⟩
theorem Vals.two : ∀ {x y : V} {us : List Value}, Vals [x, y] us → ∃ u v, us = [u, v] ∧ RelV x u ∧ RelV y v
  | _, _, _, .cons r (.cons q .nil) => ⟨_, _, rfl, r, q⟩
theorem Vals.zero : ∀ {us : List Value}, Vals [] us → us = []
  | _, .nil => rfl
theorem Vals.dropLast {xs : List V} {us : List Value} (h : Vals xs us) : Vals xs.dropLast us.dropLast := by
  induction h with
  | nil => exact .nil
  | cons r t ih =>
    cases t with
    | nil => exact .nil
    | cons q t' => exact .cons r ih
theorem Vals.eraseIdx : ∀ {xs : List V} {us : List Value} (i : Nat), Vals xs us → Vals (xs.eraseIdx i) (us.eraseIdx i)
  | _, _, _, .nil => .nil
  | _, _, 0, .cons _ t => t
  | _, _, i + 1, .cons r t => .cons r (Vals.eraseIdx i t)
theorem Vals.reverse {xs : List V} {us : List Value} (h : Vals xs us) : Vals xs.reverse us.reverse := by
  induction h with
  | nil => exact .nil
  | cons r t ih => rw [List.reverse_cons, List.reverse_cons]; exact Vals.append ih (.cons r .nil)
theorem Vals.rep {xs : List V} {us : List Value} (h : Vals xs us) : ∀ k : Nat, Vals (List.replicate k xs).flatten (List.replicate k us).flatten
  | 0 => .nil
  | k + 1 => by
    rw [List.replicate_succ, List.replicate_succ, List.flatten_cons, List.flatten_cons]
    exact Vals.append h (Vals.rep h k)
theorem len_erase {α : Type} : ∀ (l : List α) (i : Nat), (l.eraseIdx i).length ≤ l.length
  | [], _ => Nat.le_refl _
  | _ :: _, 0 => Nat.le_succ _
  | _ :: r, i + 1 => Nat.succ_le_succ (len_erase r i)
theorem foldl_rep (its : List Value) : ∀ (k : Nat) (acc : List Value),
    List.foldl (fun x1 x2 => x1 ++ x2) acc.toArray (List.replicate k its.toArray) = (acc ++ (List.replicate k its).flatten).toArray
  | 0, acc => by simp
  | k + 1, acc => by
    have e : acc.toArray ++ its.toArray = (acc ++ its).toArray := by simp
    have e2 : (acc ++ its) ++ (List.replicate k its).flatten = acc ++ (List.replicate (k + 1) its).flatten := by
      rw [List.replicate_succ, List.flatten_cons, List.append_assoc]
    rw [← e2, ← foldl_rep its k (acc ++ its), ← e, List.replicate_succ, List.foldl_cons]

section
variable {X : Cx} {pins : List (Addr × Obj)} {σ : St} {H : Hp} {s : Shared} {l b : Addr} {xs ys zs : List V}

/-! ### the two steps: a tracked list is rewritten, a new list is laid -/
theorem Inv.lset {its its' : List Value} {n : Nat} {f : Array Value → Array Value} {t' : Nat} (I : Inv X pins σ H s) (hH : H l = some (.lst xs))
    (e : s.heap.get? l = some { cls := .type "list", data := .seq its.toArray n }) (hf : f its.toArray = its'.toArray) (hv : Vals ys its') (hz : ys.length ≤ sizeLine) :
    Inv X pins σ (upd H l (.lst ys)) { s with heap := s.heap.update l (Obj.mapSeq f), toks := t' } := by
  have q := PySem.IsL.update e f
  rw [hf] at q
  refine I.write (x := l) (e := l) (by rw [hH]; exact trivial) (.inl rfl) (fun b' u hb hu => (Heap.get?_update_other s.heap (Obj.mapSeq f) (Ne.symm hb)).trans hu) ⟨_, q⟩ ?_
  exact ⟨hz, its', _, hv, q⟩
theorem Inv.lnew {its : List Value} {t' : Nat} (I : Inv X pins σ H s) (hv : Vals ys its) (hz : ys.length ≤ sizeLine) :
    Inv X pins σ (upd H s.heap.objs.size (.lst ys)) { s with heap := s.heap.push { cls := .type "list", data := .seq its.toArray }, toks := t' } :=
  I.laid (fun _ _ q => Heap.get?_push_of_some _ q) (Nat.le_refl _) ⟨hz, its, 0, hv, Heap.get?_push_size _ rfl⟩
theorem Inv.fresh (I : Inv X pins σ H s) : H s.heap.objs.size = none := I.hok.fresh (Nat.le_refl _)
theorem Inv.lstM (I : Inv X pins σ H s) (hH : H l = some (.lst xs)) : xs.length ≤ sizeLine ∧ ∃ (its : List Value) (n : Nat), Vals xs its ∧ xs.length = its.length ∧ s.heap.get? l = some { cls := .type "list", data := .seq its.toArray n } := by
  obtain ⟨z, its, n, r, e⟩ := I.hok l _ hH
  exact ⟨z, its, n, r, r.length, e⟩

theorem notLongL {n : Nat} (h : n ≤ sizeLine) : Builtin.List.listTooLong n = false := by
  unfold Builtin.List.listTooLong
  exact decide_eq_false (by omega)
end

section
variable {X : Cx}

/-! ### methods -/
def rAppend : V → List V → Hp → VK → Prop := fun x vs H Q => ∃ l xs y, x = .ref l ∧ vs = [y] ∧ H l = some (.lst xs) ∧ xs.length < sizeLine ∧ Q .non (upd H l (.lst (xs ++ [y])))
theorem mt_append : MtM X "list.append" rAppend := by
  intro pins s σ H x vs v us Q I rx rv h
  obtain ⟨l, xs, y, rfl, rfl, hH, hz, q⟩ := h
  cases rx
  obtain ⟨u, rfl, ru⟩ := rv.one
  obtain ⟨z, its, n, r, hl, e⟩ := I.lstM hH
  refine call_meets F.slot_list_append ⟨_, e, rfl⟩ F.entry_list_append (F.args_list_append_2 _ _) (PySem.list_append l its.toArray n u (by rw [List.size_toArray]; omega)) ⟨e, ?_⟩
  refine ⟨.non, _, I.lset (its' := its ++ [u]) hH e (by simp) (r.append (.cons ru .nil)) ?_, rfl, q⟩
  rw [List.length_append, List.length_singleton]
  omega

def rExtend : V → List V → Hp → VK → Prop := fun x vs H Q => ∃ l b xs zs, x = .ref l ∧ vs = [.ref b] ∧ H l = some (.lst xs) ∧ H b = some (.lst zs) ∧ xs.length + zs.length ≤ sizeLine ∧ Q .non (upd H l (.lst (xs ++ zs)))
theorem mt_extend : MtM X "list.extend" rExtend := by
  intro pins s σ H x vs v us Q I rx rv h
  obtain ⟨l, b, xs, zs, rfl, rfl, hH, hB, hz, q⟩ := h
  cases rx
  obtain ⟨u, rfl, ru⟩ := rv.one
  cases ru
  obtain ⟨z, its, n, r, hl, e⟩ := I.lstM hH
  obtain ⟨z2, its2, n2, r2, hl2, e2⟩ := I.lstM hB
  have hsz : its.toArray.size + its2.toArray.size ≤ sizeLine := by rw [List.size_toArray, List.size_toArray]; omega
  have hlong : ¬ (!its.toArray.isEmpty && Builtin.List.listTooLong (its.toArray.size + its2.toArray.size)) = true := by
    rw [notLongL hsz, Bool.and_false]
    exact Bool.false_ne_true
  refine call_meets F.slot_list_extend ⟨_, e, rfl⟩ F.entry_list_extend (F.args_list_extend_2 _ _)
    (AutoSeq1.list_extend_list_list_0 l its.toArray n b its2.toArray n2 hlong (by rw [List.size_toArray]; omega) (by omega)) ⟨e, e2, ?_⟩
  refine ⟨.non, _, I.lset (its' := its ++ its2) hH e (by simp) (r.append r2) ?_, rfl, q⟩
  rw [List.length_append]
  omega

def rPop : V → List V → Hp → VK → Prop := fun x vs H Q => ∃ l xs y, x = .ref l ∧ vs = [] ∧ H l = some (.lst xs) ∧ xs[xs.length - 1]? = some y ∧ Q y (upd H l (.lst xs.dropLast))
def rPopAt : V → List V → Hp → VK → Prop := fun x vs H Q => ∃ l xs i k y, x = .ref l ∧ vs = [.int i] ∧ H l = some (.lst xs) ∧ -(2 ^ 63) ≤ i ∧ i < 2 ^ 63 ∧ seqIndex? i xs.length = some k ∧ xs[k]? = some y ∧ Q y (upd H l (.lst (xs.eraseIdx k)))
theorem mt_popAt : MtM X "list.pop" rPopAt := by
  intro pins s σ H x vs v us Q I rx rv h
  obtain ⟨l, xs, i, k, y, rfl, rfl, hH, h1, h2, hk, hy, q⟩ := h
  cases rx
  obtain ⟨u, rfl, ru⟩ := rv.one
  obtain ⟨t, rfl⟩ := ru
  obtain ⟨z, its, n, r, hl, e⟩ := I.lstM hH
  obtain ⟨w, hw, rw'⟩ := r.get hy
  refine call_meets F.slot_list_pop ⟨_, e, rfl⟩ F.entry_list_pop (F.args_list_pop_2 _ _)
    (MeetsSeq.list_pop_at l its.toArray n i t k w (fitsIndex_both h1 h2) (by rw [List.size_toArray, ← hl]; exact hk) (by rw [← Array.getElem?_toList]; exact hw) (by rw [List.size_toArray]; omega)) ⟨e, ?_⟩
  refine ⟨y, _, I.lset (its' := its.eraseIdx k) hH e ?_ (r.eraseIdx k) ?_, rw', q⟩
  · show its.toArray.eraseIdxIfInBounds k = (its.eraseIdx k).toArray
    rw [List.eraseIdxIfInBounds_toArray]
  · have := len_erase xs k
    omega

def rReverse : V → List V → Hp → VK → Prop := fun x vs H Q => ∃ l xs, x = .ref l ∧ vs = [] ∧ H l = some (.lst xs) ∧ Q .non (upd H l (.lst xs.reverse))
def rClear : V → List V → Hp → VK → Prop := fun x vs H Q => ∃ l xs, x = .ref l ∧ vs = [] ∧ H l = some (.lst xs) ∧ Q .non (upd H l (.lst []))
/-! ### list + list, list += list, list * int -/
def rCat : R2 := fun x y H Q => ∃ l b xs zs, x = .ref l ∧ y = .ref b ∧ H l = some (.lst xs) ∧ H b = some (.lst zs) ∧ xs.length + zs.length ≤ sizeLine ∧ ∀ p, H p = none → Q (.ref p) (upd H p (.lst (xs ++ zs)))
theorem op_cat : OpR X (binaryOp .Add) rCat := by
  intro pins s σ H x y v u Q I rx ry h
  obtain ⟨l, b, xs, zs, rfl, rfl, hH, hB, hz, q⟩ := h
  cases rx
  cases ry
  obtain ⟨z, its, n, r, hl, e⟩ := I.lstM hH
  obtain ⟨z2, its2, n2, r2, hl2, e2⟩ := I.lstM hB
  refine PySem.P.add_list e e2 ?_ (by rw [List.size_toArray, List.size_toArray]; omega)
  have ea : its.toArray ++ its2.toArray = (its ++ its2).toArray := by simp
  rw [ea]
  exact ⟨.ref _, _, I.lnew (t' := s.toks) (r.append r2) (by rw [List.length_append]; omega), rfl, q _ I.fresh⟩
/-- a list times an int (a negative one is nothing) -/
def rRep : R2 := fun x y H Q => ∃ l k xs, x = .ref l ∧ y = .int k ∧ H l = some (.lst xs) ∧ -(2 ^ 63) ≤ k ∧ k < 2 ^ 63 ∧ xs.length * k.toNat ≤ sizeLine ∧
  ∀ p, H p = none → Q (.ref p) (upd H p (.lst (List.replicate k.toNat xs).flatten))
theorem len_rep {α : Type} (xs : List α) (k : Nat) : (List.replicate k xs).flatten.length = k * xs.length := by
  induction k with
  | zero => simp
  | succ k ih => rw [List.replicate_succ, List.flatten_cons, List.length_append, ih, Nat.succ_mul, Nat.add_comm]
theorem op_rep : OpR X (binaryOp .Mult) rRep := by
  intro pins s σ H x y v u Q I rx ry h
  obtain ⟨l, k, xs, rfl, rfl, hH, h1, h2, hz, q⟩ := h
  cases rx
  obtain ⟨t, rfl⟩ := ry
  obtain ⟨z, its, n, r, hl, e⟩ := I.lstM hH
  have hlen : its.toArray.size * k.toNat ≤ sizeLine := by rw [List.size_toArray, ← hl]; exact hz
  have hcap : ¬ its.toArray.size * k.toNat > (2 ^ 63 - 1) / 8 := by
    have : (sizeLine : Nat) ≤ (2 ^ 63 - 1) / 8 := by decide
    omega
  have hfit : ¬ (!Builtin.List.listFitsIndex k) = true := by
    rw [fitsIndex_both h1 h2]
    exact Bool.false_ne_true
  have hlong : ¬ Builtin.List.listTooLong (its.toArray.size * k.toNat) = true := by
    rw [notLongL hlen]
    exact Bool.false_ne_true
  have hnew : List.foldl (fun x1 x2 => x1 ++ x2) #[] (List.replicate (if its.toArray.isEmpty = true then 0 else k.toNat) its.toArray) = (List.replicate k.toNat its).flatten.toArray := by
    have f0 : ∀ m : Nat, List.foldl (fun x1 x2 => x1 ++ x2) #[] (List.replicate m its.toArray) = (List.replicate m its).flatten.toArray := fun m => by
      have := foldl_rep its m []
      rw [List.nil_append] at this
      exact this
    rw [f0]
    cases its with
    | nil => simp
    | cons a r' => rw [if_neg (by simp)]
  refine wpAny_binaryOp_repeat_ref (T := "list") (U := "int") (by decide) ⟨_, e, rfl⟩ (fun s' => typeIs_int s' k t) noFill_list_mul F.fills_int_mul F.slot_int_rmul repeat_list F.slot_int_index.lookup
    (call_meets F.slot_int_rmul (typeIs_int s k t) F.entry_int_rmul (F.args_int_rmul_2 _ _) (int___rmul___int_list k t l its.toArray n)
      ⟨e, rfl, ⟨_, e, rfl⟩, call_meets F.slot_list_mul ⟨_, e, rfl⟩ F.entry_list_mul (F.args_list_mul_2 _ _) (AutoListH.list___mul___list_int_3 l its.toArray n k t hfit hcap hlong) ⟨e, ?_⟩⟩)
  rw [hnew]
  exact ⟨.ref _, _, I.lnew (t' := s.toks) (r.rep k.toNat) (by rw [len_rep, Nat.mul_comm]; exact hz), rfl, q _ I.fresh⟩

/-! ### del xs[i] -/
end

/-! ### xs[a:b] = ys -/
section
variable {prog : Program} {w : World} {A : Around} {E : Value → Shared → Prop} {s : Shared}
set_option maxRecDepth 100000 in
end

section
variable {X : Cx}
end
end L2

namespace L2
open PySem PySem.Spec PyProof.Rows

theorem Vals.ints : ∀ {ns : List Int} {us : List Value}, Vals (ns.map V.int) us → IntsAre us ns
  | [], us, h => by
    rw [List.map_nil] at h
    cases h
    exact IntsAre.nil
  | n :: ns, us, h => by
    rw [List.map_cons] at h
    cases h with
    | cons r t =>
      obtain ⟨k, rfl⟩ := r
      exact IntsAre.cons n k (Vals.ints t)
theorem vals_of_ints : ∀ {us : List Value} {ns : List Int}, IntsAre us ns → Vals (ns.map V.int) us
  | _, _, .nil => by rw [List.map_nil]; exact Paired.nil
  | _, _, .cons n t h => by rw [List.map_cons]; exact Paired.cons (show RelV (V.int n) (Value.int n t) from ⟨t, rfl⟩) (vals_of_ints h)
theorem Vals.strs : ∀ {xs : List Str} {us : List Value}, Vals (xs.map V.str) us → StrsAre us xs
  | [], us, h => by
    rw [List.map_nil] at h
    cases h
    exact StrsAre.nil
  | x :: xs, us, h => by
    rw [List.map_cons] at h
    cases h with
    | cons r t =>
      obtain ⟨k, rfl⟩ := r
      exact StrsAre.cons x k (Vals.strs t)
theorem vals_of_strs : ∀ {us : List Value} {xs : List Str}, StrsAre us xs → Vals (xs.map V.str) us
  | _, _, .nil => by rw [List.map_nil]; exact Paired.nil
  | _, _, .cons x t h => by rw [List.map_cons]; exact Paired.cons (show RelV (V.str x) (Value.str x t) from ⟨t, rfl⟩) (vals_of_strs h)
theorem Vals.bls : ∀ {bs : List Bool} {us : List Value}, Vals (bs.map V.bl) us → us = bs.map Value.bool
  | [], us, h => by
    rw [List.map_nil] at h
    cases h
    rfl
  | b :: bs, us, h => by
    rw [List.map_cons] at h
    cases h with
    | cons r t =>
      cases r
      rw [Vals.bls t, List.map_cons]
theorem Vals.ref1 {a : Addr} {us : List Value} (r : Vals [V.ref a] us) : us = [Value.ref a] := by
  cases r with
  | cons r t =>
    cases t
    cases r
    rfl
/-! ### the library's walks over a list of ints, kept objects alone -/
section
variable {prog : Program} {w : World} {A : Around} {E : Value → Shared → Prop} {s : Shared} {l : Addr} {its : List Value} {ns : List Int} {Q : Value → Shared → Prop}
theorem sum_raw (hh : A.handled = none) (hl : s.heap.IsList l its.toArray) (hi : IntsAre its ns)
    (h : ∀ h' tk t', (∀ b o, s.heap.get? b = some o → h'.get? b = some o) → Q (.int ns.sum t') { s with heap := h', toks := tk }) : wpAny (model prog w) A (call (.builtin "sum") [.ref l]) Q E s := by
  obtain ⟨xs, e⟩ := hi.allInts.items
  have hn : numsOf (intItems xs).toList = ns := by rw [← e]; exact hi.numsOf
  rw [nums_intItems] at hn
  rw [e] at hl
  refine PySem.sum_intListG hh hl fun h' tk t' hk => ?_
  have := h h' tk t' hk
  rw [preSum_eq, List.take_of_length_le (by simp), hn]; exact this
end

/-! ### the calls, by values (CallR of 03t; MtR of 06l) -/
section
variable {X : Cx}
/-- sum(xs) of a list of ints -/
def rSum (K : PySem.W.Frag) : List V → Hp → VK → Prop := fun vs H Q => ∃ (a : Addr) (ns : List Int), vs = [V.ref a] ∧ SqL K H a (ns.map V.int) ∧ Q (.int ns.sum) H
/-- max(xs), min(xs) of a list of ints -/
def rMax (K : PySem.W.Frag) : List V → Hp → VK → Prop := fun vs H Q => ∃ (a : Addr) (ns : List Int), vs = [V.ref a] ∧ SqL K H a (ns.map V.int) ∧ 0 < ns.length ∧ ∀ m, m ∈ ns → (∀ y, y ∈ ns → y ≤ m) → Q (.int m) H
def rMin (K : PySem.W.Frag) : List V → Hp → VK → Prop := fun vs H Q => ∃ (a : Addr) (ns : List Int), vs = [V.ref a] ∧ SqL K H a (ns.map V.int) ∧ 0 < ns.length ∧ ∀ m, m ∈ ns → (∀ y, y ∈ ns → m ≤ y) → Q (.int m) H
theorem cr_sum (hc : X.calm = true) : CallR X (.builtin "sum") (rSum X.K) := by
  intro pins s σ H vs us Q I r h
  obtain ⟨a, ns, rfl, hs, q⟩ := h
  obtain ⟨its, rv, hl, _⟩ := I.list hs
  rw [Vals.ref1 r]
  exact sum_raw (I.ok.hd hc) hl.isList rv.ints fun h' tk t' hk => ⟨.int _, H, I.kept hk, ⟨_, rfl⟩, q⟩
/-! sorted, sort (fewer than 64 items: the library's own bound) -/
def rSorted (K : PySem.W.Frag) : List V → Hp → VK → Prop := fun vs H Q => ∃ (a : Addr) (ns : List Int), vs = [V.ref a] ∧ SqL K H a (ns.map V.int) ∧ ns.length < 64 ∧
  ∀ (ns' : List Int) (p : Addr), ns'.Perm ns → ns'.Pairwise (· ≤ ·) → H p = none → Q (.ref p) (upd H p (.lst (ns'.map V.int)))
def rSortedS (K : PySem.W.Frag) : List V → Hp → VK → Prop := fun vs H Q => ∃ (a : Addr) (xs : List Str), vs = [V.ref a] ∧ SqL K H a (xs.map V.str) ∧ xs.length < 64 ∧
  ∀ (ys : List Str) (p : Addr), ys.Perm xs → sortedS ys = true → H p = none → Q (.ref p) (upd H p (.lst (ys.map V.str)))
theorem small64 {n : Nat} (h : n < 64) : n ≤ sizeLine := by rw [sizeLine_eq]; omega
theorem cr_sortedS : CallR X (.builtin "sorted") (rSortedS X.K) := by
  intro pins s σ H vs us Q I r h
  obtain ⟨a, xs, rfl, hs, h64, q⟩ := h
  obtain ⟨its, rv, hl, _⟩ := I.list hs
  rw [Vals.ref1 r]
  have hlen0 := rv.length
  rw [List.length_map] at hlen0
  refine PyProof.Rows.sorted_strs hl.isList rv.strs (by rw [← hlen0]; exact h64) fun out ys h1 h2 h3 => ?_
  obtain ⟨ep, he'⟩ := PyProof.Rows.sortedAll_at s.heap its out
  have hlen : (ys.map V.str).length ≤ sizeLine := by rw [List.length_map, h2.length_eq]; exact small64 h64
  exact ⟨.ref _, upd H (s.heap.objs.size + 1) (.lst (ys.map V.str)), I.laid (t' := s.toks) (fun _ _ => PyProof.Rows.sortedAll_old) (Nat.le_succ _) ⟨hlen, out.toList, ep, vals_of_strs h1, he'⟩, rfl, q ys _ h2 h3 (I.hok.fresh (Nat.le_succ _))⟩
/-- xs.sort(), ints -/
def rSort : V → List V → Hp → VK → Prop := fun x xs H Q => ∃ (a : Addr) (ns : List Int), x = V.ref a ∧ xs = [] ∧ H a = some (.lst (ns.map V.int)) ∧ ns.length < 64 ∧
  ∀ ns' : List Int, ns'.Perm ns → ns'.Pairwise (· ≤ ·) → Q .non (upd H a (.lst (ns'.map V.int)))
end

/-! ### list.index, flat items -/
section
variable {X : Cx}
def rIndex (K : PySem.W.Frag) : V → List V → Hp → VK → Prop := fun x xs H Q => ∃ (a : Addr) (ys : List V) (y : V) (j : Nat) (z : V), x = V.ref a ∧ xs = [y] ∧ SqL K H a ys ∧ flatV y = true ∧ ys.all flatV = true ∧ ys[j]? = some z ∧ eqV z y = true ∧
  (∀ (m : Nat) (z' : V), m < j → ys[m]? = some z' → eqV z' y = false) ∧ Q (.int (j : Nat)) H
theorem flat_at {ys : List V} (f : ys.all flatV = true) {j : Nat} {z : V} (h : ys[j]? = some z) : flatV z = true := List.all_eq_true.mp f z (List.mem_of_getElem? h)
theorem mt_index : MtR X "list.index" (rIndex X.K) := by
  intro pins s σ H x xs v us Q I rx rxs h
  obtain ⟨a, ys, y, j, z, rfl, rfl, hs, fy, fys, hz, hzj, hno, q⟩ := h
  cases rx
  cases rxs with
  | cons ry rt =>
    rename_i uy ut
    cases rt
    obtain ⟨its, rv, ⟨⟨cls, dd, data, sl⟩, n, ho, hc, hdn, hd⟩, hlen⟩ := I.list hs
    simp only at hc hd
    subst hc hd
    obtain ⟨u, hu, ru⟩ := rv.get hz
    obtain ⟨hjl, hje⟩ := List.getElem?_eq_some_iff.mp hu
    have hvl := rv.length
    have hj : j < its.toArray.size := by simpa using hjl
    have hsl := sizeLine_eq
    refine call_meets PySem.F.slot_list_index ⟨_, ho, rfl⟩ PySem.F.entry_list_index (PySem.F.args_list_index_2 _ _)
      (SeqAt.list_indexAt a its.toArray n dd sl uy (eqU y) j hj (by omega) ?_ ?_) ⟨ho, fun u' hu' => mem_eqAt ry fy rv fys u' (by simpa using hu'), ?_⟩
    · have e1 : its.toArray[j] = u := by simpa using hje
      rw [e1, eqU_of ru (flat_at fys hz)]
      exact hzj
    · intro m hm hmj
      have hml : m < its.length := by simpa using hm
      have hmy : m < ys.length := by omega
      have hy' : ys[m]? = some ys[m] := List.getElem?_eq_getElem hmy
      obtain ⟨u2, hu2, ru2⟩ := rv.get hy'
      obtain ⟨_, hme⟩ := List.getElem?_eq_some_iff.mp hu2
      have e1 : its.toArray[m] = u2 := by simpa using hme
      rw [e1, eqU_of ru2 (flat_at fys hy')]
      exact hno m _ hmj hy'
    · exact ⟨.int (j : Nat), H, I.tok _, ⟨_, rfl⟩, q⟩
end

/-! ### type(x) of an own instance; is, is not of a module's class -/
section
variable {X : Cx}
end

/-! ### any(xs), all(xs) of a list of bools -/
theorem iter_any {prog : Program} {w : World} {A : Around} {E : Value → Shared → Prop} {s : Shared} {l : Addr} {items : Array Value} {Q : Value → Shared → Prop} (hl : s.heap.IsList l items)
    (h : ∀ s₂ : Shared, s₂ = { s with heap := s.heap.push { cls := .type "list_iterator", data := .fields #[.ref l, .int 0 0] } } →
      (s₂.heap.IsListIter s.heap.objs.size l 0 ∧ s₂.heap.IsList l items) → l ≠ s.heap.objs.size → Q (.ref s.heap.objs.size) s₂) : wpAny (model prog w) A (pyIter (.ref l)) Q E s := by
  have hlt : l < s.heap.objs.size := by obtain ⟨_, e, _⟩ := hl; exact Heap.lt_size e
  exact wpAny_pyIter_list hl (h _ rfl ⟨⟨_, Heap.get?_push_size _ rfl, rfl, rfl⟩, hl.push _⟩ (Nat.ne_of_lt hlt))
theorem truth_bools {prog : Program} {w : World} {A : Around} {bs : List Bool} {its : List Value} (e : its = bs.map Value.bool) :
    TruthOf prog w A (fun i v => its.toArray[i]? = some v) (fun i => bs.getD i false) := fun i v s Q E hv hq => by
  have hv' : its[i]? = some v := by simpa using hv
  rw [e, List.getElem?_map] at hv'
  obtain ⟨b, hb, rfl⟩ := Option.map_eq_some_iff.mp hv'
  have hg : bs.getD i false = b := by rw [List.getD_eq_getElem?_getD, hb] <;> rfl
  have hq' : Q (bs.getD i false) s := hq
  rw [hg] at hq'
  exact wpAny_truthy_bool hq'
theorem any_range : ∀ bs : List Bool, (List.range bs.length).any (fun i => bs.getD i false) = bs.any id
  | [] => rfl
  | b :: bs => by
    rw [List.length_cons, List.range_succ_eq_map, List.any_cons, List.any_map, List.any_cons, ← any_range bs]
    all_goals rfl
theorem all_range : ∀ bs : List Bool, (List.range bs.length).all (fun i => bs.getD i false) = bs.all id
  | [] => rfl
  | b :: bs => by
    rw [List.length_cons, List.range_succ_eq_map, List.all_cons, List.all_map, List.all_cons, ← all_range bs]
    all_goals rfl
section
variable {X : Cx}
def rAny (K : PySem.W.Frag) : List V → Hp → VK → Prop := fun vs H Q => ∃ (a : Addr) (bs : List Bool), vs = [V.ref a] ∧ SqL K H a (bs.map V.bl) ∧ Q (.bl (bs.any id)) H
def rAll (K : PySem.W.Frag) : List V → Hp → VK → Prop := fun vs H Q => ∃ (a : Addr) (bs : List Bool), vs = [V.ref a] ∧ SqL K H a (bs.map V.bl) ∧ Q (.bl (bs.all id)) H
theorem cr_all (hc : X.calm = true) : CallR X (.builtin "all") (rAll X.K) := by
  intro pins s σ H vs us Q I r h
  obtain ⟨a, bs, rfl, hs, q⟩ := h
  obtain ⟨its, rv, hl, _⟩ := I.list hs
  rw [Vals.ref1 r]
  have hb := rv.bls
  refine call_all_walk (iter_any hl.isList fun s₂ e2 st hne => ?_)
  subst e2
  refine ⟨_, _, _, _, _, _, _, rfl, Walks.list (A := X.A.in1) (I.ok.hd hc) _ a hne its.toArray, st, truth_bools hb, fun h' tk hk => ?_⟩
  refine ⟨.bl _, H, I.kept fun b o eo => hk b o (fun hmem => ?_) (Heap.get?_push_of_some _ eo), ?_, q⟩
  · rcases List.mem_cons.mp hmem with e1 | hmem
    · exact absurd (e1 ▸ Heap.lt_size eo) (Nat.lt_irrefl _)
    · cases hmem
  · show Value.bool _ = Value.bool _
    rw [← all_range, hb, List.size_toArray, List.length_map]
end

/-! ### == and != of data at any depth: none, bools, ints, texts, lists, tuples -/
mutual
inductive Dp (K : PySem.W.Frag) (H : Hp) : V → PyData → Prop
  | non : Dp K H .non .none
  | bl (b : Bool) : Dp K H (.bl b) (.bool b)
  | int (i : Int) : Dp K H (.int i) (.int i)
  | str (x : Str) : Dp K H (.str x) (.str x)
  | lst {a : Addr} {xs : List V} {ds : List PyData} : SqL K H a xs → DpAll K H xs ds → Dp K H (.ref a) (.list ds)
  | tup {a : Addr} {xs : List V} {ds : List PyData} : SqT K H a xs → DpAll K H xs ds → Dp K H (.ref a) (.tuple ds)
inductive DpAll (K : PySem.W.Frag) (H : Hp) : List V → List PyData → Prop
  | nil : DpAll K H [] []
  | cons {v : V} {vs : List V} {d : PyData} {ds : List PyData} : Dp K H v d → DpAll K H vs ds → DpAll K H (v :: vs) (d :: ds)
end
section
variable {X : Cx} {pins : List (Addr × Obj)} {σ : St} {H : Hp} {s : Shared}
mutual
theorem Dp.reads (I : Inv X pins σ H s) : ∀ (d : PyData) (v : V) (u : Value), Dp X.K H v d → RelV v u → ∃ as, Reads s.heap u d as
  | .none, _, _, h, r => by
    cases h
    cases r
    exact ⟨_, Reads.none⟩
  | .bool b, _, _, h, r => by
    cases h
    cases r
    exact ⟨_, Reads.bool b⟩
  | .int i, _, _, h, r => by
    cases h
    obtain ⟨t, rfl⟩ := r
    exact ⟨_, Reads.int i t⟩
  | .str x, _, _, h, r => by
    cases h
    obtain ⟨t, rfl⟩ := r
    exact ⟨_, Reads.str x t⟩
  | .list ds, _, _, h, r => by
    cases h with
    | lst hs ha =>
      cases r
      obtain ⟨its, rv, ⟨o, n, ho, hc, _, hd⟩, _⟩ := I.list hs
      obtain ⟨as, hr⟩ := Dp.readsAll I ds _ its ha rv
      exact ⟨_, Reads.list ho hc hd hr⟩
  | .tuple ds, _, _, h, r => by
    cases h with
    | tup hs ha =>
      cases r
      obtain ⟨its, rv, ⟨o, ho, hc, n, hd⟩, _⟩ := I.tuple hs
      obtain ⟨as, hr⟩ := Dp.readsAll I ds _ its ha rv
      exact ⟨_, Reads.tuple ho hc hd hr⟩
  | .dict _, _, _, h, _ => by cases h
theorem Dp.readsAll (I : Inv X pins σ H s) : ∀ (ds : List PyData) (vs : List V) (us : List Value), DpAll X.K H vs ds → Vals vs us → ∃ as, ReadsAll s.heap us ds as
  | [], _, _, h, r => by
    cases h
    cases r
    exact ⟨_, ReadsAll.nil⟩
  | d :: ds, _, _, h, r => by
    cases h with
    | cons h1 h2 =>
      cases r with
      | cons r1 r2 =>
        obtain ⟨as, q1⟩ := Dp.reads I d _ _ h1 r1
        obtain ⟨bs, q2⟩ := Dp.readsAll I ds _ _ h2 r2
        exact ⟨_, ReadsAll.cons q1 q2⟩
end
end
section
variable {X : Cx}
def rEqD (K : PySem.W.Frag) : R2 := fun x y H Q => ∃ d e, Dp K H x d ∧ Dp K H y e ∧ SeqAt.shaped d = true ∧ SeqAt.shaped e = true ∧ Q (.bl (PyData.eqv d e)) H
def rNeD (K : PySem.W.Frag) : R2 := fun x y H Q => ∃ d e, Dp K H x d ∧ Dp K H y e ∧ SeqAt.shaped d = true ∧ SeqAt.shaped e = true ∧ Q (.bl (!PyData.eqv d e)) H
theorem op_eqD (hu : X.A.units + 64 < cLine) : OpR X (compareOp .Eq) (rEqD X.K) := by
  intro pins s σ H x y v u Q I rx ry h
  obtain ⟨d, e, hd, he, sd, se, q⟩ := h
  obtain ⟨as, r1⟩ := Dp.reads I d x v hd rx
  obtain ⟨bs, r2⟩ := Dp.reads I e y u he ry
  exact SeqAt.compareEq_shaped r1 r2 sd se hu ⟨.bl _, H, I, rfl, q⟩
end
end L2

namespace L2
open PySem PySem.Spec PyProof.Rows
abbrev CellAt (h : Heap) (c : Addr) (v : Option Value) : Prop := h.IsCell c v
def relS (scope sc : Scope) : Scope :=
  { scope with names := scope.names.map fun (n, k) => if (k == .free && sc.kind == .function && sc.names.lookup n == some .cell) then (n, .cell) else (n, k) }

def cloFrom (cells : List (Str × Addr)) : List (Str × NameKind) → List (Str × Addr) → List (Str × Addr)
  | [], acc => acc
  | (n, k) :: r, acc => if k == .free then cloFrom cells r ((n, (cells.lookup n).getD 0) :: acc) else cloFrom cells r acc

theorem closure_loop (env : Env) (f : Str × NameKind → List (Str × Addr) → Sem (ForInStep (List (Str × Addr))))
    (hf : ∀ n k c, f (n, k) c = if k == .free then (do let a ← cellOf env n; pure (.yield ((n, a) :: c))) else pure (.yield c)) :
    ∀ (names : List (Str × NameKind)) (acc : List (Str × Addr)), (∀ y ∈ names, y.2 = .free → ∃ c, env.cells.lookup y.1 = some c) → forIn names acc f = pure (cloFrom env.cells names acc)
  | [], acc, _ => by rw [List.forIn_nil]; rfl
  | (n, k) :: r, acc, h => by
    rw [List.forIn_cons, hf]
    have ih := fun acc => closure_loop env f hf r acc fun y hy => h y (List.mem_cons_of_mem _ hy)
    unfold cloFrom
    by_cases hk : (k == NameKind.free) = true
    · rw [if_pos hk, if_pos hk]
      obtain ⟨c, hc⟩ := h (n, k) List.mem_cons_self (by simpa using hk)
      have e : cellOf env n = pure c := by unfold cellOf; rw [hc]
      rw [e]
      have e2 : (env.cells.lookup n).getD 0 = c := by rw [hc]; rfl
      rw [e2]
      exact ih _
    · rw [if_neg hk, if_neg hk]
      exact ih _
theorem closure_ok {scope : Scope} {env : Env} (h : ∀ y ∈ scope.names, y.2 = .free → ∃ c, env.cells.lookup y.1 = some c) : closureFor scope env = pure (cloFrom env.cells scope.names []) := by
  simp only [closureFor]
  rw [closure_loop env _ (fun n k c => rfl) scope.names [] h]
  rfl

theorem mem_lookup {α : Type} : ∀ {l : List (Str × α)} {n : Str} {c : α}, (n, c) ∈ l → ∃ c', l.lookup n = some c'
  | (k, v) :: r, n, c, h => by
    rw [List.lookup_cons]
    cases hb : n == k with
    | true => exact ⟨_, rfl⟩
    | false =>
      rcases List.mem_cons.mp h with e | h
      · cases e; simp at hb
      · exact mem_lookup h

theorem cloFrom_mem {cells : List (Str × Addr)} : ∀ {names : List (Str × NameKind)} {acc : List (Str × Addr)} {n : Str} {c : Addr}, (n, c) ∈ cloFrom cells names acc → (n, c) ∈ acc ∨ ((n, .free) ∈ names ∧ c = (cells.lookup n).getD 0)
  | [], _, _, _, h => .inl h
  | (m, k) :: r, acc, n, c, h => by
    unfold cloFrom at h
    split at h
    · rename_i hk
      have hk : k = .free := by simpa using hk
      rcases cloFrom_mem h with h | ⟨h1, h2⟩
      · rcases List.mem_cons.mp h with e | h
        · cases e; exact .inr ⟨hk ▸ List.mem_cons_self, rfl⟩
        · exact .inl h
      · exact .inr ⟨List.mem_cons_of_mem _ h1, h2⟩
    · rcases cloFrom_mem h with h | ⟨h1, h2⟩
      · exact .inl h
      · exact .inr ⟨List.mem_cons_of_mem _ h1, h2⟩
theorem cloFrom_acc {cells : List (Str × Addr)} : ∀ {names : List (Str × NameKind)} {acc : List (Str × Addr)} {p : Str × Addr}, p ∈ acc → p ∈ cloFrom cells names acc
  | [], _, _, h => h
  | (m, k) :: r, acc, p, h => by
    unfold cloFrom
    split
    · exact cloFrom_acc (List.mem_cons_of_mem _ h)
    · exact cloFrom_acc h
theorem cloFrom_has {cells : List (Str × Addr)} : ∀ {names : List (Str × NameKind)} {acc : List (Str × Addr)} {n : Str}, (n, .free) ∈ names → (n, (cells.lookup n).getD 0) ∈ cloFrom cells names acc
  | (m, k) :: r, acc, n, h => by
    unfold cloFrom
    rcases List.mem_cons.mp h with e | h
    · cases e
      exact cloFrom_acc List.mem_cons_self
    · split
      · exact cloFrom_has h
      · exact cloFrom_has h

theorem cells_mem : ∀ {names : List (Str × NameKind)} {h : Heap} {acc : List (Str × Addr)} {x : Str} {c : Addr}, (x, c) ∈ cellsFrom h.objs.size names acc →
    (x, c) ∈ acc ∨ ((x, .cell) ∈ names ∧ h.objs.size ≤ c ∧ CellAt (pushCells h names) c none)
  | [], _, _, _, _, h => .inl h
  | (n, k) :: r, h, acc, x, c, hm => by
    unfold cellsFrom at hm
    unfold pushCells
    split at hm
    · rename_i hk
      rw [if_pos hk]
      have hk : k = .cell := by simpa using hk
      rw [← Heap.size_push h { cls := .type "cell", data := .cell none }] at hm
      rcases cells_mem hm with hm | ⟨h1, h2, h3⟩
      · rcases List.mem_cons.mp hm with e | hm
        · cases e
          exact .inr ⟨hk ▸ List.mem_cons_self, Nat.le_refl _, _, pushCells_keeps r _ _ _ (Heap.get?_push_size _ rfl), rfl⟩
        · exact .inl hm
      · rw [Heap.size_push] at h2
        exact .inr ⟨List.mem_cons_of_mem _ h1, Nat.le_of_succ_le h2, h3⟩
    · rename_i hk
      rw [if_neg hk]
      rcases cells_mem hm with hm | ⟨h1, h2, h3⟩
      · exact .inl hm
      · exact .inr ⟨List.mem_cons_of_mem _ h1, h2, h3⟩
theorem cells_acc : ∀ {names : List (Str × NameKind)} {n : Nat} {acc : List (Str × Addr)} {p : Str × Addr}, p ∈ acc → p ∈ cellsFrom n names acc
  | [], _, _, _, h => h
  | (m, k) :: r, n, acc, p, h => by
    unfold cellsFrom
    split
    · exact cells_acc (List.mem_cons_of_mem _ h)
    · exact cells_acc h
theorem cells_has : ∀ {names : List (Str × NameKind)} {n : Nat} {acc : List (Str × Addr)} {x : Str}, (x, .cell) ∈ names → ∃ c, (x, c) ∈ cellsFrom n names acc
  | (m, k) :: r, n, acc, x, h => by
    unfold cellsFrom
    rcases List.mem_cons.mp h with e | h
    · cases e
      exact ⟨n, cells_acc List.mem_cons_self⟩
    · split
      · exact cells_has h
      · exact cells_has h
theorem cells_inj : ∀ {names : List (Str × NameKind)} {h : Heap} {acc : List (Str × Addr)} {x y : Str} {c : Addr}, (∀ p ∈ acc, p.2 < h.objs.size) → (∀ x y c, (x, c) ∈ acc → (y, c) ∈ acc → x = y) →
    (x, c) ∈ cellsFrom h.objs.size names acc → (y, c) ∈ cellsFrom h.objs.size names acc → x = y
  | [], _, _, _, _, _, _, hi, h1, h2 => hi _ _ _ h1 h2
  | (n, k) :: r, h, acc, x, y, c, hl, hi, h1, h2 => by
    unfold cellsFrom at h1 h2
    split at h1
    · rename_i hk
      rw [if_pos hk] at h2
      rw [← Heap.size_push h { cls := .type "cell", data := .cell none }] at h1 h2
      refine cells_inj (h := h.push _) (fun p hp => ?_) (fun x y c a b => ?_) h1 h2
      · rw [Heap.size_push]
        rcases List.mem_cons.mp hp with rfl | hp
        · exact Nat.lt_succ_self _
        · exact Nat.lt_succ_of_lt (hl p hp)
      · rcases List.mem_cons.mp a with e | a <;> rcases List.mem_cons.mp b with e' | b
        · cases e; cases e'; rfl
        · cases e; exact absurd (hl _ b) (Nat.lt_irrefl _)
        · cases e'; exact absurd (hl _ a) (Nat.lt_irrefl _)
        · exact hi _ _ _ a b
    · rename_i hk
      rw [if_neg hk] at h2
      exact cells_inj hl hi h1 h2

theorem newEnv_comp {M : Model} {A : Around} {E : Value → Shared → Prop} {s : Shared} {scope : Scope} {globals : Addr} {closure : List (Str × Addr)} {qual : Str} {func : Option Addr} {code : Value} {around : Env} {builtins : Addr} {Q : Env → Shared → Prop}
    (h : Q (newEnv scope s.heap.objs.size globals (cellsFrom (s.heap.objs.size + 1) scope.names closure) qual func code (some around) builtins)
      { s with heap := pushCells (s.heap.push { cls := .type "dict", data := .dict #[] }) scope.names }) :
    wpAny M A (newFunctionEnv scope globals closure [] qual func code (some around) builtins) Q E s := by
  simp only [newFunctionEnv, Option.isSome_some, if_true]
  refine wpAny_bind (wpAny_alloc ?_)
  refine wpAny_bind (wpAny_layCells _ (fun n k c => rfl) scope.names closure _ _ ?_)
  rw [show ({ s with heap := s.heap.push { cls := .type "dict", data := .dict #[] } } : Shared).heap.objs.size = s.heap.objs.size + 1 from Heap.size_push ..]
  rw [List.forIn_nil]
  exact wpAny_bind (wpAny_pure (wpAny_pure h))

/-- every name of the written scope, in the scope that runs -/
theorem lookup_relS {sc : Scope} : ∀ {names : List (Str × NameKind)} {x : Str} {k : NameKind},
    (names.map fun (n, k) => if (k == NameKind.free && sc.kind == .function && sc.names.lookup n == some .cell) then (n, NameKind.cell) else (n, k)).lookup x = some k →
    ∃ k', names.lookup x = some k' ∧ (k = k' ∨ (k' = .free ∧ k = .cell))
  | [], _, _, h => by simp at h
  | (n, k₀) :: r, x, k, h => by
    have ih := @lookup_relS sc r x k
    have h' : List.lookup x ((if (k₀ == NameKind.free && sc.kind == .function && sc.names.lookup n == some .cell) = true then (n, NameKind.cell) else (n, k₀)) :: (r.map _)) = some k := h
    cases hx : x == n with
    | true =>
      simp only [List.lookup_cons, hx]
      by_cases hc : (k₀ == NameKind.free && sc.kind == .function && sc.names.lookup n == some .cell) = true
      · rw [if_pos hc] at h'
        simp only [List.lookup_cons, hx] at h'
        cases h'
        simp only [Bool.and_eq_true, beq_iff_eq] at hc
        exact ⟨k₀, rfl, .inr ⟨hc.1.1, rfl⟩⟩
      · rw [if_neg hc] at h'
        simp only [List.lookup_cons, hx] at h'
        cases h'
        exact ⟨_, rfl, .inl rfl⟩
    | false =>
      simp only [List.lookup_cons, hx]
      by_cases hc : (k₀ == NameKind.free && sc.kind == .function && sc.names.lookup n == some .cell) = true
      · rw [if_pos hc] at h'
        simp only [List.lookup_cons, hx] at h'
        exact ih h'
      · rw [if_neg hc] at h'
        simp only [List.lookup_cons, hx] at h'
        exact ih h'
/-- the names of a comprehension's block: its own (with their places in N), or captured -/
structure BlkOk (N : List Str) (sc scope : Scope) (own : List (Str × Nat)) : Prop where
  kind : scope.kind = .function
  uniq : ∀ y ∈ scope.names, scope.names.lookup y.1 = some y.2
  ix : ∀ p ∈ own, N[p.2]? = some p.1
  free : ∀ y ∈ scope.names, y.2 = .free → sc.names.lookup y.1 = some .cell ∨ sc.names.lookup y.1 = some .free
  own : ∀ y ∈ scope.names, y.2 = .local ∨ y.2 = .cell → y.1 ∈ own.map (·.1) ∨ y.1 ∉ N
/-- the slots of the block's own names forgotten -/
def wipe (σ : St) : List Nat → St
  | [] => σ
  | v :: vs => (wipe σ vs).set v none
theorem wipe_length (σ : St) : ∀ vs : List Nat, (wipe σ vs).length = σ.length
  | [] => rfl
  | v :: vs => by unfold wipe; rw [List.length_set, wipe_length σ vs]
theorem wipe_some {σ : St} {i : Nat} {x : V} : ∀ {vs : List Nat}, (wipe σ vs)[i]? = some (some x) → σ[i]? = some (some x) ∧ i ∉ vs
  | [], h => ⟨h, by simp⟩
  | v :: vs, h => by
    unfold wipe at h
    by_cases hi : v = i
    · subst hi
      by_cases hv : v < (wipe σ vs).length
      · rw [List.getElem?_set_self hv] at h; cases h
      · rw [List.getElem?_eq_none (by simpa using hv)] at h; cases h
    · rw [List.getElem?_set_ne hi] at h
      obtain ⟨h1, h2⟩ := wipe_some h
      exact ⟨h1, by simp only [List.mem_cons, not_or]; exact ⟨fun e => hi e.symm, h2⟩⟩

/-- the context of a block that starts at s, its iterator's objects at fp -/
abbrev Cx.blk (X : Cx) (s : Shared) (H : Hp) (scope : Scope) (cenv : Env) (fp : List Addr) : Cx := { X with s_0 := s, H_0 := H, env := cenv, outer := X.stack, ex := fp, fn := fun x => scope.names.lookup x == some .cell, pn := [], xe := fun _ _ => False }
section
variable {X : Cx} {pins : List (Addr × Obj)} {σ : St} {H : Hp} {s : Shared}
theorem block_start {scope : Scope} {own : List (Str × Nat)} {fp : List Addr} (I : Inv X pins σ H s) (ok : BlkOk X.N X.env.scope scope own) (hN : X.N.Nodup) (hfp : ∀ b ∈ fp, FpOk X pins H b ∧ b < s.heap.objs.size) :
    Inv (X.blk s H scope (compEnvC scope (cellsFrom (s.heap.objs.size + 1) scope.names (cloFrom X.env.cells scope.names [])) s.heap.objs.size X.env) fp) [] (wipe σ (own.map (·.2))) H { s with heap := pushCells (s.heap.push { cls := .type "dict", data := .dict #[] }) scope.names } := by
  have hfree : ∀ y ∈ scope.names, y.2 = .free → ∃ c, X.env.cells.lookup y.1 = some c := fun y hy e => by
    rcases ok.free y hy e with k | k
    · exact I.ok.has _ (.inl k)
    · exact I.ok.has _ (.inr k)
  generalize hcenv : compEnvC scope (cellsFrom (s.heap.objs.size + 1) scope.names (cloFrom X.env.cells scope.names [])) s.heap.objs.size X.env = cenv
  have kp : ∀ b o, s.heap.get? b = some o → (pushCells (s.heap.push { cls := .type "dict", data := .dict #[] }) scope.names).get? b = some o := fun b o e => pushCells_keeps _ _ _ _ (Heap.get?_push_of_some _ e)
  have hL : cenv.locals = s.heap.objs.size := by rw [← hcenv]; rfl
  have hcl : cenv.cells = cellsFrom (s.heap.objs.size + 1) scope.names (cloFrom X.env.cells scope.names []) := by rw [← hcenv]; rfl
  have hsc : cenv.scope = relS scope X.env.scope := by rw [← hcenv]; rfl
  rw [← Heap.size_push s.heap { cls := .type "dict", data := .dict #[] }] at hcl
  have cm : ∀ {y c}, (y, c) ∈ cloFrom X.env.cells scope.names [] → X.env.cells.lookup y = some c ∧ c < s.heap.objs.size := fun {y c} hm => by
    rcases cloFrom_mem hm with hm | ⟨h1, rfl⟩
    · cases hm
    · obtain ⟨c, hc⟩ := hfree _ h1 rfl
      rw [hc]
      obtain ⟨w, z⟩ := I.cell _ _ hc
      exact ⟨rfl, z.lt⟩
  have mem : ∀ {y c}, cenv.cells.lookup y = some c → (X.env.cells.lookup y = some c ∧ c < s.heap.objs.size) ∨ (s.heap.objs.size + 1 ≤ c ∧ CellAt (pushCells (s.heap.push { cls := .type "dict", data := .dict #[] }) scope.names) c none) := fun {y c} e => by
    rw [hcl] at e
    rcases cells_mem (PySem.mem_of_lookup e) with hm | ⟨_, h2, h3⟩
    · exact .inl (cm hm)
    · rw [Heap.size_push] at h2; exact .inr ⟨h2, h3⟩
  have look : ∀ {y}, scope.names.lookup y = some .free → ∃ c, cenv.cells.lookup y = some c ∧ X.env.cells.lookup y = some c := fun {y} hl => by
    have hy : (y, NameKind.free) ∈ scope.names := PySem.mem_of_lookup hl
    obtain ⟨c', e'⟩ := mem_lookup (cells_acc (names := scope.names) (n := (s.heap.push { cls := .type "dict", data := .dict #[] }).objs.size) (cloFrom_has (cells := X.env.cells) (acc := []) hy))
    rw [← hcl] at e'
    refine ⟨c', e', ?_⟩
    rw [hcl] at e'
    rcases cells_mem (PySem.mem_of_lookup e') with hm | ⟨h1, _, _⟩
    · exact (cm hm).1
    · have := ok.uniq _ h1
      rw [hl] at this; cases this
  have okB : (X.blk s H scope cenv fp).Ok := by
    refine ⟨I.ok.mod, by show cenv.scope.kind = _; rw [hsc]; exact ok.kind, by show cenv.globals = _; rw [← hcenv]; exact I.ok.glob, by show cenv.builtins = _; rw [← hcenv]; exact I.ok.blt, by show s.heap.objs.size ≤ cenv.locals; rw [hL]; exact Nat.le_refl _,
      fun y z c e1 e2 => ?_, fun y hy => ?_, fun y c z e => ?_, I.ok.hd, I.ok.frames, .inl rfl, fun b hb => ⟨?_, fun y c e z => ?_⟩, I.bs, Nat.le_trans I.ok.bsz I.sz, fun b o e hb => ?_, fun b hb z => ?_, I.stack, I.stkFree⟩
    · have e1 : cenv.cells.lookup y = some c := e1
      have e2 : cenv.cells.lookup z = some c := e2
      rw [hcl] at e1 e2
      refine cells_inj (fun p hp => ?_) (fun y z c a b => I.ok.inj y z c (cm a).1 (cm b).1) (PySem.mem_of_lookup e1) (PySem.mem_of_lookup e2)
      rw [Heap.size_push]
      exact Nat.lt_succ_of_lt (cm (y := p.1) (c := p.2) hp).2
    · show ∃ c, cenv.cells.lookup y = some c
      have key : ∀ k, cenv.kindOf y = some k → (k = .cell ∨ k = .free) → ∃ c, cenv.cells.lookup y = some c := fun k hk hk' => by
        unfold Env.kindOf at hk
        rw [hsc] at hk
        obtain ⟨k', e, r⟩ := lookup_relS hk
        have : k' = .cell ∨ k' = .free := by
          rcases r with rfl | ⟨rfl, _⟩
          · exact hk'
          · exact .inr rfl
        rcases this with rfl | rfl
        · obtain ⟨c, hm⟩ := cells_has (n := (s.heap.push { cls := .type "dict", data := .dict #[] }).objs.size) (acc := cloFrom X.env.cells scope.names []) (PySem.mem_of_lookup e)
          obtain ⟨c', e'⟩ := mem_lookup hm
          exact ⟨c', by rw [hcl]; exact e'⟩
        · obtain ⟨c, h1, _⟩ := look e
          exact ⟨c, h1⟩
      rcases hy with hy | hy
      · exact key _ hy (.inl rfl)
      · exact key _ hy (.inr rfl)
    · have z : (scope.names.lookup y == some NameKind.cell) = true := z
      have z : scope.names.lookup y = some .cell := by simpa using z
      have e : cenv.cells.lookup y = some c := e
      rw [hcl] at e
      rcases cells_mem (PySem.mem_of_lookup e) with hm | ⟨_, h2, _⟩
      · rcases cloFrom_mem hm with hm | ⟨h1, _⟩
        · cases hm
        · have q := ok.uniq _ h1
          rw [z] at q; cases q
      · rw [Heap.size_push] at h2
        exact Nat.le_of_succ_le h2
    · show b ≠ cenv.locals
      rw [hL]; exact Nat.ne_of_lt (hfp b hb).2
    · have e : cenv.cells.lookup y = some c := e
      rcases mem e with ⟨h1, _⟩ | ⟨h1, _⟩
      · exact (hfp b hb).1.2.2.2.2.1 y c h1 z
      · have h2 : s.heap.objs.size + 1 ≤ b := by rw [← z]; exact h1
        exact absurd (Nat.lt_of_lt_of_le (hfp b hb).2 (Nat.le_of_succ_le h2)) (Nat.lt_irrefl _)
    · rcases (hfp b hb).1.2.2.2.1 with z | z
      · exact I.ok.noex b o e z
      · exact absurd (Nat.lt_of_lt_of_le (Heap.lt_size e) (Nat.le_trans I.ok.bsz z)) (Nat.lt_irrefl _)
    · rcases List.mem_cons.mp (I.stkSub b z) with z | z
      · exact (hfp b hb).1.2.1 z
      · exact (hfp b hb).1.2.2.1 z
  refine ⟨okB, rfl, I.bare, Un.kept kp, ⟨fun _ => none, ?_, fun i y av e1 e2 e3 => ?_⟩, fun y c e => ?_, ?_, fun y c e => ?_, fun p hp => ?_, I.hok.kept kp, by rw [wipe_length]; exact I.len⟩
  · show Heap.Ns _ cenv.locals _
    rw [hL]
    exact Heap.Ns.keeps (Heap.Ns.new ..) fun b o e => pushCells_keeps _ _ _ _ e
  · obtain ⟨e2, hne⟩ := wipe_some e2
    have hfr : scope.names.lookup y = some .free ∧ (cenv.kindOf y = some .cell ∨ cenv.kindOf y = some .free) := by
      have key : ∀ k, cenv.scope.names.lookup y = some k → k = .local ∨ k = .cell ∨ k = .free → scope.names.lookup y = some .free ∧ (cenv.kindOf y = some .cell ∨ cenv.kindOf y = some .free) := fun k hk hk' => by
        have hk0 := hk
        rw [hsc] at hk
        obtain ⟨k', e, r⟩ := lookup_relS hk
        have no : ¬ (k' = .local ∨ k' = .cell) := fun hh => by
          rcases ok.own _ (PySem.mem_of_lookup e) hh with e' | e'
          · obtain ⟨p, hp, hpy⟩ := List.mem_map.mp e'
            have e3 := ok.ix p hp
            have : p.1 = y := hpy
            rw [this] at e3
            exact hne (List.mem_map.mpr ⟨p, hp, nodup_ix hN e3 e1⟩)
          · exact e' (List.mem_of_getElem? e1)
        rcases r with rfl | ⟨rfl, rfl⟩
        · rcases hk' with rfl | rfl | rfl
          · exact absurd (.inl rfl) no
          · exact absurd (.inr rfl) no
          · exact ⟨e, .inr hk0⟩
        · exact ⟨e, .inl hk0⟩
      have e3 : Vis cenv.scope y := e3
      rcases e3 with e3 | e3 | e3
      · exact key _ e3 (.inl rfl)
      · exact key _ e3 (.inr (.inl rfl))
      · exact key _ e3 (.inr (.inr rfl))
    obtain ⟨m, hn, hl⟩ := I.loc
    have hvis : Vis X.env.scope y := (ok.free _ (PySem.mem_of_lookup hfr.1) rfl).elim (fun k => .inr (.inl k)) (fun k => .inr (.inr k))
    obtain ⟨w, r, q⟩ := hl i y av e1 e2 hvis
    refine ⟨w, r, .inr ⟨hfr.2, ?_⟩⟩
    obtain ⟨c, h1, h2⟩ := look hfr.1
    rcases q with ⟨k, _⟩ | ⟨_, c', e', z⟩
    · have k : X.env.scope.names.lookup y = some .local := k
      rcases ok.free _ (PySem.mem_of_lookup hfr.1) rfl with k' | k' <;> rw [show X.env.scope.names.lookup y = _ from k'] at k <;> cases k
    · rw [h2] at e'; cases e'
      exact ⟨c, h1, z.keeps kp⟩
  · have e : cenv.cells.lookup y = some c := e
    rcases mem e with ⟨h1, _⟩ | ⟨_, z⟩
    · obtain ⟨w, z⟩ := I.cell y c h1
      exact ⟨w, z.keeps kp⟩
    · exact ⟨_, z⟩
  · show H cenv.locals = none
    rw [hL]; exact I.hok.fresh (Nat.le_refl _)
  · have e : cenv.cells.lookup y = some c := e
    rcases mem e with ⟨h1, _⟩ | ⟨h1, _⟩
    · exact I.freeC y c h1
    · exact I.hok.fresh (Nat.le_of_succ_le h1)
  · exact absurd (show p ∈ ([] : List (Addr × Obj)) ++ [] from hp) (by simp)

/-- an item appended to a tracked list -/
theorem app_ok {E : Value → Shared → Prop} {D : Addr} {xs : List V} {y : V} {v : Value} {Q : Value → Shared → Prop} (I : Inv X pins σ H s) (hD : H D = some (.lst xs)) (hz : xs.length < sizeLine) (r : RelV y v)
    (h : ∀ s', Inv X pins σ (upd H D (.lst (xs ++ [y]))) s' → Q .none s') : wpAny (model X.prog X.w) X.A (call (.builtin "list.append") [.ref D, v]) Q E s := by
  obtain ⟨hz', its, n, ri, e⟩ := I.hok D _ hD
  have hl := ri.length
  refine append_at (hsz := by rw [List.size_toArray]; omega) e fun h' sb ho' => ?_
  refine h { s with heap := h' } (I.write (t' := s.toks) (by rw [hD]; trivial) (.inl rfl) (fun b u hb q => (sb.2 b hb).trans q) ⟨_, ho'⟩ ⟨by rw [List.length_append]; exact hz, its ++ [v], n + 1, ri.append (.cons r .nil), ?_⟩)
  rw [ho']
  simp

/-- a clause's tests -/
def PTs (X : Cx) (ifs : List Expr) (t : TT) : Prop :=
  ∀ (pins : List (Addr × Obj)) (s : Shared) (σ : St) (H : Hp) (Q : Bool → Hp → Prop), Inv X pins σ H s → t σ H Q →
    wpAny (model X.prog X.w) X.A (forIn ifs true fun c r => if r = true then do let ok ← isTrue c X.env (eval c X.env); pure (ForInStep.yield ok) else pure (ForInStep.yield r)) (TP X pins σ Q) X.xe s
def tYes : TT := fun _ H Q => Q true H
theorem pts_nil : PTs X [] tYes := fun _ _ _ H _ I h => wpAny_tests_nil ⟨H, I, h⟩
theorem pts_one {c : Expr} {t : TT} (h : PT X c t) : PTs X [c] t := fun pins s σ H Q I hw => wpAny_tests_one (h pins s σ H Q I hw)
end

theorem thnF {α : Type} {t : Sem α} {Q Q' : α → Shared → Prop} {M : Model} {A : Around} {E : Value → Shared → Prop} {s : Shared} (h : wpAny M A t Q (fun _ _ => False) s) (hQ : ∀ a s, Q a s → Q' a s) : wpAny M A t Q' E s := wpAny_mono h hQ fun _ _ z => False.elim z

/-- the loop of a list comprehension's block, the target of any form (codeAny_compLoop_tests asks a target that no tuple goes to; statement and proof follow it, PyProof/CompMap.lean:41-61, with the step letOwnedTupleGo kept) -/
theorem compLoop_any {prog : Program} {w : World} {A : Around} {R : Result → Shared → Prop} {s : Shared} {elt target iter : Expr} {ifs : List Expr} {scope : Scope} {pos : Pos} {it acc : Value} {env : Env} (I : Nat → Shared → Prop)
    (turn : ∀ n s, I n s → wpAny (model prog w) A (pyNext it) (fun r s₁ => match r with
      | none => R (.ok .next) s₁
      | some v => wpAny (model prog w) A (letOwnedTupleGo target it v) (fun _ s₁' => wpAny (model prog w) A (assign target env v) (fun _ s₂ =>
          wpAny (model prog w) A (forIn ifs true fun c r => if r = true then do let ok ← isTrue c env (eval c env); pure (ForInStep.yield ok) else pure (ForInStep.yield r)) (fun ok s₃ =>
            if ok = true then wpAny (model prog w) A (eval elt env) (fun x s₄ =>
              wpAny (model prog w) A (call (.builtin "list.append") [acc, x]) (fun _ s₅ => ∃ m, m < n ∧ I m s₅) (notedBy (model prog w) A env fun e s' => R (.error e) s') s₄) (notedBy (model prog w) A env fun e s' => R (.error e) s') s₃
            else ∃ m, m < n ∧ I m s₃) (notedBy (model prog w) A env fun e s' => R (.error e) s') s₂) (notedBy (model prog w) A env fun e s' => R (.error e) s') s₁') (notedBy (model prog w) A env fun e s' => R (.error e) s') s₁) (notedBy (model prog w) A env fun e s' => R (.error e) s') s)
    (n : Nat) (h : I n s) :
    codeAny (model prog w) A (.compLoop (.ListComp elt [⟨target, iter, ifs, 0⟩] scope pos) 0 it acc env) R s := by
  refine codeAny_loop rfl I (fun n s hI => ?_) n h
  show wpAny _ A ((compTurn (.ListComp elt [⟨target, iter, ifs, 0⟩] scope pos) 0 it acc env).onRaise (fun x => do noteFrame x env; theTreesLotGoes x)) _ _ s
  refine wpAny_noted ?_
  rw [compTurn_list]
  refine wpAny_bind (wpAny_standAt (wpAny_bind (wpAny_mono (turn n s hI) (fun r s₁ h₁ => ?_) fun _ _ h' => h')))
  cases r with
  | none => exact wpAny_pure h₁
  | some v =>
    refine wpAny_bind (wpAny_mono h₁ (fun _ s₁' h₁' => ?_) fun _ _ h' => h')
    refine wpAny_bind (wpAny_mono h₁' (fun _ s₂ h₂ => wpAny_bind (wpAny_mono h₂ (fun ok s₃ h₃ => ?_) fun _ _ h' => h')) fun _ _ h' => h')
    cases ok with
    | false => exact wpAny_pure ⟨rfl, h₃⟩
    | true =>
      exact wpAny_bind (wpAny_bind (wpAny_mono h₃ (fun x s₄ h₄ => wpAny_bind (wpAny_mono h₄ (fun _ s₅ h₅ => wpAny_pure (wpAny_pure ⟨rfl, h₅⟩)) fun _ _ h' => h')) fun _ _ h' => h'))

section
variable {X : Cx}
/-- [elt for target in iter if ..]: D the new list; W by the turn and a measure, Nx what a turn is to reach -/
def tLc (wi : TI) (g : TG) (tt : TT) (te : TE) (vs : List Nat) : TE := fun σ H Q => wi σ H fun J H1 => ∀ D, H1 D = none → ∃ W : Nat → Nat → Hp → Prop, (∃ m, W 0 m (upd H1 D (.lst []))) ∧ ∀ i m H, W i m H →
  (J.stop i H ∧ Q (.ref D) H) ∨ (J.go i H ∧ ∃ Nx : Hp → Prop, (∀ H', Nx H' → ∃ m', m' < m ∧ W (i + 1) m' H') ∧ ∀ x H', J.yld i H x H' → g x (wipe σ vs) H' fun σ2 H2 => wipe σ2 vs = wipe σ vs ∧ tt σ2 H2 fun b H3 =>
    if b = true then te σ2 H3 fun y H4 => ∃ acc, H4 D = some (.lst acc) ∧ acc.length < sizeLine ∧ Nx (upd H4 D (.lst (acc ++ [y]))) else Nx H3)
theorem lc_core {pins : List (Addr × Obj)} {s : Shared} {σ : St} {H : Hp} {Q : VK} {elt tg iter : Expr} {ifs : List Expr} {scope : Scope} {own : List (Str × Nat)} {pos pos' : Pos} {wi : TI} {g : TG} {tt : TT} {te : TE} {use : Option (Value → Sem Unit)} {Qf : Value → Shared → Prop}
    (hc : X.calm = true) (hN : X.N.Nodup) (I : Inv X pins σ H s) (hi : PI X tg iter wi) (ok : BlkOk X.N X.env.scope scope own)
    (hg : ∀ (s : Shared) (H : Hp) (C : Addr) (cl : List (Str × Addr)) (fp : List Addr), PG (X.blk s H scope (compEnvC scope cl C X.env) fp) tg g) (ht : ∀ (s : Shared) (H : Hp) (C : Addr) (cl : List (Str × Addr)) (fp : List Addr), PTs (X.blk s H scope (compEnvC scope cl C X.env) fp) ifs tt)
    (he : ∀ (s : Shared) (H : Hp) (C : Addr) (cl : List (Str × Addr)) (fp : List Addr), PE (X.blk s H scope (compEnvC scope cl C X.env) fp) elt te) (hs : ∀ x, foldedSetIterable iter X.env x = pure x)
    (h : tLc wi g tt te (own.map (·.2)) σ H Q)
    (hRR : ∀ D C s' m H', Inv X pins σ H' s' → Q (.ref D) H' → s'.heap.Ns C m → FpOk X pins H' C → compPost (model X.prog X.w) X.A X.xe use Qf (.ref D) C (.ok .next) s') :
    wpAny (model X.prog X.w) X.A (comprehension (.ListComp elt [⟨tg, iter, ifs, 0⟩] scope pos) scope X.env pos' (newList []) false (eval iter X.env) use) Qf X.xe s := by
  have hfree : ∀ y ∈ scope.names, y.2 = .free → ∃ c, X.env.cells.lookup y.1 = some c := fun y hy e => by
    rcases ok.free y hy e with k | k
    · exact I.ok.has _ (.inl k)
    · exact I.ok.has _ (.inr k)
  refine wpAny_comprehension_free (use := use) rfl hs (closure_ok hfree) ok.kind (fun y hy e => by rw [ok.uniq y hy, e])
    (thn (hi pins s σ H _ I h) fun xv s1 hx => thn hx fun itv s2 h2 => ?_)
  obtain ⟨it, fp, tn, J, H2, e, I2, T, st2, f2, q⟩ := h2
  subst e
  refine wpAny_newObj_type (newEnv_comp ?_) (by show 0 ≤ sizeLine; decide)
  generalize hD : s2.heap.objs.size = D
  have hDn : H2 D = none := I2.hok.fresh (Nat.le_of_eq hD)
  obtain ⟨W, ⟨m0, w0⟩, turn⟩ := q D hDn
  -- the new list
  generalize hs3 : ({ s2 with heap := s2.heap.push { cls := .type "list", data := .seq ([] : List Value).toArray } } : Shared) = s3
  have I3 : Inv X pins σ (upd H2 D (.lst [])) s3 := by
    rw [← hs3]
    refine I2.laid (t' := s2.toks) (fun b o e => Heap.get?_push_of_some _ e) (Nat.le_of_eq hD) ⟨Nat.zero_le _, [], 0, .nil, ?_⟩
    rw [← hD]
    exact Heap.get?_push_size _ rfl
  have h3 : s3.heap = s2.heap.push { cls := .type "list", data := .seq ([] : List Value).toArray } := by rw [← hs3]
  have sz : ∀ b ∈ fp, b < s2.heap.objs.size := fun b hb => by
    obtain ⟨o, e, _⟩ := T.obj _ _ st2 b hb
    exact Heap.lt_size e
  have f3 : ∀ b ∈ fp, FpOk X pins (upd H2 D (.lst [])) b ∧ b < s3.heap.objs.size := fun b hb => by
    have hlt := sz b hb
    refine ⟨⟨?_, (f2 b hb).2⟩, by rw [h3, Heap.size_push]; exact Nat.lt_succ_of_lt hlt⟩
    rw [upd_ne (by rw [← hD]; exact Nat.ne_of_lt hlt)]
    exact (f2 b hb).1
  have st3 : tn 0 s3.heap := T.keep _ _ _ st2 fun b _ o e => by rw [h3]; exact Heap.get?_push_of_some _ e
  have I4 := block_start I3 ok hN f3
  have pg := hg s3 (upd H2 D (.lst [])) s3.heap.objs.size (cellsFrom (s3.heap.objs.size + 1) scope.names (cloFrom X.env.cells scope.names [])) fp
  have pt := ht s3 (upd H2 D (.lst [])) s3.heap.objs.size (cellsFrom (s3.heap.objs.size + 1) scope.names (cloFrom X.env.cells scope.names [])) fp
  have pe := he s3 (upd H2 D (.lst [])) s3.heap.objs.size (cellsFrom (s3.heap.objs.size + 1) scope.names (cloFrom X.env.cells scope.names [])) fp
  show codeAny _ _ (.compStart (.ListComp elt [⟨tg, iter, ifs, 0⟩] scope pos) 0 (.ref it) (.ref D) (compEnvC scope (cellsFrom (s3.heap.objs.size + 1) scope.names (cloFrom X.env.cells scope.names [])) s3.heap.objs.size X.env)) (compPost (model X.prog X.w) X.A X.xe use Qf (.ref D) s3.heap.objs.size) { s3 with heap := pushCells (s3.heap.push { cls := .type "dict", data := .dict #[] }) scope.names }
  have nfp : ∀ b ∈ fp, (upd H2 D (.lst [])) b = none := fun b hb => (f3 b hb).1.1
  generalize hce : compEnvC scope (cellsFrom (s3.heap.objs.size + 1) scope.names (cloFrom X.env.cells scope.names [])) s3.heap.objs.size X.env = ce at I4 pg pt pe ⊢
  have cL : ce.locals = s3.heap.objs.size := by subst hce; rfl
  generalize hH3 : upd H2 D (.lst []) = H3 at I3 I4 pg pt pe w0 nfp f3
  generalize hs4 : ({ s3 with heap := pushCells (s3.heap.push { cls := .type "dict", data := .dict #[] }) scope.names } : Shared) = s4 at I4 ⊢
  have st4 : tn 0 s4.heap := T.keep _ _ _ st3 fun b _ o e => by rw [← hs4]; exact pushCells_keeps _ _ _ _ (Heap.get?_push_of_some _ e)
  have stat : ∀ {σ' : St} {H' : Hp} {s' : Shared}, Inv (X.blk s3 H3 scope ce fp) [] σ' H' s' → (∀ b ∈ fp, H' b = none) → ∀ b ∈ fp, FpOk (X.blk s3 H3 scope ce fp) [] H' b := fun {σ' H' s'} I' hn b hb =>
    ⟨hn b hb, (I'.ok.exf b hb).1, I'.ok.exfs b hb, .inl hb, fun x c e => (I'.ok.exf b hb).2 x c e, fun p hp => absurd (show p ∈ ([] : List (Addr × Obj)) ++ [] from hp) (by simp)⟩
  have loop : codeAny (model X.prog X.w) X.A (.compLoop (.ListComp elt [⟨tg, iter, ifs, 0⟩] scope pos) 0 (.ref it) (.ref D) ce) (compPost (model X.prog X.w) X.A X.xe use Qf (.ref D) s3.heap.objs.size) s4 := by
    refine compLoop_any (fun n s' => ∃ i H', Inv (X.blk s3 H3 scope ce fp) [] (wipe σ (own.map (·.2))) H' s' ∧ tn i s'.heap ∧ (∀ b ∈ fp, H' b = none) ∧ W i n H') ?_ m0 ⟨0, H3, I4, st4, nfp, w0⟩
    rintro n s5 ⟨i, H5, I5, st5, n5, w5⟩
    rcases turn i n H5 w5 with ⟨stop, qq⟩ | ⟨go, Nx, hNx, step⟩
    · have td := T.done (X.blk s3 H3 scope ce fp) rfl rfl rfl hc i [] s5 _ H5 (fun _ _ => False) I5 (stat I5 n5) st5 stop
      refine thnF td fun r s6 ⟨hr, I6⟩ => ?_
      subst hr
      -- back in the def's context
      have I7 : Inv X pins σ H5 s6 := I3.call' (ch := fp) I6.os I6.base I6.hok I6.bare fun b hb => ⟨(f3 b hb).1.2.2.2.1, (f3 b hb).1.2.1, (f3 b hb).1.2.2.2.2.1, (f3 b hb).1.2.2.2.2.2⟩
      have nC : H5 s3.heap.objs.size = none := by
        have z : H5 ce.locals = none := I6.free
        rw [cL] at z
        exact z
      obtain ⟨m, hn, _⟩ := I6.loc
      have hn : s6.heap.Ns ce.locals m := hn
      rw [cL] at hn
      exact hRR D s3.heap.objs.size s6 m H5 I7 qq hn (I3.fpOk (Nat.le_refl _) nC)
    · have ti := T.item (X.blk s3 H3 scope ce fp) rfl rfl rfl hc i [] s5 _ H5 (fun _ _ => False) I5 (stat I5 n5) st5 go
      refine thnF ti fun r s6 ⟨u, hr, h6⟩ => ?_
      subst hr
      refine thnF h6 fun _ s7 ⟨x, H7, I7, r7, y7, st7, n7⟩ => ?_
      have I7' := I7.pinned (stat I7 n7) (T.obj _ _ st7)
      refine thnF (pg _ s7 _ H7 x u _ I7' r7 (step x H7 y7)) fun _ s8 ⟨σ8, H8, I8, hw8, q8⟩ => ?_
      refine thnF (pt _ s8 σ8 H8 _ I8 q8) fun b s9 ⟨H9, I9, q9⟩ => ?_
      -- the turn's end
      have fin : ∀ {s' : Shared} {H' : Hp}, Inv (X.blk s3 H3 scope ce fp) ([] ++ pinsAt fp s7.heap) σ8 H' s' → Nx H' → ∃ m, m < n ∧ ∃ i H', Inv (X.blk s3 H3 scope ce fp) [] (wipe σ (own.map (·.2))) H' s' ∧ tn i s'.heap ∧ (∀ b ∈ fp, H' b = none) ∧ W i m H' := fun {s' H'} I' nx => by
        obtain ⟨m', hm, w'⟩ := hNx H' nx
        have pin' : ∀ b ∈ fp, ∀ o, s7.heap.get? b = some o → s'.heap.get? b = some o ∧ H' b = none := fun b hb o e =>
          let z := I'.pin (b, o) (List.mem_append_right _ (List.mem_append_right _ (mem_pinsAt hb e)))
          ⟨z.1, z.2.1⟩
        have hl : (wipe σ (own.map (·.2))).length = σ8.length := by rw [← hw8, wipe_length]
        refine ⟨m', hm, i + 1, H', (I'.unpinned (pins := [])).weak hl (fun j v e => ?_), T.keep _ _ _ st7 fun b hb o e => (pin' b hb o e).1, fun b hb => ?_, w'⟩
        · rw [← hw8] at e
          exact (wipe_some e).1
        · obtain ⟨o, e, _⟩ := T.obj _ _ st7 b hb
          exact (pin' b hb o e).2
      cases b with
      | false =>
        simp only [Bool.false_eq_true, if_false] at q9 ⊢
        exact fin I9 q9
      | true =>
        simp only [if_true] at q9 ⊢
        refine thnF (pe _ s9 σ8 H9 _ I9 q9) fun z s10 ⟨yv, H10, I10, r10, acc, hD10, hz10, nx⟩ => ?_
        exact app_ok (X := X.blk s3 H3 scope ce fp) I10 hD10 hz10 r10 fun s11 I11 => fin I11 nx
  exact codeAny_compStart_list loop (T.self X.A 0 _ _ _ st4 loop)
/-- as a value -/
theorem pe_lc {elt tg iter : Expr} {ifs : List Expr} {scope : Scope} {own : List (Str × Nat)} {pos : Pos} {wi : TI} {g : TG} {tt : TT} {te : TE} (hc : X.calm = true) (hN : X.N.Nodup) (hi : PI X tg iter wi) (ok : BlkOk X.N X.env.scope scope own)
    (hg : ∀ (s : Shared) (H : Hp) (C : Addr) (cl : List (Str × Addr)) (fp : List Addr), PG (X.blk s H scope (compEnvC scope cl C X.env) fp) tg g) (ht : ∀ (s : Shared) (H : Hp) (C : Addr) (cl : List (Str × Addr)) (fp : List Addr), PTs (X.blk s H scope (compEnvC scope cl C X.env) fp) ifs tt)
    (he : ∀ (s : Shared) (H : Hp) (C : Addr) (cl : List (Str × Addr)) (fp : List Addr), PE (X.blk s H scope (compEnvC scope cl C X.env) fp) elt te) (hs : ∀ x, foldedSetIterable iter X.env x = pure x := by intro _; rfl) :
    PE X (.ListComp elt [⟨tg, iter, ifs, 0⟩] scope pos) (tLc wi g tt te (own.map (·.2))) := by
  intro pins s σ H Q I h
  rw [eval_ListComp]
  refine lc_core hc hN I hi ok hg ht he hs h fun D C s' m H' I' q hn f => ⟨m, hn, fun h'' sb => ?_⟩
  obtain ⟨f0, f1, f2, f3, f4, f5⟩ := f
  exact ⟨.ref D, H', I'.turned (t' := s'.toks) (fun b o hb e => (sb.2 b hb).trans e) f0 f1 f3 f4 f5, rfl, q⟩
end

/-! ### the forms one uses -/
/-- over a range: Pv by the turn and the heap (the new list at D within) -/
theorem lc_range {lo : Int} {n : Nat} {g : TG} {tt : TT} {te : TE} {vs : List Nat} {σ : St} {H1 : Hp} {D : Addr} {Qd : Hp → Prop} (Pv : Nat → Hp → Prop) (h0 : Pv 0 (upd H1 D (.lst [])))
    (hs : ∀ i H, i < n → Pv i H → g (.int (lo + i)) (wipe σ vs) H fun σ2 H2 => wipe σ2 vs = wipe σ vs ∧ tt σ2 H2 fun b H3 =>
      if b = true then te σ2 H3 fun y H4 => ∃ acc, H4 D = some (.lst acc) ∧ acc.length < sizeLine ∧ Pv (i + 1) (upd H4 D (.lst (acc ++ [y]))) else Pv (i + 1) H3) (hd : ∀ H, Pv n H → Qd H) :
    ∃ W : Nat → Nat → Hp → Prop, (∃ m, W 0 m (upd H1 D (.lst []))) ∧ ∀ i m H, W i m H →
      ((Itr lo n).stop i H ∧ Qd H) ∨ ((Itr lo n).go i H ∧ ∃ Nx : Hp → Prop, (∀ H', Nx H' → ∃ m', m' < m ∧ W (i + 1) m' H') ∧ ∀ x H', (Itr lo n).yld i H x H' → g x (wipe σ vs) H' fun σ2 H2 => wipe σ2 vs = wipe σ vs ∧ tt σ2 H2 fun b H3 =>
        if b = true then te σ2 H3 fun y H4 => ∃ acc, H4 D = some (.lst acc) ∧ acc.length < sizeLine ∧ Nx (upd H4 D (.lst (acc ++ [y]))) else Nx H3) := by
  refine ⟨fun i m H => m = n - i ∧ i ≤ n ∧ Pv i H, ⟨n, by simp, Nat.zero_le _, h0⟩, ?_⟩
  rintro i m H ⟨rfl, hi, p⟩
  by_cases hlt : i < n
  · refine .inr ⟨hlt, Pv (i + 1), fun H' p' => ⟨n - (i + 1), by omega, rfl, hlt, p'⟩, fun x H' y => ?_⟩
    obtain ⟨e, y⟩ := y
    subst e y
    exact hs i _ hlt p
  · have e : i = n := by omega
    subst e
    exact .inl ⟨Nat.le_refl _, hd H p⟩
/-- over a list that the block leaves as it is -/
theorem lc_list {K : PySem.W.Frag} {a : Addr} {xs : List V} {g : TG} {tt : TT} {te : TE} {vs : List Nat} {σ : St} {H1 : Hp} {D : Addr} {Qd : Hp → Prop} (Pv : Nat → Hp → Prop) (h0 : Pv 0 (upd H1 D (.lst []))) (hl : ∀ i H, i ≤ xs.length → Pv i H → SqL K H a xs)
    (hs : ∀ i x H, xs[i]? = some x → Pv i H → g x (wipe σ vs) H fun σ2 H2 => wipe σ2 vs = wipe σ vs ∧ tt σ2 H2 fun b H3 =>
      if b = true then te σ2 H3 fun y H4 => ∃ acc, H4 D = some (.lst acc) ∧ acc.length < sizeLine ∧ Pv (i + 1) (upd H4 D (.lst (acc ++ [y]))) else Pv (i + 1) H3) (hd : ∀ H, Pv xs.length H → Qd H) :
    ∃ W : Nat → Nat → Hp → Prop, (∃ m, W 0 m (upd H1 D (.lst []))) ∧ ∀ i m H, W i m H →
      ((Itl K a).stop i H ∧ Qd H) ∨ ((Itl K a).go i H ∧ ∃ Nx : Hp → Prop, (∀ H', Nx H' → ∃ m', m' < m ∧ W (i + 1) m' H') ∧ ∀ x H', (Itl K a).yld i H x H' → g x (wipe σ vs) H' fun σ2 H2 => wipe σ2 vs = wipe σ vs ∧ tt σ2 H2 fun b H3 =>
        if b = true then te σ2 H3 fun y H4 => ∃ acc, H4 D = some (.lst acc) ∧ acc.length < sizeLine ∧ Nx (upd H4 D (.lst (acc ++ [y]))) else Nx H3) := by
  refine ⟨fun i m H => m = xs.length - i ∧ i ≤ xs.length ∧ Pv i H, ⟨xs.length, by simp, Nat.zero_le _, h0⟩, ?_⟩
  rintro i m H ⟨rfl, hi, p⟩
  have q := hl i H hi p
  by_cases hlt : i < xs.length
  · refine .inr ⟨⟨xs, xs[i], q, by simp [hlt]⟩, Pv (i + 1), fun H' p' => ⟨xs.length - (i + 1), by omega, rfl, hlt, p'⟩, fun x H' y => ?_⟩
    obtain ⟨e, y⟩ := y
    subst e
    exact hs i x _ (y xs q) p
  · have e : i = xs.length := by omega
    subst e
    exact .inl ⟨⟨xs, q, Nat.le_refl _⟩, hd H p⟩
def blkC (N : List Str) (sc scope : Scope) (own : List (Str × Nat)) : Bool :=
  (match scope.kind with | .function => true | _ => false) && (scope.names.all fun y => decide (scope.names.lookup y.1 = some y.2)) && (own.all fun p => decide (N[p.2]? = some p.1)) &&
    (scope.names.all fun y => match y.2 with
      | .free => (match sc.names.lookup y.1 with | some .cell => true | some .free => true | _ => false)
      | .local => decide (y.1 ∈ own.map (·.1)) || decide (y.1 ∉ N)
      | .cell => decide (y.1 ∈ own.map (·.1)) || decide (y.1 ∉ N)
      | _ => true)
theorem blkOk_by {N : List Str} {sc scope : Scope} {own : List (Str × Nat)} (h : blkC N sc scope own = true) : BlkOk N sc scope own := by
  unfold blkC at h
  simp only [Bool.and_eq_true, List.all_eq_true, decide_eq_true_eq] at h
  obtain ⟨⟨⟨h1, h2⟩, h3⟩, h4⟩ := h
  refine ⟨?_, h2, h3, fun y hy e => ?_, fun y hy e => ?_⟩
  · split at h1
    · assumption
    · cases h1
  · have q := h4 y hy
    simp only [e] at q
    split at q <;> first | exact .inl (by assumption) | exact .inr (by assumption) | cases q
  · have q := h4 y hy
    rcases e with e | e <;> (simp only [e, Bool.or_eq_true, decide_eq_true_eq] at q; exact q)
end L2

namespace L2
open PySem PySem.Spec PyProof.Rows

theorem compTurn2_out (elt t0 i0 t1 i1 : Expr) (ifs0 ifs1 : List Expr) (scope : Scope) (pos : Pos) (it acc : Value) (env : Env) :
    compTurn (.ListComp elt [⟨t0, i0, ifs0, 0⟩, ⟨t1, i1, ifs1, 0⟩] scope pos) 0 it acc env = (do
      standAt i0.pos
      match ← pyNext it with
      | none => pure (.done .next)
      | some v =>
        letOwnedTupleGo t0 it v
        assign t0 env v
        let mut ok := true
        for c in ifs0 do
          if ok then ok ← isTrue c env (eval c env)
        if ok then
          let x ← eval i1 env
          standAt i1.pos
          let x ← foldedSetIterable i1 env x
          let _ ← runOwn (.compStart (.ListComp elt [⟨t0, i0, ifs0, 0⟩, ⟨t1, i1, ifs1, 0⟩] scope pos) 1 (← holding [x] (pyIter x)) acc env) env
        again (.compLoop (.ListComp elt [⟨t0, i0, ifs0, 0⟩, ⟨t1, i1, ifs1, 0⟩] scope pos) 0 it acc env)) := by rfl
theorem compTurn2_in (elt t0 i0 t1 i1 : Expr) (ifs0 ifs1 : List Expr) (scope : Scope) (pos : Pos) (it acc : Value) (env : Env) :
    compTurn (.ListComp elt [⟨t0, i0, ifs0, 0⟩, ⟨t1, i1, ifs1, 0⟩] scope pos) 1 it acc env = (do
      standAt i1.pos
      match ← pyNext it with
      | none => pure (.done .next)
      | some v =>
        letOwnedTupleGo t1 it v
        assign t1 env v
        let mut ok := true
        for c in ifs1 do
          if ok then ok ← isTrue c env (eval c env)
        if ok then
          (do let _ ← call (.builtin "list.append") [acc, ← eval elt env])
        again (.compLoop (.ListComp elt [⟨t0, i0, ifs0, 0⟩, ⟨t1, i1, ifs1, 0⟩] scope pos) 1 it acc env)) := by rfl

section
variable {prog : Program} {w : World} {A : Around} {R : Result → Shared → Prop} {s : Shared} {elt t0 i0 t1 i1 : Expr} {ifs0 ifs1 : List Expr} {scope : Scope} {pos : Pos} {it acc : Value} {env : Env}
/-- the loop of the first clause -/
theorem compLoop2_out (hs : ∀ x, foldedSetIterable i1 env x = pure x) (I : Nat → Shared → Prop)
    (turn : ∀ n s, I n s → wpAny (model prog w) A (pyNext it) (fun r s₁ => match r with
      | none => R (.ok .next) s₁
      | some v => wpAny (model prog w) A (letOwnedTupleGo t0 it v) (fun _ s₁' => wpAny (model prog w) A (assign t0 env v) (fun _ s₂ =>
          wpAny (model prog w) A (forIn ifs0 true fun c r => if r = true then do let ok ← isTrue c env (eval c env); pure (ForInStep.yield ok) else pure (ForInStep.yield r)) (fun ok s₃ =>
            if ok = true then wpAny (model prog w) A (eval i1 env) (fun x s₄ => wpAny (model prog w) A (pyIter x) (fun it1 s₅ =>
              codeAny (model prog w) A (.compStart (.ListComp elt [⟨t0, i0, ifs0, 0⟩, ⟨t1, i1, ifs1, 0⟩] scope pos) 1 it1 acc env) (fun r s' => match r with
                | .ok _ => ∃ m, m < n ∧ I m s'
                | .error _ => False) s₅) (notedBy (model prog w) A env fun e s' => R (.error e) s') s₄) (notedBy (model prog w) A env fun e s' => R (.error e) s') s₃
            else ∃ m, m < n ∧ I m s₃) (notedBy (model prog w) A env fun e s' => R (.error e) s') s₂) (notedBy (model prog w) A env fun e s' => R (.error e) s') s₁') (notedBy (model prog w) A env fun e s' => R (.error e) s') s₁) (notedBy (model prog w) A env fun e s' => R (.error e) s') s)
    (n : Nat) (h : I n s) :
    codeAny (model prog w) A (.compLoop (.ListComp elt [⟨t0, i0, ifs0, 0⟩, ⟨t1, i1, ifs1, 0⟩] scope pos) 0 it acc env) R s := by
  refine codeAny_loop rfl I (fun n s hI => ?_) n h
  show wpAny _ A ((compTurn (.ListComp elt [⟨t0, i0, ifs0, 0⟩, ⟨t1, i1, ifs1, 0⟩] scope pos) 0 it acc env).onRaise (fun x => do noteFrame x env; theTreesLotGoes x)) _ _ s
  refine wpAny_noted ?_
  rw [compTurn2_out]
  refine wpAny_bind (wpAny_standAt (wpAny_bind (wpAny_mono (turn n s hI) (fun r s₁ h₁ => ?_) fun _ _ h' => h')))
  cases r with
  | none => exact wpAny_pure h₁
  | some v =>
    refine wpAny_bind (wpAny_mono h₁ (fun _ s₁' h₁' => ?_) fun _ _ h' => h')
    refine wpAny_bind (wpAny_mono h₁' (fun _ s₂ h₂ => wpAny_bind (wpAny_mono h₂ (fun ok s₃ h₃ => ?_) fun _ _ h' => h')) fun _ _ h' => h')
    cases ok with
    | false => exact wpAny_pure ⟨rfl, h₃⟩
    | true =>
      refine wpAny_bind (wpAny_mono h₃ (fun x s₄ h₄ => ?_) fun _ _ h' => h')
      refine wpAny_bind (wpAny_standAt (wpAny_bind (wpAny_of_eq (hs x) (wpAny_bind (wpAny_holding (wpAny_mono h₄ (fun it1 s₅ h₅ => ?_) fun _ _ h' => h'))))))
      refine wpAny_bind (wpAny_runOwn ?_)
      rw [Around.mark_none]
      refine codeAny_mono h₅ fun r s' hr => ?_
      cases r with
      | ok f =>
        first
          | exact wpAny_pure ⟨rfl, hr⟩
          | exact wpAny_bind (wpAny_pure (wpAny_pure ⟨rfl, hr⟩))
      | error e => exact hr.elim
/-- the loop of the second -/
theorem compLoop2_in (I : Nat → Shared → Prop)
    (turn : ∀ n s, I n s → wpAny (model prog w) A (pyNext it) (fun r s₁ => match r with
      | none => R (.ok .next) s₁
      | some v => wpAny (model prog w) A (letOwnedTupleGo t1 it v) (fun _ s₁' => wpAny (model prog w) A (assign t1 env v) (fun _ s₂ =>
          wpAny (model prog w) A (forIn ifs1 true fun c r => if r = true then do let ok ← isTrue c env (eval c env); pure (ForInStep.yield ok) else pure (ForInStep.yield r)) (fun ok s₃ =>
            if ok = true then wpAny (model prog w) A (eval elt env) (fun x s₄ =>
              wpAny (model prog w) A (call (.builtin "list.append") [acc, x]) (fun _ s₅ => ∃ m, m < n ∧ I m s₅) (notedBy (model prog w) A env fun e s' => R (.error e) s') s₄) (notedBy (model prog w) A env fun e s' => R (.error e) s') s₃
            else ∃ m, m < n ∧ I m s₃) (notedBy (model prog w) A env fun e s' => R (.error e) s') s₂) (notedBy (model prog w) A env fun e s' => R (.error e) s') s₁') (notedBy (model prog w) A env fun e s' => R (.error e) s') s₁) (notedBy (model prog w) A env fun e s' => R (.error e) s') s)
    (n : Nat) (h : I n s) :
    codeAny (model prog w) A (.compLoop (.ListComp elt [⟨t0, i0, ifs0, 0⟩, ⟨t1, i1, ifs1, 0⟩] scope pos) 1 it acc env) R s := by
  refine codeAny_loop rfl I (fun n s hI => ?_) n h
  show wpAny _ A ((compTurn (.ListComp elt [⟨t0, i0, ifs0, 0⟩, ⟨t1, i1, ifs1, 0⟩] scope pos) 1 it acc env).onRaise (fun x => do noteFrame x env; theTreesLotGoes x)) _ _ s
  refine wpAny_noted ?_
  rw [compTurn2_in]
  refine wpAny_bind (wpAny_standAt (wpAny_bind (wpAny_mono (turn n s hI) (fun r s₁ h₁ => ?_) fun _ _ h' => h')))
  cases r with
  | none => exact wpAny_pure h₁
  | some v =>
    refine wpAny_bind (wpAny_mono h₁ (fun _ s₁' h₁' => ?_) fun _ _ h' => h')
    refine wpAny_bind (wpAny_mono h₁' (fun _ s₂ h₂ => wpAny_bind (wpAny_mono h₂ (fun ok s₃ h₃ => ?_) fun _ _ h' => h')) fun _ _ h' => h')
    cases ok with
    | false => exact wpAny_pure ⟨rfl, h₃⟩
    | true =>
      exact wpAny_bind (wpAny_bind (wpAny_mono h₃ (fun x s₄ h₄ => wpAny_bind (wpAny_mono h₄ (fun _ s₅ h₅ => wpAny_pure (wpAny_pure ⟨rfl, h₅⟩)) fun _ _ h' => h')) fun _ _ h' => h'))
/-- the second clause's start -/
theorem compStart1_ok (h0 : codeAny (model prog w) A (.compLoop (.ListComp elt [⟨t0, i0, ifs0, 0⟩, ⟨t1, i1, ifs1, 0⟩] scope pos) 1 it acc env) R s)
    (h : wpAny (model prog w) A (pyIter it) (fun it' s' => codeAny (model prog w) A (.compLoop (.ListComp elt [⟨t0, i0, ifs0, 0⟩, ⟨t1, i1, ifs1, 0⟩] scope pos) 1 it' acc env) R s')
      (notedBy (model prog w) A env fun x s' => R (.error x) s') s) :
    codeAny (model prog w) A (.compStart (.ListComp elt [⟨t0, i0, ifs0, 0⟩, ⟨t1, i1, ifs1, 0⟩] scope pos) 1 it acc env) R s := by
  refine codeAny_of_tree ?_
  show wpAny _ _ ((compStart (.ListComp elt [⟨t0, i0, ifs0, 0⟩, ⟨t1, i1, ifs1, 0⟩] scope pos) 1 it acc env).onRaise (fun x => do noteFrame x env; standAt theWindowsPlace)) _ _ s
  refine wpAny_notedAt ?_
  unfold compStart
  show wpAny _ _ (ask >>= _) _ _ s
  refine wpAny_bind (wpAny_askSetting (wpAny_ite ?_))
  split
  · first
      | exact wpAny_bind (wpAny_pure (wpAny_pure (And.intro rfl h0)))
      | exact wpAny_pure (And.intro rfl h0)
  · first
      | exact wpAny_bind (wpAny_rule (wpAny_bind (wpAny_standAt (wpAny_bind (wpAny_mono h (fun it' s' h' => wpAny_pure (And.intro rfl h')) fun _ _ x => x)))))
      | (refine wpAny_bind (wpAny_rule ?_); show wpAny _ _ (standAt i1.pos >>= _) _ _ s; exact wpAny_bind (wpAny_standAt (wpAny_bind (wpAny_mono h (fun it' s' h' => wpAny_pure (And.intro rfl h')) fun _ _ x => x))))
end

theorem wipe_out {σ : St} {i : Nat} : ∀ {vs : List Nat}, i ∉ vs → (wipe σ vs)[i]? = σ[i]?
  | [], _ => rfl
  | v :: vs, h => by
    have h1 : v ≠ i := fun e => h (by rw [e]; exact List.mem_cons_self)
    have h2 : i ∉ vs := fun m => h (List.mem_cons_of_mem _ m)
    unfold wipe
    rw [List.getElem?_set_ne h1]
    exact wipe_out h2
section
variable {X : Cx}
/-- [elt for tg in iter if .. for tg1 in iter1 if ..]: behind the first clause's store and tests the second source's own loop, from which Nx is reached. vs: the block's names; vs1: those of the second target -/
def tLc2 (wi : TI) (g : TG) (tt : TT) (wi1 : TI) (g1 : TG) (tt1 : TT) (te : TE) (vs vs1 : List Nat) : TE := fun σ H Q => wi σ H fun J H1 => ∀ D, H1 D = none → ∃ W : Nat → Nat → Hp → Prop, (∃ m, W 0 m (upd H1 D (.lst []))) ∧ ∀ i m H, W i m H →
  (J.stop i H ∧ Q (.ref D) H) ∨ (J.go i H ∧ ∃ Nx : Hp → Prop, (∀ H', Nx H' → ∃ m', m' < m ∧ W (i + 1) m' H') ∧ ∀ x H', J.yld i H x H' → g x (wipe σ vs) H' fun σ2 H2 => wipe σ2 vs = wipe σ vs ∧ tt σ2 H2 fun b H3 =>
    if b = true then wi1 σ2 H3 fun J1 H4 => ∃ W1 : Nat → Nat → Hp → Prop, (∃ m, W1 0 m H4) ∧ ∀ j k H, W1 j k H →
      (J1.stop j H ∧ Nx H) ∨ (J1.go j H ∧ ∃ Nx1 : Hp → Prop, (∀ H', Nx1 H' → ∃ k', k' < k ∧ W1 (j + 1) k' H') ∧ ∀ x H', J1.yld j H x H' → g1 x (wipe σ2 vs1) H' fun σ3 H5 => wipe σ3 vs1 = wipe σ2 vs1 ∧ tt1 σ3 H5 fun b H6 =>
        if b = true then te σ3 H6 fun y H7 => ∃ acc, H7 D = some (.lst acc) ∧ acc.length < sizeLine ∧ Nx1 (upd H7 D (.lst (acc ++ [y]))) else Nx1 H6)
    else Nx H3)
theorem lc2_core {pins : List (Addr × Obj)} {s : Shared} {σ : St} {H : Hp} {Q : VK} {elt tg iter tg1 iter1 : Expr} {ifs ifs1 : List Expr} {scope : Scope} {own : List (Str × Nat)} {vs1 : List Nat} {pos pos' : Pos} {wi wi1 : TI} {g g1 : TG} {tt tt1 : TT} {te : TE} {use : Option (Value → Sem Unit)} {Qf : Value → Shared → Prop}
    (hc : X.calm = true) (hN : X.N.Nodup) (I : Inv X pins σ H s) (hi : PI X tg iter wi) (ok : BlkOk X.N X.env.scope scope own) (hv : ∀ i ∈ vs1, i ∈ own.map (·.2))
    (hg : ∀ (s : Shared) (H : Hp) (C : Addr) (cl : List (Str × Addr)) (fp : List Addr), PG (X.blk s H scope (compEnvC scope cl C X.env) fp) tg g) (ht : ∀ (s : Shared) (H : Hp) (C : Addr) (cl : List (Str × Addr)) (fp : List Addr), PTs (X.blk s H scope (compEnvC scope cl C X.env) fp) ifs tt)
    (he : ∀ (s : Shared) (H : Hp) (C : Addr) (cl : List (Str × Addr)) (fp : List Addr), PE (X.blk s H scope (compEnvC scope cl C X.env) fp) elt te) (hs : ∀ x, foldedSetIterable iter X.env x = pure x)
    (hi1 : ∀ (s : Shared) (H : Hp) (C : Addr) (cl : List (Str × Addr)) (fp : List Addr), PI (X.blk s H scope (compEnvC scope cl C X.env) fp) tg1 iter1 wi1)
    (hg1 : ∀ (s : Shared) (H : Hp) (C : Addr) (cl : List (Str × Addr)) (fp : List Addr), PG (X.blk s H scope (compEnvC scope cl C X.env) fp) tg1 g1)
    (ht1 : ∀ (s : Shared) (H : Hp) (C : Addr) (cl : List (Str × Addr)) (fp : List Addr), PTs (X.blk s H scope (compEnvC scope cl C X.env) fp) ifs1 tt1)
    (hs1 : ∀ env x, foldedSetIterable iter1 env x = pure x)
    (h : tLc2 wi g tt wi1 g1 tt1 te (own.map (·.2)) vs1 σ H Q)
    (hRR : ∀ D C s' m H', Inv X pins σ H' s' → Q (.ref D) H' → s'.heap.Ns C m → FpOk X pins H' C → compPost (model X.prog X.w) X.A X.xe use Qf (.ref D) C (.ok .next) s') :
    wpAny (model X.prog X.w) X.A (comprehension (.ListComp elt [⟨tg, iter, ifs, 0⟩, ⟨tg1, iter1, ifs1, 0⟩] scope pos) scope X.env pos' (newList []) false (eval iter X.env) use) Qf X.xe s := by
  have hfree : ∀ y ∈ scope.names, y.2 = .free → ∃ c, X.env.cells.lookup y.1 = some c := fun y hy e => by
    rcases ok.free y hy e with k | k
    · exact I.ok.has _ (.inl k)
    · exact I.ok.has _ (.inr k)
  refine wpAny_comprehension_free (use := use) rfl hs (closure_ok hfree) ok.kind (fun y hy e => by rw [ok.uniq y hy, e])
    (thn (hi pins s σ H _ I h) fun xv s1 hx => thn hx fun itv s2 h2 => ?_)
  obtain ⟨it, fp, tn, J, H2, e, I2, T, st2, f2, q⟩ := h2
  subst e
  refine wpAny_newObj_type (newEnv_comp ?_) (by show 0 ≤ sizeLine; decide)
  generalize hD : s2.heap.objs.size = D
  have hDn : H2 D = none := I2.hok.fresh (Nat.le_of_eq hD)
  obtain ⟨W, ⟨m0, w0⟩, turn⟩ := q D hDn
  -- the new list
  generalize hs3 : ({ s2 with heap := s2.heap.push { cls := .type "list", data := .seq ([] : List Value).toArray } } : Shared) = s3
  have I3 : Inv X pins σ (upd H2 D (.lst [])) s3 := by
    rw [← hs3]
    refine I2.laid (t' := s2.toks) (fun b o e => Heap.get?_push_of_some _ e) (Nat.le_of_eq hD) ⟨Nat.zero_le _, [], 0, .nil, ?_⟩
    rw [← hD]
    exact Heap.get?_push_size _ rfl
  have h3 : s3.heap = s2.heap.push { cls := .type "list", data := .seq ([] : List Value).toArray } := by rw [← hs3]
  have sz : ∀ b ∈ fp, b < s2.heap.objs.size := fun b hb => by
    obtain ⟨o, e, _⟩ := T.obj _ _ st2 b hb
    exact Heap.lt_size e
  have f3 : ∀ b ∈ fp, FpOk X pins (upd H2 D (.lst [])) b ∧ b < s3.heap.objs.size := fun b hb => by
    have hlt := sz b hb
    refine ⟨⟨?_, (f2 b hb).2⟩, by rw [h3, Heap.size_push]; exact Nat.lt_succ_of_lt hlt⟩
    rw [upd_ne (by rw [← hD]; exact Nat.ne_of_lt hlt)]
    exact (f2 b hb).1
  have st3 : tn 0 s3.heap := T.keep _ _ _ st2 fun b _ o e => by rw [h3]; exact Heap.get?_push_of_some _ e
  have I4 := block_start I3 ok hN f3
  have pg := hg s3 (upd H2 D (.lst [])) s3.heap.objs.size (cellsFrom (s3.heap.objs.size + 1) scope.names (cloFrom X.env.cells scope.names [])) fp
  have pt := ht s3 (upd H2 D (.lst [])) s3.heap.objs.size (cellsFrom (s3.heap.objs.size + 1) scope.names (cloFrom X.env.cells scope.names [])) fp
  have pe := he s3 (upd H2 D (.lst [])) s3.heap.objs.size (cellsFrom (s3.heap.objs.size + 1) scope.names (cloFrom X.env.cells scope.names [])) fp
  have pi1 := hi1 s3 (upd H2 D (.lst [])) s3.heap.objs.size (cellsFrom (s3.heap.objs.size + 1) scope.names (cloFrom X.env.cells scope.names [])) fp
  have pg1 := hg1 s3 (upd H2 D (.lst [])) s3.heap.objs.size (cellsFrom (s3.heap.objs.size + 1) scope.names (cloFrom X.env.cells scope.names [])) fp
  have pt1 := ht1 s3 (upd H2 D (.lst [])) s3.heap.objs.size (cellsFrom (s3.heap.objs.size + 1) scope.names (cloFrom X.env.cells scope.names [])) fp
  show codeAny _ _ (.compStart (.ListComp elt [⟨tg, iter, ifs, 0⟩, ⟨tg1, iter1, ifs1, 0⟩] scope pos) 0 (.ref it) (.ref D) (compEnvC scope (cellsFrom (s3.heap.objs.size + 1) scope.names (cloFrom X.env.cells scope.names [])) s3.heap.objs.size X.env)) (compPost (model X.prog X.w) X.A X.xe use Qf (.ref D) s3.heap.objs.size) { s3 with heap := pushCells (s3.heap.push { cls := .type "dict", data := .dict #[] }) scope.names }
  have nfp : ∀ b ∈ fp, (upd H2 D (.lst [])) b = none := fun b hb => (f3 b hb).1.1
  generalize hce : compEnvC scope (cellsFrom (s3.heap.objs.size + 1) scope.names (cloFrom X.env.cells scope.names [])) s3.heap.objs.size X.env = ce at I4 pg pt pe pi1 pg1 pt1 ⊢
  have cL : ce.locals = s3.heap.objs.size := by subst hce; rfl
  generalize hH3 : upd H2 D (.lst []) = H3 at I3 I4 pg pt pe pi1 pg1 pt1 w0 nfp f3
  generalize hs4 : ({ s3 with heap := pushCells (s3.heap.push { cls := .type "dict", data := .dict #[] }) scope.names } : Shared) = s4 at I4 ⊢
  have st4 : tn 0 s4.heap := T.keep _ _ _ st3 fun b _ o e => by rw [← hs4]; exact pushCells_keeps _ _ _ _ (Heap.get?_push_of_some _ e)
  have stat : ∀ {σ' : St} {H' : Hp} {s' : Shared}, Inv (X.blk s3 H3 scope ce fp) [] σ' H' s' → (∀ b ∈ fp, H' b = none) → ∀ b ∈ fp, FpOk (X.blk s3 H3 scope ce fp) [] H' b := fun {σ' H' s'} I' hn b hb =>
    ⟨hn b hb, (I'.ok.exf b hb).1, I'.ok.exfs b hb, .inl hb, fun x c e => (I'.ok.exf b hb).2 x c e, fun p hp => absurd (show p ∈ ([] : List (Addr × Obj)) ++ [] from hp) (by simp)⟩
  have loop : codeAny (model X.prog X.w) X.A (.compLoop (.ListComp elt [⟨tg, iter, ifs, 0⟩, ⟨tg1, iter1, ifs1, 0⟩] scope pos) 0 (.ref it) (.ref D) ce) (compPost (model X.prog X.w) X.A X.xe use Qf (.ref D) s3.heap.objs.size) s4 := by
    refine compLoop2_out (hs1 ce) (fun n s' => ∃ i H', Inv (X.blk s3 H3 scope ce fp) [] (wipe σ (own.map (·.2))) H' s' ∧ tn i s'.heap ∧ (∀ b ∈ fp, H' b = none) ∧ W i n H') ?_ m0 ⟨0, H3, I4, st4, nfp, w0⟩
    rintro n s5 ⟨i, H5, I5, st5, n5, w5⟩
    rcases turn i n H5 w5 with ⟨stop, qq⟩ | ⟨go, Nx, hNx, step⟩
    · have td := T.done (X.blk s3 H3 scope ce fp) rfl rfl rfl hc i [] s5 _ H5 (fun _ _ => False) I5 (stat I5 n5) st5 stop
      refine thnF td fun r s6 ⟨hr, I6⟩ => ?_
      subst hr
      -- back in the def's context
      have I7 : Inv X pins σ H5 s6 := I3.call' (ch := fp) I6.os I6.base I6.hok I6.bare fun b hb => ⟨(f3 b hb).1.2.2.2.1, (f3 b hb).1.2.1, (f3 b hb).1.2.2.2.2.1, (f3 b hb).1.2.2.2.2.2⟩
      have nC : H5 s3.heap.objs.size = none := by
        have z : H5 ce.locals = none := I6.free
        rw [cL] at z
        exact z
      obtain ⟨m, hn, _⟩ := I6.loc
      have hn : s6.heap.Ns ce.locals m := hn
      rw [cL] at hn
      exact hRR D s3.heap.objs.size s6 m H5 I7 qq hn (I3.fpOk (Nat.le_refl _) nC)
    · have ti := T.item (X.blk s3 H3 scope ce fp) rfl rfl rfl hc i [] s5 _ H5 (fun _ _ => False) I5 (stat I5 n5) st5 go
      refine thnF ti fun r s6 ⟨u, hr, h6⟩ => ?_
      subst hr
      refine thnF h6 fun _ s7 ⟨x, H7, I7, r7, y7, st7, n7⟩ => ?_
      have I7' := I7.pinned (stat I7 n7) (T.obj _ _ st7)
      refine thnF (pg _ s7 _ H7 x u _ I7' r7 (step x H7 y7)) fun _ s8 ⟨σ8, H8, I8, hw8, q8⟩ => ?_
      refine thnF (pt _ s8 σ8 H8 _ I8 q8) fun b s9 ⟨H9, I9, q9⟩ => ?_
      -- the turn's end, from any slots that know what the block knew at its start
      have fin : ∀ {σ9 : St} {s' : Shared} {H' : Hp}, Inv (X.blk s3 H3 scope ce fp) ([] ++ pinsAt fp s7.heap) σ9 H' s' → (wipe σ (own.map (·.2))).length = σ9.length → (∀ (j : Nat) v, (wipe σ (own.map (·.2)))[j]? = some (some v) → σ9[j]? = some (some v)) → Nx H' →
          ∃ m, m < n ∧ ∃ i H', Inv (X.blk s3 H3 scope ce fp) [] (wipe σ (own.map (·.2))) H' s' ∧ tn i s'.heap ∧ (∀ b ∈ fp, H' b = none) ∧ W i m H' := fun {σ9 s' H'} I' hl hk nx => by
        obtain ⟨m', hm, w'⟩ := hNx H' nx
        have pin' : ∀ b ∈ fp, ∀ o, s7.heap.get? b = some o → s'.heap.get? b = some o ∧ H' b = none := fun b hb o e =>
          let z := I'.pin (b, o) (List.mem_append_right _ (List.mem_append_right _ (mem_pinsAt hb e)))
          ⟨z.1, z.2.1⟩
        refine ⟨m', hm, i + 1, H', (I'.unpinned (pins := [])).weak hl hk, T.keep _ _ _ st7 fun b hb o e => (pin' b hb o e).1, fun b hb => ?_, w'⟩
        obtain ⟨o, e, _⟩ := T.obj _ _ st7 b hb
        exact (pin' b hb o e).2
      have hl8 : (wipe σ (own.map (·.2))).length = σ8.length := by rw [← hw8, wipe_length]
      have hk8 : ∀ (j : Nat) v, (wipe σ (own.map (·.2)))[j]? = some (some v) → σ8[j]? = some (some v) := fun j v e => by
        rw [← hw8] at e
        exact (wipe_some e).1
      have hk9 : ∀ (j : Nat) v, (wipe σ (own.map (·.2)))[j]? = some (some v) → (wipe σ8 vs1)[j]? = some (some v) := fun j v e => by
        rw [← hw8] at e
        obtain ⟨e1, e2⟩ := wipe_some e
        rw [wipe_out fun z => e2 (hv j z)]
        exact e1
      cases b with
      | false =>
        simp only [Bool.false_eq_true, if_false] at q9 ⊢
        exact fin I9 hl8 hk8 q9
      | true =>
        simp only [if_true] at q9 ⊢
        refine thnF (pi1 _ s9 σ8 H9 _ I9 q9) fun xv s10 hx => thnF hx fun itv s11 h11 => ?_
        obtain ⟨it1, fp1, tn1, J1, H11, e1, I11, T1, st11, f11, W1, ⟨m1, w1⟩, turn1⟩ := h11
        subst e1
        -- the inner loop
        have stat1 : ∀ {H' : Hp}, (∀ b ∈ fp1, H' b = none) → ∀ b ∈ fp1, FpOk (X.blk s3 H3 scope ce fp) ([] ++ pinsAt fp s7.heap) H' b := fun hn b hb => ⟨hn b hb, (f11 b hb).2⟩
        have loop1 : codeAny (model X.prog X.w) X.A (.compLoop (.ListComp elt [⟨tg, iter, ifs, 0⟩, ⟨tg1, iter1, ifs1, 0⟩] scope pos) 1 (.ref it1) (.ref D) ce)
            (fun r s' => match r with
              | .ok _ => ∃ m, m < n ∧ ∃ i H', Inv (X.blk s3 H3 scope ce fp) [] (wipe σ (own.map (·.2))) H' s' ∧ tn i s'.heap ∧ (∀ b ∈ fp, H' b = none) ∧ W i m H'
              | .error _ => False) s11 := by
          refine compLoop2_in (fun k s' => ∃ j H', Inv (X.blk s3 H3 scope ce fp) ([] ++ pinsAt fp s7.heap) (wipe σ8 vs1) H' s' ∧ tn1 j s'.heap ∧ (∀ b ∈ fp1, H' b = none) ∧ W1 j k H') ?_ m1 ⟨0, H11, I11.weak (wipe_length _ _) (fun j v e => (wipe_some e).1), st11, fun b hb => (f11 b hb).1, w1⟩
          rintro k s12 ⟨j, H12, I12, st12, n12, w12⟩
          rcases turn1 j k H12 w12 with ⟨stop1, nx1⟩ | ⟨go1, Nx1, hNx1, step1⟩
          · refine thnF (T1.done (X.blk s3 H3 scope ce fp) rfl rfl rfl hc j _ s12 (wipe σ8 vs1) H12 (fun _ _ => False) I12 (stat1 n12) st12 stop1) fun r s13 ⟨hr, I13⟩ => ?_
            subst hr
            exact fin I13 (hl8.trans (wipe_length σ8 vs1).symm) hk9 nx1
          · refine thnF (T1.item (X.blk s3 H3 scope ce fp) rfl rfl rfl hc j _ s12 (wipe σ8 vs1) H12 (fun _ _ => False) I12 (stat1 n12) st12 go1) fun r s13 ⟨u1, hr, h13⟩ => ?_
            subst hr
            refine thnF h13 fun _ s14 ⟨x1, H14, I14, r14, y14, st14, n14⟩ => ?_
            have I14' := I14.pinned (stat1 n14) (T1.obj _ _ st14)
            refine thnF (pg1 _ s14 (wipe σ8 vs1) H14 x1 u1 _ I14' r14 (step1 x1 H14 y14)) fun _ s15 ⟨σ15, H15, I15, hw15, q15⟩ => ?_
            refine thnF (pt1 _ s15 σ15 H15 _ I15 q15) fun b1 s16 ⟨H16, I16, q16⟩ => ?_
            have fin1 : ∀ {s' : Shared} {H' : Hp}, Inv (X.blk s3 H3 scope ce fp) (([] ++ pinsAt fp s7.heap) ++ pinsAt fp1 s14.heap) σ15 H' s' → Nx1 H' → ∃ m, m < k ∧ ∃ j H', Inv (X.blk s3 H3 scope ce fp) ([] ++ pinsAt fp s7.heap) (wipe σ8 vs1) H' s' ∧ tn1 j s'.heap ∧ (∀ b ∈ fp1, H' b = none) ∧ W1 j m H' := fun {s' H'} I' nx => by
              obtain ⟨m', hm, w'⟩ := hNx1 H' nx
              have pin' : ∀ b ∈ fp1, ∀ o, s14.heap.get? b = some o → s'.heap.get? b = some o ∧ H' b = none := fun b hb o e =>
                let z := I'.pin (b, o) (List.mem_append_right _ (List.mem_append_right _ (mem_pinsAt hb e)))
                ⟨z.1, z.2.1⟩
              refine ⟨m', hm, j + 1, H', I'.unpinned.weak (by rw [← hw15, wipe_length]) (fun j v e => by rw [← hw15] at e; exact (wipe_some e).1), T1.keep _ _ _ st14 fun b hb o e => (pin' b hb o e).1, fun b hb => ?_, w'⟩
              obtain ⟨o, e, _⟩ := T1.obj _ _ st14 b hb
              exact (pin' b hb o e).2
            cases b1 with
            | false =>
              simp only [Bool.false_eq_true, if_false] at q16 ⊢
              exact fin1 I16 q16
            | true =>
              simp only [if_true] at q16 ⊢
              refine thnF (pe _ s16 σ15 H16 _ I16 q16) fun z s17 ⟨yv, H17, I17, r17, acc, hD17, hz17, nx⟩ => ?_
              exact app_ok (X := X.blk s3 H3 scope ce fp) I17 hD17 hz17 r17 fun s18 I18 => fin1 I18 nx
        exact compStart1_ok loop1 (T1.self X.A 0 _ _ _ st11 loop1)
  exact codeAny_compStart_list loop (T.self X.A 0 _ _ _ st4 loop)
/-- as a value -/
theorem pe_lc2 {elt tg iter tg1 iter1 : Expr} {ifs ifs1 : List Expr} {scope : Scope} {own : List (Str × Nat)} {vs1 : List Nat} {pos : Pos} {wi wi1 : TI} {g g1 : TG} {tt tt1 : TT} {te : TE} (hc : X.calm = true) (hN : X.N.Nodup) (hi : PI X tg iter wi) (ok : BlkOk X.N X.env.scope scope own) (hv : ∀ i ∈ vs1, i ∈ own.map (·.2))
    (hg : ∀ (s : Shared) (H : Hp) (C : Addr) (cl : List (Str × Addr)) (fp : List Addr), PG (X.blk s H scope (compEnvC scope cl C X.env) fp) tg g) (ht : ∀ (s : Shared) (H : Hp) (C : Addr) (cl : List (Str × Addr)) (fp : List Addr), PTs (X.blk s H scope (compEnvC scope cl C X.env) fp) ifs tt)
    (hi1 : ∀ (s : Shared) (H : Hp) (C : Addr) (cl : List (Str × Addr)) (fp : List Addr), PI (X.blk s H scope (compEnvC scope cl C X.env) fp) tg1 iter1 wi1)
    (hg1 : ∀ (s : Shared) (H : Hp) (C : Addr) (cl : List (Str × Addr)) (fp : List Addr), PG (X.blk s H scope (compEnvC scope cl C X.env) fp) tg1 g1) (ht1 : ∀ (s : Shared) (H : Hp) (C : Addr) (cl : List (Str × Addr)) (fp : List Addr), PTs (X.blk s H scope (compEnvC scope cl C X.env) fp) ifs1 tt1)
    (he : ∀ (s : Shared) (H : Hp) (C : Addr) (cl : List (Str × Addr)) (fp : List Addr), PE (X.blk s H scope (compEnvC scope cl C X.env) fp) elt te) (hs : ∀ x, foldedSetIterable iter X.env x = pure x := by intro _; rfl) (hs1 : ∀ env x, foldedSetIterable iter1 env x = pure x := by intro _ _; rfl) :
    PE X (.ListComp elt [⟨tg, iter, ifs, 0⟩, ⟨tg1, iter1, ifs1, 0⟩] scope pos) (tLc2 wi g tt wi1 g1 tt1 te (own.map (·.2)) vs1) := by
  intro pins s σ H Q I h
  rw [eval_ListComp]
  refine lc2_core hc hN I hi ok hv hg ht he hs hi1 hg1 ht1 hs1 h fun D C s' m H' I' q hn f => ⟨m, hn, fun h'' sb => ?_⟩
  obtain ⟨f0, f1, f2, f3, f4, f5⟩ := f
  exact ⟨.ref D, H', I'.turned (t' := s'.toks) (fun b o hb e => (sb.2 b hb).trans e) f0 f1 f3 f4 f5, rfl, q⟩
end
end L2

namespace L2
open PySem PySem.Spec PyProof.Rows

/-! ### lists of pairs as tables -/
section
variable {κ : Type} [DecidableEq κ]
def valV (kvs : List (κ × V)) (k : κ) : Option V := (kvs.find? fun kv => decide (kv.1 = k)).map (·.2)
/-- in its place, or at the end -/
def putK (kvs : List (κ × V)) (k : κ) (v : V) : List (κ × V) :=
  if (kvs.any fun kv => decide (kv.1 = k)) = true then kvs.map (fun kv => if kv.1 = k then (kv.1, v) else kv) else kvs ++ [(k, v)]
def dropK (kvs : List (κ × V)) (k : κ) : List (κ × V) := kvs.filter fun kv => decide (kv.1 ≠ k)

theorem valV_pos {p : κ × V} {r : List (κ × V)} {k : κ} (e : p.1 = k) : valV (p :: r) k = some p.2 := by simp [valV, List.find?_cons, e]
theorem valV_neg {p : κ × V} {r : List (κ × V)} {k : κ} (e : ¬ p.1 = k) : valV (p :: r) k = valV r k := by simp [valV, List.find?_cons, e]
theorem valV_any (k : κ) : ∀ kvs : List (κ × V), (kvs.any fun kv => decide (kv.1 = k)) = (valV kvs k).isSome
  | [] => rfl
  | p :: r => by
    rw [List.any_cons]
    by_cases e : p.1 = k
    · simp only [valV_pos e, decide_eq_true e, Bool.true_or, Option.isSome_some]
    · rw [valV_neg e, decide_eq_false e, Bool.false_or]; exact valV_any k r
theorem valV_map (k j : κ) (y : V) : ∀ kvs : List (κ × V), valV (kvs.map fun kv => if kv.1 = k then (kv.1, y) else kv) j = (valV kvs j).map fun x => if j = k then y else x
  | [] => rfl
  | p :: r => by
    have ih := valV_map k j y r
    rw [List.map_cons]
    by_cases h : p.1 = k
    · rw [if_pos h]
      by_cases e : p.1 = j
      · rw [valV_pos (p := (p.1, y)) e, valV_pos e, Option.map_some, if_pos (e.symm.trans h)]
      · rw [valV_neg (p := (p.1, y)) e, valV_neg e, ih]
    · rw [if_neg h]
      by_cases e : p.1 = j
      · rw [valV_pos (p := p) e, valV_pos e, Option.map_some, if_neg (fun z => h (e.trans z))]
      · rw [valV_neg (p := p) e, valV_neg e, ih]
theorem valV_snoc (k j : κ) (y : V) : ∀ kvs : List (κ × V), valV kvs k = none → valV (kvs ++ [(k, y)]) j = if j = k then some y else valV kvs j
  | [], _ => by
    by_cases e : k = j
    · rw [if_pos e.symm]; exact valV_pos (p := (k, y)) e
    · rw [if_neg (fun z => e z.symm)]; exact valV_neg (p := (k, y)) e
  | p :: r, hn => by
    rw [List.cons_append]
    have hk : ¬ p.1 = k := fun z => by rw [valV_pos z] at hn; cases hn
    rw [valV_neg hk] at hn
    have ih := valV_snoc k j y r hn
    by_cases e : p.1 = j
    · rw [valV_pos e, valV_pos e, if_neg (fun z => hk (e.trans z))]
    · rw [valV_neg e, valV_neg e, ih]
theorem valV_put (kvs : List (κ × V)) (k j : κ) (y : V) : valV (putK kvs k y) j = if j = k then some y else valV kvs j := by
  unfold putK
  by_cases a : (kvs.any fun kv => decide (kv.1 = k)) = true
  · rw [if_pos a, valV_map]
    rw [valV_any] at a
    by_cases e : j = k
    · obtain ⟨x, hx⟩ := Option.isSome_iff_exists.mp a
      rw [if_pos e, e, hx, Option.map_some, if_pos rfl]
    · rw [if_neg e]
      cases valV kvs j with
      | none => rfl
      | some x => rw [Option.map_some, if_neg e]
  · rw [if_neg a]
    refine valV_snoc k j y kvs ?_
    rw [valV_any] at a
    cases q : valV kvs k with
    | none => rfl
    | some x => rw [q] at a; exact (a rfl).elim
theorem length_putK (kvs : List (κ × V)) (k : κ) (v : V) : (putK kvs k v).length ≤ kvs.length + 1 := by
  unfold putK
  split
  · rw [List.length_map]; omega
  · rw [List.length_append, List.length_cons, List.length_nil]; omega
theorem RelO.isSome_eq {o : Option V} {u : Option Value} (r : RelO o u) : o.isSome = u.isSome := by
  cases o with
  | none => cases u with
    | none => rfl
    | some _ => exact (show False from r).elim
  | some _ => cases u with
    | none => exact (show False from r).elim
    | some _ => rfl
theorem RelO.getD {o : Option V} {u : Option Value} {d : V} {d' : Value} (r : RelO o u) (rd : RelV d d') : RelV (o.getD d) (u.getD d') := by
  cases o with
  | none => cases u with
    | none => exact rd
    | some _ => exact (show False from r).elim
  | some _ => cases u with
    | none => exact (show False from r).elim
    | some _ => exact r

/-- raw tables of the same keys -/
theorem KV.val {kvs : List (κ × V)} {vs : List (κ × Value)} (r : KV kvs vs) (k : κ) : RelO (valV kvs k) (valueAt vs k) := by
  unfold KV at r
  induction r with
  | nil => exact True.intro
  | @cons p q ps qs h t ih =>
    obtain ⟨h1, h2⟩ := h
    by_cases e : p.1 = k
    · have e' : q.1 = k := h1.symm.trans e
      have b : valueAt (q :: qs) k = some q.2 := by simp [valueAt, List.find?_cons, e']
      rw [valV_pos e, b]; exact h2
    · have e' : ¬ q.1 = k := fun z => e (h1.trans z)
      have b : valueAt (q :: qs) k = valueAt qs k := by simp [valueAt, List.find?_cons, e']
      rw [valV_neg e, b]; exact ih
theorem KV.any {kvs : List (κ × V)} {vs : List (κ × Value)} (r : KV kvs vs) (k : κ) : (kvs.any fun kv => decide (kv.1 = k)) = vs.any fun kv => decide (kv.1 = k) := by
  unfold KV at r
  induction r with
  | nil => rfl
  | cons h t ih => rw [List.any_cons, List.any_cons, ih, h.1]
theorem KV.repl {kvs : List (κ × V)} {vs : List (κ × Value)} (r : KV kvs vs) (k : κ) {y : V} {u : Value} (ry : RelV y u) :
    KV (kvs.map fun kv => if kv.1 = k then (kv.1, y) else kv) (vs.map fun kv => if kv.1 = k then (kv.1, u) else kv) := by
  unfold KV at r ⊢
  induction r with
  | nil => exact .nil
  | @cons p q ps qs h t ih =>
    rw [List.map_cons, List.map_cons]
    refine .cons ?_ ih
    obtain ⟨h1, h2⟩ := h
    by_cases e : p.1 = k
    · rw [if_pos e, if_pos (h1.symm.trans e)]; exact ⟨h1, ry⟩
    · rw [if_neg e, if_neg (fun z => e (h1.trans z))]; exact ⟨h1, h2⟩
theorem KV.put {kvs : List (κ × V)} {vs : List (κ × Value)} (r : KV kvs vs) (k : κ) {y : V} {u : Value} (ry : RelV y u) : KV (putK kvs k y) (stored vs k u) := by
  unfold putK stored
  rw [r.any k]
  by_cases e : (vs.any fun kv => decide (kv.1 = k)) = true
  · rw [if_pos e, if_pos e]; exact r.repl k ry
  · rw [if_neg e, if_neg e]; exact Paired.snoc r ⟨rfl, ry⟩
theorem KV.drop {kvs : List (κ × V)} {vs : List (κ × Value)} (r : KV kvs vs) (k : κ) : KV (dropK kvs k) (without vs k) := by
  unfold KV at r ⊢
  unfold dropK without
  induction r with
  | nil => exact .nil
  | @cons p q ps qs h t ih =>
    obtain ⟨h1, h2⟩ := h
    rw [List.filter_cons, List.filter_cons]
    by_cases e : p.1 = k
    · have a : ¬ decide (p.1 ≠ k) = true := by simp [e]
      have b : ¬ decide (q.1 ≠ k) = true := by simp [h1.symm.trans e]
      rw [if_neg a, if_neg b]; exact ih
    · have e' : ¬ q.1 = k := fun z => e (h1.trans z)
      have a : decide (p.1 ≠ k) = true := by simp [e]
      have b : decide (q.1 ≠ k) = true := by simp [e']
      rw [if_pos a, if_pos b]; exact .cons ⟨h1, h2⟩ ih
theorem KV.keys {kvs : List (κ × V)} {vs : List (κ × Value)} (r : KV kvs vs) : kvs.map (·.1) = vs.map (·.1) := by
  unfold KV at r
  induction r with
  | nil => rfl
  | cons h t ih => rw [List.map_cons, List.map_cons, ih, h.1]
theorem KV.length {kvs : List (κ × V)} {vs : List (κ × Value)} (r : KV kvs vs) : kvs.length = vs.length := Paired.length r
end


/-! ### a tracked dict, its keys ints and texts or tuples of these -/
theorem kV_is {P : Program} {w : World} {k : Key} {u : Value} (r : RelV (kV k) u) : (mixKind P w).is k u = true := by
  cases k with
  | inl i => obtain ⟨t, e⟩ := (show ∃ t, u = Value.int i t from r); subst e; exact mixKind_int P w i t
  | inr x => obtain ⟨t, e⟩ := (show ∃ t, u = Value.str x t from r); subst e; exact mixKind_str P w x t
/-- raw entries of a dict with tuple keys -/
abbrev KT (H : Hp) : List (List Key × V) → List (List Key × Addr × Value) → Prop := Paired fun p q => p.1 = q.1 ∧ H q.2.1 = some (.tup (p.1.map kV)) ∧ RelV p.2 q.2.2
theorem KT.val {H : Hp} {kvs : List (List Key × V)} {xs : List (List Key × Addr × Value)} (r : KT H kvs xs) (k : List Key) : RelO (valV kvs k) ((atKey xs k).map (·.2)) := by
  induction r with
  | nil => exact True.intro
  | @cons p q ps qs h t ih =>
    obtain ⟨h1, _, h2⟩ := h
    by_cases e : p.1 = k
    · have e' : q.1 = k := h1.symm.trans e
      have b : atKey (q :: qs) k = some q.2 := by simp [atKey, List.find?_cons, e']
      rw [valV_pos e, b]; exact h2
    · have e' : ¬ q.1 = k := fun z => e (h1.trans z)
      have b : atKey (q :: qs) k = atKey qs k := by simp [atKey, List.find?_cons, e']
      rw [valV_neg e, b]; exact ih
theorem KT.repl {H : Hp} {kvs : List (List Key × V)} {xs : List (List Key × Addr × Value)} (r : KT H kvs xs) (k : List Key) {y : V} {u : Value} (ry : RelV y u) :
    KT H (kvs.map fun kv => if kv.1 = k then (kv.1, y) else kv) (xs.map (putAt k u)) := by
  induction r with
  | nil => exact .nil
  | @cons p q ps qs h t ih =>
    rw [List.map_cons, List.map_cons]
    refine .cons ?_ ih
    obtain ⟨h1, h2, h3⟩ := h
    unfold putAt
    by_cases e : p.1 = k
    · rw [if_pos e, if_pos (h1.symm.trans e)]; exact ⟨h1, h2, ry⟩
    · rw [if_neg e, if_neg (fun z => e (h1.trans z))]; exact ⟨h1, h2, h3⟩
theorem KT.put {H : Hp} {kvs : List (List Key × V)} {xs : List (List Key × Addr × Value)} (r : KT H kvs xs) (k : List Key) {b : Addr} {y : V} {u : Value} (hb : H b = some (.tup (k.map kV))) (ry : RelV y u) :
    KT H (putK kvs k y) (storedH xs k b u) := by
  have e : (kvs.any fun kv => decide (kv.1 = k)) = (atKey xs k).isSome := by
    rw [valV_any, (r.val k).isSome_eq, Option.isSome_map]
  unfold putK storedH
  rw [e]
  by_cases q : (atKey xs k).isSome = true
  · rw [if_pos q, if_pos q]; exact r.repl k ry
  · rw [if_neg q, if_neg q]; exact Paired.snoc r ⟨rfl, hb, ry⟩
theorem KT.keeps {H H' : Hp} {kvs : List (List Key × V)} {xs : List (List Key × Addr × Value)} (r : KT H kvs xs) (ht : ∀ b ys, H b = some (.tup ys) → H' b = some (.tup ys)) : KT H' kvs xs :=
  Paired.mapP r fun _ _ z => ⟨z.1, ht _ _ z.2.1, z.2.2⟩

section
variable {P : Program} {w : World} {H : Hp} {h : Heap} {a : Addr}
end

/-- what the dict at a holds at the key y -/
def DGet (H : Hp) (a : Addr) (y : V) (r : Option V) : Prop :=
  (∃ kvs k, Rd H a (.dK kvs) ∧ y = kV k ∧ r = valV kvs k) ∨ ∃ kvs k b, Rd H a (.dT kvs) ∧ y = .ref b ∧ H b = some (.tup (k.map kV)) ∧ r = valV kvs k
/-- the heap behind a[y] = v -/
def DPut (H : Hp) (a : Addr) (y v : V) (H' : Hp) : Prop :=
  (∃ kvs k, H a = some (.dK kvs) ∧ y = kV k ∧ kvs.length < sizeLine ∧ H' = upd H a (.dK (putK kvs k v))) ∨
  ∃ kvs k b, H a = some (.dT kvs) ∧ y = .ref b ∧ H b = some (.tup (k.map kV)) ∧ kvs.length < sizeLine ∧ H' = upd H a (.dT (putK kvs k v))
theorem DGet.k {H : Hp} {a : Addr} {kvs : List (Key × V)} {k : Key} (e : H a = some (.dK kvs)) : DGet H a (kV k) (valV kvs k) := .inl ⟨kvs, k, .inl e, rfl, rfl⟩
theorem DGet.t {H : Hp} {a b : Addr} {kvs : List (List Key × V)} {k : List Key} (e : H a = some (.dT kvs)) (eb : H b = some (.tup (k.map kV))) : DGet H a (.ref b) (valV kvs k) := .inr ⟨kvs, k, b, .inl e, rfl, eb, rfl⟩
theorem DPut.k {H : Hp} {a : Addr} {kvs : List (Key × V)} {k : Key} {v : V} (e : H a = some (.dK kvs)) (hl : kvs.length < sizeLine) : DPut H a (kV k) v (upd H a (.dK (putK kvs k v))) := .inl ⟨kvs, k, e, rfl, hl, rfl⟩
theorem DPut.t {H : Hp} {a b : Addr} {kvs : List (List Key × V)} {k : List Key} {v : V} (e : H a = some (.dT kvs)) (eb : H b = some (.tup (k.map kV))) (hl : kvs.length < sizeLine) :
    DPut H a (.ref b) v (upd H a (.dT (putK kvs k v))) := .inr ⟨kvs, k, b, e, rfl, eb, hl, rfl⟩


section
variable {X : Cx} {pins : List (Addr × Obj)} {σ : St} {H : Hp} {s : Shared} {a : Addr} {y v : V} {u r : Value} {o : Option V} {A : Around} {E : Value → Shared → Prop}

end

section
variable {X : Cx} {pins : List (Addr × Obj)} {σ : St} {H : Hp} {s : Shared} {a : Addr} {kvs : List (Key × V)} {k : Key} {u : Value} {A : Around} {E : Value → Shared → Prop}
end


/-! ### readings and rules -/
/-- the element of a subscription, not a slice -/
def NoSl (i : Expr) : Prop := ∀ ov iv, subscripted i false ov iv = operate [ov, iv] (getItem ov iv)
/-- d[y] -/
def tDGet (td ty : TE) : TE := fun σ H Q => td σ H fun x H1 => ty σ H1 fun y H2 => ∃ a v, x = .ref a ∧ DGet H2 a y (some v) ∧ Q v H2
/-- y in d, y not in d -/
def tDIn (ty td : TE) : TE := fun σ H Q => ty σ H fun y H1 => td σ H1 fun x H2 => ∃ a o, x = .ref a ∧ DGet H2 a y o ∧ Q (.bl o.isSome) H2
def tDNotIn (ty td : TE) : TE := fun σ H Q => ty σ H fun y H1 => td σ H1 fun x H2 => ∃ a o, x = .ref a ∧ DGet H2 a y o ∧ Q (.bl (!o.isSome)) H2
/-- d[y] = v -/
def sDPut (td ty tv : TE) : TS := fun D σ H => tv σ H fun v H1 => td σ H1 fun x H2 => ty σ H2 fun y H3 => ∃ a H4, x = .ref a ∧ DPut H3 a y v H4 ∧ D.nx σ H4
/-- d[y] op= v -/
def sDAug (td ty tv : TE) (rd : V → V → Hp → VK → Prop) : TS := fun D σ H => td σ H fun x H1 => ty σ H1 fun y H2 => ∃ a v, x = .ref a ∧ DGet H2 a y (some v) ∧
  tv σ H2 fun y2 H3 => rd v y2 H3 fun z H4 => ∃ H5, DPut H4 a y z H5 ∧ D.nx σ H5
/-- del d[y] -/
def sDDel (td ty : TE) : TS := fun D σ H => td σ H fun x H1 => ty σ H1 fun y H2 => ∃ a kvs k, x = .ref a ∧ H2 a = some (.dK kvs) ∧ y = kV k ∧ (valV kvs k).isSome = true ∧ D.nx σ (upd H2 a (.dK (dropK kvs k)))

section
variable {X : Cx} {o i e value : Expr} {pos pos' tpos : Pos} {td ty tv : TE}
end


/-! ### displays -/
/-- {}, to be a dict of the kind that is wanted -/
def tDNewK : TE := fun _ H Q => ∀ p, H p = none → Q (.ref p) (upd H p (.dK []))
def tDNewT : TE := fun _ H Q => ∀ p, H p = none → Q (.ref p) (upd H p (.dT []))
section
variable {X : Cx} {pos : Pos}
end

/-- the pairs of a display, from the left -/
def tPairs : List (TE × TE) → St → Hp → (List (V × V) → Hp → Prop) → Prop
  | [], _, H, Q => Q [] H
  | (tk, tv) :: r, σ, H, Q => tk σ H fun x H1 => tv σ H1 fun y H2 => tPairs r σ H2 fun ps H3 => Q ((x, y) :: ps) H3
abbrev VV : List (V × V) → List (Value × Value) → Prop := Paired fun p q => RelV p.1 q.1 ∧ RelV p.2 q.2
def PPs (X : Cx) (pos : Pos) (keys : List (Option Expr)) (values : List Expr) (trs : List (TE × TE)) : Prop :=
  ∀ (pins : List (Addr × Obj)) (s : Shared) (σ : St) (H : Hp) (Q : List (V × V) → Hp → Prop), Inv X pins σ H s → tPairs trs σ H Q →
    wpAny (model X.prog X.w) X.A (evalPairs (pairTrees keys values X.env pos)) (fun vs s' => ∃ ps H', Inv X pins σ H' s' ∧ VV ps vs ∧ Q ps H') X.xe s
def mergeK (kvs more : List (Key × V)) : List (Key × V) := more.foldl (fun acc kv => putK acc kv.1 kv.2) kvs
/-- {k: v, ..} with keys ints and texts; the new dict stands empty while the pairs are made -/
def tDisp (trs : List (TE × TE)) : TE := fun σ H Q => ∀ p, H p = none → tPairs trs σ (upd H p (.dK [])) fun ps H2 => H2 p = some (.dK []) ∧ ∃ kvs : List (Key × V), ps = kvs.map (fun kv => (kV kv.1, kv.2)) ∧ kvs.length ≤ 15 ∧ Q (.ref p) (upd H2 p (.dK (mergeK [] kvs)))
/-! ### methods -/
/-- a method call o.m(e) of a built-in, with one argument: what must be seen of the text -/
structure M1 (X : Cx) (o : Expr) (m : Str) (apos : Pos) (e : Expr) (cpos : Pos) : Prop where
  base : attributeBase o m X.env (eval o X.env) = eval o X.env
  few : ((backTo cpos (starEach [e] X.env)).all (fun x => !x.1) && (backToKw cpos (keywordEach [] X.env)).all (fun x => x.1.isSome)
    && decide (([e] : List Expr).length + ([] : List Keyword).length + (if ([] : List Keyword).isEmpty then 0 else 1) < 30)) = true
  line : (apos.endLine == cpos.line) = true
  trees : backTo cpos (starEach [e] X.env) = [(false, eval e X.env)]
structure M2 (X : Cx) (o : Expr) (m : Str) (apos : Pos) (e f : Expr) (cpos : Pos) : Prop where
  base : attributeBase o m X.env (eval o X.env) = eval o X.env
  few : ((backTo cpos (starEach [e, f] X.env)).all (fun x => !x.1) && (backToKw cpos (keywordEach [] X.env)).all (fun x => x.1.isSome)
    && decide (([e, f] : List Expr).length + ([] : List Keyword).length + (if ([] : List Keyword).isEmpty then 0 else 1) < 30)) = true
  line : (apos.endLine == cpos.line) = true
  trees : backTo cpos (starEach [e, f] X.env) = [(false, eval e X.env), (false, eval f X.env)]

/-- a is a dict, whatever its keys -/
def IsD (H : Hp) (a : Addr) : Prop := (∃ kvs, Rd H a (.dK kvs)) ∨ ∃ kvs, Rd H a (.dT kvs)
section
variable {X : Cx} {pins : List (Addr × Obj)} {σ : St} {H : Hp} {s : Shared} {a : Addr} {y d : V} {u r : Value} {o : Option V} {A : Around} {E : Value → Shared → Prop}
end

def tDGet1 (td ty : TE) : TE := fun σ H Q => td σ H fun x H1 => ∃ a, x = .ref a ∧ IsD H1 a ∧ ty σ H1 fun y H2 => ∃ o, DGet H2 a y o ∧ Q (o.getD .non) H2
def tDGet2 (td ty tx : TE) : TE := fun σ H Q => td σ H fun x H1 => ∃ a, x = .ref a ∧ IsD H1 a ∧ ty σ H1 fun y H2 => tx σ H2 fun z H3 => ∃ o, DGet H3 a y o ∧ Q (o.getD z) H3
/-- d.pop(k): there; d.pop(k, x): there or not -/
def tDPop1 (td ty : TE) : TE := fun σ H Q => td σ H fun x H1 => ∃ a, x = .ref a ∧ IsD H1 a ∧ ty σ H1 fun y H2 => ∃ kvs k v, H2 a = some (.dK kvs) ∧ y = kV k ∧ valV kvs k = some v ∧ Q v (upd H2 a (.dK (dropK kvs k)))
def tDPop2 (td ty tx : TE) : TE := fun σ H Q => td σ H fun x H1 => ∃ a, x = .ref a ∧ IsD H1 a ∧ ty σ H1 fun y H2 => tx σ H2 fun z H3 => ∃ kvs k, H3 a = some (.dK kvs) ∧ y = kV k ∧
  (∀ v, valV kvs k = some v → Q v (upd H3 a (.dK (dropK kvs k)))) ∧ (valV kvs k = none → Q z H3)
section
variable {X : Cx} {o e f : Expr} {apos cpos : Pos} {td ty tx : TE}
end

/-! ### dict(d): a copy -/
section
variable {X : Cx} {pins : List (Addr × Obj)} {σ : St} {H : Hp} {s : Shared} {a : Addr} {kvs : List (Key × V)} {A : Around} {E : Value → Shared → Prop}
end


section
variable {X : Cx} {pins : List (Addr × Obj)} {σ : St} {H : Hp} {s : Shared} {a : Addr} {y : V} {u : Value} {A : Around} {E : Value → Shared → Prop}
end
end L2

namespace L2
open PySem PySem.Spec PyProof.Rows

section
variable {prog : Program} {w : World} {A : Around} {E : Value → Shared → Prop}
end

section
variable {X : Cx}
theorem pairs_of {pins : List (Addr × Obj)} {σ : St} {H : Hp} {s : Shared} (I : Inv X pins σ H s) : ∀ {ps : List Addr} {kvs : List (Key × V)}, Paired (fun p kv => SqT X.K H p [kV kv.1, kv.2]) ps kvs →
    ∃ prs : List (Key × Value), KV kvs prs ∧ prs.length = ps.length ∧ ∀ (j : Nat) (q : Key × Value), prs[j]? = some q → ∃ (b : Addr) (u : Value), ps[j]? = some b ∧ IsTup s.heap b #[u, q.2] ∧ keyIs q.1 u = true
  | _, _, .nil => ⟨[], .nil, rfl, fun j q e => by simp at e⟩
  | _, _, .cons (a := p) (b := kv) h t => by
    obtain ⟨prs, r, hl, hp⟩ := pairs_of I t
    obtain ⟨its, rv, ht, _⟩ := I.tuple h
    obtain ⟨u, y, ei, ru, ry⟩ := vals2 rv
    subst ei
    refine ⟨(kv.1, y) :: prs, .cons ⟨rfl, ry⟩ r, by rw [List.length_cons, List.length_cons, hl], fun j q e => ?_⟩
    cases j with
    | zero =>
      have e' : (kv.1, y) = q := Option.some.inj e
      subst e'
      exact ⟨p, u, rfl, ht, kV_is (P := X.prog) (w := X.w) ru⟩
    | succ j =>
      obtain ⟨b, u', e1, e2, e3⟩ := hp j q (by simpa using e)
      exact ⟨b, u', by simpa using e1, e2, e3⟩
end
end L2

namespace L2
open PySem PySem.Spec PyProof.Rows

section
variable {X : Cx} {pins : List (Addr × Obj)} {σ : St} {H : Hp} {s : Shared} {h' : Heap}
/-- several records of ours have turned -/
theorem Inv.turnedL {t' : Nat} {ch : List Addr} (I : Inv X pins σ H s) (k : ∀ b o, b ∉ ch → s.heap.get? b = some o → h'.get? b = some o) (hf : ∀ b ∈ ch, FpOk X pins H b) : Inv X pins σ H { s with heap := h', toks := t' } := by
  have nit : ∀ b u, H b = some u → b ∉ ch := fun b u e z => by
    have q := (hf b z).1
    rw [q] at e; cases e
  refine I.step (g' := s.gens) (d' := s.drawn) (ch := ch) (fun b hb => ⟨(hf b hb).2.2.2.1, (hf b hb).2.1, (hf b hb).2.2.2.2.1, (hf b hb).2.2.2.2.2⟩) (fun b o _ _ hc e _ => k b o hc e) (fun b o _ _ hc e _ => ⟨o.slots, k b o hc e⟩)
    (fun _ _ _ _ n => n) (fun b o hc e => ⟨o, k b o hc e⟩) (fun _ _ e => e) (fun _ _ _ e => e) (fun b ps e => ⟨#[], by rw [e]; simp⟩) (fun m hm => ?_) (fun b u e => ?_) I.bare
  · obtain ⟨o, es, ep, ho, r⟩ := hm
    exact ⟨o, es, ep, k _ o (fun z => (hf _ z).2.1 rfl) ho, r⟩
  · refine (I.hok b u e).stay (fun c v hc q => k c v ?_ q) (fun _ q => q) fun _ _ q => q
    rcases hc with z | z
    · rw [z]; exact nit b u e
    · exact nit c _ z
/-- .. and one new object is laid -/
theorem Inv.turnedNew {t' : Nat} {ch : List Addr} {T : Addr} {ob : HO} (I : Inv X pins σ H s) (k : ∀ b o, b ∉ ch → s.heap.get? b = some o → h'.get? b = some o) (hf : ∀ b ∈ ch, FpOk X pins H b) (hT : s.heap.objs.size ≤ T)
    (new : ObjOk X.prog X.w (upd H T ob) h' T ob) : Inv X pins σ (upd H T ob) { s with heap := h', toks := t' } := by
  have hn : H T = none := I.hok.fresh hT
  have nit : ∀ b u, H b = some u → b ∉ ch := fun b u e z => by
    have q := (hf b z).1
    rw [q] at e; cases e
  refine I.step (g' := s.gens) (d' := s.drawn) (ch := ch) (fun b hb => ⟨(hf b hb).2.2.2.1, (hf b hb).2.1, (hf b hb).2.2.2.2.1, (hf b hb).2.2.2.2.2⟩) (fun b o _ _ hc e _ => k b o hc e) (fun b o _ _ hc e _ => ⟨o.slots, k b o hc e⟩)
    (fun b o _ e n => ?_) (fun b o hc e => ⟨o, k b o hc e⟩) (fun b xs e => ?_) (fun b o u e => ?_) (fun b ps e => ⟨#[], ?_⟩) (fun m hm => ?_) (fun b u e => ?_) I.bare
  · rw [upd_ne (Nat.ne_of_lt (Nat.lt_of_lt_of_le (Heap.lt_size e) hT))]; exact n
  · rw [upd_ne (ne_of_none e hn)]; exact e
  · rw [upd_ne (ne_of_none e hn)]; exact e
  · rw [upd_ne (ne_of_none e hn), e]; simp
  · obtain ⟨o, es, ep, ho, r⟩ := hm
    exact ⟨o, es, ep, k _ o (fun z => (hf _ z).2.1 rfl) ho, r⟩
  · by_cases hb : b = T
    · subst hb
      rw [upd_same] at e
      cases e
      exact new
    · rw [upd_ne hb] at e
      refine (I.hok b u e).stay (fun c v hc q => k c v ?_ q) (fun c q => by rw [upd_ne (ne_of_none q hn)]; exact q) fun c xs q => by rw [upd_ne (ne_of_none q hn)]; exact q
      rcases hc with z | z
      · rw [z]; exact nit b u e
      · exact nit c _ z

/-! ### locking a thing while a statement runs -/
end
/-- the statement runs while the thing at d is locked (read, not written); d and what stands there are the reading's choice -/
def tLock (t : TS) : TS := fun D σ H => ∃ d u, H d = some u ∧ Mut (some u) ∧ ∀ od, t ⟨fun σ' H' => H' d = some (.frz od u) ∧ D.nx σ' (upd H' d u), fun v H' => H' d = some (.frz od u) ∧ D.rt v (upd H' d u), fun σ' H' => H' d = some (.frz od u) ∧ D.bk σ' (upd H' d u), fun σ' H' => H' d = some (.frz od u) ∧ D.ct σ' (upd H' d u)⟩ σ (upd H d (.frz od u))
def tLockE (t : TE) : TE := fun σ H Q => ∃ d u, H d = some u ∧ Mut (some u) ∧ ∀ od, t σ (upd H d (.frz od u)) fun v H' => H' d = some (.frz od u) ∧ Q v (upd H' d u)
section
variable {X : Cx}
/-! ### one iterator just laid -/
theorem pi_one {tg : Expr} {pins : List (Addr × Obj)} {σ : St} {H : Hp} {s : Shared} {R : It → Hp → Prop} {J : It} {tn : Nat → Heap → Prop} {tk : Nat} (I : Inv X pins σ H s) (o : Obj)
    (T : Turn X.prog X.w X.K tg J [s.heap.objs.size] s.heap.objs.size tn) (st : tn 0 (s.heap.push o)) (q : R J H) : PIE X pins σ tg R (.ref s.heap.objs.size) { s with heap := s.heap.push o, toks := tk } := by
  refine ⟨s.heap.objs.size, [s.heap.objs.size], tn, J, H, rfl, I.kept fun b ob e => Heap.get?_push_of_some _ e, T, st, fun b hb => ?_, q⟩
  have e : b = s.heap.objs.size := by simpa using hb
  subst e
  exact I.fpOk (Nat.le_refl _) (I.hok.fresh (Nat.le_refl _))
end

/-! ### range with a step -/
/-- lo, lo + c, .. (n of them) -/
def Itc (lo c : Int) (n : Nat) : It := ⟨fun i _ => i < n, fun i H x H' => H' = H ∧ x = .int (lo + (i : Nat) * c), fun i _ => n ≤ i⟩
/-- range(i, j, c): small bounds, n items -/
def RgC (i j c : Int) (n : Nat) : Prop := c ≠ 0 ∧ c.natAbs < 1073741824 ∧ Builtin.Range.small i j c = true ∧ Builtin.Range.rangeSize i j c = n
theorem RgC.neg {i j : Int} (ha : -(2 ^ 62) ≤ i) (ha' : i < 2 ^ 62) (hb : -(2 ^ 62) ≤ j) (hb' : j < 2 ^ 62) : RgC i j (-1) (i - j).toNat :=
  ⟨by decide, by decide, PySem.W.small_down ha ha' hb hb', PySem.W.rangeSize_downNat i j⟩
def iRng3 (ta : TA) : TI := fun σ H R => ta σ H fun vs H1 => ∃ (i j c : Int) (n : Nat), vs = [.int i, .int j, .int c] ∧ RgC i j c n ∧ R (Itc i c n) H1
section
variable {X : Cx} {tg : Expr}
end
/-! ### reversed(list) -/
/-- the list at a (n items at the start, which the loop leaves there), from its end -/
def Itv (K : PySem.W.Frag) (a : Addr) (n : Nat) : It :=
  ⟨fun i H => i < n ∧ ∃ (xs : List V) (x : V), SqL K H a xs ∧ xs[n - 1 - i]? = some x, fun i H x H' => H' = H ∧ ∀ xs, SqL K H a xs → xs[n - 1 - i]? = some x, fun i _ => n ≤ i⟩
def iRev (K : PySem.W.Frag) (ta : TA) : TI := fun σ H R => ta σ H fun vs H1 => ∃ (a : Addr) (xs : List V), vs = [.ref a] ∧ SqL K H1 a xs ∧ R (Itv K a xs.length) H1
section
variable {X : Cx} {tg : Expr}
end

/-! ### a str -/
def Its (x : Str) : It := ⟨fun i _ => i < x.cps.size, fun i H v H' => H' = H ∧ ∃ c, x.cps[i]? = some c ∧ v = .str ⟨#[c]⟩, fun i _ => x.cps.size ≤ i⟩
theorem turn_str {P : Program} {w : World} {K : PySem.W.Frag} {tg : Expr} (it : Addr) (x : Str) (t : Tok) (ty : String) (hty : ty = "str_ascii_iterator" ∨ ty = "str_iterator") :
    Turn P w K tg (Its x) [it] it (fun i h => h.IsStrIter it ty x t i) where
  mem := by simp
  obj := fun i h st b hb => by
    have e : b = it := by simpa using hb
    subst e
    obtain ⟨o, e, c, d⟩ := st
    exact ⟨o, e, fun v z => by rw [d] at z; cases z⟩
  keep := fun i h h' st k => let ⟨o, ho, r⟩ := st; ⟨o, k it (by simp) o ho, r⟩
  item := by
    intro X hP hw hK hc i pins s σ H E I hf st hg
    subst hP hw hK
    obtain ⟨f0, f1, f2, f3, f4, f5⟩ := hf it (by simp)
    have W : Walks X.prog X.w X.A it [it] [it] x.cps.size (SignAt x) (fun i h => h.IsStrIter it ty x t i) := by
      rcases hty with e | e
      · rw [e]; exact Walks.strAscii (I.ok.hd hc) it x t
      · rw [e]; exact Walks.strWide (I.ok.hd hc) it x t
    have hno : ["enumerate", "zip", "dict_itemiterator", "dict_reverseitemiterator", "odict_iterator", "itertools.zip_longest", "itertools.pairwise"].contains ty = false := by
      rcases hty with e | e
      · rw [e]; decide
      · rw [e]; decide
    refine W.item i s _ _ hg st fun v h' tk hv st' kk => ?_
    obtain ⟨c, u, hcx, rfl⟩ := hv
    have I1 : Inv X pins σ H { s with heap := h', toks := tk } := I.turned (fun b o hb e => kk b o (by simpa using hb) e) f0 f1 f3 f4 f5
    obtain ⟨oi, e, cc, dd⟩ := id st'
    exact ⟨_, rfl, go_of (s := { s with heap := h', toks := tk }) e cc dd hno ⟨.str ⟨#[c]⟩, H, I1, ⟨u, rfl⟩, ⟨rfl, c, hcx, rfl⟩, st', fun b hb => (hf b hb).1⟩⟩
  done := by
    intro X hP hw hK hc i pins s σ H E I hf st hg
    subst hP hw hK
    obtain ⟨f0, f1, f2, f3, f4, f5⟩ := hf it (by simp)
    have hx : x.cps[i]? = none := Array.getElem?_eq_none hg
    rcases hty with e | e
    · rw [e] at st
      exact wpAny_pyNext_ascii_end (I.ok.hd hc) st hx fun h' eb => ⟨rfl, I.turned (t' := s.toks) (fun b o hb e => eb b o hb e) f0 f1 f3 f4 f5⟩
    · rw [e] at st
      exact wpAny_pyNext_wide_end (I.ok.hd hc) st hx fun h' eb => ⟨rfl, I.turned (t' := s.toks) (fun b o hb e => eb b o hb e) f0 f1 f3 f4 f5⟩
  self := fun A i s Q E st h => by
    rcases hty with e | e
    · rw [e] at st; exact wpAny_pyIter_striter_ascii st h
    · rw [e] at st; exact wpAny_pyIter_striter_wide st h
def iStr (te : TE) : TI := fun σ H R => te σ H fun v H1 => ∃ x, v = .str x ∧ R (Its x) H1
theorem pi_str {X : Cx} {tg e : Expr} {te : TE} (he : PE X e te) : PI X tg e (iStr te) := by
  intro pins s σ H R I h
  refine thn (he pins s σ H _ I h) fun v s1 ⟨y, H1, I1, r1, x, ex, q⟩ => ?_
  subst ex
  obtain ⟨t, rfl⟩ := r1
  cases ha : x.cps.all (· < 128)
  · exact wpAny_pyIter_wide ha (pi_one (tk := s1.toks) I1 _ (turn_str _ x t "str_iterator" (.inr rfl)) ⟨_, Heap.get?_push_size _ rfl, rfl, rfl⟩ q)
  · exact wpAny_pyIter_ascii ha (pi_one (tk := s1.toks) I1 _ (turn_str _ x t "str_ascii_iterator" (.inl rfl)) ⟨_, Heap.get?_push_size _ rfl, rfl, rfl⟩ q)

/-! ### a dict's keys: any dict's entries -/
section
variable {prog : Program} {w : World} {A : Around} {E : Value → Shared → Prop} {s : Shared}
end

/-! ### a locked dict -/
section
variable {X : Cx} {pins : List (Addr × Obj)} {σ : St} {H : Hp} {s : Shared} {d : Addr} {o : Obj}
end

/-- the keys of the locked dict at d, in their order -/
def Itk (d : Addr) (o : Obj) (kvs : List (Key × V)) : It :=
  ⟨fun i H => H d = some (.frz o (.dK kvs)) ∧ i < kvs.length, fun i H x H' => H' = H ∧ ∃ k v, kvs[i]? = some (k, v) ∧ x = kV k, fun i H => H d = some (.frz o (.dK kvs)) ∧ kvs.length ≤ i⟩
/-- .. of tuple keys: the key's own tuple -/
def Itkt (d : Addr) (o : Obj) (kvs : List (List Key × V)) : It :=
  ⟨fun i H => H d = some (.frz o (.dT kvs)) ∧ i < kvs.length, fun i H x H' => H' = H ∧ ∃ (k : List Key) (v : V) (q : Addr), kvs[i]? = some (k, v) ∧ x = .ref q ∧ H q = some (.tup (k.map kV)), fun i H => H d = some (.frz o (.dT kvs)) ∧ kvs.length ≤ i⟩
/-- the values -/
def Itd (d : Addr) (o : Obj) (kvs : List (Key × V)) : It :=
  ⟨fun i H => H d = some (.frz o (.dK kvs)) ∧ i < kvs.length, fun i H x H' => H' = H ∧ ∃ k, kvs[i]? = some (k, x), fun i H => H d = some (.frz o (.dK kvs)) ∧ kvs.length ≤ i⟩
/-- the pairs, each a new tuple -/
def Iti (d : Addr) (o : Obj) (kvs : List (Key × V)) : It :=
  ⟨fun i H => H d = some (.frz o (.dK kvs)) ∧ i < kvs.length, fun i H x H' => ∃ T k v, kvs[i]? = some (k, v) ∧ x = .ref T ∧ H T = none ∧ H' = upd H T (.tup [kV k, v]), fun i H => H d = some (.frz o (.dK kvs)) ∧ kvs.length ≤ i⟩
section
variable {P : Program} {w : World} {K : PySem.W.Frag} {tg : Expr} {d : Addr} {o : Obj} {es : Array DictEntry} {ep : Nat}
end

/-! ### for k in d, d.keys(), d.values(), d.items() -/
/-- the dict is locked (tLock, or by the caller) -/
def iKeys (td : TE) : TI := fun σ H R => td σ H fun x H1 => ∃ d o, x = .ref d ∧ ((∃ kvs, H1 d = some (.frz o (.dK kvs)) ∧ R (Itk d o kvs) H1) ∨ ∃ kvs, H1 d = some (.frz o (.dT kvs)) ∧ R (Itkt d o kvs) H1)
def iVals (td : TE) : TI := fun σ H R => td σ H fun x H1 => ∃ d o kvs, x = .ref d ∧ H1 d = some (.frz o (.dK kvs)) ∧ R (Itd d o kvs) H1
def iItems (td : TE) : TI := fun σ H R => td σ H fun x H1 => ∃ d o kvs, x = .ref d ∧ H1 d = some (.frz o (.dK kvs)) ∧ R (Iti d o kvs) H1
def iKeysM (td : TE) : TI := fun σ H R => td σ H fun x H1 => ∃ d o kvs, x = .ref d ∧ H1 d = some (.frz o (.dK kvs)) ∧ R (Itk d o kvs) H1
section
variable {X : Cx} {tg e : Expr} {td : TE} {apos cpos : Pos}
end

/-! ### enumerate(list) -/
/-- the list at a as it stands at each turn, each item in a new pair -/
def Ite (K : PySem.W.Frag) (a : Addr) : It :=
  ⟨fun i H => ∃ (xs : List V) (x : V), SqL K H a xs ∧ xs[i]? = some x, fun i H v H' => ∃ T x, v = .ref T ∧ H T = none ∧ H' = upd H T (.tup [.int (i : Nat), x]) ∧ ∀ xs, SqL K H a xs → xs[i]? = some x, fun i H => ∃ xs : List V, SqL K H a xs ∧ xs.length ≤ i⟩
def iEnum (K : PySem.W.Frag) (ta : TA) : TI := fun σ H R => ta σ H fun vs H1 => ∃ a xs, vs = [.ref a] ∧ SqL K H1 a xs ∧ R (Ite K a) H1
/-! ### zip(list, list) -/
theorem boot_zip5 : bootBuiltins "zip" = some (.type "zip") := by decide +kernel
/-- the lists at a and b as they stand at each turn, the items in new pairs -/
def Itz (K : PySem.W.Frag) (a b : Addr) : It :=
  ⟨fun i H => ∃ (xs ys : List V) (x y : V), SqL K H a xs ∧ SqL K H b ys ∧ xs[i]? = some x ∧ ys[i]? = some y,
    fun i H v H' => ∃ T x y, v = .ref T ∧ H T = none ∧ H' = upd H T (.tup [x, y]) ∧ (∀ xs, SqL K H a xs → xs[i]? = some x) ∧ ∀ ys, SqL K H b ys → ys[i]? = some y,
    fun i H => ∃ xs ys : List V, SqL K H a xs ∧ SqL K H b ys ∧ (xs.length ≤ i ∨ ys.length ≤ i)⟩
def iZip (K : PySem.W.Frag) (ta : TA) : TI := fun σ H R => ta σ H fun vs H1 => ∃ a b xs ys, vs = [.ref a, .ref b] ∧ SqL K H1 a xs ∧ SqL K H1 b ys ∧ R (Itz K a b) H1
end L2

section 
namespace Bits
open PySem PyProof.Rows

end Bits
end 

section 
namespace TL
open PySem PySem.Builtin PySem.Builtin.Str PySem.StrLaws

abbrev tl (x : Str) : List Nat := x.cps.toList
theorem len_tl (x : Str) : x.length = (tl x).length := by simp [tl, Str.length]
theorem ext_tl {x y : Str} (h : tl x = tl y) : x = y := Str.ext' (Array.toList_inj.mp h)
theorem tl_append (x y : Str) : tl (x ++ y) = tl x ++ tl y := by
  show (x ++ y).cps.toList = _
  rw [Str.cps_append, Array.toList_append]
theorem map_tl_inj : ∀ {l m : List Str}, l.map tl = m.map tl → l = m
  | [], [], _ => rfl
  | [], _ :: _, h => by simp at h
  | _ :: _, [], h => by simp at h
  | x :: l, y :: m, h => by
    rw [List.map_cons, List.map_cons] at h
    injection h with h1 h2
    rw [ext_tl h1, map_tl_inj h2]
/-! ### the list functions -/
/-- S stands at the head of l -/
def pre (S l : List Nat) : Bool := l.take S.length == S
/-- l cut at each S from the left; k signs are still to be passed over -/
def spl (S : List Nat) : Nat → List Nat → List Nat → List (List Nat)
  | _, acc, [] => [acc]
  | 0, acc, c :: r => if pre S (c :: r) = true then acc :: spl S (S.length - 1) [] r else spl S 0 (acc ++ [c]) r
  | k + 1, acc, _ :: r => spl S k acc r
/-- what stands before the first S, and behind it -/
def par (S : List Nat) : List Nat → List Nat → Option (List Nat × List Nat)
  | _, [] => none
  | acc, c :: r => if pre S (c :: r) = true then some (acc, (c :: r).drop S.length) else par S (acc ++ [c]) r

theorem spl_nil (S : List Nat) (k : Nat) (acc : List Nat) : spl S k acc [] = [acc] := by cases k <;> rfl
theorem spl_hit {S acc r : List Nat} {c : Nat} (h : pre S (c :: r) = true) : spl S 0 acc (c :: r) = acc :: spl S (S.length - 1) [] r := by
  show (if pre S (c :: r) = true then acc :: spl S (S.length - 1) [] r else spl S 0 (acc ++ [c]) r) = _
  rw [if_pos h]
theorem spl_miss {S acc r : List Nat} {c : Nat} (h : pre S (c :: r) = false) : spl S 0 acc (c :: r) = spl S 0 (acc ++ [c]) r := by
  show (if pre S (c :: r) = true then acc :: spl S (S.length - 1) [] r else spl S 0 (acc ++ [c]) r) = _
  rw [if_neg (by rw [h]; exact Bool.false_ne_true)]
theorem spl_pass (S : List Nat) : ∀ (k : Nat) (acc l : List Nat), spl S k acc l = spl S 0 acc (l.drop k)
  | 0, _, _ => by rw [List.drop_zero]
  | k + 1, acc, [] => by rw [List.drop_nil, spl_nil, spl_nil]
  | k + 1, acc, c :: r => by
    show spl S k acc r = spl S 0 acc (r.drop k)
    exact spl_pass S k acc r
theorem pre_nil {S : List Nat} (hS : S ≠ []) : pre S [] = false := by
  cases S with
  | nil => exact absurd rfl hS
  | cons s S => rfl
theorem pre_of_head {s c : Nat} (S r : List Nat) (h : c ≠ s) : pre (s :: S) (c :: r) = false := by
  cases hp : pre (s :: S) (c :: r) with
  | false => rfl
  | true =>
    have e : (c :: r).take (s :: S).length = s :: S := eq_of_beq hp
    rw [List.length_cons, List.take_succ_cons] at e
    injection e with e1 e2
    exact absurd e1 h
theorem pre_self (S r : List Nat) : pre S (S ++ r) = true := by
  show ((S ++ r).take S.length == S) = true
  have e : (S ++ r).take S.length = S := List.take_left
  rw [e] <;> exact beq_self_eq_true S

theorem getElem_drop_cons {L : List Nat} {a : Nat} (h : a < L.length) : ∃ c, L.drop a = c :: L.drop (a + 1) := ⟨L[a], List.drop_eq_getElem_cons h⟩
theorem spl_run (S L : List Nat) : ∀ (m a : Nat) (acc : List Nat), a + m ≤ L.length → (∀ k, a ≤ k → k < a + m → pre S (L.drop k) = false) →
    spl S 0 acc (L.drop a) = spl S 0 (acc ++ (L.drop a).take m) (L.drop (a + m))
  | 0, a, acc, _, _ => by rw [List.take_zero, List.append_nil, Nat.add_zero]
  | m + 1, a, acc, h, hn => by
    have hlt : a < L.length := by omega
    obtain ⟨c, e⟩ := getElem_drop_cons hlt
    have h0 := hn a (Nat.le_refl _) (by omega)
    have ih := spl_run S L m (a + 1) (acc ++ [c]) (by omega) (fun k h1 h2 => hn k (by omega) (by omega))
    have e2 : a + 1 + m = a + (m + 1) := by omega
    rw [e2] at ih
    rw [e] at h0
    rw [e, spl_miss h0, ih, List.take_succ_cons, List.append_assoc] <;> rfl
theorem drop_two (L : List Nat) (a b : Nat) : (L.drop a).drop b = L.drop (a + b) := by
  first
    | rw [List.drop_drop]
    | rw [List.drop_drop, Nat.add_comm]
theorem spl_at {S L : List Nat} (hS : S ≠ []) {c : Nat} {acc : List Nat} (h : pre S (L.drop c) = true) : spl S 0 acc (L.drop c) = acc :: spl S 0 [] (L.drop (c + S.length)) := by
  rw [← drop_two]
  cases e : L.drop c with
  | nil => rw [e, pre_nil hS] at h; cases h
  | cons d r =>
    rw [e] at h
    rw [spl_hit h, spl_pass]
    cases S with
    | nil => exact absurd rfl hS
    | cons s S => rfl
/-! ### the model's split and partition are these -/
theorem at_iff {x y : Str} (hy : tl y ≠ []) (i : Nat) : At x y x.length i ↔ pre (tl y) ((tl x).drop i) = true := by
  have hx := len_tl x
  have hl := len_tl y
  constructor
  · intro h
    have h2 := h.2
    rw [subAt_eq, hl] at h2
    exact h2
  · intro h
    have e : ((tl x).drop i).take (tl y).length = tl y := eq_of_beq h
    have e1 := congrArg List.length e
    rw [List.length_take, List.length_drop] at e1
    have e2 : 0 < (tl y).length := List.length_pos_iff.mpr hy
    refine ⟨by omega, ?_⟩
    rw [subAt_eq, hl]
    exact h
theorem no_at {x y : Str} (hy : tl y ≠ []) {i : Nat} (h : ¬ At x y x.length i) : pre (tl y) ((tl x).drop i) = false := by
  cases hp : pre (tl y) ((tl x).drop i) with
  | false => rfl
  | true => exact absurd ((at_iff hy i).mpr hp) h
theorem len1 {y : Str} (hy : tl y ≠ []) : 1 ≤ y.length := by
  have e2 : 0 < (tl y).length := List.length_pos_iff.mpr hy
  rw [len_tl y]
  exact e2
theorem tl_strSub (x : Str) (i j : Nat) : tl (strSub x i j) = ((tl x).drop i).take (j - i) := strSub_toList x i j
theorem tl_strSub_end (x : Str) (i : Nat) : tl (strSub x i x.length) = (tl x).drop i := by
  rw [tl_strSub, len_tl x]
  exact List.take_of_length_le (by rw [List.length_drop] <;> omega)

theorem parts_spl {x y : Str} (hy : tl y ≠ []) : ∀ (cuts : List Nat) (a f : Nat), a ≤ (tl x).length → ChainG x y x.length a cuts f → (∀ k, f ≤ k → ¬ At x y x.length k) →
    (partsFrom x y.length a cuts).map tl = spl (tl y) 0 [] ((tl x).drop a)
  | [], a, f, ha, h, hn => by
    have e : f = a := h
    subst e
    show [tl (strSub x f x.length)] = _
    have run := spl_run (tl y) (tl x) ((tl x).length - f) f [] (by omega) (fun k h1 _ => no_at hy (hn k h1))
    have e2 : f + ((tl x).length - f) = (tl x).length := by omega
    rw [e2, List.drop_length, spl_nil, List.nil_append, List.take_of_length_le (by rw [List.length_drop] <;> omega)] at run
    rw [run, tl_strSub_end]
  | c :: r, a, f, ha, h, hn => by
    obtain ⟨h1, h2, h3, h4⟩ := h
    have hc : c + y.length ≤ x.length := h2.1
    have hx := len_tl x
    have hl := len_tl y
    have ih := parts_spl hy r (c + y.length) f (by omega) h4 hn
    show tl (strSub x a c) :: (partsFrom x y.length (c + y.length) r).map tl = _
    have run := spl_run (tl y) (tl x) (c - a) a [] (by omega) (fun k k1 k2 => no_at hy (h3 k k1 (by omega)))
    have e2 : a + (c - a) = c := by omega
    rw [e2, List.nil_append, spl_at hy ((at_iff hy c).mp h2)] at run
    rw [run, ih, tl_strSub, hl]

/-- hk: by kind_ok where the separator is plain -/
theorem split_spl (x y : Str) (hy : tl y ≠ []) (hk : ¬ Builtin.Str.strKind x < Builtin.Str.strKind y) : (Txt.split x y).map tl = spl (tl y) 0 [] (tl x) := by
  obtain ⟨f, g, hn⟩ := occ_tight x y (len1 hy)
  have key := parts_spl hy _ 0 f (Nat.zero_le _) g hn
  rw [List.drop_zero] at key
  have none_case : occurrences x y 0 x.length (x.length + 1) = [] → [x].map tl = spl (tl y) 0 [] (tl x) := fun ho => by
    rw [ho] at key
    rw [← key]
    show [tl x] = [tl (strSub x 0 x.length)]
    rw [sub_whole]
  unfold Txt.split
  by_cases h1 : (decide (x.length < y.length) || decide (Builtin.Str.strKind x < Builtin.Str.strKind y)) = true
  · rw [if_pos h1]
    have hlt : x.length < y.length := by
      simp only [Bool.or_eq_true, decide_eq_true_eq] at h1
      rcases h1 with h | h
      · exact h
      · exact absurd h hk
    refine none_case ?_
    cases ho : occurrences x y 0 x.length (x.length + 1) with
    | nil => rfl
    | cons c r =>
      rw [ho] at g
      have hc : c + y.length ≤ x.length := g.2.1.1
      omega
  · rw [if_neg h1]
    by_cases h2 : (occurrences x y 0 x.length (x.length + 1)).isEmpty = true
    · rw [if_pos h2]
      exact none_case (List.isEmpty_iff.mp h2)
    · rw [if_neg h2, partsBetween_eq]
      exact key
theorem kind_ok {x y : Str} (h : y.cps.all (· < 256) = true) : ¬ Builtin.Str.strKind x < Builtin.Str.strKind y := by
  have e : Builtin.Str.strKind y = 1 := by unfold PySem.Builtin.Str.strKind; rw [if_pos h]
  rw [e]
  unfold PySem.Builtin.Str.strKind
  split
  · omega
  · split <;> omega

/-! ### computing spl and par -/
/-- a part that the separator does not begin in, then the separator -/
theorem spl_part {S p rest acc : List Nat} (hS : S ≠ []) (h : ∀ i, i < p.length → pre S ((p ++ (S ++ rest)).drop i) = false) :
    spl S 0 acc (p ++ (S ++ rest)) = (acc ++ p) :: spl S 0 [] rest := by
  have run := spl_run S (p ++ (S ++ rest)) p.length 0 acc (by rw [List.length_append]; omega) (fun k _ k2 => h k (by omega))
  have ed : (p ++ (S ++ rest)).drop p.length = S ++ rest := List.drop_left
  rw [List.drop_zero, Nat.zero_add, List.take_left] at run
  rw [run, spl_at hS (by rw [ed]; exact pre_self S rest), ← drop_two, ed, List.drop_left]
theorem spl_last {S p acc : List Nat} (h : ∀ i, i < p.length → pre S (p.drop i) = false) : spl S 0 acc p = [acc ++ p] := by
  have run := spl_run S p p.length 0 acc (by omega) (fun k _ k2 => h k (by omega))
  rw [List.drop_zero, Nat.zero_add, List.drop_length, spl_nil, List.take_length] at run
  exact run
/-- the separator's first sign is not in the part -/
theorem free_of {s : Nat} {S p q : List Nat} (h : s ∉ p) : ∀ i, i < p.length → pre (s :: S) ((p ++ q).drop i) = false := fun i hi => by
  have hlt : i < (p ++ q).length := by rw [List.length_append]; omega
  have e : (p ++ q).drop i = (p ++ q)[i] :: (p ++ q).drop (i + 1) := List.drop_eq_getElem_cons hlt
  rw [e]
  refine pre_of_head _ _ fun z => h ?_
  have e1 : (p ++ q)[i] = p[i] := List.getElem_append_left hi
  rw [← z, e1]
  exact List.getElem_mem hi
theorem spl_part1 {s : Nat} {S p rest acc : List Nat} (h : s ∉ p) : spl (s :: S) 0 acc (p ++ (s :: S ++ rest)) = (acc ++ p) :: spl (s :: S) 0 [] rest :=
  spl_part (by simp) (free_of h)
theorem spl_last1 {s : Nat} {S p acc : List Nat} (h : s ∉ p) : spl (s :: S) 0 acc p = [acc ++ p] := spl_last fun i hi => by
  have z := free_of (S := S) (q := []) h i hi
  rw [List.append_nil] at z
  exact z
/-- joined lists -/
def joinL (S : List Nat) : List (List Nat) → List Nat
  | [] => []
  | [p] => p
  | p :: q :: r => p ++ (S ++ joinL S (q :: r))
theorem tl_join (y : Str) : ∀ parts : List Str, tl (Str.join y parts) = joinL (tl y) (parts.map tl)
  | [] => rfl
  | [_] => rfl
  | x :: z :: r => by
    show tl (x ++ y ++ Str.join y (z :: r)) = tl x ++ (tl y ++ joinL (tl y) ((z :: r).map tl))
    rw [tl_append, tl_append, tl_join y (z :: r), List.append_assoc]
theorem spl_join {s : Nat} {S : List Nat} : ∀ {parts : List (List Nat)}, parts ≠ [] → (∀ p ∈ parts, s ∉ p) → spl (s :: S) 0 [] (joinL (s :: S) parts) = parts
  | [], h, _ => absurd rfl h
  | [p], _, hp => by
    show spl (s :: S) 0 [] p = [p]
    rw [spl_last1 (hp p (List.mem_singleton.mpr rfl)), List.nil_append]
  | p :: q :: r, _, hp => by
    show spl (s :: S) 0 [] (p ++ (s :: S ++ joinL (s :: S) (q :: r))) = p :: q :: r
    rw [spl_part1 (hp p (List.mem_cons_self ..)), List.nil_append, spl_join (by simp) fun z hz => hp z (List.mem_cons_of_mem _ hz)]
theorem join_eq (y : Str) (parts : List Str) : Txt.join y parts = Str.join y parts := glued_eq_join y parts
/-- THE READ-BACK: a joined text, split -/
theorem split_join {y : Str} {s : Nat} {S : List Nat} (ey : tl y = s :: S) (hk : y.cps.all (· < 256) = true) {parts : List Str} (hne : parts ≠ []) (hp : ∀ p ∈ parts, s ∉ tl p) :
    Txt.split (Txt.join y parts) y = parts := by
  refine map_tl_inj ?_
  rw [split_spl _ y (by rw [ey]; simp) (kind_ok hk), join_eq, tl_join, ey]
  refine spl_join (fun e => hne (List.map_eq_nil_iff.mp e)) fun p h => ?_
  obtain ⟨z, hz, rfl⟩ := List.mem_map.mp h
  exact hp z hz
/-! ### digits -/
/-- the signs of a number -/
def numL (n : Nat) : List Nat := (Nat.toDigits 10 n).map Char.toNat
/-! ### words: x.split() -/
def wstep (st : List (List Nat) × List Nat) (c : Nat) : List (List Nat) × List Nat :=
  if Unicode.isSpace c = true then (if st.2 = [] then st else (st.1 ++ [st.2], [])) else (st.1, st.2 ++ [c])
def wfin (st : List (List Nat) × List Nat) : List (List Nat) := if st.2 = [] then st.1 else st.1 ++ [st.2]
end TL
end 

namespace L2
open PySem PySem.Spec PyProof.Rows

/-- a list of texts, of numbered texts -/
theorem vals_strs : ∀ l : List (Str × Tok), Vals ((l.map (·.1)).map V.str) (strValues l)
  | [] => .nil
  | p :: r => .cons ⟨p.2, rfl⟩ (vals_strs r)
theorem strs_of_vals : ∀ {ys : List Str} {us : List Value}, Vals (ys.map V.str) us → StrsAre us ys
  | [], _, .nil => .nil
  | y :: ys, _, .cons r t => by
    obtain ⟨k, rfl⟩ := r
    exact .cons y k (strs_of_vals t)

/-- a new list of texts, tracked -/
def rNewStrs (ys : List Str) : Hp → VK → Prop := fun H Q => ∀ p, H p = none → Q (.ref p) (upd H p (.lst (ys.map V.str)))

section
variable {X : Cx} {pins : List (Addr × Obj)} {σ : St} {H : Hp} {s : Shared} {Q : VK}
theorem laid_strs {l : List (Str × Tok)} {ys : List Str} {k : Nat} (I : Inv X pins σ H s) (e : l.map (·.1) = ys) (hz : ys.length ≤ sizeLine) (h : rNewStrs ys H Q) :
    EP X pins σ Q (.ref s.heap.objs.size) { s with toks := k, heap := s.heap.push { cls := .type "list", data := .seq (strValues l).toArray } } := by
  have hp := I.hok.fresh (Nat.le_refl _)
  refine ⟨.ref s.heap.objs.size, upd H s.heap.objs.size (.lst (ys.map V.str)), I.laid (fun b u q => Heap.get?_push_of_some _ q) (Nat.le_refl _) ⟨by rw [List.length_map]; exact hz, strValues l, _, ?_, Heap.get?_push_size _ rfl⟩, rfl, h _ hp⟩
  rw [← e]
  exact vals_strs l
end

section
variable {X : Cx}

/-- x.split(sep) -/
theorem mt_split : MtR X "str.split" (fun x xs H Q => ∃ a b, x = .str a ∧ xs = [.str b] ∧ (b.length == 0) = false ∧ a.length + 2 ≤ sizeLine ∧ rNewStrs (Txt.split a b) H Q) := by
  intro pins s σ H x xs v us Q I rx rs h
  obtain ⟨a, b, rfl, rfl, hb, hz, h⟩ := h
  obtain ⟨t, rfl⟩ := rx
  cases rs with
  | cons r1 rs =>
    cases rs
    obtain ⟨u, rfl⟩ := r1
    have hl : (Txt.split a b).length ≤ sizeLine := Nat.le_trans (PyProof.Rows.split_le a b) hz
    have hn : (Builtin.Str.partsBetween a (Builtin.Str.occurrences a b 0 a.length (a.length + 1)) b.length).length ≤ sizeLine := by
      have e1 := StrLaws.occ_length_le a b 0 a.length (a.length + 1)
      rw [length_partsBetween]; omega
    cases h1 : (decide (a.length < b.length) || decide (Builtin.Str.strKind a < Builtin.Str.strKind b))
    · cases hf : (Builtin.Str.occurrences a b 0 a.length (a.length + 1)).isEmpty
      · refine call_meets F.slot_str_split (typeIs_str _ _ _) F.entry_str_split (F.args_str_split_2 _ _) (meets_str_split_sep a b t u h1 hb hf (by omega) hn) ?_
        show EP X pins σ Q (.ref s.heap.objs.size) { s with toks := _, heap := s.heap.push { cls := .type "list", data := .seq (strsFrom s.toks (Builtin.Str.partsBetween a (Builtin.Str.occurrences a b 0 a.length (a.length + 1)) b.length)).toArray } }
        rw [strsFrom_eq]
        exact laid_strs (ys := Txt.split a b) I ((numbered_texts _ _).trans ((if_neg (ne_true_of_eq_false h1)).trans (if_neg (ne_true_of_eq_false hf))).symm) hl h
      · refine call_meets F.slot_str_split (typeIs_str _ _ _) F.entry_str_split (F.args_str_split_2 _ _) (meets_str_split_not_found a b t u h1 hb hf) ?_
        exact laid_strs (l := [(a, t)]) (ys := Txt.split a b) (k := s.toks) I ((if_neg (ne_true_of_eq_false h1)).trans (if_pos hf)).symm hl h
    · refine call_meets F.slot_str_split (typeIs_str _ _ _) F.entry_str_split (F.args_str_split_2 _ _) (meets_str_split_cannot_occur a b t u h1) ?_
      exact laid_strs (l := [(a, t)]) (ys := Txt.split a b) (k := s.toks) I (if_pos h1).symm hl h

/-- sep.join(a list | a tuple of texts) -/
theorem mt_join : MtR X "str.join" (fun x xs H Q => ∃ a p, ∃ ys : List Str, x = .str a ∧ xs = [.ref p] ∧ (SqL X.K H p (ys.map V.str) ∨ SqT X.K H p (ys.map V.str)) ∧
    (ys.map (·.length)).sum + ys.length * a.length ≤ 16777216 ∧ Q (.str (Txt.join a ys)) H) := by
  intro pins s σ H x xs v us Q I rx rs h
  obtain ⟨a, p, ys, rfl, rfl, hp, hz, h⟩ := h
  obtain ⟨t, rfl⟩ := rx
  cases rs with
  | cons r1 rs =>
    cases rs
    cases r1
    rcases hp with hp | hp
    · obtain ⟨its, r, ⟨o, n, ho, hc, _, hd⟩, _⟩ := I.list hp
      exact PyProof.Rows.join_list (items := its.toArray) ⟨o, ho, hc, n, hd⟩ (by rw [List.toList_toArray]; exact strs_of_vals r) hz fun t' k => ⟨.str _, H, I.tok k, ⟨t', rfl⟩, h⟩
    · obtain ⟨its, r, ht, _⟩ := I.tuple hp
      exact PyProof.Rows.join_tuple (items := its.toArray) ht (by rw [List.toList_toArray]; exact strs_of_vals r) hz fun t' k => ⟨.str _, H, I.tok k, ⟨t', rfl⟩, h⟩

/-! ### of a text alone -/
/-! ### of a text and a text -/
end

section
variable {X : Cx} {o e : Expr} {to te : TE}
def tM0 (r : V → List V → Hp → VK → Prop) (to : TE) : TE := fun σ H Q => to σ H fun x H1 => (∃ a, x = .str a) ∧ r x [] H1 Q
def tM1 (r : V → List V → Hp → VK → Prop) (to te : TE) : TE := fun σ H Q => to σ H fun x H1 => (∃ a, x = .str a) ∧ te σ H1 fun y H2 => r x [y] H2 Q
theorem pe_m1 {id : String} {name : Str} {apos pos : Pos} {r : V → List V → Hp → VK → Prop} (slot : Slot "str" name id) (ty : typeOf (.builtin id) = pure (.type "method_descriptor")) (rule : MtR X id r) (ho : PE X o to) (he : PE X e te)
    (hs : starEach [e] X.env = [(false, eval e X.env)] := by rfl) (hbase : attributeBase o name X.env (eval o X.env) = eval o X.env := by rfl) (hline : (apos.endLine == pos.line) = true := by rfl) :
    PE X (.Call (.Attribute o name apos) [e] [] pos) (tM1 r to te) := by
  intro pins s σ H Q I h
  refine PySem.Call_method1 hbase hs hline (thn (ho pins s σ H _ I h) fun v s1 ⟨x, H1, I1, r1, q1⟩ => ?_)
  obtain ⟨⟨a, rfl⟩, q1⟩ := q1
  obtain ⟨t, rfl⟩ := _root_.id r1
  refine ⟨"str", _, F.plainAttrs_str, slot, ty, typeIs_str _ _ _, (fun _ e => nomatch e), Calls.callWith_builtin rfl (Calls.evalArgs_plain (Calls.spliced_cons ?_))⟩
  exact thn (he pins s1 σ H1 _ I1 q1) fun u s2 ⟨y, H2, I2, r2, q2⟩ => Calls.spliced_nil (rule pins s2 σ H2 _ [y] _ [u] Q I2 r1 (.cons r2 .nil) q2)

theorem pe_split {apos pos : Pos} (ho : PE X o to) (he : PE X e te) (hs : starEach [e] X.env = [(false, eval e X.env)] := by rfl) (hbase : attributeBase o "split" X.env (eval o X.env) = eval o X.env := by rfl) (hline : (apos.endLine == pos.line) = true := by rfl) :
    PE X (.Call (.Attribute o "split" apos) [e] [] pos) (tM1 (fun x xs H Q => ∃ a b, x = .str a ∧ xs = [.str b] ∧ (b.length == 0) = false ∧ a.length + 2 ≤ sizeLine ∧ rNewStrs (Txt.split a b) H Q) to te) :=
  pe_m1 F.slot_str_split F.type_str_split mt_split ho he hs hbase hline
theorem pe_join {apos pos : Pos} (ho : PE X o to) (he : PE X e te) (hs : starEach [e] X.env = [(false, eval e X.env)] := by rfl) (hbase : attributeBase o "join" X.env (eval o X.env) = eval o X.env := by rfl) (hline : (apos.endLine == pos.line) = true := by rfl) :
    PE X (.Call (.Attribute o "join" apos) [e] [] pos) (tM1 (fun x xs H Q => ∃ a p, ∃ ys : List Str, x = .str a ∧ xs = [.ref p] ∧ (SqL X.K H p (ys.map V.str) ∨ SqT X.K H p (ys.map V.str)) ∧
      (ys.map (·.length)).sum + ys.length * a.length ≤ 16777216 ∧ Q (.str (Txt.join a ys)) H) to te) :=
  pe_m1 F.slot_str_join F.type_str_join mt_join ho he hs hbase hline
end
end L2

namespace L2
open PySem PySem.Spec PyProof.Rows

section
variable {X : Cx}
theorem op_le_str : OpR X (compareOp .LtE) (fun x y H Q => ∃ i j, x = .str i ∧ y = .str j ∧ Q (.bl (!decide (j.cps.toList < i.cps.toList))) H) := by
  intro pins s σ H x y v u Q I rx ry h
  obtain ⟨i, j, rfl, rfl, q⟩ := h
  obtain ⟨t, rfl⟩ := rx
  obtain ⟨t', rfl⟩ := ry
  exact PySem.P.le_str (fin_bl I q rfl)
theorem op_notIn_sign : OpR X (compareOp .NotIn) (fun x y H Q => ∃ (c : Nat) (z : Str), x = .str ⟨#[c]⟩ ∧ y = .str z ∧ Q (.bl (!decide (c ∈ z.cps.toList))) H) := by
  intro pins s σ H x y v u Q I rx ry h
  obtain ⟨c, z, rfl, rfl, q⟩ := h
  obtain ⟨t, rfl⟩ := rx
  obtain ⟨t', rfl⟩ := ry
  exact PyProof.Rows.notIn_str (fin_bl I q (congrArg Bool.not (PySem.StrLaws.found_one z c).symm))
end

/-! ### slices of a text -/
theorem IsPart.raw {v : Value} {o : Option Int} (p : IsPart v o) : ∃ l : Option (Int × Tok), v = partValue l ∧ l.map (·.1) = o := by
  cases p with
  | none => exact ⟨none, rfl, rfl⟩
  | int i t => exact ⟨some (i, t), rfl, rfl⟩

/-- a part, clipped, as the text's slice reckons it -/
def clipS (n d : Nat) : Option Int → Int
  | none => (d : Int)
  | some i => max 0 (min (if i < 0 then i + (n : Int) else i) (n : Int))
theorem clipS_eq (n d : Nat) (o : Option Int) : clipS n d o = ((HT.sIx n d o : Nat) : Int) := by
  cases o with
  | none => rfl
  | some v =>
    show max (0 : Int) (min (if v < 0 then v + (n : Int) else v) (n : Int)) = (((if v < 0 then (v + (n : Int)).toNat else min v.toNat n) : Nat) : Int)
    by_cases hv : v < 0
    · simp only [if_pos hv]
      omega
    · simp only [if_neg hv]
      omega
theorem sidx_clip (a b : Option Int) (n : Nat) : Builtin.Str.strSliceIndices a b 1 n = sliceRange (clipS n 0 a) (clipS n n b) 1 := by
  have h1 : ((1 : Int) > 0) = True := by simp
  cases a <;> cases b <;> first
    | rfl
    | (simp only [Builtin.Str.strSliceIndices, clipS, h1, if_true]; rfl)
    | simp [Builtin.Str.strSliceIndices, clipS]
theorem sidx (a b : Option Int) (n : Nat) : Builtin.Str.strSliceIndices a b 1 n = (List.range (HT.sIx n n b - HT.sIx n 0 a)).map (fun k => HT.sIx n 0 a + k) := by
  rw [sidx_clip, clipS_eq, clipS_eq]
  generalize HT.sIx n 0 a = p
  generalize HT.sIx n n b = q
  simp only [sliceRange, show ((1 : Int) > 0) = True from by simp, if_true]
  by_cases hlt : (p : Int) < q
  · have e3 : (((q : Int) - p + 1 - 1) / 1).toNat = q - p := by first | omega | (simp; done) | (simp; omega)
    simp only [hlt, if_true, e3]
    refine List.map_congr_left fun k _ => ?_
    omega
  · have : q - p = 0 := by omega
    simp [hlt, this]

/-- z[lo:hi] -/
def cutS (z : Str) (lo hi : Option Int) : Str :=
  ⟨((z.cps.toList.drop (HT.sIx z.length 0 lo)).take (HT.sIx z.length z.length hi - HT.sIx z.length 0 lo)).toArray⟩
theorem sliceText_cut (z : Str) (lo hi : Option Int) : PySem.StrLaws.sliceText z lo hi = cutS z lo hi := by
  have h1 : HT.sIx z.length 0 lo ≤ z.length := HT.sIx_le _ _ (Nat.zero_le _) _
  have h2 : HT.sIx z.length z.length hi ≤ z.length := HT.sIx_le _ _ (Nat.le_refl _) _
  have hp : HT.sIx z.length 0 lo ≤ max (HT.sIx z.length 0 lo) (HT.sIx z.length z.length hi) := Nat.le_max_left _ _
  have hq : max (HT.sIx z.length 0 lo) (HT.sIx z.length z.length hi) ≤ z.length := Nat.max_le.mpr ⟨h1, h2⟩
  have hd : max (HT.sIx z.length 0 lo) (HT.sIx z.length z.length hi) - HT.sIx z.length 0 lo = HT.sIx z.length z.length hi - HT.sIx z.length 0 lo := by omega
  have e : Builtin.Str.strSliceIndices lo hi 1 z.length =
      Builtin.Str.strSliceIndices (some ((HT.sIx z.length 0 lo : Nat) : Int)) (some ((max (HT.sIx z.length 0 lo) (HT.sIx z.length z.length hi) : Nat) : Int)) 1 z.length := by
    rw [PySem.StrLaws.strSliceIndices_plain hp hq, hd, sidx]
  have e2 : PySem.StrLaws.sliceText z lo hi =
      PySem.StrLaws.sliceText z (some ((HT.sIx z.length 0 lo : Nat) : Int)) (some ((max (HT.sIx z.length 0 lo) (HT.sIx z.length z.length hi) : Nat) : Int)) := by
    unfold PySem.StrLaws.sliceText
    rw [e]
  rw [e2, PySem.StrLaws.sliceText_nat z hp hq, hd]
  rfl
theorem cutS_length (z : Str) (lo hi : Option Int) : (cutS z lo hi).length ≤ z.length := by
  show (((z.cps.toList.drop (HT.sIx z.length 0 lo)).take (HT.sIx z.length z.length hi - HT.sIx z.length 0 lo)).toArray).size ≤ z.cps.size
  rw [List.size_toArray, List.length_take, List.length_drop, Array.length_toList]
  omega
def rSlS : V → Option Int → Option Int → Hp → VK → Prop := fun x lo hi H Q => ∃ z, x = .str z ∧ z.length ≤ sizeLine ∧ Q (.str (cutS z lo hi)) H
theorem sl_str {X : Cx} : SlR X rSlS := by
  intro pins s σ H x v vl vu lo hi sl Q I rx hs pl pu h
  obtain ⟨z, rfl, hz, q⟩ := h
  obtain ⟨t, rfl⟩ := rx
  obtain ⟨os, hos, hcs, hds⟩ := hs
  obtain ⟨l, rfl, rfl⟩ := IsPart.raw pl
  obtain ⟨u, rfl, rfl⟩ := IsPart.raw pu
  refine ⟨"str", _, F.slot_str_getitem.lookup, typeIs_str _ _ _, ?_⟩
  refine wpAny_getItem_str_slice (l := l) (u := u) (st := none) ⟨os, hos, hcs, hds⟩ rfl ?_
  have hl : (PySem.StrLaws.sliceText z (l.map (·.1)) (u.map (·.1))).length ≤ sizeLine := by
    rw [sliceText_cut]
    exact Nat.le_trans (cutS_length z _ _) hz
  rw [← sliceText_cut] at q
  unfold PySem.StrLaws.sliceText at q hl
  show Made.post (if ((1 : Int) == 1 && (Builtin.Str.strSliceIndices (l.map (·.1)) (u.map (·.1)) 1 z.length).length == z.length) = true then Made.val (.str z t)
    else Made.str ⟨((Builtin.Str.strSliceIndices (l.map (·.1)) (u.map (·.1)) 1 z.length).filterMap (z.cps[·]?)).toArray⟩) (EP X pins σ Q) s
  by_cases c : ((1 : Int) == 1 && (Builtin.Str.strSliceIndices (l.map (·.1)) (u.map (·.1)) 1 z.length).length == z.length) = true
  · rw [if_pos c] at q ⊢
    exact ⟨.str z, H, I, ⟨t, rfl⟩, q⟩
  · rw [if_neg c] at q hl ⊢
    exact ⟨hl, .str _, H, I.tok _, ⟨_, rfl⟩, q⟩
end L2

namespace Att
open PySem PySem.W PySem.Calls PyProof.Rows

/-! ### the script -/
theorem ints_of_wellAll {P : Params} {h : Heap} : ∀ (ns : List Int) (vs : List Value), WellAll P h vs (ns.map WData.int) → IntsAre vs ns := by
  intro ns
  induction ns with
  | nil =>
    intro vs w
    rw [List.map_nil] at w
    cases w
    exact .nil
  | cons n ns ih =>
    intro vs w
    rw [List.map_cons] at w
    cases w with
    | cons a b =>
      cases a
      exact .cons _ _ (ih _ b)

theorem script_of {l : OpenLaw} {n : Nat} (hn : l.most = some n) {P : Params} {h : Heap} {args : List WData} {vals : List Value}
    (hpre : l.row.toRowW.claim.pre args = true) (hwl : WellAll P h vals args) :
    ∃ a vs ns, vals = [Value.ref a] ∧ args = [WData.list (ns.map WData.int)] ∧ h.get? a = some { cls := .type "list", data := .seq vs.toArray } ∧ IntsAre vs ns ∧ ns.length ≤ n := by
  have hsh : WShape.hasAll [] args [.list .int] = true := (pre_splitW hpre).1
  have hc : l.pre.holds [] { args := args } = true := (pre_splitW hpre).2
  obtain ⟨d, r, rfl, h1, h2⟩ := hasAllW_cons hsh
  obtain rfl := hasAllW_nil h2
  obtain ⟨xs, rfl, h3⟩ := hasW_list h1
  obtain ⟨ns, rfl⟩ := items_int h3
  have hlen : ns.length ≤ n := by
    unfold OpenLaw.pre at hc
    have h4 : (WTm.not (.lt (.lit (.int (n : Int))) (.len (.arg 0)))).holds [] { args := [.list (ns.map .int)] } = true := by
      have h4 := (holds_andW hc).1
      rw [hn] at h4
      exact h4
    have h5 := condW_of h4 (w_not (w_lt w_lit (w_len_list (w_arg rfl))))
    rw [List.length_map] at h5
    refine Nat.le_of_not_lt fun q => ?_
    have q' : (n : Int) < ((ns.length : Nat) : Int) := by omega
    first
      | (rw [decide_eq_true q'] at h5; exact absurd h5 (by decide))
      | (simp at h5; omega)
  cases hwl with
  | cons w1 w2 =>
    cases w2
    cases w1 with
    | list ho hall => exact ⟨_, _, ns, rfl, rfl, ho, ints_of_wellAll ns _ hall, hlen⟩

theorem post_true (l : OpenLaw) (args : List WData) : l.row.toRowW.claim.post args (.bool true) args = true :=
  postW_of (r := l.row.toRowW) (X := (true == true))
    (show WShape.has [] (.bool true) .bool = true by first | rfl | decide | simp [WShape.has, WShape.arms, WShape.armsAll])
    (show (WTm.eq .res (.lit (.bool true))).value [] { args := args, res := some (.bool true), after := args } = some (.bool (true == true)) from w_eq_bool (w_res rfl) w_lit) rfl

/-! ### the attachment: holds_open's last premise (the goal 'hc' behind k_head) from a wpAny of the law's body -/
/-- the same from a codeAny of the CALL (for a layer whose function contracts speak of calls) -/
theorem attach_call {l : OpenLaw} {n : Nat} {q : Program} {loose : List Str} {XP : (Str → Option Value) → Heap → Prop} {YP : World → Heap → Prop} {d : DefRec}
    (hn : l.most = some n) (hdf : d.params.defaults = [])
    (call : ∀ (w : World) (s₀ s₁ : Shared) (mg mb : Str → Option Value) (fa : Addr) (o : Obj) (pm cd doc : Value) (a : Addr) (vs : List Value) (ns : List Int),
      Ground q loose [] XP w s₀ mg mb s₁.heap → YP w s₁.heap →
      s₁.heap.get? fa = some o → o.data = .func (docDef d.name d.params d.body d.scope pm cd doc) → s₁.heap.CodeRec cd d.name → mg d.name = some (.ref fa) →
      s₁.heap.get? a = some { cls := .type "list", data := .seq vs.toArray } → IntsAre vs ns → ns.length ≤ n → s₁.gens = #[] →
      codeAny (model l.prog w) callerA (.call (.ref fa) ⟨[.ref a], []⟩) (fun r s' => r = .ok (.ret (.bool true)) ∧ OldK s₁.heap s'.heap ∧ s'.os = s₁.os ∧ AllBare s'.gens) s₁) :
    WalkO q loose XP YP l.row.toRowW d [] (fun f vs => PySem.call f vs) := by
  intro w s₀ s₁ mg mb G Y fa o pm cd doc dV kV ho hd hcd hD hmg hg args vals as hpre hlay hrd hwl hlo
  obtain rfl : dV = .none := Dflts.none hD hdf
  obtain rfl : kV = .none := Dflts.noKw hD
  obtain ⟨a, vs, ns, rfl, rfl, hobj, hints, hlen⟩ := script_of hn hpre hwl
  refine enter_call (codeAny_mono (call w s₀ s₁ mg mb fa o pm cd doc a vs ns G Y ho (fd_plain hd) hcd hmg hobj hints hlen hg) fun r s' hq => ?_)
  obtain ⟨rfl, h2, h3, h4⟩ := hq
  exact ⟨.inl ⟨.bool true, .bool true, [], rfl, fun _ => rfl, .bool true, post_true l _, fun _ => ⟨List.Pairwise.nil, fun _ hm => (nomatch hm)⟩⟩, h2, h3, h4⟩

/-! ### rules over ANY heap (no ledger) from facts about the written part K: the library's own take a ledger (News) for what they write -/
section
variable {prog : Program} {w : World} {A : Around} {E : Value → Shared → Prop} {s : Shared} {K : Frag}

/-! the whole heap as the ledger: makes every rule that writes through a ledger a rule over any heap -/
def noObjs (h : Heap) : Heap := { h with objs := #[] }
def ledger (h : Heap) (L d : Addr) : List (Addr × Obj) := (List.range h.objs.size).filterMap fun a => if a = L ∨ a = d then none else (h.get? a).map fun o => (a, o)
end
end Att

namespace L2
open PySem PySem.Spec PyProof.Rows

theorem vals_ints : ∀ {vs : List Value} {ns : List Int}, IntsAre vs ns → Vals (ns.map V.int) vs
  | _, _, .nil => .nil
  | _, _, .cons n t h => .cons ⟨t, rfl⟩ (vals_ints h)

/-- nothing is tracked but the script, known to the object (or it is an object of the module) -/
def Only (H : Hp) : Prop := ∀ b, H b = none ∨ ∃ o xs, H b = some (.frz o (.lst xs))

/-- THE HEAD: the law's promise, at the heap behind the top. F, the promise of the law's def, may use that base is part of the heap (so K.In base, base.Ns mainGlobals mg stand in Mod) -/
theorem law_call {P : Program} {w : World} {K : PySem.W.Frag} {mg mb : Str → Option Value} {CX : CXT} {k : Nat} {fa a : Addr} {fd : FuncData} {x : Str} {sp : Sp} {s₁ : Shared} {vs : List Value} {ns : List Int}
    (KX : K.In s₁.heap) (hns : s₁.heap.Ns mainGlobals mg) (hb : s₁.heap.Ns builtinsNs mb) (hbb : ∀ x : Str, x ≠ "__name__" → mb x = bootBuiltins x) (hlim : s₁.heap.NoLimit) (hg : s₁.gens = #[])
    (ha : s₁.heap.get? a = some { cls := .type "list", data := .seq vs.toArray }) (hi : IntsAre vs ns) (hl : ns.length ≤ sizeLine) (hr : Room k callerA)
    (F : ∀ base : Heap, K.In base → base.Ns mainGlobals mg → FnOk P w K mg base CX k fa fd [x] sp) (hbind : ∀ (s : Shared) (u : Value), BindsTo s fd ⟨[u], []⟩ [(x, u)])
    (hsp : ∀ H : Hp, Only H → SqL K H a (ns.map V.int) → sp [.ref a] H (fun v _ => v = .bl true) fun _ _ _ => False)
    (hCX : ∀ H e s', CX [] H s₁ (fun _ _ _ => False) e s' → False) :
    codeAny (model P w) callerA (.call (.ref fa) ⟨[.ref a], []⟩) (fun r s' => r = .ok (.ret (.bool true)) ∧ OldK s₁.heap s'.heap ∧ s'.os = s₁.os ∧ AllBare s'.gens) s₁ := by
  have rv := vals_ints hi
  have lenV := hi.length
  -- from an abstract heap in which nothing but the script may be tracked
  have core : ∀ H : Hp, Only H → SqL K H a (ns.map V.int) → HOk P w H s₁.heap → (∀ b, H b ≠ none → b = a) → (H a ≠ none → K.lookup a = none) →
      codeAny (model P w) callerA (.call (.ref fa) ⟨[.ref a], []⟩) (fun r s' => r = .ok (.ret (.bool true)) ∧ OldK s₁.heap s'.heap ∧ s'.os = s₁.os ∧ AllBare s'.gens) s₁ := by
    intro H hO hS hok hA hK
    have base_of : ∀ {b : Addr} {o : Obj}, s₁.heap.get? b = some o → H b = none → (hidT s₁.heap H).get? b = some o := fun e n => hidT_get e n
    have noA : ∀ {b : Addr} {o : Obj} {es : Array DictEntry} {ep : Nat}, s₁.heap.get? b = some o → o.data = .dict es ep → H b = none := fun {b o es ep} e d => by
      cases q : H b with
      | none => rfl
      | some u =>
        have e' : b = a := hA b (by rw [q]; simp)
        subst e'
        rw [ha] at e; cases e
        have d' : Data.seq vs.toArray _ = Data.dict es ep := d
        cases d'
    have nsK : ∀ {b : Addr} {m : Str → Option Value}, s₁.heap.Ns b m → (hidT s₁.heap H).Ns b m := fun {b m} ⟨o, es, ep, e, d, r⟩ => ⟨o, es, ep, base_of e (noA e d), d, r⟩
    have hKb : K.In (hidT s₁.heap H) := fun b o e => base_of (KX b o e) (by
      cases q : H b with
      | none => rfl
      | some u =>
        have e' : b = a := hA b (by rw [q]; simp)
        subst e'
        rw [hK (by rw [q]; simp)] at e; cases e)
    have hM : Mod K mg (hidT s₁.heap H) := ⟨hKb, nsK hns, ⟨mb, nsK hb, hbb⟩, let ⟨mc, h1, h2⟩ := hlim; ⟨mc, nsK h1, h2⟩⟩
    have e0 : Env0 P w K mg (hidT s₁.heap H) callerA [] s₁ H := ⟨rfl, hM, fun b o e => of_hidT e, Nat.le_of_eq (hidT_size _ _), trivial, fun b hb => absurd (show b ∈ ([] : List Addr) from hb) (by simp), hok, .of_eq hg⟩
    refine codeAny_mono ((F _ hKb (nsK hns)).run callerA [] s₁ H ⟨[.ref a], []⟩ [.ref a] [.ref a] _ _ hr e0 (hbind s₁ (.ref a)) (.cons rfl .nil) (hsp H hO hS)) fun r s' h => ?_
    cases r with
    | error e => exact (hCX H e s' h).elim
    | ok fl =>
      cases fl with
      | next => exact False.elim h
      | brk => exact False.elim h
      | cont => exact False.elim h
      | ret u =>
        obtain ⟨v, H', os, bare, un, hok', r', q⟩ := h
        have q' : v = .bl true := q
        subst q'
        obtain rfl : u = Value.bool true := r'
        refine ⟨rfl, OldK.of_keep fun b o e => ?_, os, bare⟩
        cases q : H b with
        | none => exact un.keep b o e q (by intro z; exact absurd (show b ∈ ([] : List Addr) from z) (by simp)) (by simp)
        | some u =>
          rcases hO b with z | ⟨ob, xs, z⟩
          · rw [q] at z; cases z
          · have z2 := un.frzs b ob _ z
            obtain ⟨e1, _⟩ := hok b _ z
            obtain ⟨e2, _⟩ := hok' b _ z2
            rw [e] at e1; cases e1
            exact e2
  cases hk : K.lookup a with
  | some o =>
    -- the script is one of the module's own objects
    have e := KX a o hk
    rw [ha] at e
    cases e
    refine core (fun _ => none) (fun _ => .inl rfl) (.inr ⟨_, vs.toArray, _, hk, rfl, rfl, rfl, by rw [List.size_toArray, lenV]; exact hl, by simpa using rv⟩) (fun b u z => by have z' : (none : Option HO) = some u := z; cases z') (fun b z => absurd rfl z) fun z => absurd rfl z
  | none =>
    refine core (fun b => if b = a then some (.frz { cls := .type "list", data := .seq vs.toArray } (.lst (ns.map V.int))) else none) (fun b => ?_) (.inl (.inr ⟨{ cls := .type "list", data := .seq vs.toArray }, if_pos rfl⟩)) (fun b u z => ?_) (fun b z => ?_) fun _ => hk
    · by_cases hb : b = a
      · exact .inr ⟨_, _, if_pos hb⟩
      · exact .inl (if_neg hb)
    · by_cases hb : b = a
      · have z' := (if_pos hb).symm.trans z
        cases z'
        subst hb
        exact ⟨ha, by rw [List.length_map]; exact hl, vs, _, rv, ha⟩
      · have z' := (if_neg hb).symm.trans z
        cases z'
    · by_cases hb : b = a
      · exact hb
      · exact absurd (if_neg hb) z
end L2

namespace L2
open PySem PySem.Spec PyProof.Rows

abbrev KOf {K : PySem.W.Frag} {h : Heap} (_ : K.In h) : PySem.W.Frag := K

/-- the goal that k_head leaves (case hc), from the law's promise. F gives the function object fd (K's own) once, then the promise over every base -/
theorem walk_of {l : PySem.W.OpenLaw} {n k : Nat} {q : Program} {loose : List Str} {XP : (Str → Option Value) → Heap → Prop} {YP : World → Heap → Prop} {d : DefRec} {K : Params → PySem.W.Frag} {CX : World → CXT} {sp : World → Sp} {x : Str}
    (hn : l.most = some n) (hn2 : n ≤ sizeLine) (hdf : d.params.defaults = []) (hr : Room k callerA)
    (hY : ∀ (w : World) (h : Heap), YP w h → (K w.params).In h)
    (F : ∀ (w : World) (mg : Str → Option Value) (fa : Addr) (h : Heap), (K w.params).In h → h.Ns mainGlobals mg → mg d.name = some (.ref fa) →
      ∃ fd : FuncData, (∀ (s : Shared) (u : Value), BindsTo s fd ⟨[u], []⟩ [(x, u)]) ∧
        ∀ base : Heap, (K w.params).In base → base.Ns mainGlobals mg → FnOk l.prog w (K w.params) mg base (CX w) k fa fd [x] (sp w))
    (hsp : ∀ (w : World) (H : Hp) (a : Addr) (ns : List Int), ns.length ≤ n → Only H → SqL (K w.params) H a (ns.map V.int) → sp w [.ref a] H (fun v _ => v = .bl true) fun _ _ _ => False)
    (hCX : ∀ (w : World) (H : Hp) (s : Shared) (e : Value) (s' : Shared), CX w [] H s (fun _ _ _ => False) e s' → False) :
    PySem.W.WalkO q loose XP YP l.row.toRowW d [] (fun f vs => PySem.call f vs) := by
  refine Att.attach_call hn hdf fun w s₀ s₁ mg mb fa o pm cd doc a vs ns G Y ho hd hcd hmg hobj hints hlen hg => ?_
  have KX := hY w _ Y
  obtain ⟨fd, hb, hF⟩ := F w mg fa _ KX G.T.g hmg
  exact law_call KX G.T.g G.T.b G.T.builtins G.T.nolimit hg hobj hints (Nat.le_trans hlen hn2) hr hF hb (fun H hO hS => hsp w H a ns hlen hO hS) fun H e s' => hCX w H s₁ e s'
end L2

/-! SHORT WORDS over the layer: a def of the text, its body, what a loop and a test want. -/
namespace L2
open PySem PySem.Spec PyProof.Rows

/-! ### the text by places -/
/-- the j-th statement of a class's body -/
def inClass (s : Stmt) (j : Nat) : Stmt := match s with
  | .ClassDef _ _ _ body _ _ _ _ _ _ _ => body.getD j (.Pass ⟨0, 0, 0, 0⟩)
  | _ => .Pass ⟨0, 0, 0, 0⟩
def defArgs (s : Stmt) : Arguments := match s with
  | .FunctionDef _ a _ _ _ _ _ _ _ _ => a
  | _ => { posonlyargs := [], args := [], vararg := none, kwonlyargs := [], kw_defaults := [], kwarg := none, defaults := [] }
def defBody (s : Stmt) : List Stmt := match s with
  | .FunctionDef _ _ b _ _ _ _ _ _ _ => b
  | _ => []
def defScope (s : Stmt) : Scope := match s with
  | .FunctionDef _ _ _ _ _ _ sc _ _ _ => sc
  | _ => { kind := .function, names := [], isGenerator := false, isCoroutine := false }

/-! ### no exception leaves a def -/
abbrev CX0 : CXT := fun _ _ _ _ _ _ => False
abbrev E0 : XK := fun _ _ _ => False
theorem pass0 {X : Cx} : Passes CX0 X E0 := fun _ _ _ _ _ _ _ h => h.elim

/-! ### a def (or method) of the text as it stands behind the top -/
structure Fun (K : PySem.W.Frag) (x qual : Str) (st : Stmt) (f : Addr) (fd : FuncData) : Prop where
  ex : ∃ (oc : Value) (od : Option Addr) (kV doc pm : Value) (an : Option Addr) (cdv ct : Value) (osl : Array (Option Value)),
    fd = PySem.W.fnOf x qual (defArgs st) (defBody st) (defScope st) .none kV doc pm an cdv ct ∧ K.lookup f = some ⟨oc, od, .func fd, osl⟩ ∧ PySem.W.codeIn K cdv qual = true
  kp : PySem.W.keepIn K (.ref f) = true
section
variable {P : Program} {w : World} {K : PySem.W.Frag} {mg : Str → Option Value} {base : Heap}
/-- THE RULE for a def: its body as a term of rules, and the reading of that term -/
theorem Fun.ok {x qual : Str} {st : Stmt} {f : Addr} {fd : FuncData} {N ps : List Str} {k : Nat} {sp : Sp} (F : Fun K x qual st f fd) (S : FnScope N ps (defScope st)) (len : ∀ vs H Q E, sp vs H Q E → vs.length = ps.length)
    (hbody : ∀ (cdv : Value) (A : Around) (outer : List Env) (s : Shared) (H : Hp) (vs : List V) (Q : VK) (E : XK), Room k (A.deeper (envOfC qual (defScope st) s.heap.objs.size f cdv)) → sp vs H Q E →
      ∃ t, PSs (cxOf CX0 P w K mg base N qual (defScope st) f cdv A outer s H E).nox (defBody st) t ∧ t { nx := fun _ H' => Q .non H', rt := Q } (start N vs) H) : FnOk P w K mg base CX0 (k + 1) f fd ps sp := by
  obtain ⟨oc, od, kV, doc, pm, an, cdv, ct, osl, rfl, lk, hcd⟩ := F.ex
  refine fn_of lk hcd S len fun A outer s H vs Q E hr hsp => ?_
  obtain ⟨t, h, q⟩ := hbody cdv A outer s H vs Q E hr hsp
  exact ⟨t, h.nox, q⟩
/-- how its arguments bind (no defaults): h is «fun _ _ _ _ _ _ us hl => match us, hl with | [_, _], _ => rfl», one _ a parameter -/
theorem Fun.binds {x qual : Str} {st : Stmt} {f : Addr} {fd : FuncData} {ps : List Str} (F : Fun K x qual st f fd)
    (h : ∀ (kV doc pm : Value) (an : Option Addr) (cdv ct : Value) (us : List Value), us.length = ps.length → bindArgs (PySem.W.fnOf x qual (defArgs st) (defBody st) (defScope st) .none kV doc pm an cdv ct) ⟨us, []⟩ = pure (ps.zip us)) : Binds K fd ps [] := by
  obtain ⟨oc, od, kV, doc, pm, an, cdv, ct, osl, rfl, lk, hcd⟩ := F.ex
  exact .all (h kV doc pm an cdv ct)
theorem fun_mk {x qual : Str} {st : Stmt} {f : Addr} {oc : Value} {od an : Option Addr} {osl : Array (Option Value)} {kV doc pm cdv ct : Value} (l : K.lookup f = some ⟨oc, od, .func (PySem.W.fnOf x qual (defArgs st) (defBody st) (defScope st) .none kV doc pm an cdv ct), osl⟩)
    (c : PySem.W.codeIn K cdv qual = true) (k : PySem.W.keepIn K (.ref f) = true) : Fun K x qual st f (PySem.W.fnOf x qual (defArgs st) (defBody st) (defScope st) .none kV doc pm an cdv ct) := ⟨⟨oc, od, kV, doc, pm, an, cdv, ct, osl, rfl, l, c⟩, k⟩
end
theorem small1000 {n : Nat} (h : n ≤ 1000) : n < sizeLine := Nat.lt_of_le_of_lt h (by decide)

/-! ### expressions in short: the name that stands in the i-th slot -/
section
variable {X : Cx}
theorem pv (i : Nat) {x : Str} {pos : Pos} (hN : X.N[i]? = some x := by rfl) (hv : Vis X.env.scope x := by first | exact Or.inl rfl | exact Or.inr (Or.inl rfl) | exact Or.inr (Or.inr rfl)) (hd : (x == ("__debug__" : Str)) = false := by decide)
    (hcd : (x == ("__classdict__" : Str)) = false := by decide) : PE X (.Name x pos) (tVar i) := pe_var hN hv hd hcd
end

/-! ### tests -/
theorem iteF {A B : Prop} (h : B) : if false = true then A else B := by
  rw [if_neg Bool.false_ne_true]
  exact h
theorem iteT {A B : Prop} (h : A) : if true = true then A else B := by
  rw [if_pos rfl]
  exact h
theorem ite2 {c A B : Prop} [Decidable c] (h1 : c → A) (h2 : ¬ c → B) : if c then A else B := by
  by_cases h : c
  · rw [if_pos h]
    exact h1 h
  · rw [if_neg h]
    exact h2 h
theorem iteNS {c A B : Prop} [Decidable c] (hc : c) (h : B) : if (!decide c) = true then A else B := by
  rw [decide_eq_true hc]
  exact iteF h

/-! ### heaps -/
/-- all that was tracked is as it was -/
def Same (H H' : Hp) : Prop := ∀ b o, H b = some o → H' b = some o
theorem Same.refl (H : Hp) : Same H H := fun _ _ h => h
theorem Same.trans {H H1 H2 : Hp} (a : Same H H1) (b : Same H1 H2) : Same H H2 := fun c o h => b c o (a c o h)
theorem Same.free {H H' : Hp} (e : Same H H') {l : Addr} (h : H' l = Option.none) : H l = Option.none := by
  cases q : H l with
  | none => rfl
  | some o =>
    rw [e l o q] at h
    cases h
theorem Same.seq {K : PySem.W.Frag} {H H' : Hp} {a : Addr} {xs : List V} (e : Same H H') (h : SqL K H a xs) : SqL K H' a xs := by
  rcases h with (h | ⟨o, h⟩) | h
  · exact .inl (.inl (e _ _ h))
  · exact .inl (.inr ⟨o, e _ _ h⟩)
  · exact .inr h

/-! ### a dict's pairs: keys that differ -/
section
variable {κ : Type} [DecidableEq κ]
end
/-! ### lists -/
/-- a new instance and its __init__ leave all that was tracked as it was -/
theorem Same.made {H H1 : Hp} {x dx C : Addr} (nx : H x = Option.none) (nd : H dx = Option.none) (k : ∀ b o, (upd (upd H dx (.own x)) x (.ins C dx [])) b = some o → b ≠ x → H1 b = some o) : Same H H1 := fun b o e =>
  k b o (by rw [upd_ne (ne_of_none e nx), upd_ne (ne_of_none e nd)]; exact e) (ne_of_none e nx)
end L2

set_option maxHeartbeats 4000000
/-! Tuples walked by zip and enumerate, over the raw heap. -/
namespace ZT
open PySem PySem.Spec PyProof.Rows
section
variable {prog : Program} {w : World} {A : Around} {E : Value → Shared → Prop} {s : Shared}

/-- the next item of a tuple's iterator -/
theorem next_item {c t : Addr} {k : Nat} {ys : Array Value} {v : Value} {R : Value → Shared → Prop} (ci : s.heap.IsTupleIter c t k) (ct : s.heap.IsTuple t ys) (cv : ys[k]? = some v)
    (hR : ∀ g, g.IsTupleIter c t (k + 1) → Heap.SameBut c s.heap g → R v { s with heap := g }) : wpAny (model prog w) A (Builtin.SmallTypes.nextOf (.ref c)) R E s := by
  obtain ⟨oc, c1, c2, c3⟩ := id ci
  obtain ⟨ot, t1, _, m, t3⟩ := ct
  unfold Builtin.SmallTypes.nextOf
  refine wpAny_bind (wpAny_callSpecial?_slot (name := Str.ofString "__next__") ci.typeIs F.slot_tuple_iterator_next (wpAny_call_entry F.slot_tuple_iterator_next ci.typeIs F.entry_tuple_iterator_next ?_ (F.args_tuple_iterator_next_1 _)))
  show wpAny _ _ (field (.ref c) 0 >>= _) _ _ s
  refine wpAny_bind (wpAny_field c1 c3 (x := .ref t) rfl ?_)
  show wpAny _ _ (if (Value.ref t == Value.none) = true then _ else _) _ _ s
  rw [if_neg (show ¬ ((Value.ref t == Value.none) = true) from Bool.false_ne_true)]
  show wpAny _ _ (field (.ref c) 1 >>= _) _ _ s
  refine wpAny_bind (wpAny_field c1 c3 (x := .int k 0) rfl ?_)
  show wpAny _ _ (seqItems? (.ref t) >>= _) _ _ s
  refine wpAny_bind (wpAny_seqItems t1 t3 ?_)
  simp only [Int.toNat_natCast, cv]
  refine wpAny_bind (wpAny_setField c1 c3 (by simp) (wpAny_pure ⟨v, rfl, wpAny_pure (hR _ ?_ (Heap.SameBut.update ..))⟩))
  refine ⟨_, Heap.get?_update_self _ c1 (Obj.isFreed_of_fields (Obj.data_mapFields c3 _)), (Obj.cls_mapFields ..).trans c2, ?_⟩
  rw [Obj.data_mapFields c3]
  simp [rawInt]
/-- its end -/
theorem next_end {c t : Addr} {k : Nat} {ys : Array Value} {R : Value → Shared → Prop} (nh : A.handled = none) (ci : s.heap.IsTupleIter c t k) (ct : s.heap.IsTuple t ys) (cv : ys[k]? = none)
    (hX : ∀ g e, Heap.ExtBut c s.heap g → (∃ o, g.get? e = some o ∧ o.cls = .type "StopIteration") → E (.ref e) { s with heap := g }) : wpAny (model prog w) A (Builtin.SmallTypes.nextOf (.ref c)) R E s := by
  obtain ⟨oc, c1, c2, c3⟩ := id ci
  obtain ⟨ot, t1, _, m, t3⟩ := ct
  unfold Builtin.SmallTypes.nextOf
  refine wpAny_bind (wpAny_callSpecial?_slot (name := Str.ofString "__next__") ci.typeIs F.slot_tuple_iterator_next (wpAny_call_entry F.slot_tuple_iterator_next ci.typeIs F.entry_tuple_iterator_next ?_ (F.args_tuple_iterator_next_1 _)))
  show wpAny _ _ (field (.ref c) 0 >>= _) _ _ s
  refine wpAny_bind (wpAny_field c1 c3 (x := .ref t) rfl ?_)
  show wpAny _ _ (if (Value.ref t == Value.none) = true then _ else _) _ _ s
  rw [if_neg (show ¬ ((Value.ref t == Value.none) = true) from Bool.false_ne_true)]
  show wpAny _ _ (field (.ref c) 1 >>= _) _ _ s
  refine wpAny_bind (wpAny_field c1 c3 (x := .int k 0) rfl ?_)
  show wpAny _ _ (seqItems? (.ref t) >>= _) _ _ s
  refine wpAny_bind (wpAny_seqItems t1 t3 ?_)
  simp only [Int.toNat_natCast, cv]
  refine wpAny_bind (wpAny_rule (wpAny_bind (wpAny_setField c1 c3 (by simp) ?_)))
  show wpAny _ _ (newExc (.type "StopIteration") [] >>= _) _ _ _
  refine wpAny_bind ?_
  simp only [newExc, newTuple]
  refine wpAny_bind (wpAny_newObj_type ?_ (by size_fits))
  refine wpAny_bind (m := firstArgMember _ _) (wpAny_of_eq (a := Value.none) (by first | rfl | (simp only [firstArgMember]; rfl)) ?_)
  refine wpAny_newObj_type ?_ (by size_fits)
  simp only [raiseNew]
  refine wpAny_bind (wpAny_handled ?_)
  first | rw [show A.in1.handled = none from nh] | rw [nh]
  refine wpAny_bind (wpAny_pure (wpAny_throw ?_))
  exact hX _ _ (((Heap.SameBut.update ..).extBut.push _).push _) ⟨_, Heap.get?_push_size _ rfl, rfl⟩
/-- a tuple's iterator draws its items -/
theorem draws (nh : A.handled = none) {c t : Addr} (ne : t ≠ c) (ys : Array Value) : Draws prog w A c [c, t] ys.size (fun i v => ys[i]? = some v) (fun i h => h.IsTupleIter c t i ∧ h.IsTuple t ys) where
  live := fun i h st => let ⟨⟨o, q, _⟩, _⟩ := st; ⟨o, q⟩
  frame := fun i h h' st k => ⟨st.1.at fun o q => k c (by simp) o q, st.2.at fun o q => k t (by simp) o q⟩
  item := fun i s Q E hi st hQ => by
    refine next_item st.1 st.2 (v := ys[i]) (by simp [hi]) fun g g1 g2 => ?_
    exact hQ _ g s.toks (by simp [hi]) ⟨g1, st.2.extBut g2.extBut ne⟩ g2
  done := fun s Q E st hE => next_end nh st.1 st.2 (by simp) fun g e x y => hE g e x y
/-- one turn of zip over two tuples -/
theorem zip_item {z U O c d l m : Addr} {i j : Nat} {xs ys : Array Value} {x y a b : Value} {R : Value → Shared → Prop} (D : ZipApart z U O c d l m)
    (hz : IsZip s.heap z U O .none) (hU : IsPair s.heap U (.ref c) (.ref d)) (hO : IsPair s.heap O a b) (h1 : s.heap.IsTupleIter c l i) (h2 : s.heap.IsTupleIter d m j) (t1 : s.heap.IsTuple l xs) (t2 : s.heap.IsTuple m ys) (hx : xs[i]? = some x) (hy : ys[j]? = some y)
    (hR : ∀ g, IsZip g z U O (rawInt s.heap.objs.size) → IsPair g O x y → g.IsTupleIter c l (i + 1) → g.IsTupleIter d m (j + 1) → IsPair g s.heap.objs.size x y → g.objs.size = s.heap.objs.size + 1 →
      (∀ p o, p ≠ z → p ≠ O → p ≠ c → p ≠ d → s.heap.get? p = some o → g.get? p = some o) → R (.ref s.heap.objs.size) { s with heap := g }) :
    wpAny (model prog w) A (Builtin.«zip.__next__» ⟨[.ref z], []⟩) (fun fin s' => ∃ v, fin = .done (.ret v) ∧ R v s') E s := by
  show wpAny _ _ (field (.ref z) 2 >>= _) _ _ _
  refine wpAny_bind (wpAny_field hz rfl (x := .bool false) rfl ?_)
  show wpAny _ _ (field (.ref z) 3 >>= _) _ _ _
  refine wpAny_bind (wpAny_field hz rfl (x := .ref U) rfl ?_)
  refine wpAny_bind (wpAny_seqItems hU rfl ?_)
  show wpAny _ _ (Builtin.SmallTypes.ownedTupleIsFree (.ref z) >>= _) _ _ _
  refine wpAny_bind ?_
  unfold Builtin.SmallTypes.ownedTupleIsFree
  refine wpAny_bind (wpAny_field hz rfl (x := .none) rfl (wpAny_pure ?_))
  simp only [if_true]
  refine wpAny_bind (wpAny_rule ?_)
  refine wpAny_bind (wpAny_field hz rfl (x := .ref O) rfl ?_)
  refine wpAny_bind (wpAny_setField_rec hz (by simp) fun g1 z1 s1 => ?_)
  replace z1 : IsZip g1 z U O .ellipsis := z1
  refine wpAny_bind ?_
  simp only [List.zipIdx_cons, List.zipIdx_nil, List.forIn_cons, List.forIn_nil]
  refine wpAny_bind (wpAny_bind (wpAny_onRaise ?_))
  show wpAny _ _ (Builtin.SmallTypes.nextOf (.ref c) >>= _) _ _ _
  refine wpAny_bind (next_item (h1.extBut s1.extBut D.i1z) (t1.extBut s1.extBut D.l1z) hx fun g2 c2 s2 => wpAny_pure ?_)
  have O2 : IsPair g2 O a b := s2.extBut _ _ D.TOi1 (s1.extBut _ _ D.TOz hO)
  refine wpAny_bind (wpAny_seqItems O2 rfl ?_)
  refine wpAny_bind (wpAny_updateSeq_pair O2 fun g3 O3 s3 => ?_)
  replace O3 : IsPair g3 O x b := O3
  refine wpAny_bind (wpAny_letGo (wpAny_pure ?_))
  refine wpAny_bind (wpAny_bind (wpAny_onRaise ?_))
  show wpAny _ _ (Builtin.SmallTypes.nextOf (.ref d) >>= _) _ _ _
  refine wpAny_bind (next_item (((h2.extBut s1.extBut D.i2z).extBut s2.extBut D.i12.symm).extBut s3.extBut D.TOi2.symm) (((t2.extBut s1.extBut D.l2z).extBut s2.extBut D.l2i1).extBut s3.extBut D.l2TO) hy fun g4 d4 s4 => wpAny_pure ?_)
  have O4 : IsPair g4 O x b := s4.extBut _ _ D.TOi2 O3
  refine wpAny_bind (wpAny_seqItems O4 rfl ?_)
  refine wpAny_bind (wpAny_updateSeq_pair O4 fun g5 O5 s5 => ?_)
  replace O5 : IsPair g5 O x y := O5
  refine wpAny_bind (wpAny_letGo (wpAny_pure (wpAny_pure ?_)))
  refine wpAny_bind (wpAny_seqItems O5 rfl ?_)
  refine wpAny_bind (wpAny_newTuple ?_)
  have sz : g5.objs.size = s.heap.objs.size := by rw [s5.1, s4.1, s3.1, s2.1, s1.1]
  have z5 : IsZip g5 z U O .ellipsis := s5.extBut _ _ D.TOz.symm (s4.extBut _ _ D.i2z.symm (s3.extBut _ _ D.TOz.symm (s2.extBut _ _ D.i1z.symm z1)))
  have k5 : ∀ p o, p ≠ z → p ≠ O → p ≠ c → p ≠ d → s.heap.get? p = some o → g5.get? p = some o := fun p o p1 p2 p3 p4 e =>
    s5.extBut _ _ p2 (s4.extBut _ _ p4 (s3.extBut _ _ p2 (s2.extBut _ _ p3 (s1.extBut _ _ p1 e))))
  have c5 : g5.IsTupleIter c l (i + 1) := ((c2.extBut s3.extBut D.TOi1.symm).extBut s4.extBut D.i12).extBut s5.extBut D.TOi1.symm
  have d5 : g5.IsTupleIter d m (j + 1) := d4.extBut s5.extBut D.TOi2.symm
  have zl : z < g5.objs.size := Heap.lt_size z5
  show wpAny _ _ (Builtin.SmallTypes.ownedTupleHandOut (.ref z) (.ref g5.objs.size) >>= _) _ _ _
  refine wpAny_bind ?_
  unfold Builtin.SmallTypes.ownedTupleHandOut
  have z6 : IsZip (g5.push { cls := .type "tuple", data := .seq #[x, y] }) z U O .ellipsis := Heap.get?_push_of_some _ z5
  refine wpAny_bind (wpAny_setField_rec z6 (by simp) fun g7 z7 s7 => ?_)
  replace z7 : IsZip g7 z U O (rawInt g5.objs.size) := z7
  refine wpAny_setField_rec z7 (by simp) fun g8 z8 s8 => ?_
  replace z8 : IsZip g8 z U O (rawInt g5.objs.size) := z8
  have up : ∀ p o, p ≠ z → g5.get? p = some o → g8.get? p = some o := fun p o p1 e => s8.extBut _ _ p1 (s7.extBut _ _ p1 (Heap.get?_push_of_some _ e))
  have T8 : IsPair g8 g5.objs.size x y := s8.extBut _ _ (Nat.ne_of_gt zl) (s7.extBut _ _ (Nat.ne_of_gt zl) (Heap.get?_push_size _ rfl))
  have n8 : g8.objs.size = g5.objs.size + 1 := by rw [s8.1, s7.1, Heap.size_push]
  rw [sz] at z8 T8 n8
  refine wpAny_pure ⟨_, rfl, ?_⟩
  show R (.ref g5.objs.size) _
  rw [sz]
  exact hR g8 z8 (up _ _ D.TOz O5) (c5.at fun o e => up _ o D.i1z e) (d5.at fun o e => up _ o D.i2z e) T8 n8 fun p o p1 p2 p3 p4 e => up p o p1 (k5 p o p1 p2 p3 p4 e)
/-- the end of zip over two tuples of one length: the first one's end is met first -/
theorem zip_end {z U O c d l m : Addr} {i j : Nat} {xs ys : Array Value} {a b : Value} {R : Fin → Shared → Prop} (nh : A.handled = none) (D : ZipApart z U O c d l m)
    (hz : IsZip s.heap z U O .none) (hU : IsPair s.heap U (.ref c) (.ref d)) (hO : IsPair s.heap O a b) (h1 : s.heap.IsTupleIter c l i) (t1 : s.heap.IsTuple l xs) (hx : xs[i]? = none)
    (hX : ∀ g e, (∀ p o, p ≠ z → p ≠ c → s.heap.get? p = some o → g.get? p = some o) → (∃ o, g.get? e = some o ∧ o.cls = .type "StopIteration") → E (.ref e) { s with heap := g }) :
    wpAny (model prog w) A (Builtin.«zip.__next__» ⟨[.ref z], []⟩) R E s := by
  show wpAny _ _ (field (.ref z) 2 >>= _) _ _ _
  refine wpAny_bind (wpAny_field hz rfl (x := .bool false) rfl ?_)
  show wpAny _ _ (field (.ref z) 3 >>= _) _ _ _
  refine wpAny_bind (wpAny_field hz rfl (x := .ref U) rfl ?_)
  refine wpAny_bind (wpAny_seqItems hU rfl ?_)
  show wpAny _ _ (Builtin.SmallTypes.ownedTupleIsFree (.ref z) >>= _) _ _ _
  refine wpAny_bind ?_
  unfold Builtin.SmallTypes.ownedTupleIsFree
  refine wpAny_bind (wpAny_field hz rfl (x := .none) rfl (wpAny_pure ?_))
  simp only [if_true]
  refine wpAny_bind (wpAny_rule ?_)
  refine wpAny_bind (wpAny_field hz rfl (x := .ref O) rfl ?_)
  refine wpAny_bind (wpAny_setField_rec hz (by simp) fun g1 z1 s1 => ?_)
  replace z1 : IsZip g1 z U O .ellipsis := z1
  refine wpAny_bind ?_
  simp only [List.zipIdx_cons, List.zipIdx_nil, List.forIn_cons, List.forIn_nil]
  refine wpAny_bind (wpAny_bind (wpAny_onRaise ?_))
  show wpAny _ _ (Builtin.SmallTypes.nextOf (.ref c) >>= _) _ _ _
  refine wpAny_bind (next_end nh (h1.extBut s1.extBut D.i1z) (t1.extBut s1.extBut D.l1z) hx fun g2 e s2 he => ?_)
  obtain ⟨oe, e1, e2⟩ := he
  have z2 : IsZip g2 z U O .ellipsis := s2 _ _ D.i1z.symm z1
  have ez : e ≠ z := fun q => by
    subst q
    rw [z2] at e1
    cases e1
    simp at e2
  exact wpAny_setField_rec z2 (by simp) fun g3 _ s3 => hX g3 e (fun p o p1 p2 q => s3.extBut _ _ p1 (s2 _ _ p2 (s1.extBut _ _ p1 q))) ⟨oe, s3.extBut _ _ ez e1, e2⟩
theorem pyNext_zip_item {z U O c d l m : Addr} {i j : Nat} {xs ys : Array Value} {x y a b : Value} {R : Option Value → Shared → Prop} (D : ZipApart z U O c d l m)
    (hz : IsZip s.heap z U O .none) (hU : IsPair s.heap U (.ref c) (.ref d)) (hO : IsPair s.heap O a b) (h1 : s.heap.IsTupleIter c l i) (h2 : s.heap.IsTupleIter d m j) (t1 : s.heap.IsTuple l xs) (t2 : s.heap.IsTuple m ys) (hx : xs[i]? = some x) (hy : ys[j]? = some y)
    (hR : ∀ g, IsZip g z U O (rawInt s.heap.objs.size) → IsPair g O x y → g.IsTupleIter c l (i + 1) → g.IsTupleIter d m (j + 1) → IsPair g s.heap.objs.size x y → g.objs.size = s.heap.objs.size + 1 →
      (∀ p o, p ≠ z → p ≠ O → p ≠ c → p ≠ d → s.heap.get? p = some o → g.get? p = some o) → R (some (.ref s.heap.objs.size)) { s with heap := g }) :
    wpAny (model prog w) A (pyNext (.ref z)) R E s := by
  have ty : s.TypeIs (.ref z) "zip" := ⟨_, hz, rfl⟩
  unfold pyNext
  exact wpAny_bind (wpAny_attempt (wpAny_callSpecial?_slot (name := Str.ofString "__next__") ty F.slot_zip_next (wpAny_call_entry F.slot_zip_next ty F.entry_zip_next
    (zip_item D hz hU hO h1 h2 t1 t2 hx hy fun g q1 q2 q3 q4 q5 q6 q7 => wpAny_pure (hR g q1 q2 q3 q4 q5 q6 q7)) (F.args_zip_next_1 _))))
theorem pyNext_zip_end {z U O c d l m : Addr} {i j : Nat} {xs ys : Array Value} {a b : Value} {R : Option Value → Shared → Prop} (nh : A.handled = none) (D : ZipApart z U O c d l m)
    (hz : IsZip s.heap z U O .none) (hU : IsPair s.heap U (.ref c) (.ref d)) (hO : IsPair s.heap O a b) (h1 : s.heap.IsTupleIter c l i) (t1 : s.heap.IsTuple l xs) (hx : xs[i]? = none)
    (hR : ∀ g, (∀ p o, p ≠ z → p ≠ c → s.heap.get? p = some o → g.get? p = some o) → R none { s with heap := g }) : wpAny (model prog w) A (pyNext (.ref z)) R E s := by
  have ty : s.TypeIs (.ref z) "zip" := ⟨_, hz, rfl⟩
  unfold pyNext
  refine wpAny_bind (wpAny_attempt (wpAny_callSpecial?_slot (name := Str.ofString "__next__") ty F.slot_zip_next (wpAny_call_entry F.slot_zip_next ty F.entry_zip_next
    (zip_end (ys := ys) (j := j) nh D hz hU hO h1 t1 hx fun g e k he => ?_) (F.args_zip_next_1 _))))
  obtain ⟨o, o1, o2⟩ := he
  refine wpAny_bind (wpAny_isInstance (T := "StopIteration") (b := true) ⟨o, o1, o2⟩ isSubtype_stop ?_)
  exact wpAny_pure (hR _ k)
end
/-- the objects of zip(t, u) -/
abbrev zt1 (h : Heap) (l : Addr) : Heap := h.push { cls := .type "tuple_iterator", data := .fields #[.ref l, .int 0 0] }
abbrev zt2 (h : Heap) (l m : Addr) : Heap := (zt1 h l).push { cls := .type "tuple_iterator", data := .fields #[.ref m, .int 0 0] }
abbrev zt3 (h : Heap) (l m : Addr) : Heap := (zt2 h l m).push { cls := .type "tuple", data := .seq #[.ref h.objs.size, .ref (zt1 h l).objs.size] }
abbrev zt4 (h : Heap) (l m : Addr) : Heap := (zt3 h l m).push { cls := .type "tuple", data := .seq #[.none, .none] }
abbrev zt5 (h : Heap) (l m : Addr) : Heap := (zt4 h l m).push { cls := .type "zip", data := .fields #[.none, .bool false, .bool false, .ref (zt2 h l m).objs.size, .ref (zt3 h l m).objs.size] }
theorem zip_new (l m : Addr) (xs ys : Array Value) : Meets (Builtin.«zip.__new__» ⟨[.type "zip", .ref l, .ref m], []⟩) (fun _ R s => s.heap.IsTuple l xs ∧ s.heap.IsTuple m ys ∧ R (.ok (.ret (.ref (zt4 s.heap l m).objs.size))) { s with heap := zt5 s.heap l m }) :=
  .of_wp fun prog w A R s h => by
    obtain ⟨hp, g, d, tk, os⟩ := s
    obtain ⟨t1, t2, h⟩ := h
    have hsub := sub_zip
    have q1 : Heap.IsTuple (Shared.heap ⟨hp, g, d, tk, os⟩) l xs := t1
    have q2 : Heap.IsTuple (Shared.heap ⟨hp.push { cls := .type "tuple_iterator", data := .fields #[.ref l, .int 0 0] }, g, d, tk, os⟩) m ys := Heap.IsTuple.push t2 _
    wp_walk using wpAny_pyIter_tuple q1, wpAny_pyIter_tuple q2
    exact ⟨_, rfl, h⟩
section
variable {prog : Program} {w : World} {A : Around} {E : Value → Shared → Prop} {s : Shared}
theorem call_zip {l m : Addr} {xs ys : Array Value} {R : Value → Shared → Prop} (t1 : s.heap.IsTuple l xs) (t2 : s.heap.IsTuple m ys)
    (h : ∀ g, IsZip g (s.heap.objs.size + 4) (s.heap.objs.size + 2) (s.heap.objs.size + 3) .none → IsPair g (s.heap.objs.size + 2) (.ref s.heap.objs.size) (.ref (s.heap.objs.size + 1)) → IsPair g (s.heap.objs.size + 3) .none .none →
      g.IsTupleIter s.heap.objs.size l 0 → g.IsTupleIter (s.heap.objs.size + 1) m 0 → (∀ p o, s.heap.get? p = some o → g.get? p = some o) → R (.ref (s.heap.objs.size + 4)) { s with heap := g }) :
    wpAny (model prog w) A (call (.type "zip") [.ref l, .ref m]) R E s := by
  refine callType_new F.called_zip (by decide) (F.typeCall_zip_2 _ _) (F.newCall_zip_2 _ _) (fun obj => F.args_object_init_3 obj _ _) F.entry_zip_new (zip_new l m xs ys) ⟨t1, t2, ?_⟩
  have n1 : (zt1 s.heap l).objs.size = s.heap.objs.size + 1 := Heap.size_push ..
  have n2 : (zt2 s.heap l m).objs.size = s.heap.objs.size + 2 := by rw [Heap.size_push, n1]
  have n3 : (zt3 s.heap l m).objs.size = s.heap.objs.size + 3 := by rw [Heap.size_push, n2]
  have n4 : (zt4 s.heap l m).objs.size = s.heap.objs.size + 4 := by rw [Heap.size_push, n3]
  have p5 : (zt5 s.heap l m).get? (zt4 s.heap l m).objs.size = some _ := Heap.get?_push_size _ rfl
  have p4 : (zt5 s.heap l m).get? (zt3 s.heap l m).objs.size = some _ := Heap.get?_push_of_some _ (Heap.get?_push_size _ rfl)
  have p3 : (zt5 s.heap l m).get? (zt2 s.heap l m).objs.size = some _ := Heap.get?_push_of_some _ (Heap.get?_push_of_some _ (Heap.get?_push_size _ rfl))
  have p2 : (zt5 s.heap l m).get? (zt1 s.heap l).objs.size = some _ := Heap.get?_push_of_some _ (Heap.get?_push_of_some _ (Heap.get?_push_of_some _ (Heap.get?_push_size _ rfl)))
  have p1 : (zt5 s.heap l m).get? s.heap.objs.size = some _ := Heap.get?_push_of_some _ (Heap.get?_push_of_some _ (Heap.get?_push_of_some _ (Heap.get?_push_of_some _ (Heap.get?_push_size _ rfl))))
  show _ ∧ _
  rw [n2, n3, n4] at p5
  rw [n1, n2] at p3
  rw [n3] at p4
  rw [n1] at p2
  rw [n4]
  exact ⟨⟨_, p5, rfl⟩, h _ p5 p3 p4 ⟨_, p1, rfl, rfl⟩ ⟨_, p2, rfl, rfl⟩ fun p o q => Heap.get?_push_of_some _ (Heap.get?_push_of_some _ (Heap.get?_push_of_some _ (Heap.get?_push_of_some _ (Heap.get?_push_of_some _ q))))⟩
end
theorem enum_new (t : Addr) (ys : Array Value) : Meets (Builtin.«enumerate.__new__» ⟨[.type "enumerate", .ref t], []⟩) (fun _ R s => s.heap.IsTuple t ys ∧
    R (.ok (.ret (.ref (zt1 s.heap t).objs.size))) { s with heap := (zt1 s.heap t).push { cls := .type "enumerate", data := .fields #[.none, .bool false, .ref s.heap.objs.size, rawInt 0, .none, .none] } }) :=
  .of_wp fun prog w A R s h => by
    obtain ⟨hp, g, d, tk, os⟩ := s
    obtain ⟨t1, h⟩ := h
    have hsub := sub_enumerate
    have q1 : Heap.IsTuple (Shared.heap ⟨hp, g, d, tk, os⟩) t ys := t1
    wp_walk
    refine wpAny_stack_any fun st => wpAny_pure ?_
    split
    · rename_i c _ _ _ _ _
      cases (c == Value.type "enumerate")
      · wp_walk using wpAny_pyIter_tuple q1
        exact ⟨_, rfl, h⟩
      · wp_walk using wpAny_pyIter_tuple q1
        exact ⟨_, rfl, h⟩
    · wp_walk using wpAny_pyIter_tuple q1
      exact ⟨_, rfl, h⟩
section
variable {prog : Program} {w : World} {A : Around} {E : Value → Shared → Prop} {s : Shared}
theorem call_enum {t : Addr} {ys : Array Value} {R : Value → Shared → Prop} (t1 : s.heap.IsTuple t ys)
    (h : ∀ g, IsEnum g (s.heap.objs.size + 1) s.heap.objs.size 0 .none → g.IsTupleIter s.heap.objs.size t 0 → (∀ p o, s.heap.get? p = some o → g.get? p = some o) → R (.ref (s.heap.objs.size + 1)) { s with heap := g }) :
    wpAny (model prog w) A (call (.type "enumerate") [.ref t]) R E s := by
  refine callType_new F.called_enumerate (by decide) (F.typeCall_enumerate_1 _) (F.newCall_enumerate_1 _) (fun obj => F.args_object_init_2 obj _) F.entry_enumerate_new (enum_new t ys) ⟨t1, ?_⟩
  have n1 : (zt1 s.heap t).objs.size = s.heap.objs.size + 1 := Heap.size_push ..
  show _ ∧ _
  rw [n1]
  have e1 : IsEnum ((zt1 s.heap t).push { cls := .type "enumerate", data := .fields #[.none, .bool false, .ref s.heap.objs.size, rawInt 0, .none, .none] }) (s.heap.objs.size + 1) s.heap.objs.size 0 .none := by
    have q := Heap.get?_push_size (zt1 s.heap t) (o := { cls := .type "enumerate", data := .fields #[.none, .bool false, .ref s.heap.objs.size, rawInt 0, .none, .none] }) rfl
    rw [n1] at q
    exact q
  exact ⟨⟨_, e1, rfl⟩, h _ e1 ⟨_, Heap.get?_push_of_some _ (Heap.get?_push_size _ rfl), rfl, rfl⟩ fun p o q => Heap.get?_push_of_some _ (Heap.get?_push_of_some _ q)⟩
end
end ZT

/-! More rules: pairs of texts, deep membership, sorting of pairs, isinstance, zip and enumerate over tuples. -/
namespace L2
open PySem PySem.Spec PyProof.Rows
theorem Same.seqT {K : PySem.W.Frag} {H H' : Hp} {a : Addr} {xs : List V} (e : Same H H') (h : SqT K H a xs) : SqT K H' a xs := by
  rcases h with (h | ⟨o, h⟩) | h
  · exact .inl (.inl (e _ _ h))
  · exact .inl (.inr ⟨o, e _ _ h⟩)
  · exact .inr h
theorem same_new {H : Hp} {p : Addr} (h : H p = none) (o : HO) : Same H (upd H p o) := fun b u q => by rw [upd_ne (ne_of_none q h)]; exact q
/-! ### pairs of texts -/
abbrev SS := Str × Str
def IsPr (K : PySem.W.Frag) (H : Hp) (v : V) (p : SS) : Prop := ∃ a, v = .ref a ∧ SqT K H a [.str p.1, .str p.2]
abbrev Prs (K : PySem.W.Frag) (H : Hp) : List V → List SS → Prop := Paired (IsPr K H)
theorem IsPr.same {K : PySem.W.Frag} {H H' : Hp} {v : V} {p : SS} (h : IsPr K H v p) (e : Same H H') : IsPr K H' v p := let ⟨a, q, r⟩ := h; ⟨a, q, e.seqT r⟩
theorem Prs.same {K : PySem.W.Frag} {H H' : Hp} {vs : List V} {ps : List SS} (h : Prs K H vs ps) (e : Same H H') : Prs K H' vs ps := Paired.mapP h fun _ _ q => q.same e
/-- tuples stay, whatever is written -/
def KeepT (H H' : Hp) : Prop := (∀ b xs, H b = some (.tup xs) → H' b = some (.tup xs)) ∧ ∀ b o u, H b = some (.frz o u) → H' b = some (.frz o u)
theorem KeepT.seqT {K : PySem.W.Frag} {H H' : Hp} {a : Addr} {xs : List V} (e : KeepT H H') (h : SqT K H a xs) : SqT K H' a xs := by
  rcases h with (h | ⟨o, h⟩) | h
  · exact .inl (.inl (e.1 _ _ h))
  · exact .inl (.inr ⟨o, e.2 _ _ _ h⟩)
  · exact .inr h
theorem IsPr.keep {K : PySem.W.Frag} {H H' : Hp} {v : V} {p : SS} (h : IsPr K H v p) (e : KeepT H H') : IsPr K H' v p := let ⟨a, q, r⟩ := h; ⟨a, q, e.seqT r⟩
theorem Prs.keep {K : PySem.W.Frag} {H H' : Hp} {vs : List V} {ps : List SS} (h : Prs K H vs ps) (e : KeepT H H') : Prs K H' vs ps := Paired.mapP h fun _ _ q => q.keep e
theorem Same.keepT {H H' : Hp} (e : Same H H') : KeepT H H' := ⟨fun _ _ h => e _ _ h, fun _ _ _ h => e _ _ h⟩
theorem KeepT.trans {H H1 H2 : Hp} (a : KeepT H H1) (b : KeepT H1 H2) : KeepT H H2 := ⟨fun _ _ h => b.1 _ _ (a.1 _ _ h), fun _ _ _ h => b.2 _ _ _ (a.2 _ _ _ h)⟩
theorem keepT_upd {H : Hp} {l : Addr} {xs : List V} (h : H l = some (.lst xs)) (o : HO) : KeepT H (upd H l o) :=
  ⟨fun b ys q => by rw [upd_ne (ne_of q h (by intro z; cases z))]; exact q, fun b ob u q => by rw [upd_ne (ne_of q h (by intro z; cases z))]; exact q⟩
section
variable {X : Cx} {pins : List (Addr × Obj)} {σ : St} {H : Hp} {s : Shared}
theorem Inv.pr (I : Inv X pins σ H s) {v : V} {u : Value} {p : SS} (h : IsPr X.K H v p) (r : RelV v u) : ∃ a t t', u = .ref a ∧ s.heap.IsTuple a #[.str p.1 t, .str p.2 t'] := by
  obtain ⟨a, rfl, hq⟩ := h
  cases r
  obtain ⟨its, rv, hp, _⟩ := I.tuple hq
  cases rv with
  | cons r1 rr =>
    cases rr with
    | cons r2 rr =>
      cases rr
      obtain ⟨t, rfl⟩ := r1
      obtain ⟨t', rfl⟩ := r2
      exact ⟨a, t, t', rfl, hp⟩
end
/-- the pair that a value is -/
def prOf (h : Heap) : Value → Option SS
  | .ref a => match h.get? a with
    | some o => (match o.data with
      | .seq its _ => (match its.toList with
        | [.str x _, .str y _] => some (x, y)
        | _ => none)
      | _ => none)
    | none => none
  | _ => none
theorem prOf_of {h : Heap} {a : Addr} {x y : Str} {t t' : Tok} (q : h.IsTuple a #[.str x t, .str y t']) : prOf h (.ref a) = some (x, y) := by
  obtain ⟨o, h1, h2, n, h3⟩ := q
  simp [prOf, h1, h3]
def rInP (K : PySem.W.Frag) (neg : Bool) : R2 := fun x y H Q => ∃ q vs ps px, y = .ref q ∧ (SqL K H q vs ∨ SqT K H q vs) ∧ Prs K H vs ps ∧ IsPr K H x px ∧ Q (.bl (if neg then !decide (px ∈ ps) else decide (px ∈ ps))) H
section
variable {X : Cx} {pins : List (Addr × Obj)} {σ : St} {H : Hp} {s : Shared}
theorem any_pr (I : Inv X pins σ H s) (px : SS) : ∀ {vs : List V} {its : List Value} {ps : List SS}, Vals vs its → Prs X.K H vs ps → (its.any fun u => decide (prOf s.heap u = some px)) = decide (px ∈ ps)
  | _, _, _, .nil, .nil => by simp
  | _, _, _, .cons r t, .cons (b := p) q u => by
    obtain ⟨a, t1, t2, rfl, hp⟩ := I.pr q r
    rw [List.any_cons, any_pr I px t u, prOf_of hp]
    by_cases c : p = px
    · subst c
      simp
    · have c' : ¬ px = p := fun z => c z.symm
      simp [c, c']
end
section
variable {X : Cx}
end
/-! ### sorted, of a list of pairs of texts, any length -/
def prKey (p : SS) : List (Int ⊕ List Nat) := [.inr p.1.cps.toList, .inr p.2.cps.toList]
def prLt (p q : SS) : Bool := lexLt itemOrd (prKey p) (prKey q)
def rSortedP (K : PySem.W.Frag) : List V → Hp → VK → Prop := fun vs H Q => ∃ (a : Addr) (xs : List V) (ps : List SS), vs = [V.ref a] ∧ SqL K H a xs ∧ Prs K H xs ps ∧
  ∀ (xs' : List V) (ps' : List SS) (p : Addr), Prs K H xs' ps' → ps'.Perm ps → ps'.Pairwise (fun p q => prLt q p = false) → H p = none → Q (.ref p) (upd H p (.lst xs'))
section
variable {X : Cx} {pins : List (Addr × Obj)} {σ : St} {H : Hp} {s : Shared}
theorem tups_pr (I : Inv X pins σ H s) : ∀ {vs : List V} {its : List Value} {ps : List SS}, Vals vs its → Prs X.K H vs ps → ∃ fs, TupsOf s.heap (fun _ => true) its fs
  | _, _, _, .nil, .nil => ⟨[], .nil⟩
  | _, _, _, .cons r t, .cons (b := p) q u => by
    obtain ⟨fs, h⟩ := tups_pr I t u
    obtain ⟨a, t1, t2, rfl, o, h1, h2, n, h3⟩ := I.pr q r
    exact ⟨_, .cons ⟨a, o, _, n, rfl, h1, h2, h3, rfl, (fun z => nomatch z), (fun _ => ⟨_, _, rfl⟩)⟩ h⟩
theorem key_pr {h : Heap} {a : Addr} {x y : Str} {t t' : Tok} (q : h.IsTuple a #[.str x t, .str y t']) : G.tupKeyC h (fun _ => true) (.ref a) = some (prKey (x, y)) := by
  obtain ⟨o, h1, h2, n, h3⟩ := q
  simp [G.tupKeyC, G.isTupObj, tupKey, h1, h2, h3, tupItems, prKey]
theorem all_pr (I : Inv X pins σ H s) : ∀ {vs : List V} {its : List Value} {ps : List SS}, Vals vs its → Prs X.K H vs ps → ∀ u ∈ its, ∃ v p, absV u = some v ∧ RelV v u ∧ IsPr X.K H v p ∧ prOf s.heap u = some p ∧ G.tupKeyC s.heap (fun _ => true) u = some (prKey p)
  | _, _, _, .nil, .nil => fun u hu => by cases hu
  | _, _, _, .cons r t, .cons (b := p) q w => fun u hm => by
    rcases List.mem_cons.mp hm with rfl | hm
    · obtain ⟨a, t1, t2, e, hp⟩ := I.pr q r
      exact ⟨_, p, r.abs, r, q, by rw [e]; exact prOf_of hp, by rw [e]; exact key_pr hp⟩
    · exact all_pr I t w u hm
theorem map_pr (I : Inv X pins σ H s) : ∀ {vs : List V} {its : List Value} {ps : List SS}, Vals vs its → Prs X.K H vs ps → its.map (fun u => (prOf s.heap u).getD default) = ps
  | _, _, _, .nil, .nil => rfl
  | _, _, _, .cons r t, .cons (b := p) q w => by
    obtain ⟨a, t1, t2, e, hp⟩ := I.pr q r
    rw [List.map_cons, map_pr I t w, e, prOf_of hp]
    rfl
theorem vals_back {f : Value → V} : ∀ {us : List Value}, (∀ u ∈ us, RelV (f u) u) → Vals (us.map f) us
  | [], _ => .nil
  | u :: us, h => .cons (h u (List.mem_cons_self ..)) (vals_back fun w hw => h w (List.mem_cons_of_mem _ hw))
theorem prs_back {K : PySem.W.Frag} {f : Value → V} {g : Value → SS} : ∀ {us : List Value}, (∀ u ∈ us, IsPr K H (f u) (g u)) → Prs K H (us.map f) (us.map g)
  | [], _ => .nil
  | u :: us, h => .cons (h u (List.mem_cons_self ..)) (prs_back fun w hw => h w (List.mem_cons_of_mem _ hw))
end
section
variable {X : Cx}
theorem cr_sortedP : CallR X (.builtin "sorted") (rSortedP X.K) := by
  intro pins s σ H vs us Q I r h
  obtain ⟨a, xs, ps, rfl, hs, hp, q⟩ := h
  obtain ⟨its, rv, hl, hz⟩ := I.list hs
  rw [Vals.ref1 r]
  obtain ⟨fs, ht⟩ := tups_pr I rv hp
  have al := all_pr I rv hp
  have hlen := rv.length
  refine G.sorted_tups (shape := fun _ => true) hl.isList ht (fun v hv => by obtain ⟨_, p, _, _, _, _, z⟩ := al v hv; exact ⟨_, z⟩) (by omega) fun st' h1 h2 _ => ?_
  obtain ⟨ep, he'⟩ := PyProof.Rows.sortedAll_at s.heap its ((arrOf st').map (·.2))
  have hperm : (arrOf st').toList.Perm (its.zip its) := by rw [← pairsOf_toList]; exact Array.perm_iff_toList_perm.mp h1
  have hmem : ∀ p, p ∈ (arrOf st').toList → p.1 = p.2 ∧ p.1 ∈ its := fun p hp' => mem_zip_self (hperm.mem_iff.mp hp')
  have hout : ((arrOf st').map (·.2)).toList = (arrOf st').toList.map (·.1) := by
    rw [Array.toList_map]
    exact List.map_congr_left fun p hp' => (hmem p hp').1.symm
  have hin : ∀ u ∈ ((arrOf st').map (·.2)).toList, u ∈ its := fun u hu => by
    rw [hout] at hu
    obtain ⟨p, hp', rfl⟩ := List.mem_map.mp hu
    exact (hmem p hp').2
  have hfst : (its.zip its).map (·.1) = its := by rw [List.map_fst_zip (Nat.le_refl _)]
  have hpu : ((arrOf st').map (·.2)).toList.Perm its := by
    rw [hout]
    have := hperm.map (·.1)
    rw [hfst] at this
    exact this
  generalize hus : ((arrOf st').map (·.2)).toList = out at hin hpu
  have fv : ∀ u ∈ out, RelV ((absV u).getD .non) u := fun u hu => by
    obtain ⟨v, p, e1, e2, _⟩ := al u (hin u hu)
    rw [e1]
    exact e2
  have fp : ∀ u ∈ out, IsPr X.K H ((absV u).getD .non) ((prOf s.heap u).getD default) := fun u hu => by
    obtain ⟨v, p, e1, e2, e3, e4, _⟩ := al u (hin u hu)
    rw [e1, e4]
    exact e3
  have hv' : Vals (out.map fun u => (absV u).getD .non) out := vals_back fv
  have hl' : (out.map fun u => (absV u).getD .non).length ≤ sizeLine := by rw [List.length_map, hpu.length_eq, ← hlen]; exact hz
  refine ⟨.ref _, upd H (s.heap.objs.size + 1) (.lst (out.map fun u => (absV u).getD .non)), I.laid (t' := s.toks) (fun _ _ => PyProof.Rows.sortedAll_old) (Nat.le_succ _) ⟨hl', out, ep, hv', ?_⟩, rfl, q _ (out.map fun u => (prOf s.heap u).getD default) _ (prs_back fp) ?_ ?_ (I.hok.fresh (Nat.le_succ _))⟩
  · rw [← hus, Array.toArray_toList]
    exact he'
  · have := hpu.map (fun u => (prOf s.heap u).getD default)
    rw [map_pr I rv hp] at this
    exact this
  · rw [← hus, hout, List.map_map, List.pairwise_map, List.pairwise_iff_getElem]
    intro i j hi hj hij
    have hi' : i < (arrOf st').size := by simpa using hi
    have hj' : j < (arrOf st').size := by simpa using hj
    have k := h2 i j (Nat.le_of_lt hij) (by rw [← h1.size_eq]; exact hj')
    obtain ⟨_, p1, _, _, _, e1, k1⟩ := al _ (hmem (arrOf st')[i] (by simp)).2
    obtain ⟨_, p2, _, _, _, e2, k2⟩ := al _ (hmem (arrOf st')[j] (by simp)).2
    have g1 : KK (G.tupKindC s.heap (fun _ => true)) (arrOf st') i = prKey p1 := by
      unfold KK
      rw [getElem?_pos (arrOf st') i hi']
      show (G.tupKeyC s.heap (fun _ => true) (arrOf st')[i].1).getD [] = prKey p1
      rw [k1]
      rfl
    have g2 : KK (G.tupKindC s.heap (fun _ => true)) (arrOf st') j = prKey p2 := by
      unfold KK
      rw [getElem?_pos (arrOf st') j hj']
      show (G.tupKeyC s.heap (fun _ => true) (arrOf st')[j].1).getD [] = prKey p2
      rw [k2]
      rfl
    rw [g1, g2] at k
    simp only [Function.comp, Array.getElem_toList, e1, e2, Option.getD_some]
    exact k
/-! ### isinstance -/
def tyIs (K : PySem.W.Frag) (H : Hp) : V → String → Prop
  | .str _, T => T = "str"
  | .int _, T => T = "int"
  | .ref a, T => T = "tuple" ∧ ∃ xs, SqT K H a xs
  | _, _ => False
def rIsi (K : PySem.W.Frag) : List V → Hp → VK → Prop := fun vs H Q => ∃ x Tx T, vs = [x, .ty T] ∧ tyIs K H x Tx ∧ (T = "tuple" ∨ T = "str" ∨ T = "int" ∨ T = "bool") ∧ Q (.bl (decide (Tx = T))) H
theorem boot_isi : bootBuiltins "isinstance" = some (.builtin "isinstance") := by decide +kernel
theorem boot_tuple : bootBuiltins "tuple" = some (.type "tuple") := by decide +kernel
theorem boot_str : bootBuiltins "str" = some (.type "str") := by decide +kernel
theorem boot_int : bootBuiltins "int" = some (.type "int") := by decide +kernel
theorem boot_bool : bootBuiltins "bool" = some (.type "bool") := by decide +kernel
theorem cr_isi : CallR X (.builtin "isinstance") (rIsi X.K) := by
  intro pins s σ H vs us Q I r h
  obtain ⟨x, Tx, T, rfl, hx, hT, q⟩ := h
  cases r with
  | cons r1 rr =>
    cases rr with
    | cons r2 rr =>
      cases rr
      cases r2
      cases x with
      | str z =>
        obtain ⟨t, rfl⟩ := r1
        have e : Tx = "str" := hx
        subst e
        rcases hT with rfl | rfl | rfl | rfl
        · exact call_isinstance (isinstance_false_str (by decide) F.isi_meta_tuple (by rw [isSubtype_type]; kernel_rfl)) ⟨.bl _, H, I.tok _, rfl, q⟩
        · exact call_isinstance_yes (typeIs_str _ _ _) F.isi_meta_str F.isi_self_str ⟨.bl _, H, I, rfl, q⟩
        · exact call_isinstance (isinstance_false_str (by decide) F.isi_meta_int (by rw [isSubtype_type]; kernel_rfl)) ⟨.bl _, H, I.tok _, rfl, q⟩
        · exact call_isinstance (isinstance_false_str (by decide) F.isi_meta_bool (by rw [isSubtype_type]; kernel_rfl)) ⟨.bl _, H, I.tok _, rfl, q⟩
      | int z =>
        obtain ⟨t, rfl⟩ := r1
        have e : Tx = "int" := hx
        subst e
        rcases hT with rfl | rfl | rfl | rfl
        · exact call_isinstance (isinstance_false_int (by decide) F.isi_meta_tuple (by rw [isSubtype_type]; kernel_rfl)) ⟨.bl _, H, I.tok _, rfl, q⟩
        · exact call_isinstance (isinstance_false_int (by decide) F.isi_meta_str (by rw [isSubtype_type]; kernel_rfl)) ⟨.bl _, H, I.tok _, rfl, q⟩
        · exact call_isinstance_yes (typeIs_int _ _ _) F.isi_meta_int F.isi_self_int ⟨.bl _, H, I, rfl, q⟩
        · exact call_isinstance (isinstance_false_int (by decide) F.isi_meta_bool (by rw [isSubtype_type]; kernel_rfl)) ⟨.bl _, H, I.tok _, rfl, q⟩
      | ref a =>
        cases r1
        obtain ⟨e, xs, hq⟩ := hx
        subst e
        obtain ⟨its, rv, ⟨o, h1, h2, h3⟩, _⟩ := I.tuple hq
        rcases hT with rfl | rfl | rfl | rfl
        · exact call_isinstance_yes (Tx := "tuple") ⟨o, h1, h2⟩ F.isi_meta_tuple (by rw [isSubtype_type]; kernel_rfl) ⟨.bl _, H, I, rfl, q⟩
        · exact call_isinstance (isinstance_false_tuple (by decide) F.isi_meta_str (by rw [isSubtype_type]; kernel_rfl)) ⟨⟨o, h1, h2⟩, .bl _, H, I.tok _, rfl, q⟩
        · exact call_isinstance (isinstance_false_tuple (by decide) F.isi_meta_int (by rw [isSubtype_type]; kernel_rfl)) ⟨⟨o, h1, h2⟩, .bl _, H, I.tok _, rfl, q⟩
        · exact call_isinstance (isinstance_false_tuple (by decide) F.isi_meta_bool (by rw [isSubtype_type]; kernel_rfl)) ⟨⟨o, h1, h2⟩, .bl _, H, I.tok _, rfl, q⟩
      | _ => exact absurd hx id
end
/-! ### enumerate(tuple) -/
def IteT (K : PySem.W.Frag) (a : Addr) : It :=
  ⟨fun i H => ∃ (xs : List V) (x : V), SqT K H a xs ∧ xs[i]? = some x, fun i H v H' => ∃ T x, v = .ref T ∧ H T = none ∧ H' = upd H T (.tup [.int (i : Nat), x]) ∧ ∀ xs, SqT K H a xs → xs[i]? = some x, fun i H => ∃ xs : List V, SqT K H a xs ∧ xs.length ≤ i⟩
theorem iter_ne {h : Heap} {t c : Addr} {k : Nat} {ys : Array Value} (ct : h.IsTuple t ys) (ci : h.IsTupleIter c t k) : t ≠ c := fun e => by
  subst e
  obtain ⟨o, h1, h2, _⟩ := ct
  obtain ⟨o', k1, k2, _⟩ := ci
  rw [h1] at k1
  cases k1
  rw [h2] at k2
  injection k2 with k2
  exact absurd k2 (by decide)
theorem enum_ne {h : Heap} {e it t : Addr} {i : Int} {old : Value} {ys : Array Value} (he : IsEnum h e it i old) (ct : h.IsTuple t ys) : e ≠ t := fun q => by
  subst q
  obtain ⟨o, h1, h2, _⟩ := ct
  rw [he] at h1
  cases h1
  injection h2 with h2
  exact absurd h2 (by decide)
theorem turn_enumT {P : Program} {w : World} {K : PySem.W.Frag} {elts : List Expr} {kk : Nat} {tpos : Pos} (a e it : Addr) :
    Turn P w K (.Tuple elts kk tpos) (IteT K a) [e, it] e (fun i h => (∃ old, IsEnum h e it ((i : Nat) : Int) old) ∧ h.IsTupleIter it a i ∧ e ≠ it) where
  mem := by simp
  obj := fun i h st b hb => by
    obtain ⟨⟨old, he⟩, ⟨o, ho, hc, hd⟩, _⟩ := st
    have e' : b = e ∨ b = it := by simpa using hb
    rcases e' with z | z
    · rw [z]; exact ⟨_, he, fun v q => nomatch q⟩
    · rw [z]; exact ⟨o, ho, fun v q => by rw [hd] at q; cases q⟩
  keep := fun i h h' st k => let ⟨⟨old, he⟩, hi, hne⟩ := st; ⟨⟨old, k e (by simp) _ he⟩, hi.at fun o q => k it (by simp) o q, hne⟩
  item := by
    intro X hP hw hK hc i pins s σ H E I hf st hg
    subst hP hw hK
    obtain ⟨⟨old, he⟩, hit, hne⟩ := st
    obtain ⟨xs, x, hq, hx⟩ := hg
    obtain ⟨its, rv, p, hz⟩ := I.tuple hq
    obtain ⟨u, hu, ru⟩ := rv.get hx
    have hel : e < s.heap.objs.size := Heap.lt_size he
    have hil : it < s.heap.objs.size := by obtain ⟨_, q, _⟩ := hit; exact Heap.lt_size q
    have hlt : i < its.toArray.size := by
      have := (List.getElem?_eq_some_iff.mp hu).1
      simpa using this
    have nt : e ≠ a := enum_ne he p
    refine wpAny_pyNext_enum_itemD (ZT.draws (A := X.A.in1) (I.ok.hd hc) (iter_ne p hit) its.toArray) he ⟨hit, p⟩ hlt hne (by simp [hne, nt]) fun x' h' tk hx' ho st' hT hsz hk => ?_
    have ex : x' = u := by
      have e1 : its[i]? = some x' := by simpa using hx'
      rw [hu] at e1
      exact (Option.some.inj e1).symm
    subst ex
    refine ⟨_, rfl, wpAny_letOwnedTupleGo_enum (s := { s with heap := h', toks := tk + 1 }) ho fun h'' he' sb => ?_⟩
    have hT2 : h''.get? s.heap.objs.size = some { cls := .type "tuple", data := .seq #[.int i tk, x'] } := (sb.2 _ (Nat.ne_of_gt hel)).trans hT
    have new : ObjOk X.prog X.w (upd H s.heap.objs.size (.tup [.int (i : Nat), x])) h'' s.heap.objs.size (.tup [.int (i : Nat), x]) :=
      ⟨by show 2 ≤ sizeLine; decide, [.int i tk, x'], .cons ⟨_, rfl⟩ (.cons ru .nil), ⟨_, hT2, rfl, _, rfl⟩⟩
    have I1 : Inv X pins σ (upd H s.heap.objs.size (.tup [.int (i : Nat), x])) { s with heap := h'', toks := tk + 1 } :=
      I.turnedNew (ch := [e, it]) (fun b ob hb q => (sb.2 b (fun z => hb (by simp [z]))).trans (hk b ob (fun z => hb (by simp [z])) (fun z => hb (by simp [z])) q)) hf (Nat.le_refl _) new
    refine ⟨.ref s.heap.objs.size, _, I1, rfl, ⟨_, x, rfl, I.hok.fresh (Nat.le_refl _), rfl, fun ys hy => by rw [I.tuple_inj hy hq]; exact hx⟩, ⟨⟨x', ?_⟩, st'.1.at fun o q => (sb.2 it (Ne.symm hne)).trans q, hne⟩, fun b hb => ?_⟩
    · have e1 : ((i + 1 : Nat) : Int) = (i : Int) + 1 := by omega
      rw [e1]; exact he'
    · have hb' : b < s.heap.objs.size := by
        have e' : b = e ∨ b = it := by simpa using hb
        rcases e' with z | z
        · rw [z]; exact hel
        · rw [z]; exact hil
      rw [upd_ne (Nat.ne_of_lt hb')]
      exact (hf b hb).1
  done := by
    intro X hP hw hK hc i pins s σ H E I hf st hg
    subst hP hw hK
    obtain ⟨⟨old, he⟩, hit, hne⟩ := st
    obtain ⟨xs, hq, hx⟩ := hg
    obtain ⟨its, rv, p, hz⟩ := I.tuple hq
    obtain ⟨f0, f1, f2, f3, f4, f5⟩ := hf it (by simp)
    have hl := rv.length
    have hend : its.toArray[i]? = none := by simp; omega
    have hT : s.TypeIs (.ref e) "enumerate" := ⟨_, he, rfl⟩
    unfold pyNext
    refine wpAny_bind (wpAny_attempt (wpAny_callSpecial?_slot (name := Str.ofString "__next__") hT F.slot_enumerate_next (wpAny_call_entry F.slot_enumerate_next hT F.entry_enumerate_next ?_ (F.args_enumerate_next_1 _))))
    show wpAny _ _ (field (.ref e) 2 >>= _) _ _ _
    refine wpAny_bind (wpAny_field he rfl (x := .ref it) rfl ?_)
    refine wpAny_bind (ZT.next_end (A := X.A.in1) (I.ok.hd hc) hit p hend fun h' x he' hx' => ?_)
    obtain ⟨o, ho, hcl⟩ := hx'
    refine wpAny_bind (wpAny_isInstance (T := "StopIteration") (b := true) ⟨o, ho, hcl⟩ isSubtype_stop ?_)
    exact wpAny_pure ⟨rfl, I.turned (t' := s.toks) (fun b o hb q => he' b o hb q) f0 f1 f3 f4 f5⟩
  self := fun A i s Q E st h => let ⟨⟨_, he⟩, _⟩ := st; wpAny_pyIter_enum he h
def iEnumT (K : PySem.W.Frag) (ta : TA) : TI := fun σ H R => ta σ H fun vs H1 => ∃ a xs, vs = [.ref a] ∧ SqT K H1 a xs ∧ R (IteT K a) H1
theorem pi_enumT {X : Cx} {e : Expr} {ta : TA} {p pos tpos : Pos} {elts : List Expr} {kk : Nat} (hg : Gl X "enumerate") (hm : X.mg "enumerate" = none) (ha : PA X [e] ta) (hs : starEach [e] X.env = [(false, eval e X.env)] := by rfl) :
    PI X (.Tuple elts kk tpos) (.Call (.Name "enumerate" p) [e] [] pos) (iEnumT X.K ta) := by
  intro pins s σ H R I h
  refine Call_ (ld_blt I hg hm boot_enumerate (PyProof.Rows.callWith_type1 (thn (ha pos pins s σ H _ I h) fun us s1 ⟨vs, H1, I1, r1, q1⟩ => ?_) hs rfl))
  obtain ⟨a, xs, ex, hq, q⟩ := q1
  subst ex
  cases r1 with
  | cons r rr =>
    cases rr
    cases r
    obtain ⟨its, rv, p', hz⟩ := I1.tuple hq
    refine ZT.call_enum p' fun h' he hit hk => wpAny_pyIter_enum he ?_
    have I2 : Inv X pins σ H1 { s1 with heap := h' } := I1.kept (t' := s1.toks) hk
    refine ⟨s1.heap.objs.size + 1, [s1.heap.objs.size + 1, s1.heap.objs.size], _, _, H1, rfl, I2, turn_enumT a (s1.heap.objs.size + 1) s1.heap.objs.size, ⟨⟨.none, he⟩, hit, Nat.succ_ne_self _⟩, fun b hb => ?_, q⟩
    have e' : b = s1.heap.objs.size + 1 ∨ b = s1.heap.objs.size := by simpa using hb
    have hle : s1.heap.objs.size ≤ b := by
      rcases e' with z | z
      · rw [z]; exact Nat.le_add_right _ _
      · rw [z]; exact Nat.le_refl _
    exact I1.fpOk hle (I1.hok.fresh hle)
/-! ### zip(tuple, tuple), of one length -/
def ItzT (K : PySem.W.Frag) (a b : Addr) : It :=
  ⟨fun i H => ∃ (xs ys : List V) (x y : V), SqT K H a xs ∧ SqT K H b ys ∧ xs[i]? = some x ∧ ys[i]? = some y,
    fun i H v H' => ∃ T x y, v = .ref T ∧ H T = none ∧ H' = upd H T (.tup [x, y]) ∧ (∀ xs, SqT K H a xs → xs[i]? = some x) ∧ ∀ ys, SqT K H b ys → ys[i]? = some y,
    fun i H => ∃ xs : List V, SqT K H a xs ∧ xs.length ≤ i⟩
theorem turn_zipT {P : Program} {w : World} {K : PySem.W.Frag} {elts : List Expr} {kk : Nat} {tpos : Pos} {a b z U O c d : Addr} (D : ZipApart z U O c d a b) :
    Turn P w K (.Tuple elts kk tpos) (ItzT K a b) [z, U, O, c, d] z (fun i h => IsZip h z U O .none ∧ IsPair h U (.ref c) (.ref d) ∧ (∃ x y, IsPair h O x y) ∧ h.IsTupleIter c a i ∧ h.IsTupleIter d b i) where
  mem := by simp
  obj := fun i h st p hp => by
    obtain ⟨hz, hU, ⟨x, y, hO⟩, ⟨o1, e1, _, d1⟩, ⟨o2, e2, _, d2⟩⟩ := st
    have e' : p = z ∨ p = U ∨ p = O ∨ p = c ∨ p = d := by simpa using hp
    rcases e' with q | q | q | q | q
    · rw [q]; exact ⟨_, hz, fun v q => nomatch q⟩
    · rw [q]; exact ⟨_, hU, fun v q => nomatch q⟩
    · rw [q]; exact ⟨_, hO, fun v q => nomatch q⟩
    · rw [q]; exact ⟨o1, e1, fun v q => by rw [d1] at q; cases q⟩
    · rw [q]; exact ⟨o2, e2, fun v q => by rw [d2] at q; cases q⟩
  keep := fun i h h' st k => by
    obtain ⟨hz, hU, ⟨x, y, hO⟩, h1, h2⟩ := st
    exact ⟨k z (by simp) _ hz, k U (by simp) _ hU, ⟨x, y, k O (by simp) _ hO⟩, h1.at fun o q => k c (by simp) o q, h2.at fun o q => k d (by simp) o q⟩
  item := by
    intro X hP hw hK hc i pins s σ H E I hf st hg
    subst hP hw hK
    obtain ⟨hz, hU, ⟨x0, y0, hO⟩, h1, h2⟩ := st
    obtain ⟨xs, ys, x, y, hqx, hqy, hx, hy⟩ := hg
    obtain ⟨its, rv, p, _⟩ := I.tuple hqx
    obtain ⟨its2, rv2, p2, _⟩ := I.tuple hqy
    obtain ⟨u, hu, ru⟩ := rv.get hx
    obtain ⟨u2, hu2, ru2⟩ := rv2.get hy
    have hzl : z < s.heap.objs.size := Heap.lt_size hz
    refine ZT.pyNext_zip_item D hz hU hO h1 h2 p p2 (x := u) (y := u2) (by simpa using hu) (by simpa using hu2) fun h' z' O' h1' h2' hT hsz hk => ?_
    refine ⟨_, rfl, wpAny_letOwnedTupleGo_zip (s := { s with heap := h' }) z' fun h'' z'' sb => ?_⟩
    have hT2 : h''.get? s.heap.objs.size = some { cls := .type "tuple", data := .seq #[u, u2] } := (sb.2 _ (Nat.ne_of_gt hzl)).trans hT
    have new : ObjOk X.prog X.w (upd H s.heap.objs.size (.tup [x, y])) h'' s.heap.objs.size (.tup [x, y]) :=
      ⟨by show 2 ≤ sizeLine; decide, [u, u2], .cons ru (.cons ru2 .nil), ⟨_, hT2, rfl, _, rfl⟩⟩
    have I1 : Inv X pins σ (upd H s.heap.objs.size (.tup [x, y])) { s with heap := h'' } :=
      I.turnedNew (t' := s.toks) (ch := [z, U, O, c, d]) (fun p o hb q => (sb.2 p (fun q' => hb (by simp [q']))).trans (hk p o (fun q' => hb (by simp [q'])) (fun q' => hb (by simp [q'])) (fun q' => hb (by simp [q'])) (fun q' => hb (by simp [q'])) q)) hf (Nat.le_refl _) new
    refine ⟨.ref s.heap.objs.size, _, I1, rfl, ⟨_, x, y, rfl, I.hok.fresh (Nat.le_refl _), rfl, fun l hl => by rw [I.tuple_inj hl hqx]; exact hx, fun l hl => by rw [I.tuple_inj hl hqy]; exact hy⟩, ⟨z'', ?_, ⟨u, u2, ?_⟩, ?_, ?_⟩, fun p hpm => ?_⟩
    · exact (sb.2 _ D.TIz).trans (hk _ _ D.TIz D.TITO D.TIi1 D.TIi2 hU)
    · exact (sb.2 _ D.TOz).trans O'
    · exact h1'.at fun o q => (sb.2 _ D.i1z).trans q
    · exact h2'.at fun o q => (sb.2 _ D.i2z).trans q
    · have hlt : p < s.heap.objs.size := by
        have e' : p = z ∨ p = U ∨ p = O ∨ p = c ∨ p = d := by simpa using hpm
        rcases e' with q | q | q | q | q
        · rw [q]; exact hzl
        · rw [q]; exact Heap.lt_size hU
        · rw [q]; exact Heap.lt_size hO
        · rw [q]; obtain ⟨_, e1, _⟩ := h1; exact Heap.lt_size e1
        · rw [q]; obtain ⟨_, e2, _⟩ := h2; exact Heap.lt_size e2
      rw [upd_ne (Nat.ne_of_lt hlt)]
      exact (hf p hpm).1
  done := by
    intro X hP hw hK hc i pins s σ H E I hf st hg
    subst hP hw hK
    obtain ⟨hz, hU, ⟨x0, y0, hO⟩, h1, h2⟩ := st
    obtain ⟨xs, hqx, hend⟩ := hg
    obtain ⟨its, rv, p, _⟩ := I.tuple hqx
    have l1 := rv.length
    exact ZT.pyNext_zip_end (j := i) (ys := #[]) (I.ok.hd hc) D hz hU hO h1 p (by simp; omega) fun h' hk => ⟨rfl, I.turnedL (t' := s.toks) (ch := [z, U, O, c, d]) (fun p o hb q =>
      hk p o (fun q' => hb (by simp [q'])) (fun q' => hb (by simp [q'])) q) hf⟩
  self := fun A i s Q E st h => wpAny_pyIter_zip st.1 h
def iZipT (K : PySem.W.Frag) (ta : TA) : TI := fun σ H R => ta σ H fun vs H1 => ∃ a b xs ys, vs = [.ref a, .ref b] ∧ SqT K H1 a xs ∧ SqT K H1 b ys ∧ R (ItzT K a b) H1
theorem pi_zipT {X : Cx} {e e2 : Expr} {ta : TA} {p pos tpos : Pos} {elts : List Expr} {kk : Nat} (hg : Gl X "zip") (hm : X.mg "zip" = none) (ha : PA X [e, e2] ta)
    (hs : starEach [e, e2] X.env = (false, eval e X.env) :: starEach [e2] X.env := by rfl) (hpl : (backTo pos (starEach [e2] X.env)).any (·.1) = false := by rfl) :
    PI X (.Tuple elts kk tpos) (.Call (.Name "zip" p) [e, e2] [] pos) (iZipT X.K ta) := by
  intro pins s σ H R I h
  refine Call_ (ld_blt I hg hm boot_zip5 (PyProof.Rows.callWith_type1 (thn (ha pos pins s σ H _ I h) fun us s1 ⟨vs, H1, I1, r1, q1⟩ => ?_) hs hpl))
  obtain ⟨a, b, xs, ys, ex, hqx, hqy, q⟩ := q1
  subst ex
  cases r1 with
  | cons r rr =>
    cases rr with
    | cons r' rr =>
      cases rr
      cases r
      cases r'
      obtain ⟨its, rv, p1, _⟩ := I1.tuple hqx
      obtain ⟨its2, rv2, p2, _⟩ := I1.tuple hqy
      have la : a < s1.heap.objs.size := p1.lt
      have lb : b < s1.heap.objs.size := p2.lt
      refine ZT.call_zip p1 p2 fun h' hz hU hO h1 h2 hk => wpAny_pyIter_zip hz ?_
      have I2 : Inv X pins σ H1 { s1 with heap := h' } := I1.kept (t' := s1.toks) hk
      refine ⟨s1.heap.objs.size + 4, [s1.heap.objs.size + 4, s1.heap.objs.size + 2, s1.heap.objs.size + 3, s1.heap.objs.size, s1.heap.objs.size + 1], _, _, H1, rfl, I2, turn_zipT (PySem.W.ktu_apart s1.heap.objs.size a b la lb), ⟨hz, hU, ⟨_, _, hO⟩, h1, h2⟩, fun p hpm => ?_, q⟩
      have e' : p = s1.heap.objs.size + 4 ∨ p = s1.heap.objs.size + 2 ∨ p = s1.heap.objs.size + 3 ∨ p = s1.heap.objs.size ∨ p = s1.heap.objs.size + 1 := by simpa using hpm
      have hle : s1.heap.objs.size ≤ p := by
        rcases e' with z | z | z | z | z
        · rw [z]; exact Nat.le_add_right _ _
        · rw [z]; exact Nat.le_add_right _ _
        · rw [z]; exact Nat.le_add_right _ _
        · rw [z]; exact Nat.le_refl _
        · rw [z]; exact Nat.le_add_right _ _
      exact I1.fpOk hle (I1.hok.fresh hle)
end L2
namespace L2
open PySem
theorem boot_isinstance : bootBuiltins "isinstance" = some (.builtin "isinstance") := boot_isi
theorem boot_len : bootBuiltins "len" = some (.builtin "len") := PySem.boot_len
theorem boot_sum : bootBuiltins "sum" = some (.builtin "sum") := by decide +kernel
theorem boot_min : bootBuiltins "min" = some (.builtin "min") := by decide +kernel
theorem boot_sorted : bootBuiltins "sorted" = some (.builtin "sorted") := by decide +kernel
theorem boot_all : bootBuiltins "all" = some (.builtin "all") := by decide +kernel
theorem boot_list : bootBuiltins "list" = some (.type "list") := by decide +kernel
end L2

/-! Words of small letters. -/
namespace Wd
open PySem L2
abbrev lett : Str := "abcdefghijklmnopqrstuvwxyz"
abbrev own12 : List Str := ["web", "put", "take", "tie", "untie", "show", "first", "next", "all", "count", "sizes", "biggest"]
abbrev own4 : List Str := ["fill", "tied", "apart", "cover"]
def own16 : List Str := own12 ++ own4
/-- small letters alone -/
def Lt (x : Str) : Prop := ∀ c ∈ x.cps.toList, 97 ≤ c ∧ c ≤ 122
structure Word (x : Str) : Prop where
  lo : 1 ≤ x.length
  hi : x.length ≤ 8
  lt : Lt x
theorem len_tl (x : Str) : x.length = x.cps.toList.length := rfl
theorem lett_all : ∀ k : Nat, k < 26 → (lett.cps.toList)[k]? = some (97 + k) := by decide +kernel
theorem lett_at {r : Int} (h0 : 0 ≤ r) (h1 : r < 26) : atI lett.cps.toList r = some (97 + r.toNat) := by
  obtain ⟨k, rfl⟩ := Int.eq_ofNat_of_zero_le h0
  rw [Int.toNat_natCast]
  exact atI_nat (lett_all k (by omega))
theorem lett_len : lett.length ≤ sizeLine := by decide +kernel
theorem sign_lt {k : Nat} (h : k < 26) : Lt ⟨#[97 + k]⟩ := fun c hc => by
  have e : c = 97 + k := by simpa using hc
  omega
theorem sign_len (k : Nat) : (⟨#[k]⟩ : Str).length = 1 := rfl
theorem sign_word {k : Nat} (h : k < 26) : Word ⟨#[97 + k]⟩ := ⟨Nat.le_refl _, by rw [sign_len]; decide, sign_lt h⟩
theorem app_lt {x y : Str} (hx : Lt x) (hy : Lt y) : Lt (x ++ y) := fun c hc => by
  have e : (x ++ y).cps.toList = x.cps.toList ++ y.cps.toList := by
    show (x.cps ++ y.cps).toList = _
    rw [Array.toList_append]
  rw [e] at hc
  rcases List.mem_append.mp hc with h | h
  · exact hx c h
  · exact hy c h
theorem app_len (x y : Str) : (x ++ y).length = x.length + y.length := by
  show (x.cps ++ y.cps).size = x.cps.size + y.cps.size
  rw [Array.size_append]
theorem cut_lt {x : Str} (hx : Lt x) (lo hi : Option Int) : Lt (cutS x lo hi) := fun c hc => by
  have e : (cutS x lo hi).cps.toList = (x.cps.toList.drop (HT.sIx x.length 0 lo)).take (HT.sIx x.length x.length hi - HT.sIx x.length 0 lo) := by
    unfold cutS
    simp
  rw [e] at hc
  exact hx c (List.mem_of_mem_drop (List.mem_of_mem_take hc))
theorem cut_len (x : Str) (hi : Option Int) : (cutS x none hi).length = HT.sIx x.length x.length hi := by
  have h := HT.sIx_le x.length x.length (Nat.le_refl _) hi
  unfold cutS
  show (((x.cps.toList.drop (HT.sIx x.length 0 none)).take (HT.sIx x.length x.length hi - HT.sIx x.length 0 none)).toArray).size = _
  rw [List.size_toArray, List.length_take, List.length_drop, Array.length_toList, HT.sIx_none]
  show min (HT.sIx x.length x.length hi - 0) (x.length - 0) = _
  omega
theorem cut8 (x : Str) : (cutS x none (some 8)).length = min 8 x.length := by
  rw [cut_len]
  exact HT.sIx_nat x.length x.length 8
theorem cut1 (x : Str) : (cutS x none (some (-1))).length = x.length - 1 := by
  rw [cut_len]
  have e : HT.sIx x.length x.length (some (-1)) = ((-1 : Int) + (x.length : Int)).toNat := by
    unfold HT.sIx
    dsimp only
    rw [if_pos (by decide)]
  rw [e]
  omega
theorem cut8_word {x : Str} (h : 1 ≤ x.length) (hx : Lt x) : Word (cutS x none (some 8)) := ⟨by rw [cut8]; omega, by rw [cut8]; omega, cut_lt hx _ _⟩
theorem own_ok : ∀ x ∈ own16, 3 ≤ x.length ∧ x.length ≤ 7 ∧ ∀ c ∈ x.cps.toList, 97 ≤ c ∧ c ≤ 122 := by decide +kernel
theorem own_len : own16.length = 16 := by decide
/-- signs joined without a part between -/
theorem join_word {ys : List Str} (h1 : 1 ≤ ys.length) (h8 : ys.length ≤ 8) (hy : ∀ y ∈ ys, ∃ k, k < 26 ∧ y = ⟨#[97 + k]⟩) : Word (Txt.join ("" : Str) ys) := by
  have key : ∀ zs : List Str, (∀ y ∈ zs, ∃ k, k < 26 ∧ y = (⟨#[97 + k]⟩ : Str)) → (TL.joinL [] (zs.map TL.tl)).length = zs.length ∧ ∀ c ∈ TL.joinL [] (zs.map TL.tl), 97 ≤ c ∧ c ≤ 122 := by
    intro zs
    induction zs with
    | nil => exact fun _ => ⟨rfl, fun c hc => by cases hc⟩
    | cons x r ih =>
      intro h
      obtain ⟨k, hk, rfl⟩ := h x (List.mem_cons_self ..)
      have ih' := ih fun y hy => h y (List.mem_cons_of_mem _ hy)
      cases r with
      | nil =>
        refine ⟨rfl, fun c hc => ?_⟩
        have e : c = 97 + k := by simpa [TL.joinL, TL.tl] using hc
        omega
      | cons y r =>
        have e : TL.joinL [] (((⟨#[97 + k]⟩ : Str) :: y :: r).map TL.tl) = (97 + k) :: TL.joinL [] ((y :: r).map TL.tl) := rfl
        rw [e]
        refine ⟨by rw [List.length_cons, ih'.1]; rfl, fun c hc => ?_⟩
        rcases List.mem_cons.mp hc with rfl | hc
        · omega
        · exact ih'.2 c hc
  have e : (Txt.join ("" : Str) ys).cps.toList = TL.joinL [] (ys.map TL.tl) := by
    rw [TL.join_eq]
    exact TL.tl_join ("" : Str) ys
  obtain ⟨k1, k2⟩ := key ys hy
  exact ⟨by rw [len_tl, e, k1]; exact h1, by rw [len_tl, e, k1]; exact h8, fun c hc => k2 c (by rw [← e]; exact hc)⟩
/-- the words that are tried in turn -/
def turnW (t : Nat) : Str := (⟨#[97 + t % 26]⟩ : Str) ++ (⟨#[97 + t / 26]⟩ : Str)
theorem turn_word {t : Nat} (h : t < 676) : Word (turnW t) := ⟨by unfold turnW; rw [app_len, sign_len, sign_len]; decide, by unfold turnW; rw [app_len, sign_len, sign_len]; decide, app_lt (sign_lt (Nat.mod_lt _ (by decide))) (sign_lt (by omega))⟩
theorem turn_inj {s t : Nat} (h : turnW s = turnW t) : s = t := by
  have e : (turnW s).cps = (turnW t).cps := by rw [h]
  have e2 : (#[97 + s % 26, 97 + s / 26] : Array Nat) = #[97 + t % 26, 97 + t / 26] := e
  have e3 : [97 + s % 26, 97 + s / 26] = [97 + t % 26, 97 + t / 26] := by simpa using congrArg Array.toList e2
  injection e3 with a b
  injection b with b _
  omega
/-- a list without doubles within another is not longer -/
theorem nodup_le {α : Type} [DecidableEq α] : ∀ {xs ys : List α}, xs.Nodup → (∀ x ∈ xs, x ∈ ys) → xs.length ≤ ys.length
  | [], _, _, _ => Nat.zero_le _
  | x :: r, ys, h, hs => by
    have h1 := List.nodup_cons.mp h
    have hx : x ∈ ys := hs x (List.mem_cons_self ..)
    have ih := nodup_le (ys := ys.erase x) h1.2 fun y hy => by
      have ne : y ≠ x := fun e => h1.1 (e ▸ hy)
      exact (List.mem_erase_of_ne ne).mpr (hs y (List.mem_cons_of_mem _ hy))
    rw [List.length_erase_of_mem hx] at ih
    have hl : 0 < ys.length := List.length_pos_of_mem hx
    rw [List.length_cons]
    omega
/-- so many tries fail at most -/
theorem turns_le {t : Nat} {ys : List Str} (h : ∀ s, s < t → turnW s ∈ ys) : t ≤ ys.length := by
  have nd : ((List.range t).map turnW).Nodup := by
    rw [List.nodup_iff_pairwise_ne, List.pairwise_map]
    exact List.Pairwise.imp (fun hne e => hne (turn_inj e)) (List.nodup_iff_pairwise_ne.mp List.nodup_range)
  have := nodup_le (ys := ys) nd fun x hx => by
    obtain ⟨s, hs, rfl⟩ := List.mem_map.mp hx
    exact h s (List.mem_range.mp hs)
  rw [List.length_map, List.length_range] at this
  exact this
end Wd

/-! The rules once more, behind structures: what a rule speaks of is not opened while a long term is read. -/
namespace L2
open PySem PySem.Spec PyProof.Rows
structure SE (X : Cx) (e : Expr) (t : TE) : Prop where
  o : PE X e t
structure SA (X : Cx) (es : List Expr) (t : TA) : Prop where
  o : PA X es t
structure ST (X : Cx) (e : Expr) (t : TT) : Prop where
  o : PT X e t
structure SW (X : Cx) (e : Expr) (t : TT) : Prop where
  o : PW X e t
structure SS1 (X : Cx) (st : Stmt) (t : TS) : Prop where
  o : PS X st t
structure SB (X : Cx) (sts : List Stmt) (t : TS) : Prop where
  o : PSs X sts t
structure SG (X : Cx) (tg : Expr) (g : TG) : Prop where
  o : PG X tg g
structure SH (X : Cx) (ts : List Expr) (g : TGs) : Prop where
  o : PGs X ts g
structure SI (X : Cx) (tg it : Expr) (wi : TI) : Prop where
  o : PI X tg it wi
structure SU (X : Cx) (ifs : List Expr) (t : TT) : Prop where
  o : PTs X ifs t
structure SO (X : Cx) (e : Option Expr) (t : TO) : Prop where
  o : PO X e t
section
variable {X : Cx} {a b e o i : Expr} {ta tb te to ti : TE} {pos p p2 apos tpos : Pos} {t u : TS} {tA tB' tt : TT} {st : Stmt} {rest : List Stmt} {es : List Expr} {tas : TA}
theorem SB.use {D : Ends} {σ : St} {H : Hp} (h : SB X rest t) (q : t D σ H) : ∃ t, PSs X rest t ∧ t D σ H := ⟨t, h.o, q⟩
theorem bcons (h1 : SS1 X st t) (h2 : SB X rest u) : SB X (st :: rest) (tSeq t u) := ⟨pss_cons h1.o h2.o⟩
theorem bone (h1 : SS1 X st t) : SB X [st] t := ⟨pss_one h1.o⟩
theorem bnil : SB X [] tNext := ⟨pss_nil⟩
theorem bset {n : Nat} {x : Str} (hN : X.N.Nodup) (hi : X.N[n]? = some x) (hx : Loc X.env.scope x) (he : SE X e te) (hs : swapsWith e (some (.Name x p)) pos.line X.env = pure false) (hf : X.fn x = true ∨ X.env.scope.names.lookup x = some .local) : SS1 X (.Assign [.Name x p] e pos) (tAsg te (gName n)) := ⟨ps_set hN hi hx he.o hs hf⟩
theorem basg {tg : Expr} {g : TG} (he : SE X e te) (hg : SG X tg g) (hs : swapsWithSole [tg] e pos.line X.env = pure false) (hw : swappedStores [tg] e X.env = pure none) (h1 : (assignEach [tg] X.env).map (·.2) = [assign tg X.env]) : SS1 X (.Assign [tg] e pos) (tAsg te g) := ⟨ps_asg he.o hg.o hs hw h1⟩
theorem bwhile {body : List Stmt} {tb : TS} (hp : PassesOwn (model X.prog X.w) X.A X.env X.xe) (hc : ST X a tA) (hb : SB X body tb) : SS1 X (.While a body [] pos) (tWhile tA tb) := ⟨ps_while hp hc.o hb.o⟩
theorem bfor {tg it : Expr} {body : List Stmt} {wi : TI} {g : TG} {tb : TS} (hp : PassesOwn (model X.prog X.w) X.A X.env X.xe) (hc : X.calm = true) (hi : SI X tg it wi) (hg : SG X tg g) (hb : SB X body tb) (hs : ∀ x, foldedSetIterable it X.env x = pure x) : SS1 X (.For tg it body [] pos) (tFor wi g tb) := ⟨ps_for hp hc hi.o hg.o hb.o hs⟩
theorem bifs {xs ys : List Stmt} (hc : ST X a tA) (ha : SB X xs t) (hb : SB X ys u) : SS1 X (.If a xs ys pos) (tIfS tA t u) := ⟨ps_if hc.o ha.o hb.o⟩
theorem bret (he : SE X e te) : SS1 X (.Return (some e) pos) (tRet te) := ⟨ps_ret he.o⟩
theorem bexpr (he : SE X e te) (hs : swapsWith e none pos.line X.env = pure false) : SS1 X (.Expr e pos) (tDrop te) := ⟨ps_expr he.o hs⟩
theorem eint {i : Int} {j : Nat} : SE X (.Constant (.int i) j pos) (tC (.int i)) := ⟨pe_int⟩
theorem ebl {b : Bool} {j : Nat} : SE X (.Constant (.bool b) j pos) (tC (.bl b)) := ⟨pe_bl⟩
theorem estr {x : Str} {j : Nat} : SE X (.Constant (.str x) j pos) (tC (.str x)) := ⟨pe_str⟩
theorem ev (n : Nat) {x : Str} (hN : X.N[n]? = some x) (hv : Vis X.env.scope x) (hd : (x == ("__debug__" : Str)) = false) (hcd : (x == ("__classdict__" : Str)) = false) : SE X (.Name x pos) (tVar n) := ⟨pv n hN hv hd hcd⟩
theorem eop {op : Operator} {r : R2} (ho : OpR X (binaryOp op) r) (ha : SE X a ta) (hb : SE X b tb) : SE X (.BinOp a op b pos) (tOp r ta tb) := ⟨pe_op ho ha.o hb.o⟩
theorem eun {op : UnaryOp} {r : V → Hp → VK → Prop} (ho : UnR X (unaryOp op) r) (ha : SE X a ta) : SE X (.UnaryOp op a pos) (tUn r ta) := ⟨pe_un ho ha.o⟩
theorem anil : SA X [] tNil := ⟨pa_nil⟩
theorem acons (ha : SE X e te) (hr : SA X es tas) (hs : starEach (e :: es) X.env = (false, eval e X.env) :: starEach es X.env) : SA X (e :: es) (tCons te tas) := ⟨pa_cons ha.o hr.o hs⟩
theorem elst (h : SA X es tas) : SE X (.List es pos) (tLst tas) := ⟨pe_lst h.o⟩
theorem etup {k : Nat} (h : SA X es tas) : SE X (.Tuple es k pos) (tTup tas) := ⟨pe_tup h.o⟩
theorem eix {r : R2} (hr : IxR X r) (ha : SE X a ta) (hb : SE X b tb) (hs : PlainIx b) : SE X (.Subscript a b pos) (tOp r ta tb) := ⟨pe_ix hr ha.o hb.o hs⟩
theorem onone : SO X none tNoPart := ⟨po_none⟩
theorem osome (h : SE X e te) : SO X (some e) (tPart te) := ⟨po_some h.o⟩
theorem eslice {lo hi : Option Expr} {tl th : TO} {r : V → Option Int → Option Int → Hp → VK → Prop} (hr : SlR X r) (he : SE X e te) (hl : SO X lo tl) (hu : SO X hi th) : SE X (.Subscript e (.Slice lo hi none p2) pos) (tSl r te tl th) := ⟨pe_slice hr he.o hl.o hu.o⟩
theorem ecallB {x : Str} {id : String} {r : List V → Hp → VK → Prop} (hc : CallR X (.builtin id) r) (hg : Gl X x) (hm : X.mg x = none) (hv : bootBuiltins x = some (.builtin id)) (ha : SA X (e :: es) tas) (hn : x ≠ "__name__") (hdb : (x == ("__debug__" : Str)) = false)
    (he : starEach (e :: es) X.env = (false, eval e X.env) :: starEach es X.env) (hpl : (backTo pos (starEach es X.env)).any (·.1) = false) : SE X (.Call (.Name x p) (e :: es) [] pos) (tCB r tas) := ⟨pe_callB hc hg hm hv ha.o hn hdb he hpl⟩
theorem ecallT {x : Str} {T : String} {r : List V → Hp → VK → Prop} (hc : CallR X (.type T) r) (hg : Gl X x) (hm : X.mg x = none) (hv : bootBuiltins x = some (.type T)) (ha : SA X (e :: es) tas) (hn : x ≠ "__name__") (hdb : (x == ("__debug__" : Str)) = false)
    (he : starEach (e :: es) X.env = (false, eval e X.env) :: starEach es X.env) (hpl : (backTo pos (starEach es X.env)).any (·.1) = false) : SE X (.Call (.Name x p) (e :: es) [] pos) (tCB r tas) := ⟨pe_callTy hc hg hm hv ha.o hn hdb he hpl⟩
theorem ecall {x : Str} {CX : CXT} {k : Nat} {f : Addr} {fd : FuncData} {ps : List Str} {sp : Sp} {dvs : List V} {ds : List Value} {E : XK} (F : FnOk X.prog X.w X.K X.mg X.base CX k f fd ps sp) (hr : Room k X.A) (hg : Gl X x) (hm : X.mg x = some (.ref f)) (hk : PySem.W.keepIn X.K (.ref f) = true) (hb : Binds X.K fd ps ds) (hd : Vals dvs ds) (hx : Passes CX X E)
    (ha : SA X (e :: es) tas) (hdb : (x == ("__debug__" : Str)) = false) (he : starEach (e :: es) X.env = (false, eval e X.env) :: starEach es X.env) (hpl : (backTo pos (starEach es X.env)).any (·.1) = false) : SE X (.Call (.Name x p) (e :: es) [] pos) (tCall sp dvs E tas) := ⟨pe_call F hr hg hm hk hb hd hx ha.o hdb he hpl⟩
theorem ecmp {op : CmpOp} {r : R2} (ho : OpR X (compareOp op) r) (ha : SE X a ta) (hb : SE X b tb) (hm : behindInMarks op b = false) : SE X (.Compare a [op] [b] pos) (tOp r ta tb) := ⟨pe_cmpR ho ha.o hb.o hm⟩
theorem ebltn {x : Str} {v : V} {u : Value} (hg : Gl X x) (hm : X.mg x = none) (hv : bootBuiltins x = some u) (r : RelV v u) (hn : x ≠ "__name__") (hd : (x == ("__debug__" : Str)) = false) : SE X (.Name x pos) (tC v) := ⟨pe_bltn hg hm hv r hn hd⟩
theorem eand {es : List Expr} (ha : SE X a ta) (hb : SE X (.BoolOp .And (b :: es) pos) tb) : SE X (.BoolOp .And (a :: b :: es) pos) (tAndV ta tb) := ⟨pe_and ha.o hb.o⟩
theorem eone {op : BoolOp} (h : SE X a ta) : SE X (.BoolOp op [a] pos) ta := ⟨pe_one h.o⟩
theorem enot (h : SE X a ta) : SE X (.UnaryOp .Not a pos) (tNotV ta) := ⟨pe_not h.o⟩
theorem eif (hc : ST X e tA) (ha : SE X a ta) (hb : SE X b tb) : SE X (.IfExp e a b pos) (tIf tA ta tb) := ⟨pe_ifExp hc.o ha.o hb.o⟩
theorem ejoin (ho : SE X o to) (he : SE X e te) (hs : starEach [e] X.env = [(false, eval e X.env)]) (hbase : attributeBase o "join" X.env (eval o X.env) = eval o X.env) (hline : (apos.endLine == pos.line) = true) :
    SE X (.Call (.Attribute o "join" apos) [e] [] pos) (tM1 (fun x xs H Q => ∃ a p, ∃ ys : List Str, x = .str a ∧ xs = [.ref p] ∧ (SqL X.K H p (ys.map V.str) ∨ SqT X.K H p (ys.map V.str)) ∧ (ys.map (·.length)).sum + ys.length * a.length ≤ 16777216 ∧ Q (.str (Txt.join a ys)) H) to te) := ⟨pe_join ho.o he.o hs hbase hline⟩
theorem ebm {name : Str} {T id : String} {r : V → List V → Hp → VK → Prop} (pa : PlainAttrs T) (slot : Slot T name id) (hty : typeOf (.builtin id) = pure (.type "method_descriptor")) (hm : MtR X id r) (ho : SE X o to) (ha : SA X (e :: es) tas)
    (hbase : attributeBase o name X.env (eval o X.env) = eval o X.env)
    (hfew : ((backTo pos (starEach (e :: es) X.env)).all (fun x => !x.1) && (backToKw pos (keywordEach [] X.env)).all (fun x => x.1.isSome) && decide ((e :: es).length + ([] : List Keyword).length + (if ([] : List Keyword).isEmpty then 0 else 1) < 30)) = true)
    (hline : (apos.endLine == pos.line) = true) (hs : starEach (e :: es) X.env = (false, eval e X.env) :: starEach es X.env) (hplain : (backTo pos (starEach es X.env)).any (·.1) = false) : SE X (.Call (.Attribute o name apos) (e :: es) [] pos) (tBM X.K T r to tas) := ⟨pe_bm pa slot hty hm ho.o ha.o hbase hfew hline hs hplain⟩
theorem elc {elt tg it : Expr} {ifs : List Expr} {scope : Scope} {own : List (Str × Nat)} {wi : TI} {g : TG} (hc : X.calm = true) (hN : X.N.Nodup) (hi : SI X tg it wi) (ok : BlkOk X.N X.env.scope scope own)
    (hg : ∀ (s : Shared) (H : Hp) (C : Addr) (cl : List (Str × Addr)) (fp : List Addr), SG (X.blk s H scope (compEnvC scope cl C X.env) fp) tg g) (ht : ∀ (s : Shared) (H : Hp) (C : Addr) (cl : List (Str × Addr)) (fp : List Addr), SU (X.blk s H scope (compEnvC scope cl C X.env) fp) ifs tt)
    (he : ∀ (s : Shared) (H : Hp) (C : Addr) (cl : List (Str × Addr)) (fp : List Addr), SE (X.blk s H scope (compEnvC scope cl C X.env) fp) elt te) (hs : ∀ x, foldedSetIterable it X.env x = pure x) : SE X (.ListComp elt [⟨tg, it, ifs, 0⟩] scope pos) (tLc wi g tt te (own.map (·.2))) :=
  ⟨pe_lc hc hN hi.o ok (fun s H C cl fp => (hg s H C cl fp).o) (fun s H C cl fp => (ht s H C cl fp).o) (fun s H C cl fp => (he s H C cl fp).o) hs⟩
theorem elc2 {elt tg it tg1 it1 : Expr} {ifs ifs1 : List Expr} {scope : Scope} {own : List (Str × Nat)} {vs1 : List Nat} {wi wi1 : TI} {g g1 : TG} {tt1 : TT} (hc : X.calm = true) (hN : X.N.Nodup) (hi : SI X tg it wi) (ok : BlkOk X.N X.env.scope scope own) (hv : ∀ i ∈ vs1, i ∈ own.map (·.2))
    (hg : ∀ (s : Shared) (H : Hp) (C : Addr) (cl : List (Str × Addr)) (fp : List Addr), SG (X.blk s H scope (compEnvC scope cl C X.env) fp) tg g) (ht : ∀ (s : Shared) (H : Hp) (C : Addr) (cl : List (Str × Addr)) (fp : List Addr), SU (X.blk s H scope (compEnvC scope cl C X.env) fp) ifs tt)
    (hi1 : ∀ (s : Shared) (H : Hp) (C : Addr) (cl : List (Str × Addr)) (fp : List Addr), SI (X.blk s H scope (compEnvC scope cl C X.env) fp) tg1 it1 wi1)
    (hg1 : ∀ (s : Shared) (H : Hp) (C : Addr) (cl : List (Str × Addr)) (fp : List Addr), SG (X.blk s H scope (compEnvC scope cl C X.env) fp) tg1 g1) (ht1 : ∀ (s : Shared) (H : Hp) (C : Addr) (cl : List (Str × Addr)) (fp : List Addr), SU (X.blk s H scope (compEnvC scope cl C X.env) fp) ifs1 tt1)
    (he : ∀ (s : Shared) (H : Hp) (C : Addr) (cl : List (Str × Addr)) (fp : List Addr), SE (X.blk s H scope (compEnvC scope cl C X.env) fp) elt te) (hs : ∀ x, foldedSetIterable it X.env x = pure x) (hs1 : ∀ env x, foldedSetIterable it1 env x = pure x) :
    SE X (.ListComp elt [⟨tg, it, ifs, 0⟩, ⟨tg1, it1, ifs1, 0⟩] scope pos) (tLc2 wi g tt wi1 g1 tt1 te (own.map (·.2)) vs1) :=
  ⟨pe_lc2 hc hN hi.o ok hv (fun s H C cl fp => (hg s H C cl fp).o) (fun s H C cl fp => (ht s H C cl fp).o) (fun s H C cl fp => (hi1 s H C cl fp).o) (fun s H C cl fp => (hg1 s H C cl fp).o) (fun s H C cl fp => (ht1 s H C cl fp).o) (fun s H C cl fp => (he s H C cl fp).o) hs hs1⟩
theorem tcmp {op : CmpOp} {r : R2} (ho : OpR X (compareOp op) r) (ha : SE X a ta) (hb : SE X b tb) (hm : behindInMarks op b = false) : ST X (.Compare a [op] [b] pos) (tTest (tOp r ta tb)) := ⟨pt_cmpR ho ha.o hb.o hm⟩
theorem tval (h : SE X e te) (he : ∀ whole, isTrue e X.env whole = (do let v ← whole; standAt e.pos; holding [v] (truthy v))) : ST X e (tB te) := ⟨pt_val h.o he⟩
theorem ttruth (h : SE X e te) (he : ∀ whole, isTrue e X.env whole = (do let v ← whole; standAt e.pos; holding [v] (truthy v))) : ST X e (fun σ H Q => te σ H fun x H' => ∃ k, TruV X.K x H' k ∧ Q k H') := ⟨pt_truth h.o he⟩
theorem tnot (h : ST X a tA) : ST X (.UnaryOp .Not a pos) (tNot tA) := ⟨pt_not h.o⟩
theorem tw (h : SW X e tA) : ST X e tA := ⟨h.o.pt⟩
theorem wor {es : List Expr} (ha : ST X a tA) (hb : SW X (.BoolOp .Or (b :: es) pos) tB') : SW X (.BoolOp .Or (a :: b :: es) pos) (tOr tA tB') := ⟨pw_or ha.o hb.o⟩
theorem wor1 (ha : ST X a tA) : SW X (.BoolOp .Or [a] pos) tA := ⟨pw_or1 ha.o⟩
theorem wand {es : List Expr} (ha : ST X a tA) (hb : SW X (.BoolOp .And (b :: es) pos) tB') : SW X (.BoolOp .And (a :: b :: es) pos) (tAnd tA tB') := ⟨pw_and ha.o hb.o⟩
theorem wand1 (ha : ST X a tA) : SW X (.BoolOp .And [a] pos) tA := ⟨pw_and1 ha.o⟩
theorem gname {n : Nat} {x : Str} (hN : X.N.Nodup) (hi : X.N[n]? = some x) (hx : Loc X.env.scope x) (hf : X.fn x = true ∨ X.env.scope.names.lookup x = some .local) : SG X (.Name x pos) (gName n) := ⟨pg_name hN hi hx hf⟩
theorem gtup {k n : Nat} {g : TGs} (hc : X.calm = true) (h : SH X es g) (hn : (assignEach es X.env).length = n) (hst : (assignEach es X.env).findIdx? (·.1) = none) : SG X (.Tuple es k pos) (gTup X.K n g) := ⟨pg_tup hc h.o hn hst⟩
theorem gsnil : SH X [] gNil := ⟨pgs_nil⟩
theorem gscons {g : TG} {gs : TGs} (h1 : SG X e g) (h2 : SH X es gs) (hs : (assignEach (e :: es) X.env).map (·.2) = assign e X.env :: (assignEach es X.env).map (·.2)) : SH X (e :: es) (gCons g gs) := ⟨pgs_cons h1.o h2.o hs⟩
theorem gsub {g : TSet} (ho : SE X o to) (hi : SE X i ti) (hs : PSet X g)
    (ha : ∀ v, assign (.Subscript o i pos) X.env v = (do
      let ov ← holding [v] (eval o X.env)
      let iv ← holding [v, ov] (eval i X.env)
      standAt pos
      holding [v, ov, iv] (setItem ov iv v)
      release [v, ov, iv] [])) : SG X (.Subscript o i pos) (gSub to ti g) := ⟨pg_sub ho.o hi.o hs ha⟩
theorem irange1 {tg : Expr} (hg : Gl X "range") (hm : X.mg "range" = none) (ha : SA X [a] tas) (hs : starEach [a] X.env = [(false, eval a X.env)]) : SI X tg (.Call (.Name "range" p) [a] [] pos) (iRng1 tas) := ⟨pi_range1 hg hm ha.o hs⟩
theorem irange2 {tg : Expr} (hg : Gl X "range") (hm : X.mg "range" = none) (ha : SA X [a, b] tas) (hs : starEach [a, b] X.env = [(false, eval a X.env), (false, eval b X.env)]) (hs2 : starEach [b] X.env = [(false, eval b X.env)]) : SI X tg (.Call (.Name "range" p) [a, b] [] pos) (iRng2 tas) := ⟨pi_range2 hg hm ha.o hs hs2⟩
theorem ilist {tg : Expr} (h : SE X e te) : SI X tg e (iList X.K te) := ⟨pi_list h.o⟩
theorem itup {tg : Expr} (h : SE X e te) : SI X tg e (iTup X.K te) := ⟨pi_tup h.o⟩
theorem istr {tg : Expr} (h : SE X e te) : SI X tg e (iStr te) := ⟨pi_str h.o⟩
theorem ienumT {k : Nat} (hg : Gl X "enumerate") (hm : X.mg "enumerate" = none) (ha : SA X [e] tas) (hs : starEach [e] X.env = [(false, eval e X.env)]) : SI X (.Tuple es k tpos) (.Call (.Name "enumerate" p) [e] [] pos) (iEnumT X.K tas) := ⟨pi_enumT hg hm ha.o hs⟩
theorem izipT {k : Nat} {e2 : Expr} (hg : Gl X "zip") (hm : X.mg "zip" = none) (ha : SA X [e, e2] tas) (hs : starEach [e, e2] X.env = (false, eval e X.env) :: starEach [e2] X.env) (hpl : (backTo pos (starEach [e2] X.env)).any (·.1) = false) : SI X (.Tuple es k tpos) (.Call (.Name "zip" p) [e, e2] [] pos) (iZipT X.K tas) := ⟨pi_zipT hg hm ha.o hs hpl⟩
theorem unil : SU X [] tYes := ⟨pts_nil⟩
theorem uone (h : ST X e tt) : SU X [e] tt := ⟨pts_one h.o⟩
end
theorem tyes {σ : St} {H : Hp} {F G : Hp → Prop} (h : F H) : tYes σ H (fun b H3 => if b = true then F H3 else G H3) := by
  show (if true = true then F H else G H)
  rw [if_pos rfl]
  exact h
end L2

/-! Webs, plainly: names in order, pairs in order. -/
namespace Wm
open PySem PySem.Spec L2 Wd PyProof.Rows
def sLt (a b : Str) : Prop := a.cps.toList < b.cps.toList
instance (a b : Str) : Decidable (sLt a b) := inferInstanceAs (Decidable (a.cps.toList < b.cps.toList))
theorem sLt_irr (a : Str) : ¬ sLt a a := List.lt_irrefl _
theorem sLt_trans {a b c : Str} (h : sLt a b) (k : sLt b c) : sLt a c := List.lt_trans h k
theorem sLt_tot {a b : Str} (h : ¬ sLt a b) (k : ¬ sLt b a) : a = b := ext_toList (List.le_antisymm (List.not_lt.mp k) (List.not_lt.mp h))
theorem sLt_ne {a b : Str} (h : sLt a b) : a ≠ b := fun e => sLt_irr a (by rw [← e] at h; exact h)
theorem le_lt {a b c : Str} (h : ¬ sLt b a) (k : sLt b c) : sLt a c := List.lt_of_le_of_lt (List.not_lt.mp h) k
theorem rising : ∀ {p : Str} {l : List Str}, risingS p l = true → (p :: l).Pairwise (fun a b => ¬ sLt b a)
  | p, [], _ => List.pairwise_singleton _ _
  | p, x :: r, h => by
    have h' : (!ltCps x.cps.toList p.cps.toList && risingS x r) = true := h
    rw [Bool.and_eq_true] at h'
    have hx : ¬ sLt x p := by
      have := h'.1
      rw [ltCps_eq] at this
      simpa [sLt] using this
    have ih := rising h'.2
    refine List.pairwise_cons.mpr ⟨fun y hy => ?_, ih⟩
    rcases List.mem_cons.mp hy with rfl | hy
    · exact hx
    · have := List.rel_of_pairwise_cons ih hy
      exact fun z => hx (le_lt this z)
theorem sorted_le {l : List Str} (h : sortedS l = true) : l.Pairwise (fun a b => ¬ sLt b a) := by
  cases l with
  | nil => exact List.Pairwise.nil
  | cons x r => exact rising h
theorem strict {l : List Str} (h : sortedS l = true) (n : l.Nodup) : l.Pairwise sLt := by
  have h1 := sorted_le h
  have h2 := List.nodup_iff_pairwise_ne.mp n
  refine List.Pairwise.imp₂ ?_ h1 h2
  intro a b k ne
  exact Classical.byContradiction fun c => ne (sLt_tot c k)
theorem inj {l : List Str} (h : l.Pairwise sLt) {i j : Nat} {x : Str} (hi : l[i]? = some x) (hj : l[j]? = some x) : i = j := by
  rw [List.pairwise_iff_getElem] at h
  obtain ⟨i1, i2⟩ := List.getElem?_eq_some_iff.mp hi
  obtain ⟨j1, j2⟩ := List.getElem?_eq_some_iff.mp hj
  rcases Nat.lt_trichotomy i j with k | k | k
  · have := h i j i1 j1 k
    rw [i2, j2] at this
    exact absurd this (sLt_irr x)
  · exact k
  · have := h j i j1 i1 k
    rw [i2, j2] at this
    exact absurd this (sLt_irr x)
theorem at_lt {l : List Str} (h : l.Pairwise sLt) {i j : Nat} {x y : Str} (hij : i < j) (hi : l[i]? = some x) (hj : l[j]? = some y) : sLt x y := by
  rw [List.pairwise_iff_getElem] at h
  obtain ⟨i1, i2⟩ := List.getElem?_eq_some_iff.mp hi
  obtain ⟨j1, j2⟩ := List.getElem?_eq_some_iff.mp hj
  have := h i j i1 j1 hij
  rw [i2, j2] at this
  exact this
/-! pairs -/
theorem prKey_inj {p q : SS} (h : prKey p = prKey q) : p = q := by
  unfold prKey at h
  injection h with h1 h2
  injection h2 with h2 _
  injection h1 with h1
  injection h2 with h2
  exact Prod.ext (ext_toList h1) (ext_toList h2)
theorem prLt_irr (p : SS) : prLt p p = false := lex_irrefl (O := itemOrd) (prKey p)
theorem prLt_trans {p q r : SS} (h : prLt p q = true) (k : prLt q r = true) : prLt p r = true := lex_trans (O := itemOrd) _ _ _ h k
theorem prLt_tot {p q : SS} (h : prLt p q = false) (k : prLt q p = false) : p = q := prKey_inj (lex_total (O := itemOrd) _ _ h k)
/-- in order, each once -/
abbrev Asc (l : List SS) : Prop := l.Pairwise (fun p q => prLt p q = true)
theorem asc_of {l : List SS} (h : l.Pairwise (fun p q => prLt q p = false)) (n : l.Nodup) : Asc l := by
  refine List.Pairwise.imp₂ ?_ h (List.nodup_iff_pairwise_ne.mp n)
  intro a b k ne
  cases e : prLt a b with
  | true => rfl
  | false => exact absurd (prLt_tot e k) ne
theorem Asc.nodup {l : List SS} (h : Asc l) : l.Nodup := List.nodup_iff_pairwise_ne.mpr (List.Pairwise.imp (fun {a b} k e => by rw [e, prLt_irr] at k; cases k) h)
/-- two such lists of the same pairs are one -/
theorem asc_ext : ∀ {l m : List SS}, Asc l → Asc m → (∀ p, p ∈ l ↔ p ∈ m) → l = m
  | [], [], _, _, _ => rfl
  | [], q :: m, _, _, h => by have := (h q).mpr (List.mem_cons_self ..); cases this
  | p :: l, [], _, _, h => by have := (h p).mp (List.mem_cons_self ..); cases this
  | p :: l, q :: m, hl, hm, h => by
    have l1 := List.pairwise_cons.mp hl
    have m1 := List.pairwise_cons.mp hm
    have e : p = q := by
      rcases List.mem_cons.mp ((h p).mp (List.mem_cons_self ..)) with e | e
      · exact e
      · rcases List.mem_cons.mp ((h q).mpr (List.mem_cons_self ..)) with f | f
        · exact f.symm
        · have a := m1.1 p e
          have b := l1.1 q f
          have c := prLt_trans a b
          rw [prLt_irr] at c
          cases c
    subst e
    refine congrArg (p :: ·) (asc_ext l1.2 m1.2 fun r => ?_)
    constructor
    · intro hr
      rcases List.mem_cons.mp ((h r).mp (List.mem_cons_of_mem _ hr)) with e | e
      · subst e
        have := l1.1 r hr
        rw [prLt_irr] at this
        cases this
      · exact e
    · intro hr
      rcases List.mem_cons.mp ((h r).mpr (List.mem_cons_of_mem _ hr)) with e | e
      · subst e
        have := m1.1 r hr
        rw [prLt_irr] at this
        cases this
      · exact e
structure WebOk (names : List Str) (ties : List SS) : Prop where
  ns : names.Pairwise sLt
  nw : ∀ x ∈ names, Word x ∧ x ∉ own16
  ts : Asc ties
  ti : ∀ p ∈ ties, p.1 ∈ names ∧ p.2 ∈ names ∧ sLt p.1 p.2
/-! all pairs of names in order, as pairs_of makes them -/
def pairsL : List Str → List SS
  | [] => []
  | x :: r => r.map (fun y => (x, y)) ++ pairsL r
theorem mem_pairs : ∀ {l : List Str} {p : SS}, l.Pairwise sLt → (p ∈ pairsL l ↔ p.1 ∈ l ∧ p.2 ∈ l ∧ sLt p.1 p.2)
  | [], p, _ => by simp [pairsL]
  | x :: r, p, h => by
    have h1 := List.pairwise_cons.mp h
    have ih := mem_pairs (p := p) h1.2
    have e : pairsL (x :: r) = r.map (fun y => (x, y)) ++ pairsL r := rfl
    rw [e, List.mem_append, ih]
    constructor
    · rintro (k | ⟨k1, k2, k3⟩)
      · obtain ⟨y, hy, e⟩ := List.mem_map.mp k
        subst e
        exact ⟨List.mem_cons_self .., List.mem_cons_of_mem _ hy, h1.1 y hy⟩
      · exact ⟨List.mem_cons_of_mem _ k1, List.mem_cons_of_mem _ k2, k3⟩
    · rintro ⟨k1, k2, k3⟩
      rcases List.mem_cons.mp k1 with e1 | k1
      · rcases List.mem_cons.mp k2 with e2 | k2
        · rw [e1, e2] at k3; exact absurd k3 (sLt_irr x)
        · exact .inl (List.mem_map.mpr ⟨p.2, k2, Prod.ext e1.symm rfl⟩)
      · rcases List.mem_cons.mp k2 with e2 | k2
        · have := h1.1 p.1 k1
          rw [e2] at k3
          exact absurd (sLt_trans k3 this) (sLt_irr _)
        · exact .inr ⟨k1, k2, k3⟩
theorem len_pairs : ∀ l : List Str, 2 * (pairsL l).length = l.length * (l.length - 1)
  | [] => rfl
  | x :: r => by
    have ih := len_pairs r
    have e : (pairsL (x :: r)).length = r.length + (pairsL r).length := by
      show (r.map (fun y => (x, y)) ++ pairsL r).length = _
      rw [List.length_append, List.length_map]
    rw [e, List.length_cons]
    cases hn : r.length with
    | zero =>
      rw [hn] at ih
      simp at ih ⊢
      all_goals omega
    | succ n =>
      rw [hn] at ih
      have e2 : (n + 1 + 1) * (n + 1 + 1 - 1) = (n + 1) * (n + 1 - 1) + 2 * (n + 1) := by
        simp only [Nat.add_sub_cancel]
        rw [Nat.mul_comm (n + 1 + 1) (n + 1), Nat.mul_comm 2 (n + 1), ← Nat.mul_add]
      omega
/-- the ties of a web turned over -/
def over (names : List Str) (ties : List SS) : List SS := (pairsL names).filter fun p => !decide (p ∈ ties)
end Wm

/-! Comprehensions over zip and enumerate of tuples; equal data. -/
namespace L2
open PySem PySem.Spec PyProof.Rows
theorem lc_zipT {K : PySem.W.Frag} {a b : Addr} {xs ys : List V} {g : TG} {tt : TT} {te : TE} {vs : List Nat} {σ : St} {H1 : Hp} {D : Addr} {Qd : Hp → Prop} (Pv : Nat → Hp → Prop) (h0 : Pv 0 (upd H1 D (.lst []))) (hl : ∀ i H, i ≤ xs.length → Pv i H → SqT K H a xs ∧ SqT K H b ys) (he : xs.length = ys.length)
    (hs : ∀ i x y H T, xs[i]? = some x → ys[i]? = some y → H T = none → Pv i H → g (.ref T) (wipe σ vs) (upd H T (.tup [x, y])) fun σ2 H2 => wipe σ2 vs = wipe σ vs ∧ tt σ2 H2 fun b H3 =>
      if b = true then te σ2 H3 fun y H4 => ∃ acc, H4 D = some (.lst acc) ∧ acc.length < sizeLine ∧ Pv (i + 1) (upd H4 D (.lst (acc ++ [y]))) else Pv (i + 1) H3) (hd : ∀ H, Pv xs.length H → Qd H) :
    ∃ W : Nat → Nat → Hp → Prop, (∃ m, W 0 m (upd H1 D (.lst []))) ∧ ∀ i m H, W i m H →
      ((ItzT K a b).stop i H ∧ Qd H) ∨ ((ItzT K a b).go i H ∧ ∃ Nx : Hp → Prop, (∀ H', Nx H' → ∃ m', m' < m ∧ W (i + 1) m' H') ∧ ∀ x H', (ItzT K a b).yld i H x H' → g x (wipe σ vs) H' fun σ2 H2 => wipe σ2 vs = wipe σ vs ∧ tt σ2 H2 fun b H3 =>
        if b = true then te σ2 H3 fun y H4 => ∃ acc, H4 D = some (.lst acc) ∧ acc.length < sizeLine ∧ Nx (upd H4 D (.lst (acc ++ [y]))) else Nx H3) := by
  refine ⟨fun i m H => m = xs.length - i ∧ i ≤ xs.length ∧ Pv i H, ⟨xs.length, by simp, Nat.zero_le _, h0⟩, ?_⟩
  rintro i m H ⟨rfl, hi, p⟩
  obtain ⟨q1, q2⟩ := hl i H hi p
  by_cases hlt : i < xs.length
  · have e1 : xs[i]? = some xs[i] := List.getElem?_eq_getElem hlt
    have e2 : ys[i]? = some (ys[i]'(by omega)) := List.getElem?_eq_getElem (by omega)
    refine .inr ⟨⟨xs, ys, _, _, q1, q2, e1, e2⟩, Pv (i + 1), fun H' p' => ⟨xs.length - (i + 1), by omega, rfl, hlt, p'⟩, ?_⟩
    rintro v H' ⟨T, x, y, rfl, nT, rfl, hx, hy⟩
    exact hs i x y H T (hx xs q1) (hy ys q2) nT p
  · have e : i = xs.length := by omega
    subst e
    exact .inl ⟨⟨xs, q1, Nat.le_refl _⟩, hd H p⟩
/-- equal data: texts, numbers, tuples of such -/
def Eqd (K : PySem.W.Frag) (H : Hp) : Nat → V → V → Prop
  | 0, _, _ => False
  | n + 1, x, y => ((∃ z, x = .str z ∧ y = .str z) ∨ ∃ i, x = .int i ∧ y = .int i) ∨ ∃ a b xs ys, x = .ref a ∧ y = .ref b ∧ SqT K H a xs ∧ SqT K H b ys ∧ Paired (Eqd K H n) xs ys
theorem Eqd.same {K : PySem.W.Frag} {H H' : Hp} (e : Same H H') : ∀ {n : Nat} {x y : V}, Eqd K H n x y → Eqd K H' n x y
  | 0, _, _, h => h
  | n + 1, _, _, h => by
    rcases h with h | ⟨a, b, xs, ys, h1, h2, h3, h4, h5⟩
    · exact .inl h
    · exact .inr ⟨a, b, xs, ys, h1, h2, e.seqT h3, e.seqT h4, Paired.mapP h5 fun _ _ q => Eqd.same e q⟩
theorem Eqd.up {K : PySem.W.Frag} {H : Hp} : ∀ {n : Nat} {x y : V}, Eqd K H n x y → Eqd K H (n + 1) x y
  | 0, _, _, h => h.elim
  | n + 1, _, _, h => by
    rcases h with h | ⟨a, b, xs, ys, h1, h2, h3, h4, h5⟩
    · exact .inl h
    · exact .inr ⟨a, b, xs, ys, h1, h2, h3, h4, Paired.mapP h5 fun _ _ q => Eqd.up q⟩
theorem Paired.get {α β : Type} {F : α → β → Prop} : ∀ {l : List α} {m : List β} {i : Nat} {x : α} {y : β}, Paired F l m → l[i]? = some x → m[i]? = some y → F x y
  | _, _, _, _, _, .nil, h, _ => by simp at h
  | _, _, 0, _, _, .cons r _, h, k => by
    simp at h k
    subst h k
    exact r
  | _, _, i + 1, _, _, .cons _ t, h, k => Paired.get (i := i) t (by simpa using h) (by simpa using k)
theorem Eqd.strs {K : PySem.W.Frag} {H : Hp} {n : Nat} : ∀ xs : List Str, Paired (Eqd K H (n + 1)) (xs.map V.str) (xs.map V.str)
  | [] => .nil
  | x :: r => .cons (.inl (.inl ⟨x, rfl, rfl⟩)) (Eqd.strs r)
theorem Eqd.prs {K : PySem.W.Frag} {H : Hp} {n : Nat} : ∀ {vs us : List V} {ps : List SS}, Prs K H vs ps → Prs K H us ps → Paired (Eqd K H (n + 2)) vs us
  | _, _, _, .nil, .nil => .nil
  | _, _, _, .cons ⟨a, ea, ha⟩ t, .cons ⟨b, eb, hb⟩ u => .cons (.inr ⟨a, b, _, _, ea, eb, ha, hb, .cons (.inl (.inl ⟨_, rfl, rfl⟩)) (.cons (.inl (.inl ⟨_, rfl, rfl⟩)) .nil)⟩) (Eqd.prs t u)
end L2

/-! first, *others = a list; enumerate(list, start=1). -/
namespace L2
open PySem PySem.W PySem.Spec PyProof.Rows
section
variable {prog : Program} {w : World} {A : Around} {E : Value → Shared → Prop} {s : Shared}
theorem star_items {l : Addr} {x : Value} {rest : List Value} {R : List Value → Shared → Prop} (hl : s.heap.IsList l (x :: rest).toArray) (nh : A.handled = none) (hz : rest.length ≤ 16000)
    (h : ∀ (g : Heap) (tk : Nat), (∀ b o, s.heap.get? b = some o → g.get? b = some o) → R [x, .ref g.objs.size] { s with heap := g.push { cls := .type "list", data := .seq rest.toArray }, toks := tk }) :
    wpAny (model prog w) A (unpackItems (.ref l) 2 (some 1)) R E s := by
  have hll : l < s.heap.objs.size := by obtain ⟨o, ho, _⟩ := hl; exact Heap.lt_size ho
  have hlt : l ≠ s.heap.objs.size := Nat.ne_of_lt hll
  unfold unpackItems
  refine wpAny_bind ?_
  unfold notIterableAtAll
  refine wpAny_bind (wpAny_specialOf hl.typeIs slot_list_iter.lookup (wpAny_pure ?_))
  simp only [Bool.false_eq_true, if_false]
  refine wpAny_bind (wpAny_holding (wpAny_pyIter_list hl ?_))
  refine wpAny_bind (wpAny_holding (kun_draw hlt 1 0 _ _ ⟨_, Heap.get?_push_size _ rfl, rfl, rfl⟩ (hl.push _) (by simp) fun g1 it1 s1 => ?_))
  have l1 : g1.IsList l (x :: rest).toArray := (hl.push _).extBut s1.extBut hlt
  have it2 := it1
  obtain ⟨oi, hoi, _⟩ := it2
  have l2 := l1
  obtain ⟨ol, hol, _⟩ := l2
  have et : (List.drop 0 (x :: rest).toArray.toList).take 1 = [x] := by simp
  rw [et]
  rw [if_neg (show ¬ (([x] : List Value).length < 1) by simp)]
  refine wpAny_bind (wpAny_holding (kun_collect (s := { s with heap := g1 }) (T := "list_iterator") (.inr (.inr (.inl rfl))) (Walks.list (A := A.in1) nh s.heap.objs.size l hlt (x :: rest).toArray) (fun j u st => st.1.typeIs) (k := 1) (by simp) ⟨it1, l1⟩ (Heap.lt_size hoi) (Heap.lt_size hol) (fun g2 tk hk => ?_) (by rw [sizeLine_eq]; simp; omega)))
  have ed : (x :: rest).toArray.toList.drop 1 = rest := by simp
  rw [ed]
  show wpAny _ _ (if rest.length < 2 - 1 - 1 then _ else _) _ _ _
  rw [if_neg (by omega)]
  show wpAny _ _ (newList (rest.take (rest.length - (2 - 1 - 1))) >>= fun d => pure ([x] ++ [d] ++ rest.drop (rest.length - (2 - 1 - 1)))) _ _ _
  have e1 : rest.take (rest.length - (2 - 1 - 1)) = rest := by simp
  have e2 : rest.drop (rest.length - (2 - 1 - 1)) = [] := by simp
  rw [e1, e2]
  refine wpAny_bind (wpAny_newList (wpAny_pure (h g2 tk fun b o e => ?_)) (by rw [sizeLine_eq]; omega))
  have hb : b ≠ s.heap.objs.size := Nat.ne_of_lt (Heap.lt_size e)
  exact hk b o hb (s1.extBut b o hb (Heap.get?_push_of_some _ e))
end
def gStar (K : PySem.W.Frag) (t : TGs) : TG := fun v σ H Q => ∃ a x xs, v = .ref a ∧ SqL K H a (x :: xs) ∧ xs.length ≤ 16000 ∧ ∀ D, H D = none → t [x, .ref D] σ (upd H D (.lst xs)) Q
section
variable {X : Cx} {e : Expr} {es : List Expr} {pos p : Pos}
theorem gscons_star {g : TG} {gs : TGs} (h1 : SG X e g) (h2 : SH X es gs) (hs : (assignEach (.Starred e p :: es) X.env).map (·.2) = assign e X.env :: (assignEach es X.env).map (·.2)) : SH X (.Starred e p :: es) (gCons g gs) := by
  refine ⟨fun pins s σ H vs us Q I r h => ?_⟩
  obtain ⟨v, rr, rfl, h⟩ := h
  cases r with
  | cons r1 r2 =>
    rw [hs]
    exact assignInOrder_cons (thn (h1.o pins s σ H _ _ _ I r1 h) fun _ s1 ⟨σ1, H1, I1, q1⟩ => h2.o pins s1 σ1 H1 _ _ Q I1 r2 q1)
theorem gstar {k : Nat} {g : TGs} (hc : X.calm = true) (h : SH X es g) (hn : (assignEach es X.env).length = 2) (hst : (assignEach es X.env).findIdx? (·.1) = some 1) : SG X (.Tuple es k pos) (gStar X.K g) := by
  refine ⟨fun pins s σ H v u Q I r hw => ?_⟩
  obtain ⟨a, x, xs, rfl, hq, hz, hw⟩ := hw
  cases r
  obtain ⟨its, rv, hl, _⟩ := I.list hq
  cases rv with
  | cons r1 r2 =>
    rename_i ux uxs
    have hlen := r2.length
    rw [assign_Tuple]
    refine wpAny_bind (wpAny_standAt ?_)
    unfold unpack
    rw [hn, hst]
    refine wpAny_bind (wpAny_holding (star_items hl.isList (I.ok.hd hc) (by omega) fun g1 tk kp => ?_))
    have I1 : Inv X pins σ H { s with heap := g1, toks := tk } := I.kept kp
    have I2 : Inv X pins σ (upd H g1.objs.size (.lst xs)) { s with heap := g1.push { cls := .type "list", data := .seq uxs.toArray }, toks := tk } :=
      I1.laid (t' := tk) (fun b o e => Heap.get?_push_of_some _ e) (Nat.le_refl _) (show ObjOk X.prog X.w _ _ _ (.lst xs) from ⟨by rw [sizeLine_eq]; omega, uxs, 0, r2, Heap.get?_push_size _ rfl⟩)
    exact h.o pins _ σ _ _ _ Q I2 (.cons r1 (.cons (show RelV (.ref g1.objs.size) (.ref g1.objs.size) from rfl) .nil)) (hw g1.objs.size (I1.hok.fresh (Nat.le_refl _)))
end
end L2

/-! len(set(words)) of a list of texts. -/
namespace SetT
open PySem PySem.Spec PyProof.Rows
def put1 (acc : List Str) (x : Str) : List Str := if x ∈ acc then acc else acc ++ [x]
/-- each text once, where it is met first -/
def dd (l : List Str) : List Str := l.foldl put1 []
theorem dd_snoc (l : List Str) (x : Str) : dd (l ++ [x]) = put1 (dd l) x := by unfold dd; rw [List.foldl_append]; rfl
theorem mem_put1 {acc : List Str} {x y : Str} : y ∈ put1 acc x ↔ y ∈ acc ∨ y = x := by
  unfold put1
  split
  · exact ⟨.inl, fun h => h.elim id fun e => by rw [e]; assumption⟩
  · simp
theorem len_put1 (acc : List Str) (x : Str) : (put1 acc x).length = if decide (x ∈ acc) then acc.length else acc.length + 1 := by
  unfold put1
  by_cases h : x ∈ acc <;> simp [h]
theorem dd_le : ∀ (n : Nat) (l : List Str), l.length = n → (dd l).length ≤ n
  | 0, l, h => by
    have : l = [] := List.eq_nil_of_length_eq_zero h
    subst this
    exact Nat.le_refl _
  | n + 1, l, h => by
    rcases List.eq_nil_or_concat l with e | ⟨r, x, e⟩
    · subst e; simp at h
    · rw [List.concat_eq_append] at e
      subst e
      have hr : r.length = n := by simpa using h
      have ih := dd_le n r hr
      rw [dd_snoc, len_put1]
      split <;> omega
theorem dd_nodup : ∀ (n : Nat) (l : List Str), l.length = n → l.Nodup → dd l = l
  | 0, l, h, _ => by
    have : l = [] := List.eq_nil_of_length_eq_zero h
    subst this
    rfl
  | n + 1, l, h, nd => by
    rcases List.eq_nil_or_concat l with e | ⟨r, x, e⟩
    · subst e; simp at h
    · rw [List.concat_eq_append] at e
      subst e
      have hr : r.length = n := by simpa using h
      rw [List.nodup_append] at nd
      rw [dd_snoc, dd_nodup n r hr nd.1]
      unfold put1
      rw [if_neg fun hx => nd.2.2 x hx x (by simp) rfl]
section
variable {prog : Program} {w : World} {A : Around} {R : Result → Shared → Prop} {c : Addr} {fp wr : List Addr} {G : Array GenState → Array GenState → Prop} {P : Nat → Value → Prop} {St : Nat → Shared → Prop} {xs : List Str}
abbrev HasOf (h : Heap) (prog : Program) (w : World) (S : Addr) (l : List Str) : Prop := h.SetOf (PySem.strKind prog w) S (fun k => decide (k ∈ dd l)) (dd l).length
theorem loop (W : WalksS prog w A.in1 c fp wr G xs.length P St) (S : Addr) (nS : S ∉ fp) (hv : ∀ i v, P i v → ∃ x t, xs[i]? = some x ∧ v = .str x t) (hb : xs.length + 1 < scanBound) :
    ∀ (k i : Nat) (s : Shared), xs.length - i = k → i ≤ xs.length → St i s → HasOf s.heap prog w S (xs.take i) →
      (∀ s', Moved (S :: wr) G s s' → HasOf s'.heap prog w S xs → R (.ok (.ret .none)) s') → codeAny (model prog w) A (.builtin "set.update.loop" ⟨[.ref S, .ref c], []⟩) R s := by
  have nw : S ∉ wr := fun h => nS (W.sub _ h)
  have sub : ∀ b ∈ wr, b ∈ S :: wr := fun b hb => List.mem_cons_of_mem _ hb
  have stay : ∀ {l : List Str} {s s' : Shared}, HasOf s.heap prog w S l → (∀ o, s.heap.get? S = some o → s'.heap.get? S = some o) → HasOf s'.heap prog w S l := fun {l s s'} h k => by
    obtain ⟨o, es, ep, t, ho, rest⟩ := h
    exact ⟨o, es, ep, t, k _ ho, rest⟩
  intro k
  induction k with
  | zero =>
    intro i s hk hi st hS hR
    have e : i = xs.length := by omega
    subst e
    rw [List.take_length] at hS
    refine codeAny_builtin PyProof.Rows.F.entry_set_update_loop ?_
    rw [Around.under_plainId PyProof.Rows.F.plain_set_update_loop _]
    show wpAny _ A.in1 (pyNext (.ref c) >>= _) _ _ s
    refine wpAny_bind (W.done s _ _ st fun s' hm => ?_)
    show wpAny _ A.in1 (ret Value.none) _ _ s'
    exact wpAny_pure (hR s' (hm.mono sub) (stay hS fun o q => hm.heap S _ nw q))
  | succ k ih =>
    intro i s hk hi st hS hR
    have lt : i < xs.length := by omega
    refine codeAny_builtin PyProof.Rows.F.entry_set_update_loop ?_
    rw [Around.under_plainId PyProof.Rows.F.plain_set_update_loop _]
    show wpAny _ A.in1 (pyNext (.ref c) >>= _) _ _ s
    refine wpAny_bind (W.item i s _ _ lt st fun v s' hP st' hm => ?_)
    obtain ⟨x, t, hx, rfl⟩ := hv i v hP
    have hS' := stay (s' := s') hS fun o q => hm.heap S _ nw q
    show wpAny _ A.in1 (holding [Value.str x t] (setAdd S (.str x t)) >>= _) _ _ s'
    refine wpAny_bind (wpAny_holding ?_)
    unfold setAdd
    refine wpAny_holding ?_
    have hk1 : (PySem.strKind prog w).is x (.str x t) = true := by simp [PySem.strKind, Value.isStrOf]
    refine wpAny_bind ((PySem.strKind prog w).pyHash (k := x) hk1 ?_)
    have room : (dd (xs.take i)).length + 1 < scanBound := by
      have := dd_le _ (xs.take i) rfl
      rw [List.length_take] at this
      omega
    refine wpAny_setAddHashed_of (knd := PySem.strKind prog w) (s := { s' with toks := s'.toks + 1 }) hk1 rfl hS' room fun h' sb hS2 => ?_
    have tk : xs.take (i + 1) = xs.take i ++ [x] := by rw [List.take_succ, hx]; rfl
    have hSi : HasOf h' prog w S (xs.take (i + 1)) := by
      refine SetOf_congr hS2 (fun k' => ?_) ?_
      · rw [tk, dd_snoc]
        by_cases c1 : k' ∈ dd (xs.take i) <;> by_cases c2 : k' = x <;> simp [mem_put1, c1, c2]
      · rw [tk, dd_snoc, len_put1]
    refine wpAny_pure ⟨plainId_quiet PyProof.Rows.F.plain_set_update_loop _, ih (i + 1) _ (by omega) lt (W.frame _ s' _ _ st' (Nat.le_succ _) fun b hb o e => ?_) hSi fun s'' hm'' hS'' => ?_⟩
    · rw [sb.2 b fun h : b = S => nS (by rw [← h]; exact hb)]; exact e
    · refine hR s'' (Moved.trans W.gtrans ((hm.mono sub).then_heap (Nat.le_succ _) fun b o hb e => ?_) hm'') hS''
      rw [sb.2 b fun h : b = S => hb (by rw [h]; exact List.mem_cons_self)]; exact e
end
abbrev newS (led : Bool) : Obj := { cls := .type "set", dict := none, data := .set #[] 0 (.fresh 0 0 led) }
section
variable {prog : Program} {w : World} {A : Around} {E : Value → Shared → Prop} {s : Shared}
theorem call_set {l : Addr} {items : Array Value} {xs : List Str} {Q : Value → Shared → Prop} (nh : A.handled = none) (hl : s.heap.IsList l items) (hn : items.size = xs.length) (hv : ∀ (i : Nat) (v : Value), items[i]? = some v → ∃ x t, xs[i]? = some x ∧ v = Value.str x t) (hb : xs.length + 1 < scanBound)
    (h : ∀ (h' : Heap) (tk : Nat), HasOf h' prog w s.heap.objs.size xs → (∀ b o, b < s.heap.objs.size → s.heap.get? b = some o → h'.get? b = some o) → Q (.ref s.heap.objs.size) { s with heap := h', toks := tk }) :
    wpAny (model prog w) A (call (.type "set") [.ref l]) Q E s := by
  obtain ⟨c, tl, hmro⟩ := PySem.F.called_set.mro
  have hmade := PySem.F.called_set.made
  have hsub := PySem.F.called_set.sub
  refine wpAny_call (codeAny_of_tree ?_)
  show wpAny _ _ (callAny (.type "set") _) _ _ _
  refine wpAny_pure ⟨Code.quiet_builtin _ (by decide +kernel), codeAny_builtin PySem.F.entry_type_call ?_⟩
  rw [Around.under_plain (weight_type_call_type "set" [.ref l] []) rfl]
  have h1 := PySem.F.called_set.notType
  have h2 := PySem.F.called_set.canCreate
  have hct := PySem.F.typeCall_set_1 (.ref l)
  repeat (any_goals (first | assumption | wp_step))
  refine codeAny_mono (code_set_new_1 (.ref l) (E := E) (Q₁ := fun obj s₁ => ∃ led : Bool, obj = .ref s.heap.objs.size ∧ s₁ = { s with heap := s.heap.push (newS led) }) fun led => ⟨led, rfl, rfl⟩) fun r s₁ hr => ?_
  cases r with
  | error e => exact hr
  | ok fl =>
    cases fl with
    | ret obj =>
      obtain ⟨led, rfl, rfl⟩ := hr
      have hS : (s.heap.push (newS led)).get? s.heap.objs.size = some (newS led) := Heap.get?_push_size _ rfl
      have hT : Shared.TypeIs { s with heap := s.heap.push (newS led) } (.ref s.heap.objs.size) "set" := ⟨_, hS, rfl⟩
      have hli := PySem.F.called_set.init.lookup
      have hbi := PySem.F.called_set.init.bind (.ref s.heap.objs.size)
      repeat (any_goals (first | assumption | wp_step))
      refine codeAny_mono (codeAny_call_builtin (R := wants (fun r s₂ => r = .none ∧ ∃ h' tk, s₂ = { s with heap := h', toks := tk } ∧ HasOf h' prog w s.heap.objs.size xs ∧ (∀ b o, b < s.heap.objs.size → s.heap.get? b = some o → h'.get? b = some o)) E) PySem.F.called_set.init.plain PySem.F.entry_set_init (check_set_init_1 hT ?_)) fun r₂ s₂ hr₂ => ?_
      · obtain ⟨⟨ocls, odict, odata, oslots⟩, hol, hcl, nl, hdl⟩ := hl
        simp only at hcl hdl
        subst hcl; subst hdl
        have hol' : (s.heap.push (newS led)).get? l = some { cls := .type "list", dict := odict, data := .seq items nl, slots := oslots } := Heap.get?_push_of_some _ hol
        have q1 := PySem.F.sub_list_set
        have q2 := PySem.F.sub_list_frozenset
        have q3 : (Value.type "list" == Value.type "dict") = false := by decide
        have hl1 : (s.heap.push (newS led)).IsList l items := ⟨_, hol', rfl, nl, rfl⟩
        unfold Builtin.«set.__init__» noKeywords Builtin.Frozenset.updateFrom
        generalize hPI : pyIter = PI
        wp_walk
        subst hPI
        refine wpAny_pyIter_list hl1 ?_
        refine wpAny_bind (wpAny_runValue ?_)
        have lS : l < s.heap.objs.size := Heap.lt_size hol
        have nh3 : A.in1.in1.in1.handled = none := by simp [nh]
        have ni : l ≠ (s.heap.push (newS led)).objs.size := by rw [Heap.size_push]; exact Nat.ne_of_lt (Nat.lt_succ_of_lt lS)
        have nf : s.heap.objs.size ∉ [(s.heap.push (newS led)).objs.size, l] := by
          rw [Heap.size_push]; simp only [List.mem_cons, List.mem_singleton, List.not_mem_nil, or_false, not_or]
          exact ⟨Nat.ne_of_lt (Nat.lt_succ_self _), Nat.ne_of_gt lS⟩
        have W := (Walks.list (prog := prog) (w := w) nh3 _ l ni items).toS
        rw [hn] at W
        refine loop W s.heap.objs.size nf hv hb (xs.length - 0) 0 _ (by omega) (Nat.zero_le _) ⟨⟨_, Heap.get?_push_size _ rfl, rfl, rfl⟩, (hl1.push _)⟩ ?hS0 ?hR
        case hS0 =>
          have hget : ((s.heap.push (newS led)).push { cls := .type "list_iterator", data := .fields #[.ref l, .int 0 0] }).get? s.heap.objs.size = some (newS led) := Heap.get?_push_of_some _ hS
          exact SetOf_congr ((setObjOf_fresh (knd := PySem.strKind prog w) led).setOf hget (by unfold scanBound; omega)) (fun _ => rfl) rfl
        case hR =>
          intro s' hm hS'
          obtain ⟨h', g', d', tk', os'⟩ := s'
          have eg : g' = s.gens := hm.gens
          have ed : d' = s.drawn := hm.drawn
          have eo : os' = s.os := hm.os
          subst eg; subst ed; subst eo
          show wpAny _ _ _ _ _ _
          refine wpAny_pure ?_
          show wpAny _ _ (ret Value.none) _ _ _
          refine wpAny_pure ⟨rfl, h', tk', rfl, hS', fun b o hb e => ?_⟩
          have b1 : b ≠ s.heap.objs.size := Nat.ne_of_lt hb
          have b2 : b ≠ (s.heap.push (newS led)).objs.size := by rw [Heap.size_push]; exact Nat.ne_of_lt (Nat.lt_succ_of_lt hb)
          exact hm.heap b o (by simp only [List.mem_cons, List.mem_singleton, List.not_mem_nil, or_false, not_or]; exact ⟨b1, b2⟩) (Heap.get?_push_of_some _ (Heap.get?_push_of_some _ e))
      · cases r₂ with
        | error e => exact hr₂
        | ok fl₂ =>
          cases fl₂ with
          | ret r =>
            obtain ⟨rfl, h', tk, rfl, hS', hk'⟩ := hr₂
            repeat (any_goals (first | assumption | wp_step))
            exact h _ _ hS' hk'
          | _ => exact hr₂.elim
    | _ => exact hr.elim
end
end SetT

/-! enumerate(list, start=1) -/
namespace EnK
open PySem PySem.Spec PyProof.Rows
open AutoSeq1 (wpAny_loadPart')
abbrev k1 (t : Tok) : List (Str × Value) := [(Str.ofString "start", Value.int 1 t)]
theorem tc (a : Value) (t : Tok) : checkTypeCall "enumerate" ⟨[a], k1 t⟩ = pure () := by kernel_rfl
theorem nc (a : Value) (t : Tok) : checkBuiltinCall "enumerate.__new__" ⟨[.type "enumerate", a], k1 t⟩ = pure () := by kernel_rfl
theorem oi (o a : Value) (t : Tok) : argsOk "object.__init__" ⟨[o, a], k1 t⟩ := by
  unfold argsOk
  rw [signature?_of (id := "object.__init__") (n := ['_', '_', 't', 'i', 'n', 'i', '_', '_']) (o := ['t', 'c', 'e', 'j', 'b', 'o']) (by kernel_rfl) F.owner_object]
  kernel_rfl
theorem new_kw (l : Addr) (t : Tok) (items : Array Value) (n : Nat) (dct : Option Addr) (sl : Array (Option Value)) :
    Meets (Builtin.«enumerate.__new__» ⟨[.type "enumerate", .ref l], k1 t⟩) (fun _ R s => s.heap.get? l = some { cls := .type "list", dict := dct, data := .seq items n, slots := sl } ∧
      R (.ok (.ret (.ref (s.heap.push { cls := .type "list_iterator", data := .fields #[.ref l, .int 0 0] }).objs.size)))
        { s with heap := (s.heap.push { cls := .type "list_iterator", data := .fields #[.ref l, .int 0 0] }).push { cls := .type "enumerate", data := .fields #[.none, .bool false, .ref s.heap.objs.size, rawInt 1, .none, .none] } }) :=
  .of_wp fun prog w A R s h => by
    obtain ⟨hp, g, d, tk, os⟩ := s
    obtain ⟨hl, h⟩ := h
    have hsub := sub_enumerate
    have hL : Heap.IsList (Shared.heap ⟨hp, g, d, tk, os⟩) l items := ⟨_, hl, rfl, n, rfl⟩
    wp_walk using wpAny_loadPart' hl
    refine wpAny_stack_any fun st => wpAny_pure ?_
    split
    · rename_i c _ _ _ _ _
      cases (c == Value.type "enumerate")
      · wp_walk using wpAny_loadPart' hl, wpAny_pyIter_list hL
        exact ⟨_, rfl, h⟩
      · wp_walk using wpAny_loadPart' hl, wpAny_pyIter_list hL
        exact ⟨_, rfl, h⟩
    · wp_walk using wpAny_loadPart' hl, wpAny_pyIter_list hL
      exact ⟨_, rfl, h⟩
section
variable {prog : Program} {w : World} {A : Around} {E : Value → Shared → Prop} {s : Shared}
theorem init_kw {self a : Value} {t : Tok} : Meets (Builtin.«object.__init__» ⟨[self, a], k1 t⟩) (fun _ R s => s.TypeIs self "enumerate" ∧ R (.ok (.ret .none)) s) := by
  refine Meets.of_wp fun prog w A R s hs => ?_
  obtain ⟨hT, hq⟩ := hs
  have hl := F.called_enumerate.init.lookup
  have hm := F.called_enumerate.made
  have hne : (some "enumerate.__new__" != some "object.__new__") = true := by decide
  repeat (any_goals (first | assumption | wp_step))
  exact ⟨_, rfl, hq⟩
theorem call_kw {l : Addr} {items : Array Value} {t : Tok} {R : Value → Shared → Prop} (hL : s.heap.IsList l items)
    (h : ∀ g, IsEnum g (s.heap.objs.size + 1) s.heap.objs.size 1 .none → g.IsListIter s.heap.objs.size l 0 → (∀ p o, s.heap.get? p = some o → g.get? p = some o) → R (.ref (s.heap.objs.size + 1)) { s with heap := g }) :
    wpAny (model prog w) A (call (.type "enumerate") [.ref l] (k1 t)) R E s := by
  have ft := F.called_enumerate
  obtain ⟨⟨cl, dct, dt, sl⟩, hl, hc, n, hd⟩ := hL
  replace hc : cl = .type "list" := hc
  replace hd : dt = .seq items n := hd
  subst hc hd
  obtain ⟨c, tl, hmro⟩ := ft.mro
  have hmade := ft.made
  have hsub := ft.sub
  refine wpAny_call (codeAny_of_tree ?_)
  show wpAny _ _ (callAny (.type "enumerate") _) _ _ _
  refine wpAny_pure ⟨Code.quiet_builtin _ (by decide +kernel), codeAny_builtin F.entry_type_call ?_⟩
  rw [Around.under_plain (weight_type_call_type "enumerate" [.ref l] (k1 t)) (units_type_call_type "enumerate" [.ref l] (k1 t))]
  have h1 := ft.notType
  have h2 := ft.canCreate
  have hct := tc (.ref l) t
  repeat (any_goals (first | assumption | wp_step))
  have n1 : (ZT.zt1 s.heap l).objs.size = s.heap.objs.size + 1 := Heap.size_push ..
  have hz : (s.heap.push { cls := .type "list_iterator", data := .fields #[.ref l, .int 0 0] }).objs.size = s.heap.objs.size + 1 := Heap.size_push ..
  refine codeAny_mono (codeAny_call_builtin ft.plain F.entry_enumerate_new (wpAny_of_eq (nc (.ref l) t) (new_kw l t items n dct sl prog w A.in1 (wants (fun obj s₁ => obj = .ref (s.heap.objs.size + 1) ∧ s₁ = { s with heap := (s.heap.push { cls := .type "list_iterator", data := .fields #[.ref l, .int 0 0] }).push { cls := .type "enumerate", data := .fields #[.none, .bool false, .ref s.heap.objs.size, rawInt 1, .none, .none] } }) E) s ⟨hl, by rw [hz]; exact ⟨rfl, rfl⟩⟩))) fun r s₁ hr => ?_
  cases r with
  | error e => exact hr
  | ok fl =>
    cases fl with
    | ret obj =>
      obtain ⟨rfl, rfl⟩ := hr
      have he : IsEnum ((s.heap.push { cls := .type "list_iterator", data := .fields #[.ref l, .int 0 0] }).push { cls := .type "enumerate", data := .fields #[.none, .bool false, .ref s.heap.objs.size, rawInt 1, .none, .none] }) (s.heap.objs.size + 1) s.heap.objs.size 1 .none := by
        have q := Heap.get?_push_size (s.heap.push { cls := .type "list_iterator", data := .fields #[.ref l, .int 0 0] }) (o := { cls := .type "enumerate", data := .fields #[.none, .bool false, .ref s.heap.objs.size, rawInt 1, .none, .none] }) rfl
        rw [hz] at q
        exact q
      have hT : Shared.TypeIs { s with heap := (s.heap.push { cls := .type "list_iterator", data := .fields #[.ref l, .int 0 0] }).push { cls := .type "enumerate", data := .fields #[.none, .bool false, .ref s.heap.objs.size, rawInt 1, .none, .none] } } (.ref (s.heap.objs.size + 1)) "enumerate" := ⟨_, he, rfl⟩
      have hli := ft.init.lookup
      have hbi := ft.init.bind (.ref (s.heap.objs.size + 1))
      repeat (any_goals (first | assumption | wp_step))
      refine codeAny_mono (codeAny_call_builtin ft.init.plain F.entry_object_init (ft.init.check _ _ _ _ _ _ _ _ hT (oi _ _ t) (init_kw prog w A.in1 (wants (fun r s₂ => r = .none ∧ R (.ref (s.heap.objs.size + 1)) s₂) E) _ ⟨hT, rfl, h _ he ⟨_, Heap.get?_push_of_some _ (Heap.get?_push_size _ rfl), rfl, rfl⟩ fun p o q => Heap.get?_push_of_some _ (Heap.get?_push_of_some _ q)⟩))) fun r₂ s₂ hr₂ => ?_
      cases r₂ with
      | error e => exact hr₂
      | ok fl₂ =>
        cases fl₂ with
        | ret r =>
          obtain ⟨rfl, hq⟩ := hr₂
          repeat (any_goals (first | assumption | wp_step))
        | _ => exact hr₂.elim
    | _ => exact hr.elim
end
end EnK

namespace L2
open PySem PySem.Spec PyProof.Rows
section
variable {prog : Program} {w : World} {A : Around} {E : Value → Shared → Prop} {s : Shared}
theorem draws1 (nh : A.handled = none) {c l : Addr} (ne : l ≠ c) (ys : Array Value) : Draws prog w A c [c, l] (ys.size + 1) (fun j v => ys[j - 1]? = some v) (fun j h => 1 ≤ j ∧ h.IsListIter c l (j - 1) ∧ h.IsList l ys) where
  live := fun i h st => let ⟨_, ⟨o, q, _⟩, _⟩ := st; ⟨o, q⟩
  frame := fun i h h' st k => ⟨st.1, st.2.1.at fun o q => k c (by simp) o q, by obtain ⟨o, ho, r⟩ := st.2.2; exact ⟨o, k l (by simp) o ho, r⟩⟩
  item := fun i s Q E hi st hQ => by
    have h1 : i - 1 < ys.size := by omega
    refine wpAny_nextOf_list_item st.2.1 st.2.2 (x := ys[i - 1]) (by simp [h1]) fun g g1 g2 => ?_
    refine hQ _ g s.toks (by simp [h1]) ⟨by omega, ?_, st.2.2.extBut g2.extBut ne⟩ g2
    have e : i + 1 - 1 = i - 1 + 1 := by omega
    rw [e]
    exact g1
  done := fun s Q E st hE => wpAny_nextOf_list_end nh st.2.1 st.2.2 (by simp) fun g e x y => hE g e x y
theorem callT_kw {M : Model} {pos : Pos} {T : String} {args : List (Bool × Sem Value)} {keywords : List (Option Str × Sem Value)} {Q : Value → Shared → Prop} (hplain : args.any (·.1) = false) (hkw : keywords.any (·.1.isNone) = false)
    (h : wpAny M A (evalArgs (.type T) true args keywords) (fun a s₁ => wpAny M A (call (.type T) ([] ++ a.pos) a.kw) Q E s₁) E s) : wpAny M A (callWith pos (.type T) [] args keywords) Q E s := by
  unfold callWith
  refine wpAny_bind (wpAny_holding (wpAny_mono h (fun a s₁ h₁ => wpAny_bind (wpAny_standAt ?_)) fun _ _ x => x))
  simp only [hplain, hkw, Bool.or_false]
  refine wpAny_bind (wpAny_pure ?_)
  exact wpAny_bind (wpAny_mono h₁ (fun r s₂ hr => wpAny_bind (wpAny_holding (wpAny_point (wpAny_pure hr)))) fun _ _ x => x)
end
/-- the list at a, each item in a new pair behind its number, from 1 on -/
def Ite1 (K : PySem.W.Frag) (a : Addr) : It :=
  ⟨fun i H => ∃ (xs : List V) (x : V), SqL K H a xs ∧ xs[i]? = some x, fun i H v H' => ∃ T x, v = .ref T ∧ H T = none ∧ H' = upd H T (.tup [.int ((i + 1 : Nat) : Int), x]) ∧ ∀ xs, SqL K H a xs → xs[i]? = some x, fun i H => ∃ xs : List V, SqL K H a xs ∧ xs.length ≤ i⟩
theorem liter_ne {h : Heap} {t c : Addr} {k : Nat} {ys : Array Value} (ct : h.IsList t ys) (ci : h.IsListIter c t k) : t ≠ c := fun e => by
  subst e
  obtain ⟨o, h1, h2, _⟩ := ct
  obtain ⟨o', k1, k2, _⟩ := ci
  rw [h1] at k1
  cases k1
  rw [h2] at k2
  injection k2 with k2
  exact absurd k2 (by decide)
theorem lenum_ne {h : Heap} {e it t : Addr} {i : Int} {old : Value} {ys : Array Value} (he : IsEnum h e it i old) (ct : h.IsList t ys) : e ≠ t := fun q => by
  subst q
  obtain ⟨o, h1, h2, _⟩ := ct
  rw [he] at h1
  cases h1
  injection h2 with h2
  exact absurd h2 (by decide)
theorem turn_enum1 {P : Program} {w : World} {K : PySem.W.Frag} {elts : List Expr} {kk : Nat} {tpos : Pos} (a e it : Addr) :
    Turn P w K (.Tuple elts kk tpos) (Ite1 K a) [e, it] e (fun i h => (∃ old, IsEnum h e it ((i + 1 : Nat) : Int) old) ∧ h.IsListIter it a i ∧ e ≠ it) where
  mem := by simp
  obj := fun i h st b hb => by
    obtain ⟨⟨old, he⟩, ⟨o, ho, hc, hd⟩, _⟩ := st
    have e' : b = e ∨ b = it := by simpa using hb
    rcases e' with z | z
    · rw [z]; exact ⟨_, he, fun v q => nomatch q⟩
    · rw [z]; exact ⟨o, ho, fun v q => by rw [hd] at q; cases q⟩
  keep := fun i h h' st k => let ⟨⟨old, he⟩, hi, hne⟩ := st; ⟨⟨old, k e (by simp) _ he⟩, hi.at fun o q => k it (by simp) o q, hne⟩
  item := by
    intro X hP hw hK hc i pins s σ H E I hf st hg
    subst hP hw hK
    obtain ⟨⟨old, he⟩, hit, hne⟩ := st
    obtain ⟨xs, x, hq, hx⟩ := hg
    obtain ⟨its, rv, p, hz⟩ := I.list hq
    obtain ⟨u, hu, ru⟩ := rv.get hx
    have hel : e < s.heap.objs.size := Heap.lt_size he
    have hil : it < s.heap.objs.size := by obtain ⟨_, q, _⟩ := hit; exact Heap.lt_size q
    have hlt : i + 1 < its.toArray.size + 1 := by
      have := (List.getElem?_eq_some_iff.mp hu).1
      simpa using this
    have nt : e ≠ a := lenum_ne he p.isList
    refine wpAny_pyNext_enum_itemD (i := i + 1) (draws1 (A := X.A.in1) (I.ok.hd hc) (liter_ne p.isList hit) its.toArray) he ⟨by omega, hit, p.isList⟩ hlt hne (by simp [hne, nt]) fun x' h' tk hx' ho st' hT hsz hk => ?_
    have ex : x' = u := by
      have e1 : its[i]? = some x' := by simpa using hx'
      rw [hu] at e1
      exact (Option.some.inj e1).symm
    subst ex
    refine ⟨_, rfl, wpAny_letOwnedTupleGo_enum (s := { s with heap := h', toks := tk + 1 }) ho fun h'' he' sb => ?_⟩
    have hT2 : h''.get? s.heap.objs.size = some { cls := .type "tuple", data := .seq #[.int ((i + 1 : Nat) : Int) tk, x'] } := (sb.2 _ (Nat.ne_of_gt hel)).trans hT
    have new : ObjOk X.prog X.w (upd H s.heap.objs.size (.tup [.int ((i + 1 : Nat) : Int), x])) h'' s.heap.objs.size (.tup [.int ((i + 1 : Nat) : Int), x]) :=
      ⟨by show 2 ≤ sizeLine; decide, [.int ((i + 1 : Nat) : Int) tk, x'], .cons ⟨_, rfl⟩ (.cons ru .nil), ⟨_, hT2, rfl, _, rfl⟩⟩
    have I1 : Inv X pins σ (upd H s.heap.objs.size (.tup [.int ((i + 1 : Nat) : Int), x])) { s with heap := h'', toks := tk + 1 } :=
      I.turnedNew (ch := [e, it]) (fun b ob hb q => (sb.2 b (fun z => hb (by simp [z]))).trans (hk b ob (fun z => hb (by simp [z])) (fun z => hb (by simp [z])) q)) hf (Nat.le_refl _) new
    refine ⟨.ref s.heap.objs.size, _, I1, rfl, ⟨_, x, rfl, I.hok.fresh (Nat.le_refl _), rfl, fun ys hy => by rw [I.list_inj hy hq]; exact hx⟩, ⟨⟨x', ?_⟩, st'.2.1.at fun o q => (sb.2 it (Ne.symm hne)).trans q, hne⟩, fun b hb => ?_⟩
    · have e1 : ((i + 1 + 1 : Nat) : Int) = ((i + 1 : Nat) : Int) + 1 := by omega
      rw [e1]; exact he'
    · have hb' : b < s.heap.objs.size := by
        have e' : b = e ∨ b = it := by simpa using hb
        rcases e' with z | z
        · rw [z]; exact hel
        · rw [z]; exact hil
      rw [upd_ne (Nat.ne_of_lt hb')]
      exact (hf b hb).1
  done := by
    intro X hP hw hK hc i pins s σ H E I hf st hg
    subst hP hw hK
    obtain ⟨⟨old, he⟩, hit, hne⟩ := st
    obtain ⟨xs, hq, hx⟩ := hg
    obtain ⟨its, rv, p, hz⟩ := I.list hq
    obtain ⟨f0, f1, f2, f3, f4, f5⟩ := hf it (by simp)
    have hl := rv.length
    have hend : its.toArray[i]? = none := by simp; omega
    have hT : s.TypeIs (.ref e) "enumerate" := ⟨_, he, rfl⟩
    unfold pyNext
    refine wpAny_bind (wpAny_attempt (wpAny_callSpecial?_slot (name := Str.ofString "__next__") hT F.slot_enumerate_next (wpAny_call_entry F.slot_enumerate_next hT F.entry_enumerate_next ?_ (F.args_enumerate_next_1 _))))
    show wpAny _ _ (field (.ref e) 2 >>= _) _ _ _
    refine wpAny_bind (wpAny_field he rfl (x := .ref it) rfl ?_)
    refine wpAny_bind (wpAny_nextOf_list_end (A := X.A.in1) (I.ok.hd hc) hit p.isList hend fun h' x he' hx' => ?_)
    obtain ⟨o, ho, hcl⟩ := hx'
    refine wpAny_bind (wpAny_isInstance (T := "StopIteration") (b := true) ⟨o, ho, hcl⟩ isSubtype_stop ?_)
    exact wpAny_pure ⟨rfl, I.turned (t' := s.toks) (fun b o hb q => he' b o hb q) f0 f1 f3 f4 f5⟩
  self := fun A i s Q E st h => let ⟨⟨_, he⟩, _⟩ := st; wpAny_pyIter_enum he h
def iEnum1 (K : PySem.W.Frag) (ta : TA) : TI := fun σ H R => ta σ H fun vs H1 => ∃ a xs, vs = [.ref a] ∧ SqL K H1 a xs ∧ R (Ite1 K a) H1
section
variable {X : Cx} {e : Expr} {tas : TA} {es : List Expr} {pos p tpos kp cp : Pos} {k j : Nat}
theorem ienum1 (hg : Gl X "enumerate") (hm : X.mg "enumerate" = none) (ha : SA X [e] tas) (hs : starEach [e] X.env = [(false, eval e X.env)]) :
    SI X (.Tuple es k tpos) (.Call (.Name "enumerate" p) [e] [⟨some "start", .Constant (.int 1) j cp, kp⟩] pos) (iEnum1 X.K tas) := by
  refine ⟨fun pins s σ H R I h => ?_⟩
  refine wpAny_Call_Name_kw (ld_blt I hg hm boot_enumerate ?_)
  have hb : backTo pos (starEach [e] X.env) = [(false, eval e X.env)] := by rw [hs]; rfl
  refine callT_kw (by rw [hb]; rfl) rfl ?_
  have q0 := ha.o pos pins s σ H _ I h
  rw [hb] at q0 ⊢
  refine evalArgs_kwB rfl (thn q0 fun us s1 ⟨vs, H1, I1, r1, q1⟩ => ?_)
  obtain ⟨a, xs, ex, hq, q⟩ := q1
  subst ex
  cases r1 with
  | cons r rr =>
    cases rr
    cases r
    refine kws_cons (wpAny_Constant_int (kws_nil ?_))
    have I1' : Inv X pins σ H1 { s1 with toks := s1.toks + 1 } := I1.tok _
    obtain ⟨its, rv, p', hz⟩ := I1.list hq
    show wpAny _ _ (call (.type "enumerate") [.ref a] (EnK.k1 s1.toks)) _ _ _
    refine EnK.call_kw (s := { s1 with toks := s1.toks + 1 }) p'.isList fun h' he hit hk => wpAny_pyIter_enum he ?_
    have I2 : Inv X pins σ H1 { s1 with heap := h', toks := s1.toks + 1 } := I1'.kept (t' := s1.toks + 1) hk
    refine ⟨s1.heap.objs.size + 1, [s1.heap.objs.size + 1, s1.heap.objs.size], _, _, H1, rfl, I2, turn_enum1 a (s1.heap.objs.size + 1) s1.heap.objs.size, ⟨⟨.none, he⟩, hit, Nat.succ_ne_self _⟩, fun b hb => ?_, q⟩
    have e' : b = s1.heap.objs.size + 1 ∨ b = s1.heap.objs.size := by simpa using hb
    have hle : s1.heap.objs.size ≤ b := by
      rcases e' with z | z
      · rw [z]; exact Nat.le_add_right _ _
      · rw [z]; exact Nat.le_refl _
    exact I1.fpOk hle (I1.hok.fresh hle)
end
/-! ### len(set(words)) -/
def tLenSet (K : PySem.W.Frag) (ta : TA) : TE := fun σ H Q => ta σ H fun vs H1 => ∃ a xs, vs = [.ref a] ∧ SqL K H1 a (xs.map V.str) ∧ xs.length ≤ 4000 ∧ Q (.int (SetT.dd xs).length) H1
theorem boot_set5 : bootBuiltins "set" = some (.type "set") := by decide +kernel
theorem vals_strs_at : ∀ {xs : List Str} {us : List Value}, Vals (xs.map V.str) us → ∀ (i : Nat) (v : Value), us[i]? = some v → ∃ x t, xs[i]? = some x ∧ v = Value.str x t
  | [], _, .nil, i, v, h => by simp at h
  | x :: r, _, .cons q t, 0, v, h => by
    obtain ⟨tk, rfl⟩ := q
    simp at h
    exact ⟨x, tk, rfl, h.symm⟩
  | x :: r, _, .cons q t, i + 1, v, h => by
    obtain ⟨y, tk, h1, h2⟩ := vals_strs_at t i v (by simpa using h)
    exact ⟨y, tk, by simpa using h1, h2⟩
section
variable {X : Cx} {e : Expr} {tas : TA} {pos p pos2 p2 : Pos}
theorem elenset (hc : X.calm = true) (hg : Gl X "len") (hm : X.mg "len" = none) (hg2 : Gl X "set") (hm2 : X.mg "set" = none) (ha : SA X [e] tas) (hs : starEach [e] X.env = [(false, eval e X.env)])
    (hs2 : starEach [.Call (.Name "set" p2) [e] [] pos2] X.env = [(false, eval (.Call (.Name "set" p2) [e] [] pos2) X.env)]) :
    SE X (.Call (.Name "len" p) [.Call (.Name "set" p2) [e] [] pos2] [] pos) (tLenSet X.K tas) := by
  refine ⟨fun pins s σ H Q I h => ?_⟩
  refine wpAny_Call_Name_kw (ld_blt I hg hm PySem.boot_len ?_)
  refine PyProof.Rows.callWith_builtin1 ?_ hs2 rfl
  rw [hs2]
  show wpAny _ _ (spliced ((false, eval (.Call (.Name "set" p2) [e] [] pos2) X.env) :: [])) _ _ s
  refine Calls.spliced_cons ?_
  refine Call_ (ld_blt I hg2 hm2 boot_set5 (PyProof.Rows.callWith_type1 (thn (ha.o pos2 pins s σ H _ I h) fun us s1 ⟨vs, H1, I1, r1, q1⟩ => ?_) hs rfl))
  obtain ⟨a, xs, ex, hq, h4, q⟩ := q1
  subst ex
  cases r1 with
  | cons r rr =>
    cases rr
    cases r
    obtain ⟨its, rv, pl, hz⟩ := I1.list hq
    have hlen := rv.length
    rw [List.length_map] at hlen
    refine SetT.call_set (I1.ok.hd hc) pl.isList (xs := xs) (by simp [hlen]) (fun i v hv => vals_strs_at rv i v (by simpa using hv)) (by unfold scanBound; omega) fun h' tk hS hk => ?_
    have I2 : Inv X pins σ H1 { s1 with heap := h', toks := tk } := I1.kept (t' := tk) fun b o e => hk b o (Heap.lt_size e) e
    refine Calls.spliced_nil ?_
    obtain ⟨o, es, ep, t, ho, hex, hd, hel, hmem, hb, hf, hn⟩ := hS
    have hle := SetT.dd_le _ xs rfl
    refine call_len_set ho hex hd hf (by rw [hn]; omega) ⟨.int (SetT.dd xs).length, H1, I2.tok _, ⟨_, by rw [hn]⟩, q⟩
end
/-! ### more rules behind structures -/
section
variable {X : Cx} {a b c e o : Expr} {ta tb tc te to : TE} {pos p apos : Pos} {st : Stmt}
theorem esplit (ho : SE X o to) (he : SE X e te) (hs : starEach [e] X.env = [(false, eval e X.env)]) (hbase : attributeBase o "split" X.env (eval o X.env) = eval o X.env) (hline : (apos.endLine == pos.line) = true) :
    SE X (.Call (.Attribute o "split" apos) [e] [] pos) (tM1 (fun x xs H Q => ∃ a b, x = .str a ∧ xs = [.str b] ∧ (b.length == 0) = false ∧ a.length + 2 ≤ sizeLine ∧ rNewStrs (Txt.split a b) H Q) to te) := ⟨pe_split ho.o he.o hs hbase hline⟩
theorem echain {op op' : CmpOp} {r r' : R2} (h1 : OpR X (compareOp op) r) (h2 : OpR X (compareOp op') r') (ha : SE X a ta) (hb : SE X b tb) (hc : SE X c tc) (hm : lastMarks [op, op'] [b, c] = false) : SE X (.Compare a [op, op'] [b, c] pos) (tChain r r' ta tb tc) := ⟨pe_chain h1 h2 ha.o hb.o hc.o hm⟩
theorem tchain {op op' : CmpOp} {r r' : R2} (h1 : OpR X (compareOp op) r) (h2 : OpR X (compareOp op') r') (ha : SE X a ta) (hb : SE X b tb) (hc : SE X c tc) (hm : lastMarks [op, op'] [b, c] = false) : ST X (.Compare a [op, op'] [b, c] pos) (tTest (tChain r r' ta tb tc)) := ⟨pt_chain h1 h2 ha.o hb.o hc.o hm⟩
theorem eglob {x : Str} {v : V} {u : Value} (hg : Gl X x) (hm : X.mg x = some u) (r : RelV v u) (hd : (x == ("__debug__" : Str)) = false) : SE X (.Name x pos) (tC v) := ⟨pe_glob hg hm r hd⟩
end
/-- a comprehension over a text's signs -/
theorem lc_str {x : Str} {g : TG} {tt : TT} {te : TE} {vs : List Nat} {σ : St} {H1 : Hp} {D : Addr} {Qd : Hp → Prop} (Pv : Nat → Hp → Prop) (h0 : Pv 0 (upd H1 D (.lst [])))
    (hs : ∀ (i c : Nat) H, x.cps[i]? = some c → Pv i H → g (.str ⟨#[c]⟩) (wipe σ vs) H fun σ2 H2 => wipe σ2 vs = wipe σ vs ∧ tt σ2 H2 fun b H3 =>
      if b = true then te σ2 H3 fun y H4 => ∃ acc, H4 D = some (.lst acc) ∧ acc.length < sizeLine ∧ Pv (i + 1) (upd H4 D (.lst (acc ++ [y]))) else Pv (i + 1) H3) (hd : ∀ H, Pv x.cps.size H → Qd H) :
    ∃ W : Nat → Nat → Hp → Prop, (∃ m, W 0 m (upd H1 D (.lst []))) ∧ ∀ i m H, W i m H →
      ((Its x).stop i H ∧ Qd H) ∨ ((Its x).go i H ∧ ∃ Nx : Hp → Prop, (∀ H', Nx H' → ∃ m', m' < m ∧ W (i + 1) m' H') ∧ ∀ v H', (Its x).yld i H v H' → g v (wipe σ vs) H' fun σ2 H2 => wipe σ2 vs = wipe σ vs ∧ tt σ2 H2 fun b H3 =>
        if b = true then te σ2 H3 fun y H4 => ∃ acc, H4 D = some (.lst acc) ∧ acc.length < sizeLine ∧ Nx (upd H4 D (.lst (acc ++ [y]))) else Nx H3) := by
  refine ⟨fun i m H => m = x.cps.size - i ∧ i ≤ x.cps.size ∧ Pv i H, ⟨x.cps.size, by simp, Nat.zero_le _, h0⟩, ?_⟩
  rintro i m H ⟨rfl, hi, p⟩
  by_cases hlt : i < x.cps.size
  · refine .inr ⟨hlt, Pv (i + 1), fun H' p' => ⟨x.cps.size - (i + 1), by omega, rfl, hlt, p'⟩, ?_⟩
    rintro v H' ⟨rfl, c, hc, rfl⟩
    exact hs i c H' hc p
  · have e : i = x.cps.size := by omega
    subst e
    exact .inl ⟨Nat.le_refl _, hd H p⟩
/-! ### within a comprehension's block: the same rules, the module's objects by a letter -/
section
variable {X : Cx} {K : PySem.W.Frag} {e o : Expr} {te to : TE} {es : List Expr} {tas : TA} {pos apos : Pos}
theorem call_len_seqK (hK : X.K = K) : CallR X (.builtin "len") (fun xs H Q => ∃ p ys, xs = [.ref p] ∧ (SqL K H p ys ∨ SqT K H p ys) ∧ Q (.int ys.length) H) := by subst hK; exact call_len_seq
theorem sl_tupK (hK : X.K = K) : SlR X (rSlT K) := by subst hK; exact sl_tup
theorem op_notIn_seqK (hK : X.K = K) : OpR X (compareOp .NotIn) (rIn K true) := by subst hK; exact op_notIn_seq
theorem itupK {tg : Expr} (hK : X.K = K) (h : SE X e te) : SI X tg e (iTup K te) := by subst hK; exact itup h
theorem ebmK {name : Str} {T id : String} {r : V → List V → Hp → VK → Prop} (hK : X.K = K) (pa : PlainAttrs T) (slot : Slot T name id) (hty : typeOf (.builtin id) = pure (.type "method_descriptor")) (hm : MtR X id r) (ho : SE X o to) (ha : SA X (e :: es) tas)
    (hbase : attributeBase o name X.env (eval o X.env) = eval o X.env)
    (hfew : ((backTo pos (starEach (e :: es) X.env)).all (fun x => !x.1) && (backToKw pos (keywordEach [] X.env)).all (fun x => x.1.isSome) && decide ((e :: es).length + ([] : List Keyword).length + (if ([] : List Keyword).isEmpty then 0 else 1) < 30)) = true)
    (hline : (apos.endLine == pos.line) = true) (hs : starEach (e :: es) X.env = (false, eval e X.env) :: starEach es X.env) (hplain : (backTo pos (starEach es X.env)).any (·.1) = false) : SE X (.Call (.Attribute o name apos) (e :: es) [] pos) (tBM K T r to tas) := by
  subst hK
  exact ebm pa slot hty hm ho ha hbase hfew hline hs hplain
end
end L2

/-! f-strings of texts, a starred list within a list display, deep comparison of texts. -/
namespace L2
open PySem PySem.Spec PyProof.Rows
/-- an f-string's parts from the left, out the text so far -/
abbrev TJ := Str → St → Hp → VK → Prop
structure SJ (X : Cx) (es : List Expr) (t : TJ) : Prop where
  o : ∀ (out : Str) (pins : List (Addr × Obj)) (s : Shared) (σ : St) (H : Hp) (Q : VK), Inv X pins σ H s → t out σ H Q → wpAny (model X.prog X.w) X.A (joinParts out (evalEach es X.env)) (EP X pins σ Q) X.xe s
def tJNil : TJ := fun out σ H Q => out.length ≤ sizeLine ∧ Q (.str out) H
def tJCons (te : TE) (tj : TJ) : TJ := fun out σ H Q => te σ H fun v H1 => ∃ y : Str, v = .str y ∧ (out ++ y).length ≤ sizeLine ∧ tj (out ++ y) σ H1 Q
def tFv (te : TE) : TE := fun σ H Q => te σ H fun v H1 => ∃ y : Str, v = .str y ∧ y.length ≤ sizeLine ∧ Q (.str y) H1
def tJs (tj : TJ) : TE := fun σ H Q => tj Str.empty σ H Q
section
variable {X : Cx} {e a b : Expr} {es : List Expr} {te : TE} {tj : TJ} {tas : TA} {pos p : Pos}
/-- a starred list in a display -/
def tStar (K : PySem.W.Frag) (te : TE) (tr : TA) : TA := fun σ H Q => te σ H fun x H1 => ∃ a xs, x = .ref a ∧ SqL K H1 a xs ∧ tr σ H1 fun ys H2 => Q (xs ++ ys) H2
theorem vals_app : ∀ {xs ys : List V} {us vs : List Value}, Vals xs us → Vals ys vs → Vals (xs ++ ys) (us ++ vs)
  | _, _, _, _, .nil, h => h
  | _, _, _, _, .cons r t, h => .cons r (vals_app t h)
end
/-! ### deep facts of texts -/
def prD (p : SS) : PyData := .tuple [.str p.1, .str p.2]
def webD (ns : List Str) (ts : List SS) : PyData := .tuple [.tuple (ns.map PyData.str), .tuple (ts.map prD)]
end L2

/-! Texts of webs. -/
namespace Tm
open PySem L2 Wd Wm PyProof.Rows
def RowNames (row : Str) (words : List Str) : Prop := row.length ≤ 10000 ∧ ((row.length = 0 ∧ words = []) ∨ (row.length ≠ 0 ∧ Txt.split row " " = words))
def RowTie (row : Str) (p : SS) : Prop := row.length ≤ 10000 ∧ (Txt.split row " " = [p.1, p.2] ∨ Txt.split row " " = [p.2, p.1])
structure TextOf (text : Str) (names : List Str) (ties : List SS) : Prop where
  len : text.length ≤ 1000000
  ex : ∃ row0 rows words ps, Txt.split text "\n" = row0 :: rows ∧ rows.length ≤ 1000 ∧ RowNames row0 words ∧ words.Perm names ∧ Paired RowTie rows ps ∧ ps.Perm ties
theorem tl_sp : TL.tl (" " : Str) = [32] := by decide +kernel
theorem tl_nl : TL.tl ("\n" : Str) = [10] := by decide +kernel
theorem joinL_len (S : List Nat) : ∀ (ls : List (List Nat)) (n : Nat), (∀ l ∈ ls, l.length ≤ n) → (TL.joinL S ls).length ≤ ls.length * (n + S.length)
  | [], _, _ => by simp [TL.joinL]
  | [p], n, h => by
    have := h p (by simp)
    simp [TL.joinL]
    omega
  | p :: q :: r, n, h => by
    have h1 := h p (by simp)
    have ih := joinL_len S (q :: r) n fun l hl => h l (List.mem_cons_of_mem _ hl)
    have e : (TL.joinL S (p :: q :: r)).length = p.length + (S.length + (TL.joinL S (q :: r)).length) := by simp [TL.joinL]
    rw [e, List.length_cons, Nat.succ_mul]
    omega
theorem joinL_mem (S : List Nat) : ∀ (ls : List (List Nat)) (c : Nat), c ∈ TL.joinL S ls → c ∈ S ∨ ∃ l ∈ ls, c ∈ l
  | [], c, h => by simp [TL.joinL] at h
  | [p], c, h => .inr ⟨p, by simp, by simpa [TL.joinL] using h⟩
  | p :: q :: r, c, h => by
    have e : TL.joinL S (p :: q :: r) = p ++ (S ++ TL.joinL S (q :: r)) := rfl
    rw [e] at h
    rcases List.mem_append.mp h with h | h
    · exact .inr ⟨p, by simp, h⟩
    · rcases List.mem_append.mp h with h | h
      · exact .inl h
      · rcases joinL_mem S (q :: r) c h with h | ⟨l, hl, h⟩
        · exact .inl h
        · exact .inr ⟨l, List.mem_cons_of_mem _ hl, h⟩
theorem joinL_ge (S p : List Nat) (r : List (List Nat)) : p.length ≤ (TL.joinL S (p :: r)).length := by
  cases r with
  | nil => exact Nat.le_refl _
  | cons q r => simp [TL.joinL]
theorem tl_joinT (y : Str) (ws : List Str) : (Txt.join y ws).cps.toList = TL.joinL (TL.tl y) (ws.map TL.tl) := by
  rw [TL.join_eq]
  exact TL.tl_join y ws
/-- words parted by single blanks -/
theorem split_words {ws : List Str} (hne : ws ≠ []) (h : ∀ w ∈ ws, Word w) : Txt.split (Txt.join (" " : Str) ws) " " = ws :=
  TL.split_join tl_sp (by decide +kernel) hne fun p hp hm => by
    have := (h p hp).lt 32 hm
    omega
theorem join_len {y : Str} {ws : List Str} {n : Nat} (h : ∀ w ∈ ws, w.length ≤ n) : (Txt.join y ws).length ≤ ws.length * (n + y.length) := by
  rw [len_tl, tl_joinT]
  have := joinL_len (TL.tl y) (ws.map TL.tl) n fun l hl => by
    obtain ⟨w, hw, rfl⟩ := List.mem_map.mp hl
    exact h w hw
  rw [List.length_map] at this
  exact this
theorem row_names {ws : List Str} (h : ∀ w ∈ ws, Word w) (hl : ws.length ≤ 100) : RowNames (Txt.join (" " : Str) ws) ws := by
  have l1 := join_len (y := (" " : Str)) (ws := ws) (n := 8) fun w hw => (h w hw).hi
  have e1 : (" " : Str).length = 1 := by decide +kernel
  rw [e1] at l1
  refine ⟨by omega, ?_⟩
  cases ws with
  | nil => exact .inl ⟨by rw [len_tl, tl_joinT]; rfl, rfl⟩
  | cons w r =>
    refine .inr ⟨?_, split_words (by simp) h⟩
    rw [len_tl, tl_joinT, List.map_cons]
    have g := joinL_ge (TL.tl (" " : Str)) (TL.tl w) (r.map TL.tl)
    have hw := (h w (List.mem_cons_self ..)).lo
    have e : (TL.tl w).length = w.length := rfl
    omega
theorem row_tie {ws : List Str} {p : SS} (h1 : Word p.1) (h2 : Word p.2) (hp : ws.Perm [p.1, p.2]) : RowTie (Txt.join (" " : Str) ws) p := by
  have hw : ∀ w ∈ ws, Word w := fun w hw => by
    have := hp.mem_iff.mp hw
    simp only [List.mem_cons, List.not_mem_nil, or_false] at this
    rcases this with rfl | rfl
    · exact h1
    · exact h2
  have hl : ws.length = 2 := by rw [hp.length_eq]; rfl
  have l1 := join_len (y := (" " : Str)) (ws := ws) (n := 8) fun w h => (hw w h).hi
  have e1 : (" " : Str).length = 1 := by decide +kernel
  rw [e1, hl] at l1
  refine ⟨by omega, ?_⟩
  rw [split_words (by intro e; rw [e] at hl; cases hl) hw]
  match ws, hl, hp with
  | [a, b], _, hp =>
    have ha := hp.mem_iff.mp (List.mem_cons_self (a := a) (l := [b]))
    have hab := List.cons_perm_iff_perm_erase.mp hp
    simp only [List.mem_cons, List.not_mem_nil, or_false] at ha
    by_cases e : a = p.1
    · subst e
      have := hab.2
      simp at this
      exact .inl (by rw [this])
    · have e2 : a = p.2 := ha.resolve_left e
      subst e2
      have := hab.2
      rw [List.erase_cons_tail (by simpa using fun z => e z.symm)] at this
      simp at this
      exact .inr (by rw [this])
/-- the rows of a text have no line end within -/
def NoNl (x : Str) : Prop := 10 ∉ x.cps.toList
theorem nonl_join {ws : List Str} (h : ∀ w ∈ ws, Word w) : NoNl (Txt.join (" " : Str) ws) := fun hm => by
  rw [tl_joinT] at hm
  rcases joinL_mem _ _ _ hm with h1 | ⟨l, hl, h1⟩
  · rw [tl_sp] at h1
    simp at h1
  · obtain ⟨w, hw, rfl⟩ := List.mem_map.mp hl
    have := (h w hw).lt 10 h1
    omega
theorem split_rows {rows : List Str} (hne : rows ≠ []) (h : ∀ r ∈ rows, NoNl r) : Txt.split (Txt.join ("\n" : Str) rows) "\n" = rows :=
  TL.split_join tl_nl (by decide +kernel) hne fun p hp => h p hp
/-- two words put in order -/
theorem two_sorted {p : SS} {ys l : List Str} (hlt : sLt p.1 p.2) (hl : l = [p.1, p.2] ∨ l = [p.2, p.1]) (hp : ys.Perm l) (hs : sortedS ys = true) : ys = [p.1, p.2] := by
  have hp2 : ys.Perm [p.1, p.2] := by
    rcases hl with rfl | rfl
    · exact hp
    · exact hp.trans (List.Perm.swap _ _ _)
  have nd : ys.Nodup := hp2.nodup_iff.mpr (by simp [sLt_ne hlt])
  have h1 := strict hs nd
  have hlen : ys.length = 2 := hp2.length_eq
  match ys, hlen, h1, hp2 with
  | [a, b], _, h1, hp2 =>
    have hab : sLt a b := List.rel_of_pairwise_cons h1 (by simp)
    have ha := hp2.mem_iff.mp (List.mem_cons_self (a := a) (l := [b]))
    have hb := hp2.mem_iff.mp (show b ∈ [a, b] by simp)
    simp only [List.mem_cons, List.not_mem_nil, or_false] at ha hb
    rcases ha with rfl | rfl <;> rcases hb with rfl | rfl
    · exact absurd hab (sLt_irr _)
    · rfl
    · exact absurd (sLt_trans hab hlt) (sLt_irr _)
    · exact absurd hab (sLt_irr _)
end Tm

/-! The text of a web, written two ways. -/
namespace Sm
open PySem PySem.Spec L2 Wd Wm Tm PyProof.Rows
def rowOf (p : SS) : Str := Txt.join (" " : Str) [p.1, p.2]
def shown (names : List Str) (ties : List SS) : Str := Txt.join ("\n" : Str) (Txt.join (" " : Str) names :: ties.map rowOf)
def fN (n : Str) : List Nat := 32 :: n.cps.toList
def fT (p : SS) : List Nat := 10 :: (rowOf p).cps.toList
theorem joinL_sp : ∀ (x : List Nat) (ls : List (List Nat)), TL.joinL [32] (x :: ls) = x ++ ls.flatMap (fun l => 32 :: l)
  | x, [] => by simp [TL.joinL]
  | x, y :: r => by
    show x ++ ([32] ++ TL.joinL [32] (y :: r)) = _
    rw [joinL_sp y r]
    simp
theorem joinL_nl : ∀ (x : List Nat) (ls : List (List Nat)), TL.joinL [10] (x :: ls) = x ++ ls.flatMap (fun l => 10 :: l)
  | x, [] => by simp [TL.joinL]
  | x, y :: r => by
    show x ++ ([10] ++ TL.joinL [10] (y :: r)) = _
    rw [joinL_nl y r]
    simp
theorem flat_map {α : Type} (f : α → List Nat) (c : Nat) (l : List α) : (l.map f).flatMap (fun x => c :: x) = l.flatMap (fun x => c :: f x) := by
  induction l with
  | nil => rfl
  | cons x r ih => simp [ih]
theorem shown_tl (names : List Str) (ties : List SS) : (shown names ties).cps.toList = (names.flatMap fN).drop 1 ++ ties.flatMap fT := by
  unfold shown
  rw [tl_joinT, tl_nl, List.map_cons, joinL_nl]
  congr 1
  · show (Txt.join (" " : Str) names).cps.toList = _
    rw [tl_joinT, tl_sp]
    cases names with
    | nil => rfl
    | cons x r =>
      rw [List.map_cons, joinL_sp, flat_map]
      simp [fN]
      rfl
  · rw [List.map_map, flat_map]
    rfl
theorem cut_from_s (z : Str) (k : Nat) (h : k ≤ z.length) : (cutS z (some (k : Int)) none).cps.toList = z.cps.toList.drop k := by
  unfold cutS
  rw [HT.sIx_nat, HT.sIx_none]
  have e : min k z.length = k := by omega
  rw [e]
  show (List.take (z.length - k) (List.drop k z.cps.toList)).toArray.toList = _
  rw [List.take_of_length_le (by rw [List.length_drop]; exact Nat.le_refl _)]
theorem no_ties {names : List Str} {ties : List SS} (h : WebOk names ties) (e : names = []) : ties = [] := by
  cases ties with
  | nil => rfl
  | cons p r =>
    have := (h.ti p (List.mem_cons_self ..)).1
    rw [e] at this
    cases this
/-- what is written with all its blanks, its first blank off -/
theorem written {names : List Str} {ties : List SS} (h : WebOk names ties) {z : Str} (hz : z.cps.toList = names.flatMap fN ++ ties.flatMap fT) : cutS z (some (if (!decide (names = [])) = true then (1 : Int) else 0)) none = shown names ties := by
  apply ext_toList
  rw [shown_tl]
  by_cases e : names = []
  · have e2 := no_ties h e
    subst e
    subst e2
    have : cutS z (some (if (!decide (([] : List Str) = [])) = true then (1 : Int) else 0)) none = cutS z (some ((0 : Nat) : Int)) none := rfl
    rw [this, cut_from_s _ _ (Nat.zero_le _), hz]
    rfl
  · have c : (!decide (names = [])) = true := by simp [e]
    rw [c]
    have : cutS z (some (if true = true then (1 : Int) else 0)) none = cutS z (some ((1 : Nat) : Int)) none := rfl
    cases names with
    | nil => exact absurd rfl e
    | cons x r =>
      rw [this, cut_from_s z 1 (by rw [len_tl, hz]; simp [fN]), hz]
      simp [fN]
end Sm

/-! t + u of any tuples; t[::-1] and xs[::-1]; more loops. -/
namespace L2
open PySem PySem.Spec PyProof.Rows
theorem fm_congr {α β : Type} {f g : α → Option β} : ∀ {l : List α}, (∀ x ∈ l, f x = g x) → l.filterMap f = l.filterMap g
  | [], _ => rfl
  | x :: r, h => by
    have h2 := fm_congr (f := f) (g := g) (l := r) fun y hy => h y (List.mem_cons_of_mem _ hy)
    rw [List.filterMap_cons, List.filterMap_cons, h x (List.mem_cons_self ..), h2]
theorem rev_pick {α : Type} : ∀ r : List α, (List.range r.length).filterMap (fun m => r.reverse[r.length - 1 - m]?) = r
  | [] => rfl
  | a :: t => by
    have ih := rev_pick t
    rw [List.length_cons, List.range_succ_eq_map, List.filterMap_cons, List.filterMap_map]
    have e0 : (a :: t).reverse[t.length + 1 - 1 - 0]? = some a := by
      rw [List.reverse_cons]
      simp
    rw [e0]
    simp only
    congr 1
    refine Eq.trans (fm_congr fun m hm => ?_) ih
    have hm' : m < t.length := List.mem_range.mp hm
    show (a :: t).reverse[t.length + 1 - 1 - (m + 1)]? = t.reverse[t.length - 1 - m]?
    have e : t.length + 1 - 1 - (m + 1) = t.length - 1 - m := by omega
    rw [e, List.reverse_cons, List.getElem?_append_left (by rw [List.length_reverse]; omega)]
theorem rev_pick' {α : Type} (l : List α) : (List.range l.length).filterMap (fun m => l[l.length - 1 - m]?) = l.reverse := by
  have := rev_pick l.reverse
  rw [List.length_reverse, List.reverse_reverse] at this
  exact this
theorem slicePick_rev (xs : List Value) : slicePick xs.toArray none none (some (-1)) = xs.reverse.toArray := by
  have p := picked_rev xs.length
  have e : slicePick xs.toArray none none (some (-1)) = ((Builtin.Str.strSliceIndices none none (-1) xs.length).filterMap (xs.toArray[·]?)).toArray := rfl
  rw [e, p, List.filterMap_map]
  congr 1
  rw [← rev_pick' xs]
  refine fm_congr fun m hm => ?_
  simp
section
variable {prog : Program} {w : World} {A : Around} {E : Value → Shared → Prop} {s : Shared}
end
theorem vals_rev : ∀ {xs : List V} {us : List Value}, Vals xs us → Vals xs.reverse us.reverse
  | _, _, .nil => .nil
  | _, _, .cons r t => by
    rw [List.reverse_cons, List.reverse_cons]
    exact vals_app (vals_rev t) (.cons r .nil)
def tRevT (K : PySem.W.Frag) (te ts : TE) : TE := fun σ H Q => te σ H fun x H1 => ts σ H1 fun i H2 => i = .int (-1) ∧ ∃ a xs, x = .ref a ∧ SqT K H2 a xs ∧ ∀ p, H2 p = none → Q (.ref p) (upd H2 p (.tup xs.reverse))
def tRevL (K : PySem.W.Frag) (te ts : TE) : TE := fun σ H Q => te σ H fun x H1 => ts σ H1 fun i H2 => i = .int (-1) ∧ ∃ a xs, x = .ref a ∧ SqL K H2 a xs ∧ ∀ p, H2 p = none → Q (.ref p) (upd H2 p (.lst xs.reverse))
section
variable {X : Cx} {e st : Expr} {te ts : TE} {pos p2 : Pos}
theorem erevL (he : SE X e te) (hs : SE X st ts) : SE X (.Subscript e (.Slice none none (some st) p2) pos) (tRevL X.K te ts) := by
  refine ⟨fun pins s σ H Q I h => ?_⟩
  refine Subscript_ (thn (he.o pins s σ H _ I h) fun v s1 ⟨x, H1, I1, r1, q1⟩ => ?_)
  refine wpAny_Slice ?_
  rw [evalPart_none, evalPart_some]
  refine wpAny_pure (wpAny_pure (thn (hs.o pins s1 σ H1 _ I1 q1) fun u s2 ⟨i, H2, I2, r2, q2⟩ => ?_))
  obtain ⟨rfl, a, xs, rfl, hx, q⟩ := q2
  obtain ⟨t, rfl⟩ := r2
  cases r1
  have I4 : Inv X pins σ H2 { s2 with heap := s2.heap.push { cls := .type "slice", data := .fields #[.none, .none, .int (-1) t] } } := I2.kept (t' := s2.toks) fun b ob q => Heap.get?_push_of_some _ q
  obtain ⟨its, r, ht, hz⟩ := I4.list hx
  have hlen := r.length
  show wpAny (model X.prog X.w) X.A (subscriptTail e (.Slice none none (some st) p2) (.ref a) (.ref s2.heap.objs.size)) (EP X pins σ Q) X.xe { s2 with heap := s2.heap.push { cls := .type "slice", data := .fields #[.none, .none, .int (-1) t] } }
  refine tail_any (ops := [.ref a, .ref s2.heap.objs.size]) ht.isList.typeIs slot_list_getitem.lookup ?_ (by with_unfolding_all rfl)
  refine wpAny_getItem_list_slice ht.isList (Heap.IsSliceOf.new ..) .none .none (.int (-1) t) (by simp) ?_ (by rw [List.size_toArray] <;> omega)
  rw [slicePick_rev]
  refine ⟨.ref _, _, I4.laid (t' := s2.toks) (o := .lst xs.reverse) (fun b ob q => Heap.get?_push_of_some _ q) (Nat.le_refl _) ?_, rfl, q _ (I4.hok.fresh (Nat.le_refl _))⟩
  exact ⟨by rw [List.length_reverse]; exact hz, its.reverse, 0, vals_rev r, Heap.get?_push_size _ rfl⟩
/-! ### t + u -/
def rCatA (K : PySem.W.Frag) : R2 := fun x y H Q => ∃ a b xs ys, x = .ref a ∧ y = .ref b ∧ SqT K H a xs ∧ SqT K H b ys ∧ xs.length + ys.length ≤ sizeLine ∧ ∀ r H', Same H H' → SqT K H' r (xs ++ ys) → Q (.ref r) H'
end
end L2

/-! Webs by some of their names, without some of them. -/
namespace Km
open PySem PySem.Spec L2 Wd Wm PyProof.Rows
def kN (names xs : List Str) : List Str := names.filter fun n => decide (n ∈ xs)
def kT (ties : List SS) (xs : List Str) : List SS := ties.filter fun p => decide (p.1 ∈ xs) && decide (p.2 ∈ xs)
def nN (names xs : List Str) : List Str := names.filter fun n => !decide (n ∈ xs)
def nT (ties : List SS) (xs : List Str) : List SS := ties.filter fun p => !decide (p.1 ∈ xs) && !decide (p.2 ∈ xs)
theorem filt_congr {α : Type} {f g : α → Bool} : ∀ {l : List α}, (∀ x ∈ l, f x = g x) → l.filter f = l.filter g
  | [], _ => rfl
  | x :: r, h => by
    have h2 := filt_congr (f := f) (g := g) (l := r) fun y hy => h y (List.mem_cons_of_mem _ hy)
    rw [List.filter_cons, List.filter_cons, h x (List.mem_cons_self ..), h2]
theorem mem_kN {names xs : List Str} {n : Str} : n ∈ kN names xs ↔ n ∈ names ∧ n ∈ xs := by unfold kN; rw [List.mem_filter]; simp
theorem mem_nN {names xs : List Str} {n : Str} : n ∈ nN names xs ↔ n ∈ names ∧ n ∉ xs := by unfold nN; rw [List.mem_filter]; simp
theorem mem_kT {ties : List SS} {xs : List Str} {p : SS} : p ∈ kT ties xs ↔ p ∈ ties ∧ p.1 ∈ xs ∧ p.2 ∈ xs := by unfold kT; rw [List.mem_filter]; simp
theorem kN_sub (names xs : List Str) : (kN names xs).Sublist names := List.filter_sublist
theorem kN_nN (names xs : List Str) : kN names (nN names xs) = nN names xs := by
  refine filt_congr fun n hn => ?_
  have : decide (n ∈ nN names xs) = !decide (n ∈ xs) := by
    rw [Bool.eq_iff_iff]; simp [mem_nN, hn]
  exact this
theorem ndp {names : List Str} {ties : List SS} (h : WebOk names ties) : names.Nodup := List.nodup_iff_pairwise_ne.mpr (List.Pairwise.imp (fun {a b} k => sLt_ne k) h.ns)
/-! ### together -/
theorem parts (names one : List Str) : ∀ {ties : List SS}, (∀ p ∈ ties, p.1 ∈ names ∧ p.2 ∈ names) → (kT ties one).length + (kT ties (nN names one)).length + (ties.filter fun p => !decide (decide (p.1 ∈ one) = decide (p.2 ∈ one))).length = ties.length
  | [], _ => rfl
  | p :: r, h => by
    have ih := parts names one (ties := r) fun q hq => h q (List.mem_cons_of_mem _ hq)
    have z := h p (List.mem_cons_self ..)
    unfold kT at ih ⊢
    rw [List.filter_cons, List.filter_cons, List.filter_cons, List.length_cons]
    have e1 : decide (p.1 ∈ nN names one) = !decide (p.1 ∈ one) := by rw [Bool.eq_iff_iff]; simp [mem_nN, z.1]
    have e2 : decide (p.2 ∈ nN names one) = !decide (p.2 ∈ one) := by rw [Bool.eq_iff_iff]; simp [mem_nN, z.2]
    rw [e1, e2]
    generalize r.filter (fun p => decide (p.1 ∈ one) && decide (p.2 ∈ one)) = A at ih ⊢
    generalize r.filter (fun p => decide (p.1 ∈ nN names one) && decide (p.2 ∈ nN names one)) = B at ih ⊢
    generalize r.filter (fun p => !decide (decide (p.1 ∈ one) = decide (p.2 ∈ one))) = C at ih ⊢
    by_cases c1 : p.1 ∈ one <;> by_cases c2 : p.2 ∈ one <;> simp [c1, c2] <;> omega
end Km

/-! tuple.index, min and max of texts, a dict of the module, dicts by pairs, list(range(n)). -/
namespace L2
open PySem PySem.Spec PyProof.Rows
section
variable {prog : Program} {w : World} {A : Around} {E : Value → Shared → Prop} {s : Shared}
theorem index_loop {x : Value} {items : Array Value} {e : Value → Bool} {j : Nat} (hj : j < items.size) (hit : e items[j] = true) (hno : ∀ m (hm : m < items.size), m < j → e items[m] = false) (he : ∀ y, y ∈ items → SeqAt.EqAt A s y x (e y)) {Q : Option PySem.Fin × Unit → Shared → Prop}
    (h : Q (some (.done (.ret (.int j s.toks))), ()) { s with toks := s.toks + 1 }) : ∀ (k i : Nat), j - i = k → i ≤ j → ∀ n, j < i + n →
    wpAny (model prog w) A (forIn (List.range' i n 1) ((none, ()) : Option PySem.Fin × Unit) fun (i : Nat) (__s : Option PySem.Fin × Unit) => (match items[i]? with
                    | some y => do
                      let __do_lift ← eqBool y x
                      if __do_lift = true then do
                          let __do_lift ← retInt ((i : Nat) : Int)
                          pure (ForInStep.done (some __do_lift, ()))
                        else pure (ForInStep.yield (none, ()))
                    | x => pure (ForInStep.yield (none, ())) : Sem (ForInStep (Option PySem.Fin × Unit)))) Q E s := by
  intro k
  induction k with
  | zero =>
    intro i hk hi n hn
    have ei : i = j := by omega
    subst ei
    obtain ⟨n', rfl⟩ : ∃ n', n = n' + 1 := ⟨n - 1, by omega⟩
    rw [List.range'_succ, List.forIn_cons]
    refine wpAny_bind ?_
    rw [Array.getElem?_eq_getElem hj]
    refine wpAny_bind (he _ (Array.getElem_mem hj) prog w E _ ?_)
    rw [hit]
    simp only [if_true]
    exact wpAny_bind (wpAny_bind (wpAny_mkInt (wpAny_pure (wpAny_pure (wpAny_pure h)))))
  | succ k ih =>
    intro i hk hi n hn
    have hlt : i < items.size := by omega
    obtain ⟨n', rfl⟩ : ∃ n', n = n' + 1 := ⟨n - 1, by omega⟩
    rw [List.range'_succ, List.forIn_cons]
    refine wpAny_bind ?_
    rw [Array.getElem?_eq_getElem hlt]
    refine wpAny_bind (he _ (Array.getElem_mem hlt) prog w E _ ?_)
    rw [hno i hlt (by omega)]
    simp only [Bool.false_eq_true, if_false]
    exact wpAny_pure (ih (i + 1) (by omega) (by omega) n' (by omega))
def s2 (a b : Str) : Nat → Str
  | 0 => a
  | _ => b
end
section
variable {X : Cx}
/-- names.index(x), names unlike texts -/
def rIndexT (K : PySem.W.Frag) : V → List V → Hp → VK → Prop := fun x xs H Q => ∃ (a : Addr) (ys : List Str) (y : Str) (j : Nat), x = V.ref a ∧ xs = [.str y] ∧ SqT K H a (ys.map V.str) ∧ ys[j]? = some y ∧ (∀ m, m < j → ys[m]? ≠ some y) ∧ Q (.int (j : Nat)) H
end
/-! ### a dict of the module, read by a text -/
def TopD (K : PySem.W.Frag) (w : World) (a : Addr) : Prop := ∃ es n, K.lookup a = some ⟨.type "dict", none, .dict es n, #[]⟩ ∧ PySem.W.KeysLit w.params es.toList
def tTop (K : PySem.W.Frag) (a : Addr) (ti : TE) : TE := fun σ H Q => ti σ H fun y H1 => ∃ x v u, y = .str x ∧ PySem.W.nsIn K a x = some (some u) ∧ RelV v u ∧ Q v H1
section
variable {X : Cx} {o i e value : Expr} {pos pos' tpos p : Pos} {td ty tv te ti : TE}
/-! ### dicts by pairs -/
/-! ### list(range(n)) -/
def tLrange (ta : TA) : TE := fun σ H Q => ta σ H fun vs H1 => ∃ n : Nat, vs = [.int n] ∧ n ≤ 1000 ∧ ∀ l, H1 l = none → Q (.ref l) (upd H1 l (.lst ((List.range n).map fun k => V.int (k : Nat))))
end
end L2
namespace L2
open PySem
/-- the scope of the comprehension that a def returns -/
def retComp (st : Stmt) : Scope := match (defBody st).getLast? with
  | some (.Return (some (.ListComp _ _ sc _)) _) => sc
  | _ => defScope st
section
variable {X : Cx} {K : PySem.W.Frag}
end
section
open PyProof.Rows
variable {X : Cx} {K : PySem.W.Frag}
end
/-! ### a tuple that is known to have no dict: its methods -/
def TupD (H : Hp) (a : Addr) : Prop := ∃ o xs, H a = some (.frz o (.tup xs)) ∧ o.dict = none
theorem TupD.keep {H H' : Hp} {a : Addr} (h : TupD H a) (k : KeepT H H') : TupD H' a := let ⟨o, xs, e, d⟩ := h; ⟨o, xs, k.2 _ _ _ e, d⟩
def tBD (r : V → List V → Hp → VK → Prop) (to : TE) (t : TA) : TE := fun σ H Q => to σ H fun x H1 => (∃ a, x = .ref a ∧ TupD H1 a) ∧ t σ H1 fun xs H2 => r x xs H2 Q
section
open PySem.Spec PyProof.Rows
variable {X : Cx} {K : PySem.W.Frag} {o e : Expr} {es : List Expr} {to : TE} {tas : TA} {name : Str} {apos pos : Pos} {id : String} {r : V → List V → Hp → VK → Prop}
end
end L2

/-! Rows as bits, kinds of rows. -/
namespace Bm
open PySem PySem.Spec L2 Wd Wm Km PyProof.Rows
/-! ### bits as sums -/
def sb (f : Nat → Bool) : Nat → Nat
  | 0 => 0
  | n + 1 => sb f n + (if f n = true then 2 ^ n else 0)
/-! ### the model's own -/
/-! ### kinds -/
inductive Kd
  | T | A | C
def Kd.s : Kd → Str
  | .T => "tied"
  | .A => "apart"
  | .C => "cover"
def Tie (ties : List SS) (a b : Str) : Prop := (a, b) ∈ ties ∨ (b, a) ∈ ties
instance (ties : List SS) (a b : Str) : Decidable (Tie ties a b) := inferInstanceAs (Decidable (_ ∨ _))
theorem Tie.symm {ties : List SS} {a b : Str} (h : Tie ties a b) : Tie ties b a := h.elim .inr .inl
theorem tie_irr {names : List Str} {ties : List SS} (h : WebOk names ties) (a : Str) : ¬ Tie ties a a := by
  rintro (z | z) <;> exact sLt_irr _ (h.ti _ z).2.2
/-- a row is of a kind -/
def isK (ties : List SS) : Kd → List Str → Prop
  | .T, xs => ∀ a ∈ xs, ∀ b ∈ xs, a ≠ b → Tie ties a b
  | .A, xs => ∀ a ∈ xs, ∀ b ∈ xs, ¬ Tie ties a b
  | .C, xs => ∀ p ∈ ties, p.1 ∈ xs ∨ p.2 ∈ xs
open Classical in
noncomputable def isB (ties : List SS) (kd : Kd) (xs : List Str) : Bool := decide (isK ties kd xs)
theorem isB_iff {ties : List SS} {kd : Kd} {xs : List Str} : isB ties kd xs = true ↔ isK ties kd xs := by unfold isB; simp
/-! ### rows by bits -/
def adj (names : List Str) (ties : List SS) (a : Str) : Nat := sb (fun j => match names[j]? with | some b => decide (Tie ties a b) | none => false) names.length
def rowL (names : List Str) (r : Nat) : List Str := (List.range names.length).filterMap fun k => if r.testBit k = true then names[k]? else none
/-- one place keeps to the kind, by bits -/
def okAt (kd : Kd) (r b k : Nat) : Bool := match kd with
  | .T => !(r.testBit k && !decide (r - (r &&& b) = 2 ^ k))
  | .A => !(r.testBit k && !decide (r &&& b = 0))
  | .C => !(!r.testBit k && !decide (b - (b &&& r) = 0))
/-! ### rows that grow -/
end Bm

/-! Kinds, as the program asks for them. -/
namespace L2
open PySem
section
variable {X : Cx} {tg it : Expr} {wi wi' : TI}
end
end L2
namespace Gm
open PySem PySem.Spec L2 Wd Wm Km Bm PyProof.Rows
/-- the table's keys -/
abbrev k2 (a b : Str) : List Key := [.inr a, .inr b]
def Tbl (ties : List SS) (kvs : List (List Key × V)) : Prop := ∀ a b, (valV kvs (k2 a b)).isSome = decide (Tie ties a b)
/-- tied wants ties, apart none -/
def want : Kd → Bool
  | .T => true
  | _ => false
def goB (ties : List SS) (kd : Kd) (x : Str) (ys : List Str) : Bool := (ys.map fun y => decide (V.bl (decide (Tie ties x y)) = V.bl (want kd))).all id
theorem goB_iff {ties : List SS} {kd : Kd} {x : Str} {ys : List Str} : goB ties kd x ys = true ↔ ∀ y ∈ ys, decide (Tie ties x y) = want kd := by
  unfold goB
  rw [List.all_eq_true]
  constructor
  · intro h y hy
    have := h _ (List.mem_map.mpr ⟨y, hy, rfl⟩)
    have := of_decide_eq_true this
    injection this
  · intro h b hb
    obtain ⟨y, hy, rfl⟩ := List.mem_map.mp hb
    exact decide_eq_true (by rw [h y hy])
def goAll (ties : List SS) (kd : Kd) (xs : List Str) (i : Nat) : List Bool := (List.range i).map fun k => goB ties kd (xs.getD k "") (xs.take k)
end Gm

/-! Greatest rows, least covers. -/
namespace Hm
open PySem PySem.Spec L2 Wd Wm Km Bm Gm PyProof.Rows
theorem isK_congr {ties : List SS} {kd : Kd} {xs ys : List Str} (h : ∀ x, x ∈ xs ↔ x ∈ ys) : isK ties kd xs ↔ isK ties kd ys := by
  cases kd with
  | T => exact ⟨fun q a ha b hb => q a ((h a).mpr ha) b ((h b).mpr hb), fun q a ha b hb => q a ((h a).mp ha) b ((h b).mp hb)⟩
  | A => exact ⟨fun q a ha b hb => q a ((h a).mpr ha) b ((h b).mpr hb), fun q a ha b hb => q a ((h a).mp ha) b ((h b).mp hb)⟩
  | C => exact ⟨fun q p hp => (q p hp).imp (h _).mp (h _).mp, fun q p hp => (q p hp).imp (h _).mpr (h _).mpr⟩
def less (xs : List Str) (x : Str) : List Str := xs.filter fun y => !decide (y = x)
/-- whether a kind's rows shrink -/
def shr : Kd → Bool
  | .C => true
  | _ => false
/-- the row with one place other -/
def other (kd : Kd) (xs : List Str) (x : Str) : List Str := match kd with
  | .C => less xs x
  | _ => x :: xs
/-- greatest (of covers least) -/
def isM (names : List Str) (ties : List SS) (kd : Kd) (xs : List Str) : Prop := isK ties kd xs ∧ ∀ x ∈ names, decide (x ∈ xs) = shr kd → ¬ isK ties kd (other kd xs x)
open Classical in
noncomputable def mB (names : List Str) (ties : List SS) (kd : Kd) (xs : List Str) : Bool := decide (isM names ties kd xs)
theorem mB_iff {names : List Str} {ties : List SS} {kd : Kd} {xs : List Str} : mB names ties kd xs = true ↔ isM names ties kd xs := by unfold mB; simp
/-! ### as the program asks -/
theorem go_more {names : List Str} {ties : List SS} {kd : Kd} {xs : List Str} {x : Str} (h : WebOk names ties) (hk : kd ≠ .C) (hx : x ∉ xs) (q : isK ties kd xs) : goB ties kd x xs = true ↔ isK ties kd (x :: xs) := by
  rw [goB_iff]
  cases kd with
  | C => exact absurd rfl hk
  | T =>
    constructor
    · intro g a ha b hb ne
      rcases List.mem_cons.mp ha with rfl | ha' <;> rcases List.mem_cons.mp hb with rfl | hb'
      · exact absurd rfl ne
      · exact of_decide_eq_true (g b hb')
      · exact Tie.symm (of_decide_eq_true (g a ha'))
      · exact q a ha' b hb' ne
    · intro g y hy
      exact decide_eq_true (g x (List.mem_cons_self ..) y (List.mem_cons_of_mem _ hy) fun e => hx (e ▸ hy))
  | A =>
    constructor
    · intro g a ha b hb
      rcases List.mem_cons.mp ha with rfl | ha' <;> rcases List.mem_cons.mp hb with rfl | hb'
      · exact tie_irr h _
      · exact of_decide_eq_false (g b hb')
      · exact fun t => of_decide_eq_false (g a ha') t.symm
      · exact q a ha' b hb'
    · intro g y hy
      exact decide_eq_false (g x (List.mem_cons_self ..) y (List.mem_cons_of_mem _ hy))
theorem not_of {names : List Str} {ties : List SS} {kd : Kd} {xs : List Str} (q : isB ties kd xs = false) : mB names ties kd xs = false := by
  refine Bool.eq_false_iff.mpr fun z => ?_
  rw [isB_iff.mpr (mB_iff.mp z).1] at q
  cases q
end Hm

/-! reversed(tuple). -/
namespace RT
open PySem PySem.Spec PyProof.Rows
theorem owner_rev : Manifest.owners.lookup (String.ofList ['d', 'e', 's', 'r', 'e', 'v', 'e', 'r'].reverse) = some Manifest.sig_reversed := by kernel_rfl
theorem slot_next : Slot "reversed" "__next__" "reversed.__next__" :=
  .of (owner := "reversed") (n := "__next__") (by rw [typeLookup_type, builtinLookup_eq_fast]; kernel_rfl) (by decide +kernel) (by decide +kernel) (by decide +kernel)
    (by first | exact .inl (by decide +kernel) | exact .inr (by decide +kernel)) (by rw [isSubtype_type]; kernel_rfl)
theorem entry_next : entryFor table "reversed.__next__" = some Builtin.«reversed.__next__» := entryFor_of_tree (by kernel_rfl)
theorem args_next (a : Value) : argsOk "reversed.__next__" ⟨[a], []⟩ := by
  unfold argsOk; rw [signature?_of (id := "reversed.__next__") (n := ['_', '_', 't', 'x', 'e', 'n', '_', '_']) (o := ['d', 'e', 's', 'r', 'e', 'v', 'e', 'r']) (by kernel_rfl) owner_rev]; kernel_rfl
def IsRv (h : Heap) (a t : Addr) (i : Int) : Prop := ∃ o, h.get? a = some o ∧ o.cls = .type "reversed" ∧ o.data = .fields #[.ref t, rawInt i]
section
variable {prog : Program} {w : World} {A : Around} {E : Value → Shared → Prop} {s : Shared}
theorem IsRv.typeIs {a t : Addr} {i : Int} (x : IsRv s.heap a t i) : s.TypeIs (.ref a) "reversed" := let ⟨o, ho, hc, _⟩ := x; ⟨o, ho, hc⟩
theorem IsRv.at {h h' : Heap} {a t : Addr} {i : Int} (x : IsRv h a t i) (e : ∀ o, h.get? a = some o → h'.get? a = some o) : IsRv h' a t i := let ⟨o, ho, r⟩ := x; ⟨o, e _ ho, r⟩
theorem next_item {it t : Addr} {i : Nat} {items : Array Value} {x : Value} {Q : Option Value → Shared → Prop} (hit : IsRv s.heap it t (i : Int)) (ht : IsTup s.heap t items) (hx : items[i]? = some x) (hz : items.size ≤ sizeLine)
    (hQ : ∀ h' tk, IsRv h' it t ((i : Int) - 1) → Heap.SameBut it s.heap h' → Q (some x) { s with heap := h', toks := tk }) : wpAny (model prog w) A (pyNext (.ref it)) Q E s := by
  obtain ⟨o, ho, hc, hd⟩ := id hit
  have hi : i < items.size := (Array.getElem?_eq_some_iff.mp hx).1
  unfold pyNext
  refine wpAny_bind (wpAny_attempt (wpAny_callSpecial?_slot (name := Str.ofString "__next__") hit.typeIs slot_next
    (wpAny_call_entry slot_next hit.typeIs entry_next ?_ (args_next _))))
  unfold Builtin.«reversed.__next__»
  refine wpAny_bind (wpAny_of_eq (a := (Value.ref it, [])) rfl ?_)
  try dsimp only
  refine wpAny_bind (wpAny_field ho hd (x := .ref t) rfl ?_)
  refine wpAny_bind (wpAny_field ho hd (x := rawInt (i : Int)) rfl ?_)
  show wpAny _ _ (if (i : Int) < 0 then _ else _) _ _ s
  rw [if_neg (by omega)]
  refine wpAny_bind (wpAny_specialOf ht.typeIs PyProof.Rows.slot_tuple_getitem.lookup ?_)
  try dsimp only
  rw [if_neg (by simp)]
  refine wpAny_bind (wpAny_mkInt ?_)
  refine wpAny_bind (wpAny_attempt (getItem_tuple ht (by omega) (by rw [sizeLine_eq] at hz; omega) (j := i) (seqIndex_of (by omega) (by omega)) hx ?_))
  refine wpAny_bind (wpAny_field ho hd (x := rawInt (i : Int)) rfl ?_)
  show wpAny _ _ (setField (.ref it) 1 (rawInt ((i : Int) - 1)) >>= _) _ _ _
  refine wpAny_bind (wpAny_setField ho hd (by simp) ?_)
  refine wpAny_pure ⟨x, rfl, wpAny_pure (hQ _ _ ?_ (Heap.SameBut.update ..))⟩
  exact ⟨_, Heap.get?_update_self _ ho (Obj.isFreed_of_fields (Obj.data_mapFields hd _)), (Obj.cls_mapFields ..).trans hc, by
    rw [Obj.data_mapFields hd]; simp⟩
theorem next_end {it t : Addr} {Q : Option Value → Shared → Prop} (hh : A.handled = none) (hit : IsRv s.heap it t (-1))
    (hQ : ∀ h', Heap.ExtBut it s.heap h' → Q none { s with heap := h' }) : wpAny (model prog w) A (pyNext (.ref it)) Q E s := by
  obtain ⟨o, ho, hc, hd⟩ := id hit
  unfold pyNext
  refine wpAny_bind (wpAny_attempt (wpAny_callSpecial?_slot (name := Str.ofString "__next__") hit.typeIs slot_next
    (wpAny_call_entry slot_next hit.typeIs entry_next ?_ (args_next _))))
  unfold Builtin.«reversed.__next__»
  refine wpAny_bind (wpAny_of_eq (a := (Value.ref it, [])) rfl ?_)
  try dsimp only
  refine wpAny_bind (wpAny_field ho hd (x := .ref t) rfl ?_)
  refine wpAny_bind (wpAny_field ho hd (x := rawInt (-1)) rfl ?_)
  show wpAny _ _ (if (-1 : Int) < 0 then _ else _) _ _ s
  rw [if_pos (by decide)]
  refine wpAny_bind (wpAny_rule ?_)
  refine wpAny_bind (wpAny_bind (wpAny_setField ho hd (by simp) ?_))
  have ho1 := Heap.get?_update_self (Obj.mapFields (fun x => x.set! 1 (rawInt (-1)))) ho (Obj.isFreed_of_fields (Obj.data_mapFields hd _))
  refine wpAny_setField (Heap.get?_update_self _ ho (Obj.isFreed_of_fields (Obj.data_mapFields hd _))) (Obj.data_mapFields hd _) (by simp) ?_
  refine wpAny_bind ?_
  unfold Builtin.SmallTypes.stopIteration
  show wpAny _ _ (newExc (.type "StopIteration") [] >>= _) _ _ _
  refine wpAny_bind ?_
  simp only [newExc, newTuple]
  refine wpAny_bind (wpAny_newObj_type ?_ (by size_fits))
  refine wpAny_bind (m := firstArgMember _ _) (wpAny_of_eq (a := Value.none) (by first | rfl | (simp only [firstArgMember]; rfl)) ?_)
  refine wpAny_newObj_type ?_ (by size_fits)
  simp only [raiseNew]
  refine wpAny_bind (wpAny_handled ?_)
  first | rw [show A.in1.handled = none from hh] | rw [hh]
  refine wpAny_bind (wpAny_pure (wpAny_throw ?_))
  refine wpAny_bind (wpAny_isInstance (T := "StopIteration") (b := true) ⟨_, Heap.get?_push_size _ rfl, rfl⟩ isSubtype_stop ?_)
  refine wpAny_pure (hQ _ ?_)
  intro b o' hb e
  exact Heap.get?_push_of_some _ (Heap.get?_push_of_some _ ((Heap.SameBut.update ..).extBut b o' hb ((Heap.SameBut.update ..).extBut b o' hb e)))
end
end RT
namespace L2
open PySem PySem.Spec PyProof.Rows RT
/-- the tuple at a, from its end -/
def Itw (K : PySem.W.Frag) (a : Addr) (n : Nat) : It :=
  ⟨fun i H => i < n ∧ ∃ (xs : List V) (x : V), SqT K H a xs ∧ xs[n - 1 - i]? = some x, fun i H x H' => H' = H ∧ ∀ xs, SqT K H a xs → xs[n - 1 - i]? = some x, fun i _ => n ≤ i⟩
def iRevT (K : PySem.W.Frag) (ta : TA) : TI := fun σ H R => ta σ H fun vs H1 => ∃ (a : Addr) (xs : List V), vs = [.ref a] ∧ SqT K H1 a xs ∧ R (Itw K a xs.length) H1
section
variable {X : Cx} {tg e : Expr} {tas : TA} {p pos : Pos}
end
end L2

/-! sorted(tuple of texts). -/
namespace L2
open PySem PySem.Spec PyProof.Rows
section
variable {X : Cx}
def rSortedT (K : PySem.W.Frag) : List V → Hp → VK → Prop := fun vs H Q => ∃ (a : Addr) (xs : List Str), vs = [V.ref a] ∧ SqT K H a (xs.map V.str) ∧ xs.length < 64 ∧
  ∀ (ys : List Str) (p : Addr), ys.Perm xs → sortedS ys = true → H p = none → Q (.ref p) (upd H p (.lst (ys.map V.str)))
end
end L2

/-! what fills a row; kinds in the web turned over, and of the others. -/
namespace Fm
open PySem L2 Wd Wm Km Bm Gm Hm PyProof.Rows
theorem nd_s {l : List Str} (h : l.Pairwise sLt) : l.Nodup := List.nodup_iff_pairwise_ne.mpr (List.Pairwise.imp (fun {a b} k => sLt_ne k) h)
theorem s_ext {l m : List Str} (h : l.Pairwise sLt) (k : m.Pairwise sLt) (e : ∀ x, x ∈ l ↔ x ∈ m) : l = m :=
  ((List.perm_ext_iff_of_nodup (nd_s h) (nd_s k)).mpr e).eq_of_pairwise (fun a b _ _ h1 h2 => absurd (sLt_trans h1 h2) (sLt_irr _)) h k
theorem kN_asc {names : List Str} (h : names.Pairwise sLt) (xs : List Str) : (kN names xs).Pairwise sLt := h.sublist (kN_sub _ _)
theorem sub_of {names xs : List Str} (h : names.Pairwise sLt) (k : xs.Pairwise sLt) (sub : ∀ x ∈ xs, x ∈ names) : xs.Sublist names := by
  have e : xs = kN names xs := s_ext k (kN_asc h _) fun x => by rw [mem_kN]; exact ⟨fun z => ⟨sub x z, z⟩, fun z => z.2⟩
  rw [e]
  exact kN_sub _ _
/-! ### filling -/
def stF (ties : List SS) (kd : Kd) (held : List Str) (x : Str) : List Str := if (!decide (x ∈ held) && goB ties kd x held) = true then held ++ [x] else held
def fillL (ties : List SS) (kd : Kd) (ns held : List Str) : List Str := ns.foldl (stF ties kd) held
structure Hd (names : List Str) (ties : List SS) (kd : Kd) (row held : List Str) : Prop where
  nd : held.Nodup
  sub : ∀ x ∈ held, x ∈ names
  k : isK ties kd held
  sup : ∀ x ∈ row, x ∈ held
theorem snoc_iff {x y : Str} {held : List Str} : y ∈ x :: held ↔ y ∈ held ++ [x] := by simp [or_comm]
theorem Hd.step {names : List Str} {ties : List SS} {kd : Kd} {row held : List Str} {x : Str} (w : WebOk names ties) (hk : kd ≠ .C) (h : Hd names ties kd row held) (hx : x ∈ names) : Hd names ties kd row (stF ties kd held x) := by
  unfold stF
  by_cases c : (!decide (x ∈ held) && goB ties kd x held) = true
  · rw [if_pos c]
    rw [Bool.and_eq_true] at c
    have nx : x ∉ held := by simpa using c.1
    refine ⟨?_, fun y hy => ?_, (isK_congr fun y => snoc_iff).mp ((go_more w hk nx h.k).mp c.2), fun y hy => List.mem_append_left _ (h.sup y hy)⟩
    · refine List.nodup_append.mpr ⟨h.nd, List.nodup_cons.mpr ⟨List.not_mem_nil, List.nodup_nil⟩, fun a ha b hb e => ?_⟩
      rw [List.mem_singleton.mp hb] at e
      exact nx (e ▸ ha)
    · rcases List.mem_append.mp hy with hy | hy
      · exact h.sub y hy
      · rw [List.mem_singleton.mp hy]; exact hx
  · rw [if_neg c]
    exact h
theorem Hd.fill {names : List Str} {ties : List SS} {kd : Kd} {row : List Str} (w : WebOk names ties) (hk : kd ≠ .C) : ∀ {ns held : List Str}, (∀ x ∈ ns, x ∈ names) → Hd names ties kd row held → Hd names ties kd row (fillL ties kd ns held)
  | [], held, _, h => h
  | x :: ns, held, hn, h => Hd.fill w hk (ns := ns) (held := stF ties kd held x) (fun y hy => hn y (List.mem_cons_of_mem _ hy)) (h.step w hk (hn x (List.mem_cons_self ..)))
theorem Hd.start {names : List Str} {ties : List SS} {kd : Kd} {row : List Str} (w : WebOk names ties) (s : row.Sublist names) (k : isK ties kd row) : Hd names ties kd row row := ⟨(ndp w).sublist s, fun x hx => s.subset hx, k, fun x hx => hx⟩
theorem Hd.len {names : List Str} {ties : List SS} {kd : Kd} {row held : List Str} (h : Hd names ties kd row held) : held.length ≤ names.length := nodup_le h.nd h.sub
/-! ### turned over -/
/-! ### the others -/
/-! ### fewer, alone -/
theorem shr_no {kd : Kd} (hk : kd ≠ .C) : shr kd = false := by
  cases kd with
  | C => exact absurd rfl hk
  | T => rfl
  | A => rfl
theorem alone {names : List Str} {ties : List SS} {kd : Kd} (hk : kd ≠ .C) {row : List Str} (k : isK ties kd row) : mB (kN names row) (kT ties row) kd row = true := by
  refine mB_iff.mpr ⟨?_, fun x hx c => ?_⟩
  · cases kd with
    | C => exact absurd rfl hk
    | T =>
      intro a ha b hb e
      rcases k a ha b hb e with t | t
      · exact .inl (mem_kT.mpr ⟨t, ha, hb⟩)
      · exact .inr (mem_kT.mpr ⟨t, hb, ha⟩)
    | A =>
      intro a ha b hb t
      rcases t with t | t
      · exact k a ha b hb (.inl (mem_kT.mp t).1)
      · exact k a ha b hb (.inr (mem_kT.mp t).1)
  · rw [shr_no hk] at c
    exact absurd (mem_kN.mp hx).2 (of_decide_eq_false c)
/-! ### taking out -/
noncomputable def stC (ties : List SS) (row : List Str) (x : Str) : List Str := if isB ties .C (less row x) = true then less row x else row
noncomputable def thinL (ties : List SS) (ns row : List Str) : List Str := ns.foldl (stC ties) row
/-- what comes of filling -/
noncomputable def filL (names : List Str) (ties : List SS) (kd : Kd) (row : List Str) : List Str := match kd with
  | .C => thinL ties names.reverse row
  | _ => kN names (fillL ties kd names row)
end Fm

/-! t < u, t > u of tuples of texts; t[a:b], the whole, too. -/
namespace LS
open PySem PySem.Spec PyProof.Rows
/-- the order of tuples of texts -/
def lexS : List Str → List Str → Bool
  | [], [] => false
  | [], _ :: _ => true
  | _ :: _, [] => false
  | x :: xs, y :: ys => if x = y then lexS xs ys else decide (x.cps.toList < y.cps.toList)
theorem lexS_cons (x y : Str) (xs ys : List Str) : lexS (x :: xs) (y :: ys) = if x = y then lexS xs ys else decide (x.cps.toList < y.cps.toList) := rfl
section
open PySem.SeqAt
open PySem.AutoSeq1 (wpAny_loadPart')
open PySem.MeetsSeq PySem.MeetsSeq2 PySem.MeetsSeq3
end
section
variable {prog : Program} {w : World} {A : Around} {E : Value → Shared → Prop} {s : Shared}
open HT in
end
end LS
namespace L2
open PySem PySem.Spec PyProof.Rows
section
variable {X : Cx}
def rLtS (K : PySem.W.Frag) : R2 := fun x y H Q => ∃ a b xs ys, x = .ref a ∧ y = .ref b ∧ SqT K H a (xs.map V.str) ∧ SqT K H b (ys.map V.str) ∧ Q (.bl (LS.lexS xs ys)) H
def rGtS (K : PySem.W.Frag) : R2 := fun x y H Q => ∃ a b xs ys, x = .ref a ∧ y = .ref b ∧ SqT K H a (xs.map V.str) ∧ SqT K H b (ys.map V.str) ∧ Q (.bl (LS.lexS ys xs)) H
/-- t[a:b], the whole, too -/
def rSlA (K : PySem.W.Frag) : V → Option Int → Option Int → Hp → VK → Prop := fun x lo hi H Q => ∃ a xs, x = .ref a ∧ SqT K H a xs ∧ ∀ r H', Same H H' → SqT K H' r (cutV xs lo hi) → Q (.ref r) H'
end
end L2

/-! dict(zip(t, u)) of two tuples. -/
namespace ZT
open PySem PySem.Spec PyProof.Rows
open PySem.Builtin.SmallTypes
/-- a zip whose last tuple is still about -/
abbrev IsZ2 (h : Heap) (z U O q : Addr) (bb : Bool) : Prop := h.get? z = some ⟨.type "zip", none, .fields #[rawInt q, .bool bb, .bool false, .ref U, .ref O], #[]⟩
section
variable {prog : Program} {w : World} {A : Around} {E : Value → Shared → Prop} {s : Shared}
/-- the zip at any turn; its last tuple is not at S -/
def ZS (h : Heap) (z U O S : Addr) : Prop := IsZip h z U O .none ∨ ∃ (q : Addr) (bb : Bool) (x y : Value), IsZ2 h z U O q bb ∧ IsPair h q x y ∧ q ≠ S
theorem ZS.ne {h : Heap} {z U O q : Addr} {bb : Bool} {x y : Value} (hz : IsZ2 h z U O q bb) (hq : IsPair h q x y) : q ≠ z := fun e => by
  subst e
  have := hz.symm.trans hq
  simp at this
end
end ZT
namespace L2
open PySem PySem.Spec PyProof.Rows ZT
section
variable {prog : Program} {w : World} {A : Around} {E : Value → Shared → Prop}
end
def dzK (xs : List Str) (ys : List V) : List (Key × V) := (xs.map Sum.inr).zip ys
section
variable {X : Cx} {e e2 : Expr} {p p2 pos pos2 : Pos} {tas : TA}
/-- dict(zip(t, u)), t texts, each once -/
def tDzip (K : PySem.W.Frag) (ta : TA) : TE := fun σ H Q => ta σ H fun vs H1 => ∃ (a b : Addr) (xs : List Str) (ys : List V), vs = [.ref a, .ref b] ∧ SqT K H1 a (xs.map V.str) ∧ SqT K H1 b ys ∧ xs.length = ys.length ∧ xs.Nodup ∧ ∀ l, H1 l = none → Q (.ref l) (upd H1 l (.dK (dzK xs ys)))
end
end L2

/-! a, b = a list; d[k]. -/
namespace L2
open PySem PySem.W PySem.Spec PyProof.Rows
section
variable {prog : Program} {w : World} {A : Around} {E : Value → Shared → Prop} {s : Shared}
end
/-- (a, b, ..) = a list of that length -/
def gTupL (K : PySem.W.Frag) (n : Nat) (t : TGs) : TG := fun v σ H Q => ∃ a xs, v = .ref a ∧ SqL K H a xs ∧ xs.length = n ∧ t xs σ H Q
section
variable {X : Cx} {es : List Expr} {pos p : Pos}
variable {o i : Expr} {td ty : TE}
end
end L2

/-! a filled row is greatest, least in the order of tuples; by other names. -/
namespace Fn
open PySem L2 Wd Wm Km Bm Gm Hm Fm LS
/-! ### what filling does -/
/-! ### the first one -/
/-! ### by other names -/
structure Ren (ρ : Str → Str) (names : List Str) : Prop where
  mono : ∀ x ∈ names, ∀ y ∈ names, sLt x y → sLt (ρ x) (ρ y)
theorem Ren.inj {ρ : Str → Str} {names : List Str} (h : Ren ρ names) {x y : Str} (hx : x ∈ names) (hy : y ∈ names) (e : ρ x = ρ y) : x = y := by
  refine sLt_tot (fun k => ?_) fun k => ?_
  · have := h.mono x hx y hy k
    rw [e] at this
    exact sLt_irr _ this
  · have := h.mono y hy x hx k
    rw [e] at this
    exact sLt_irr _ this
theorem Ren.mem {ρ : Str → Str} {names : List Str} (h : Ren ρ names) {x : Str} {xs : List Str} (hx : x ∈ names) (sub : ∀ y ∈ xs, y ∈ names) : ρ x ∈ xs.map ρ ↔ x ∈ xs := by
  constructor
  · intro k
    obtain ⟨y, hy, e⟩ := List.mem_map.mp k
    rw [← h.inj (sub y hy) hx e]
    exact hy
  · exact fun k => List.mem_map.mpr ⟨x, k, rfl⟩
def renT (ρ : Str → Str) (ties : List SS) : List SS := ties.map fun p => (ρ p.1, ρ p.2)
/-- the name in the place of a name -/
def renOf (names ms : List Str) (x : Str) : Str := ((names.zip ms).find? fun p => decide (p.1 = x)).elim "" (·.2)
end Fn

/-! an own exception leaves a def; it is met by the caller. -/
namespace Xc
open PySem PySem.Spec PyProof.Rows
abbrev frs (l : List Env) : List Addr := l.filterMap (·.frame)
/-- what an exception's way through the frames fs changes: the record at e, the frames' slots, the records at ts -/
structure Way (fs : List Addr) (e : Addr) (ts : List Addr) (h h' : Heap) : Prop where
  keep : ∀ b o, b ≠ e → b ∉ fs → b ∉ ts → h.get? b = some o → h'.get? b = some o
  slot : ∀ b o, b ∈ fs → b ≠ e → b ∉ ts → h.get? b = some o → ∃ sl, h'.get? b = some { o with slots := sl }
/-- the record of a traceback that is not in flight -/
def Tb (h : Heap) (T : Addr) : Prop := ∃ o ts, h.get? T = some o ∧ o.data = .fields ts ∧ ts[3]? = some .none
abbrev exO (C : Addr) (vs : Array Value) (dd : Option Addr) : Obj := { cls := .ref C, dict := dd, data := .fields vs }
section
variable {M : Model} {A : Around} {E : Value → Shared → Prop} {s : Shared}
/-- a new entry, then not in flight -/
theorem entry {base : Heap} {env : Env} {outer : List Env} {L e C : Addr} {dd : Option Addr} {vs : Array Value} {head : Value} {hn : Bool} {Q : Unit → Shared → Prop}
    (hfr : A.frames = some (env :: outer)) (hl : s.heap.FunFrames base (env :: outer)) (hf : env.frame = some L) (he : s.heap.get? e = some (exO C vs dd)) (hz : 1 < vs.size)
    (h : ∀ h' T, Way (frs (env :: outer)) e [] s.heap h' → s.heap.get? T = none → h'.get? e = some (exO C (vs.setIfInBounds 1 (.ref T)) dd) → Tb h' T → T ≠ e → Q () { s with heap := h' }) :
    wpAny M A (do let a ← frameOf env; let pl ← entryPlaceOf L hn; let b ← EntryCells.newEntry head a .none (rawInt L) .none pl; setField (.ref e) 1 b) (fun _ s' => wpAny M A (setFlight (.ref e) none) Q E s') E s := by
  have hene : e ∉ frs (env :: outer) := fun hm => by
    obtain ⟨_, o, ho, hnf⟩ := hl.mem hm
    rw [he] at ho; injection ho with ho; subst ho; exact hnf vs rfl
  refine wpAny_bind (wpAny_frameOf_fun hfr hl hf fun h₁ hs₁ => ?_)
  refine wpAny_bind (wpAny_entryPlaceOf fun pl hpl => ?_)
  unfold EntryCells.newEntry newFields
  refine wpAny_bind (wpAny_newObj_type ?_ (hpl.sizeOk5 _ _ _ _ _))
  have he₁ : h₁.get? e = some (exO C vs dd) := (hs₁.2.1 e hene).trans he
  generalize hob : ({ cls := .type "traceback", dict := none, data := .fields ([head, .ref L, .none, rawInt L, .none] ++ (if pl.isEmpty then List.replicate 6 Value.none else pl)).toArray } : Obj) = ob
  have he₂ := Heap.get?_push_of_some (h := h₁) ob he₁
  have hT₂ : (h₁.push ob).get? h₁.objs.size = some ob := Heap.get?_push_size h₁ (by rw [← hob]; rfl)
  refine wpAny_setField he₂ rfl hz ?_
  have hTe : h₁.objs.size ≠ e := Nat.ne_of_gt (Heap.lt_size he₁)
  have he₃ : ((h₁.push ob).update e (Obj.mapFields (·.setIfInBounds 1 (Value.ref h₁.objs.size)))).get? e = some (exO C (vs.setIfInBounds 1 (.ref h₁.objs.size)) dd) := Heap.get?_update_self _ he₂ rfl
  have hT₃ : ((h₁.push ob).update e (Obj.mapFields (·.setIfInBounds 1 (Value.ref h₁.objs.size)))).get? h₁.objs.size = some ob := (Heap.get?_update_other _ _ (Ne.symm hTe)).trans hT₂
  have hdT : ob.data = .fields ([head, .ref L, .none, rawInt L, .none] ++ (if pl.isEmpty then List.replicate 6 Value.none else pl)).toArray := by rw [← hob]
  unfold setFlight
  refine wpAny_bind (wpAny_field he₃ rfl (x := .ref h₁.objs.size) (by simp [hz]) ?_)
  rw [if_pos (show (Value.ref h₁.objs.size != Value.none) = true from by simp)]
  have h3s : 3 < ([head, .ref L, .none, rawInt L, .none] ++ (if pl.isEmpty then List.replicate 6 Value.none else pl)).toArray.size := by simp only [List.size_toArray, List.length_append, List.length_cons, List.length_nil] <;> omega
  refine wpAny_setField hT₃ hdT h3s (h _ h₁.objs.size ?_ ?_ ?_ ?_ hTe)
  · have keep : ∀ b o, b ≠ e → h₁.get? b = some o → (((h₁.push ob).update e (Obj.mapFields (·.setIfInBounds 1 (Value.ref h₁.objs.size)))).update h₁.objs.size (Obj.mapFields (·.setIfInBounds 3 ((none : Option Addr).elim Value.none fun f => rawInt f)))).get? b = some o := fun b o hbe hb => by
      have hbT : h₁.objs.size ≠ b := Nat.ne_of_gt (Heap.lt_size hb)
      rw [Heap.get?_update_other _ _ hbT, Heap.get?_update_other _ _ (Ne.symm hbe)]
      exact Heap.get?_push_of_some _ hb
    refine ⟨fun b o hbe hbf _ hb => keep b o hbe ((hs₁.2.1 b hbf).trans hb), fun b o _ hbe _ hb => ?_⟩
    obtain ⟨sl, hs⟩ := hs₁.2.2 b o hb
    exact ⟨sl, keep b _ hbe hs⟩
  · exact Heap.get?_none_of_le (by rw [hs₁.1]; exact Nat.le_refl _)
  · rw [Heap.get?_update_other _ _ hTe]
    exact he₃
  · refine ⟨_, _, Heap.get?_update_self _ hT₃ (Obj.isFreed_of_fields (Obj.data_mapFields hdT _)), Obj.data_mapFields hdT _, ?_⟩
    rw [Array.getElem?_setIfInBounds]
    simp [h3s]
/-- leaving the def in which it was raised -/
theorem leave_first {base : Heap} {env : Env} {outer : List Env} {L e C : Addr} {dd : Option Addr} {vs : Array Value} {Q : Unit → Shared → Prop}
    (hfr : A.frames = some (env :: outer)) (hl : s.heap.FunFrames base (env :: outer)) (hf : env.frame = some L) (he : s.heap.get? e = some (exO C vs dd)) (h1 : vs[1]? = some .none)
    (h : ∀ h' T, Way (frs (env :: outer)) e [] s.heap h' → s.heap.get? T = none → h'.get? e = some (exO C (vs.setIfInBounds 1 (.ref T)) dd) → Tb h' T → T ≠ e → Q () { s with heap := h' }) : wpAny M A (leaving env (.ref e)) Q E s := by
  unfold leaving noteFrame
  simp only [hf]
  refine wpAny_bind (wpAny_bind (wpAny_field he rfl h1 ?_))
  rw [if_neg (by decide)]
  exact entry hfr hl hf he (Array.getElem?_eq_some_iff.mp h1).1 h
/-- it is met in a further frame -/
theorem note_next {base : Heap} {env : Env} {outer : List Env} {L e C T : Addr} {dd : Option Addr} {vs : Array Value} {Q : Unit → Shared → Prop}
    (hfr : A.frames = some (env :: outer)) (hl : s.heap.FunFrames base (env :: outer)) (hf : env.frame = some L) (he : s.heap.get? e = some (exO C vs dd)) (h1 : vs[1]? = some (.ref T)) (hT : Tb s.heap T) (hTe : T ≠ e)
    (h : ∀ h' T2, Way (frs (env :: outer)) e [T] s.heap h' → s.heap.get? T2 = none → h'.get? e = some (exO C (vs.setIfInBounds 1 (.ref T2)) dd) → Tb h' T2 → T2 ≠ e → Q () { s with heap := h' }) :
    wpAny M A (noteFrame (.ref e) env) (fun _ s' => wpAny M A (setFlight (.ref e) none) Q E s') E s := by
  obtain ⟨oT, ts, hT, hdT, h3⟩ := hT
  have hTf : T ∉ frs (env :: outer) := fun hm => by
    obtain ⟨_, o, ho, hnf⟩ := hl.mem hm
    rw [hT] at ho; injection ho with ho; subst ho; exact hnf ts hdT
  unfold noteFrame
  simp only [hf]
  refine wpAny_bind (wpAny_field he rfl h1 ?_)
  rw [if_pos (show (Value.ref T != Value.none) = true from by simp)]
  refine wpAny_bind (wpAny_field hT hdT h3 ?_)
  rw [if_neg (show ¬ ((Value.none == rawInt L) = true) from by simp [rawInt])]
  refine wpAny_bind (wpAny_setField hT hdT (Array.getElem?_eq_some_iff.mp h3).1 ?_)
  have other : ∀ b, b ≠ T → (s.heap.update T (Obj.mapFields (·.setIfInBounds 3 Value.none))).get? b = s.heap.get? b := fun b hb => Heap.get?_update_other _ _ (Ne.symm hb)
  have noRec : ∀ b o, s.heap.get? b = some o → (∀ vs, o.data ≠ .fields vs) → b ≠ T := fun b o hb hnf q => by
    rw [q, hT] at hb; injection hb with hb; subst hb; exact hnf ts hdT
  refine entry (s := { s with heap := s.heap.update T (Obj.mapFields (·.setIfInBounds 3 Value.none)) }) hfr (hl.of_keeps fun b o hb hnf => ⟨o, (other b (noRec b o hb hnf)).trans hb, rfl⟩) hf ((other e (Ne.symm hTe)).trans he) (Array.getElem?_eq_some_iff.mp h1).1 fun h' T2 W n2 e2 t2 ne2 => ?_
  refine h h' T2 ⟨fun b o b1 b2 b3 hb => W.keep b o b1 b2 (by simp) ((other b (by simpa using b3)).trans hb), fun b o b1 b2 b3 hb => W.slot b o b1 b2 (by simp) ((other b (by simpa using b3)).trans hb)⟩ ?_ e2 t2 ne2
  cases q : s.heap.get? T2 with
  | none => rfl
  | some o =>
    by_cases z : T2 = T
    · subst z
      have := Heap.get?_update_self (Obj.mapFields (·.setIfInBounds 3 Value.none)) hT (Obj.isFreed_of_fields (Obj.data_mapFields hdT _))
      rw [show (s.heap.update T2 (Obj.mapFields (·.setIfInBounds 3 Value.none))).get? T2 = none from n2] at this
      cases this
    · have := (other T2 z).trans q
      rw [show (s.heap.update T (Obj.mapFields (·.setIfInBounds 3 Value.none))).get? T2 = none from n2] at this
      cases this
theorem flight_again {e C T : Addr} {dd : Option Addr} {vs : Array Value} {Q : Unit → Shared → Prop} (he : s.heap.get? e = some (exO C vs dd)) (h1 : vs[1]? = some (.ref T)) (hT : Tb s.heap T) (hTe : T ≠ e)
    (h : ∀ h', (∀ b o, b ≠ T → s.heap.get? b = some o → h'.get? b = some o) → Q () { s with heap := h' }) : wpAny M A (setFlight (.ref e) none) Q E s := by
  obtain ⟨oT, ts, hT, hdT, h3⟩ := hT
  exact wpAny_setFlight_none he rfl h1 hT hdT (Array.getElem?_eq_some_iff.mp h3).1 (h _ fun b o hb e => (Heap.get?_update_other _ _ (Ne.symm hb)).trans e)
end
/-! ### classes -/
/-- an own class of exceptions in the fragment: its bases' row -/
def ExC (K : PySem.W.Frag) (C : Addr) (bm : List Value) : Prop := ∃ nm q N bs hdct sn sub ab col dd k0 k1 k2 k3 k5 newId, K.lookup C = some (excClassObj nm q C N bs bm hdct sn sub ab col dd k0 k1 k2 k3 k5 newId)
section
variable {M : Model} {A : Around} {E : Value → Shared → Prop} {s : Shared} {K : PySem.W.Frag}
theorem matches_own {e C S : Addr} {de : Option Addr} {vs : Array Value} {bm bmS : List Value} {Q : Bool → Shared → Prop} (X : K.In s.heap) (hC : ExC K C bm) (hS : ExC K S bmS) (he : s.heap.get? e = some (exO C vs de)) (hbS : bmS.contains (.type "BaseException") = true) (hm : bm.contains (.ref S) = true) (hq : Q true s) :
    wpAny M A (excMatches (.ref e) (.ref S)) Q E s := by
  obtain ⟨h, g, d, t, os⟩ := s
  obtain ⟨nm, q, N, bs, hdct, sn, sub, ab, col, dd, k0, k1, k2, k3, k5, newId, hC⟩ := hC
  obtain ⟨nm', q', N', bs', hdct', sn', sub', ab', col', dd', j0, j1, j2, j3, j5, newId', hS⟩ := hS
  have hC' := X _ _ hC
  have hS' := X _ _ hS
  have hcB : (Value.ref S :: bmS).contains (.type "BaseException") = true := by rw [List.contains_cons, hbS, Bool.or_true]
  have hcC : (Value.ref C :: bm).contains (.ref S) = true := by rw [List.contains_cons, hm, Bool.or_true]
  have f := tc_notTuple
  unfold excMatches
  repeat (first | (with_reducible refine wpAny_loadPart_at he ?_) | with_reducible refine wpAny_loadPart_at hS' ?_ | (with_reducible refine wpAny_isSubtype_exc hS' ?_; rw [hcB]) | (with_reducible refine wpAny_isSubtype_exc hC' ?_; rw [hcC]) | wp_step)
  exact hq
end
end Xc

/-! raise and try of own exceptions, as rules. -/
namespace L2
open PySem PySem.Spec PyProof.Rows Xc
/-- an exception of the class at C lies at x -/
def IsEx (x C : Addr) (dd : Option Addr) : Heap → Prop := fun h => ∃ vs, h.get? x = some (exO C vs dd)
theorem ex_ok {P : Program} {w : World} {H : Hp} {h : Heap} {x C : Addr} {dd : Option Addr} (e : IsEx x C dd h) : ObjOk P w H h x (.ext (IsEx x C dd)) := by
  obtain ⟨vs, e⟩ := e
  exact ⟨⟨vs, e⟩, ⟨_, e⟩, fun h1 h2 ⟨vs, e1⟩ k => ⟨vs, k _ e1⟩⟩
/-- how an own exception lies behind a call -/
def CX1 (P : Program) (w : World) : CXT := fun outer H s E e s' => ∃ (x C T : Addr) (dd : Option Addr) (vs : Array Value) (H' : Hp), e = .ref x ∧ s'.os = s.os ∧ AllBare s'.gens ∧ Un (frs outer) [] H H' s.heap s'.heap ∧ HOk P w H' s'.heap ∧
  s.heap.get? x = none ∧ H' x = some (.ext (IsEx x C dd)) ∧ s'.heap.get? x = some (exO C vs dd) ∧ vs[1]? = some (.ref T) ∧ Tb s'.heap T ∧ T ≠ x ∧ s.heap.get? T = none ∧ H' T = none ∧ E (.ref C) (some x) H'
theorem hok_none {P : Program} {w : World} {H : Hp} {h : Heap} (k : HOk P w H h) {b : Addr} (e : h.get? b = none) : H b = none := by
  cases q : H b with
  | none => rfl
  | some o =>
    have : ∃ u, h.get? b = some u := by
      have x := k b o q
      cases o with
      | lst xs => obtain ⟨_, _, _, _, e⟩ := x; exact ⟨_, e⟩
      | tup xs => obtain ⟨_, _, _, o, e, _⟩ := x; exact ⟨_, e⟩
      | dK kvs => obtain ⟨_, _, _, _, o, _, _, e, _⟩ := x; exact ⟨_, e⟩
      | dT kvs => obtain ⟨_, _, _, _, o, _, _, e, _⟩ := x; exact ⟨_, e⟩
      | set S n => obtain ⟨o, _, _, _, e, _⟩ := x; exact ⟨_, e⟩
      | ins C dx fs => obtain ⟨_, _, _, e, _⟩ := x; exact ⟨_, e⟩
      | own y => exact x
      | xd fs => obtain ⟨_, ⟨_, _, _, e, _⟩, _⟩ := x; exact ⟨_, e⟩
      | rng lo hi => obtain ⟨_, _, _, e⟩ := x; exact ⟨_, e⟩
      | frz ob u => obtain ⟨e, _⟩ := x; exact ⟨_, e⟩
      | tbl ps => exact ⟨_, (show h.get? b = some _ from x)⟩
      | met f y => exact ⟨_, (show h.get? b = some _ from x)⟩
      | ext φ => exact x.2.1
    obtain ⟨u, e2⟩ := this
    rw [e] at e2
    cases e2
/-- tracked things stay on the way -/
theorem hok_way {P : Program} {w : World} {H : Hp} {h h' : Heap} {fs ts : List Addr} {x C : Addr} {dd : Option Addr} (k : HOk P w H h) (W : Way fs x ts h h') (ff : ∀ b ∈ fs, H b = none) (ft : ∀ b ∈ ts, H b = none) (hx : H x = some (.ext (IsEx x C dd))) (e : IsEx x C dd h') : HOk P w H h' := fun a o q => by
  by_cases z : a = x
  · subst z
    rw [hx] at q
    cases q
    exact ex_ok e
  · refine (k a o q).stay (fun b u hb eb => ?_) (fun _ q => q) fun _ _ q => q
    have tr : ∃ o, H b = some o := by
      rcases hb with rfl | hb
      · exact ⟨_, q⟩
      · exact ⟨_, hb⟩
    obtain ⟨ob, tr⟩ := tr
    refine W.keep b u ?_ (fun m => by rw [ff b m] at tr; cases tr) (fun m => by rw [ft b m] at tr; cases tr) eb
    rcases hb with rfl | hb
    · exact z
    · rintro rfl
      rw [hx] at hb
      cases hb
/-- what was there ahead stays on the way -/
theorem un_way {fs ts : List Addr} {H H' : Hp} {h h1 h2 : Heap} {x : Addr} (u : Un fs [] H H' h h1) (W : Way fs x ts h1 h2) (nx : h.get? x = none) (nt : ∀ b ∈ ts, h.get? b = none) : Un fs [] H H' h h2 where
  keep := fun b o e n hb _ => W.keep b o (fun q => by rw [q, nx] at e; cases e) hb (fun m => by rw [nt b m] at e; cases e) (u.keep b o e n hb (by simp))
  slot := fun b o e n hb _ => by
    obtain ⟨sl, e1⟩ := u.slot b o e n hb (by simp)
    obtain ⟨sl', e2⟩ := W.slot b _ hb (fun q => by rw [q, nx] at e; cases e) (fun m => by rw [nt b m] at e; cases e) e1
    exact ⟨sl', e2⟩
  free := u.free
  there := fun b o e hx => by
    obtain ⟨o', e1⟩ := u.there b o e hx
    by_cases hb : b ∈ fs
    · obtain ⟨sl', e2⟩ := W.slot b _ hb (fun q => by rw [q, nx] at e; cases e) (fun m => by rw [nt b m] at e; cases e) e1
      exact ⟨_, e2⟩
    · exact ⟨o', W.keep b _ (fun q => by rw [q, nx] at e; cases e) hb (fun m => by rw [nt b m] at e; cases e) e1⟩
  tups := u.tups
  frzs := u.frzs
  tbls := u.tbls
/-! ### raise -/
abbrev bmV : List Value := [.type "ValueError", .type "Exception", .type "BaseException", .type "object"]
/-- an own class of exceptions without an __init__ -/
def RaiseC (K : PySem.W.Frag) (C : Addr) : Prop := ∃ nm q N bs bm hdct sn sub ab col dd k0 k1 k2 k3 k5, K.lookup C = some (excClassObj nm q C N bs bm hdct sn sub ab col dd k0 k1 k2 k3 k5 "ValueError.__new__") ∧
  PySem.W.tailIn K bmV bm = true ∧ PySem.W.nsOkIn K N = true ∧ PySem.W.nsIn K N "__init__" = some none
def tRaise (C : Addr) (E : XK) (t : TA) : TS := fun D σ H => t σ H fun vs H1 => vs.length ≤ sizeLine ∧ ∀ y, H1 y = none → E (.ref C) (some y) (upd H1 y (.ext (IsEx y C none)))
section
variable {P : Program} {w : World} {K : PySem.W.Frag} {mg : Str → Option Value} {base : Heap} {N : List Str} {qual : Str} {scope : Scope} {f : Addr} {cd : Value} {A : Around} {outer : List Env} {s0 : Shared} {H0 : Hp} {E0 : XK}
/-- THE RULE for a def that may raise -/
theorem Fun.okX {x qual : Str} {st : Stmt} {f : Addr} {fd : FuncData} {N ps : List Str} {k : Nat} {sp : Sp} (F : Fun K x qual st f fd) (S : FnScope N ps (defScope st)) (len : ∀ vs H Q E, sp vs H Q E → vs.length = ps.length)
    (hbody : ∀ (cdv : Value) (A : Around) (outer : List Env) (s : Shared) (H : Hp) (vs : List V) (Q : VK) (E : XK), Room k (A.deeper (envOfC qual (defScope st) s.heap.objs.size f cdv)) → sp vs H Q E →
      ∃ t, PSs (cxOf (CX1 P w) P w K mg base N qual (defScope st) f cdv A outer s H E) (defBody st) t ∧ t { nx := fun _ H' => Q .non H', rt := Q } (start N vs) H) : FnOk P w K mg base (CX1 P w) (k + 1) f fd ps sp := by
  obtain ⟨oc, od, kV, doc, pm, an, cdv, ct, osl, rfl, lk, hcd⟩ := F.ex
  exact fn_of lk hcd S len fun A outer s H vs Q E hr hsp => hbody cdv A outer s H vs Q E hr hsp
end
/-! ### try -/
/-- within a suite behind except -/
abbrev Cx.sup (X : Cx) (v : Value) : Cx := { X with A := X.A.mark (some v), calm := false }
section
variable {X : Cx} {pins : List (Addr × Obj)} {σ : St} {H : Hp} {s : Shared}
theorem Inv.sup (I : Inv X pins σ H s) (v : Value) : Inv (X.sup v) pins σ H s :=
  ⟨⟨I.ok.mod, I.ok.kind, I.ok.glob, I.ok.blt, I.ok.above, I.ok.inj, I.ok.has, I.ok.cab, (fun z => nomatch z), I.ok.frames, I.ok.stk, I.ok.exf, I.ok.bs, I.ok.bsz, I.ok.noex, I.ok.exfs, I.ok.funs, I.ok.frf⟩, I.os, I.bare, I.base, I.loc, I.cell, I.free, I.freeC, I.pin, I.hok, I.len⟩
theorem Inv.unsup {v : Value} (ok : X.Ok) (I : Inv (X.sup v) pins σ H s) : Inv X pins σ H s := ⟨ok, I.os, I.bare, I.base, I.loc, I.cell, I.free, I.freeC, I.pin, I.hok, I.len⟩
/-- a local name goes -/
theorem del_ok {M : Model} {A : Around} {E : Value → Shared → Prop} {i : Nat} {x : Str} {pos : Pos} {Q : Unit → Shared → Prop} (I : Inv X pins σ H s) (hN : X.N.Nodup) (hi : X.N[i]? = some x) (hk : X.env.scope.names.lookup x = some .local)
    (h : ∀ s', Inv X pins (σ.set i none) H s' → Q () s') : wpAny M A (do bindName X.env x .none; unbindBehindTheSuite X.env x pos) Q E s := by
  obtain ⟨m, hn, hl⟩ := id I.loc
  have hcls : (X.env.scope.kind == .class || (X.env.scope.kind == .module && X.env.locals != X.env.globals)) = false := by rw [I.ok.kind]; rfl
  have cne := I.cne
  refine wpAny_nameGoes_keeps hk hn hcls fun h' v hn' hs => ?_
  have lt : ∀ {b : Addr} {o : Obj}, X.s_0.heap.get? b = some o → b ≠ X.env.locals := fun e => Nat.ne_of_lt (Nat.lt_of_lt_of_le (Heap.lt_size e) I.ok.above)
  refine h _ ⟨I.ok, I.os, I.bare, ⟨fun b o e n hb hx => (hs.2 b (lt e)).trans (I.base.keep b o e n hb hx), fun b o e n hb hx => ?_, I.base.free, fun b o e hx => ?_, I.base.tups, I.base.frzs, I.base.tbls⟩, ⟨_, hn', fun j y v' e1 e2 e3 => ?_⟩, fun y c e => ?_, I.free, I.freeC, fun p hp => ?_, ?_, by simpa using I.len⟩
  · obtain ⟨sl, e1⟩ := I.base.slot b o e n hb hx
    exact ⟨sl, (hs.2 b (lt e)).trans e1⟩
  · obtain ⟨o', e1⟩ := I.base.there b o e hx
    exact ⟨o', (hs.2 b (lt e)).trans e1⟩
  · by_cases hj : j = i
    · subst hj
      rw [List.getElem?_set] at e2
      simp at e2
    · rw [List.getElem?_set_ne (Ne.symm hj)] at e2
      obtain ⟨u', r', q⟩ := hl j y v' e1 e2 e3
      refine ⟨u', r', ?_⟩
      rcases q with ⟨k, e⟩ | ⟨k, c, e, z⟩
      · refine .inl ⟨k, ?_⟩
        have : y ≠ x := fun e => hj (nodup_ix hN e1 (e ▸ hi))
        simp [this, e]
      · exact .inr ⟨k, c, e, z.sameBut hs (cne y c e)⟩
  · obtain ⟨w', z⟩ := I.cell y c e
    exact ⟨w', z.sameBut hs (cne y c e)⟩
  · obtain ⟨e, n, ne, nf, d⟩ := I.pin p hp
    exact ⟨(hs.2 p.1 ne).trans e, n, ne, nf, d⟩
  · intro b ob e
    refine (I.hok b ob e).stay (fun c w' hc q => (hs.2 c ?_).trans q) (fun _ q => q) fun _ _ q => q
    rintro rfl
    rcases hc with rfl | hc
    · rw [I.free] at e; cases e
    · rw [I.free] at hc; cases hc
def tTry (sp : Sp) (ta : TA) (n ie : Nat) (K : PySem.W.Frag) (S : Addr) (ts : TS) : TS := fun D σ H => ta σ H fun vs H1 => sp vs H1 (fun v H2 => D.nx (σ.set n (some v)) H2)
  (fun cls dx H2 => ∃ C y bm, cls = .ref C ∧ dx = some y ∧ ExC K C bm ∧ bm.contains (.ref S) = true ∧ ts { nx := fun σ' H3 => D.nx (σ'.set ie none) H3, rt := fun _ _ => False } (σ.set ie (some (.ref y))) H2)
theorem way_comp {fs ts ts' : List Addr} {e : Addr} {h h1 h2 : Heap} (a : Way fs e ts h h1) (b : Way fs e ts' h1 h2) : Way fs e (ts ++ ts') h h2 :=
  ⟨fun c o c1 c2 c3 q => b.keep c o c1 c2 (fun m => c3 (List.mem_append_right _ m)) (a.keep c o c1 c2 (fun m => c3 (List.mem_append_left _ m)) q), fun c o c1 c2 c3 q => by
    obtain ⟨sl, e1⟩ := a.slot c o c1 c2 (fun m => c3 (List.mem_append_left _ m)) q
    obtain ⟨sl', e2⟩ := b.slot c _ c1 c2 (fun m => c3 (List.mem_append_right _ m)) e1
    exact ⟨sl', e2⟩⟩
/-- the exception is met here -/
theorem meet {H1 : Hp} {s1 s' : Shared} {D : Ends} {ev : Value} {en cl : Str} {pcl ph : Pos} {b₀ : Stmt} {suite : List Stmt} {S : Addr} {bmS : List Value} {ie : Nat} {ts : TS} {E : Value → Shared → Prop}
    (hsk : X.stack = X.env :: X.outer) (hfm : X.env.frame = some X.env.locals) (nd : X.N.Nodup) (hS : ExC X.K S bmS) (hbS : bmS.contains (.type "BaseException") = true) (hgS : Gl X cl) (hmS : X.mg cl = some (.ref S)) (hdS : (cl == ("__debug__" : Str)) = false)
    (hie : X.N[ie]? = some en) (hle : X.env.scope.names.lookup en = some .local) (hts : ∀ v, SB (X.sup v) (b₀ :: suite) ts) (hno : X.xe = fun _ _ => False) (I1 : Inv X pins σ H1 s1)
    (hq : CX1 X.prog X.w X.stack H1 s1 (fun cls dx H2 => ∃ C y bm, cls = .ref C ∧ dx = some y ∧ ExC X.K C bm ∧ bm.contains (.ref S) = true ∧ ts { nx := fun σ' H3 => D.nx (σ'.set ie none) H3, rt := fun _ _ => False } (σ.set ie (some (.ref y))) H2) ev s') :
    wpAny (model X.prog X.w) X.A (noteFrame ev X.env) (fun _ s₂ => wpAny (model X.prog X.w) X.A (setFlight ev none) (fun _ s₃ => wpAny (model X.prog X.w) X.A (handleBy ev X.env [.ExceptHandler (some (.Name cl pcl)) (some en) (b₀ :: suite) ph]) (SP X pins D) E s₃) E s₂) E s' := by
  obtain ⟨y, C, T, dx0, vs, H', rfl, os, bare, un, hok, ny, hy, ey, e1, tT, neT, nT, hT', C', y', bm, eC, ey', hC, hbm, hrd⟩ := hq
  have eC' : C = C' := Value.ref.inj eC
  have ey2 : y = y' := Option.some.inj ey'
  subst eC' ey2
  have I' : Inv X pins σ H' s' := I1.call' (ch := []) os un hok bare (fun b z => absurd z (by simp))
  have fr : s'.heap.FunFrames X.base (X.env :: X.outer) := by have := I'.stack; rw [hsk] at this; exact this
  have af : X.A.frames = some (X.env :: X.outer) := by have := I'.ok.frames; rw [hsk] at this; exact this
  have back : ∀ b, s'.heap.get? b = none → s1.heap.get? b = none := fun b hb => by
    cases z : s1.heap.get? b with
    | none => rfl
    | some o =>
      obtain ⟨o', e'⟩ := un.there b o z (by simp)
      rw [hb] at e'
      cases e'
  have fin : ∀ (ts' : List Addr) (h3 : Heap) (tk : Nat), Way (frs X.stack) y ts' s'.heap h3 → (∀ b ∈ ts', s1.heap.get? b = none ∧ H' b = none) → IsEx y C dx0 h3 → Inv X pins σ H' { s' with heap := h3, toks := tk } := fun ts' h3 tk W nt isE =>
    I1.call' (ch := []) (s' := { s' with heap := h3, toks := tk }) os (un_way un W ny fun b hb => (nt b hb).1) (hok_way hok W (fun b hb => I'.stkFree b hb) (fun b hb => (nt b hb).2) hy isE) bare (fun b z => absurd z (by simp))
  have e1s : 1 < vs.size := (Array.getElem?_eq_some_iff.mp e1).1
  refine note_next af fr hfm ey e1 tT neT fun h2 T2 W n2 e2 t2 ne2 => ?_
  have W2 : Way (frs X.stack) y [T] s'.heap h2 := by rw [hsk]; exact W
  have I2 := fin [T] h2 s'.toks W2 (fun b hb => by rw [List.mem_singleton.mp hb]; exact ⟨nT, hT'⟩) ⟨_, e2⟩
  have nT2 : s1.heap.get? T2 = none ∧ H' T2 = none := ⟨back T2 n2, hok_none hok n2⟩
  refine wpAny_handleBy_cons (codeAny_handlers_test (Calls.Name_function_global I2.ok.kind hgS (Calls.loadGlobal_global (by rw [I2.ok.glob]; exact I2.mod.glob.keeps I2.bk) hmS ?_) hdS)) (by intro q; cases q)
  refine matches_own I2.kIn hC hS e2 hbS hbm ?_
  show codeAny _ _ _ _ _
  refine codeAny_handlers_suite_as ?_
  refine flight_again e2 (by simp [e1s]) t2 ne2 fun h3 k3 => ?_
  have W3 : Way (frs X.stack) y [T2] h2 h3 := ⟨fun b o _ _ b3 q => k3 b o (by simpa using b3) q, fun b o _ _ b3 q => ⟨o.slots, k3 b o (by simpa using b3) q⟩⟩
  have e3 := k3 y _ ne2.symm e2
  have I3 := fin ([T] ++ [T2]) h3 s'.toks (way_comp W2 W3) (fun b hb => by
    rcases List.mem_append.mp hb with hb | hb
    · rw [List.mem_singleton.mp hb]; exact ⟨nT, hT'⟩
    · rw [List.mem_singleton.mp hb]; exact nT2) ⟨_, e3⟩
  refine store_ok I3 nd hie (.inl hle) (show RelV (.ref y) (.ref y) from rfl) (fun s4 I4 => ?_) (.inr hle)
  refine wpAny_mono ((hts (.ref y)).o pins s4 _ H' _ (I4.sup (.ref y)) hrd) (fun fl s5 z => ?_) (fun e s5 z => by
    have : X.xe e s5 := z
    rw [hno] at this
    exact this.elim)
  cases fl with
  | next =>
    obtain ⟨σ5, H5, I5, q5⟩ := z
    exact del_ok (I5.unsup I4.ok) nd hie hle fun s6 I6 => ⟨_, H5, I6, q5⟩
  | brk => obtain ⟨_, _, _, q5⟩ := z; exact q5.elim
  | cont => obtain ⟨_, _, _, q5⟩ := z; exact q5.elim
  | ret u => obtain ⟨_, _, _, _, _, q5⟩ := z; exact q5.elim
/-- try: x = f(e, ..) except C as n: suite, f a def that may raise -/
theorem btry {k : Nat} {f : Addr} {fd : FuncData} {ps : List Str} {sp : Sp} {fx x en cl : Str} {pf pc px pa pcl ph pos : Pos} {e : Expr} {es : List Expr} {b₀ : Stmt} {suite : List Stmt} {S : Addr} {bmS : List Value} {n ie : Nat} {ta : TA} {ts : TS}
    (F : FnOk X.prog X.w X.K X.mg X.base (CX1 X.prog X.w) k f fd ps sp) (hr : Room k X.A) (hg : Gl X fx) (hm : X.mg fx = some (.ref f)) (hk : PySem.W.keepIn X.K (.ref f) = true) (hb : Binds X.K fd ps []) (ha : SA X (e :: es) ta)
    (hdb : (fx == ("__debug__" : Str)) = false) (he : starEach (e :: es) X.env = (false, eval e X.env) :: starEach es X.env) (hpl : (backTo pc (starEach es X.env)).any (·.1) = false)
    (hno : X.xe = fun _ _ => False) (hsk : X.stack = X.env :: X.outer) (hfm : X.env.frame = some X.env.locals) (nd : X.N.Nodup) (hn : X.N[n]? = some x) (hx : Loc X.env.scope x) (hf : X.fn x = true ∨ X.env.scope.names.lookup x = some .local)
    (hsw : swapsWith (.Call (.Name fx pf) (e :: es) [] pc) (some (.Name x px)) pa.line X.env = pure false)
    (hS : ExC X.K S bmS) (hbS : bmS.contains (.type "BaseException") = true) (hgS : Gl X cl) (hmS : X.mg cl = some (.ref S)) (hdS : (cl == ("__debug__" : Str)) = false)
    (hie : X.N[ie]? = some en) (hle : X.env.scope.names.lookup en = some .local) (hts : ∀ v, SB (X.sup v) (b₀ :: suite) ts) :
    SS1 X (.Try [.Assign [.Name x px] (.Call (.Name fx pf) (e :: es) [] pc) pa] [.ExceptHandler (some (.Name cl pcl)) (some en) (b₀ :: suite) ph] [] [] pos) (tTry sp ta n ie X.K S ts) := by
  refine ⟨fun pins s σ H D I h => ?_⟩
  refine wpAny_Try_except ?_
  refine wpAny_execs_cons ?_
  have key : wpAny (model X.prog X.w) X.A (eval (.Call (.Name fx pf) (e :: es) [] pc) X.env) (EP X pins σ fun v H2 => D.nx (σ.set n (some v)) H2)
      (fun ev s₁ => wpAny (model X.prog X.w) X.A (noteFrame ev X.env) (fun _ s₂ => wpAny (model X.prog X.w) X.A (setFlight ev none) (fun _ s₃ => wpAny (model X.prog X.w) X.A (handleBy ev X.env [.ExceptHandler (some (.Name cl pcl)) (some en) (b₀ :: suite) ph]) (SP X pins D) X.xe s₃) X.xe s₂) X.xe s₁) s := by
    refine wpAny_Call_Name_kw (ld_glob I hg hm ?_ hdb)
    refine PySem.W.callWith_K (h₀ := X.base) I.ok.mod.kin hk (wpAny_mono (ha.o pc pins s σ H _ I h) (fun us s1 ⟨vs, H1, I1, r, q⟩ => ⟨I1.kIn, ?_⟩) (fun ev s1 z => by rw [hno] at z; exact z.elim)) he hpl
    have hl : us.length = ps.length := by rw [← r.length]; exact F.len _ _ _ _ q
    have hb' : BindsTo s1 fd ⟨us, []⟩ (ps.zip us) := by
      have := hb s1 us I1.kIn (by rw [List.append_nil]; exact hl)
      rw [List.append_nil] at this
      exact this
    refine wpAny_call (codeAny_mono (F.run X.A X.stack s1 H1 ⟨us, []⟩ us vs _ _ hr I1.env0 hb' r q) fun res s' hq => ?_)
    cases res with
    | error ev => exact meet hsk hfm nd hS hbS hgS hmS hdS hie hle hts hno I1 hq
    | ok fl =>
      cases fl with
      | ret u => exact I1.after hq
      | next => exact False.elim hq
      | brk => exact False.elim hq
      | cont => exact False.elim hq
  refine wpAny_Assign_Name (thn key fun v s1 ⟨y, H1, I1, r1, q1⟩ => ?_) hsw
  exact store_ok I1 nd hn hx r1 (fun s2 I2 => wpAny_execs_nil (wpAny_execs_nil ⟨_, H1, I2, q1⟩)) hf
end
end L2

/-! isinstance of an own exception. -/
namespace L2
open PySem PySem.Spec PyProof.Rows Xc PySem.W
/-- how an own exception's attributes are looked up -/
structure ExA (K : Frag) (C : Addr) : Prop where
  ga : findIn K (.ref C) "__getattribute__" = some (some (.builtin "BaseException.__getattribute__"))
  na : findIn K (.ref C) "__getattr__" = some none
  ca : findIn K (.ref C) "__class__" = some (some (.builtin "object.__class__"))
  ob : mroIn K C (.type "object") = some true
  be : mroIn K C (.type "BaseException") = some true
section
variable {prog : Program} {w : World} {A : Around} {E : Value → Shared → Prop} {K : Frag} {h : Heap} {g : Array GenState} {d : Drawn} {t : Nat} {os : OsState} {y C : Addr} {vs : Array Value}
end
/-- isinstance(e, c), e an own exception: c as the fragment's decider takes it -/
def rIsX (K : Frag) : List V → Hp → VK → Prop := fun vs H Q => ∃ (y C : Addr) (bm : List Value) (c : V) (u : Value) (b : Bool), vs = [.ref y, c] ∧ H y = some (.ext (IsEx y C none)) ∧ ExC K C bm ∧ ExA K C ∧ (∀ u', RelV c u' → u' = u) ∧ kitOne K (.ref C) u = some b ∧ Q (.bl b) H
end L2

/-! list.count of bools. -/
namespace L2
open PySem PySem.Spec PyProof.Rows Xc
def isBl (k : Bool) : Value → Bool
  | .bool b => b == k
  | _ => false
section
variable {X : Cx}
def rCountB (K : PySem.W.Frag) : V → List V → Hp → VK → Prop := fun x xs H Q => ∃ (a : Addr) (bs : List Bool) (k : Bool), x = V.ref a ∧ xs = [V.bl k] ∧ SqL K H a (bs.map V.bl) ∧ Q (.int (bs.count k : Nat)) H
theorem mt_countB : MtR X "list.count" (rCountB X.K) := by
  intro pins s σ H x xs v us Q I rx rxs h
  obtain ⟨a, bs, k, rfl, rfl, hs, q⟩ := h
  cases rx
  cases rxs with
  | cons ry rt =>
    cases rt
    cases ry
    obtain ⟨its, rv, ⟨⟨cls, dd, data, sl⟩, n, ho, hc, hdn, hd⟩, hlen⟩ := I.list hs
    simp only at hc hd
    subst hc hd
    have ei := Vals.bls rv
    subst ei
    refine call_meets PySem.F.slot_list_count ⟨_, ho, rfl⟩ PySem.F.entry_list_count (PySem.F.args_list_count_2 _ _) (SeqAt.list_countAt a (bs.map Value.bool).toArray n dd sl (.bool k) (isBl k)) ⟨ho, fun y hy => ?_, ?_⟩
    · obtain ⟨b, _, rfl⟩ := List.mem_map.mp (List.mem_toArray.mp hy)
      exact SeqAt.EqAt.bool_bool b k
    · have e : (bs.map Value.bool).toArray.toList.countP (isBl k) = bs.count k := by
        show (bs.map Value.bool).countP (isBl k) = bs.countP (· == k)
        rw [List.countP_map]
        rfl
      rw [e]
      exact ⟨.int _, H, I.kept fun _ _ e => e, ⟨_, rfl⟩, q⟩
end
section
variable {X : Cx} {pos : Pos}
theorem enon {j : _} : SE X (.Constant .none j pos) (tC .non) := ⟨pe_non⟩
end
end L2

/-! filling by bits is filling by names. -/
namespace Pm
open PySem L2 Wd Wm Km Bm Gm Hm Fm Fn
/-- the places in the order in which they are asked -/
def plc (kd : Kd) (n : Nat) : List Nat := match kd with
  | .C => (List.range n).reverse
  | _ => List.range n
/-- the row by names behind i places -/
noncomputable def rowAt (names : List Str) (ties : List SS) (kd : Kd) (row : List Str) (i : Nat) : List Str := match kd with
  | .C => thinL ties (names.reverse.take i) row
  | _ => fillL ties kd (names.take i) row
noncomputable def stB (names : List Str) (ties : List SS) (kd : Kd) (r k : Nat) : Nat := if r.testBit k = shr kd ∧ isB ties kd (rowL names (r ^^^ 2 ^ k)) = true then r ^^^ 2 ^ k else r
end Pm

/-! an own exception passes a def that does not catch it. -/
namespace L2
open PySem PySem.Spec PyProof.Rows Xc
section
variable {P : Program} {w : World} {K : PySem.W.Frag} {mg : Str → Option Value} {base : Heap} {N : List Str} {qual : Str} {scope : Scope} {f : Addr} {cd : Value} {A : Around} {outer : List Env} {s0 : Shared} {H0 : Hp} {E0 : XK}
theorem pass1 : Passes (CX1 P w) (cxOf (CX1 P w) P w K mg base N qual scope f cd A outer s0 H0 E0) E0 := by
  intro pins σ H s e s' I hq
  obtain ⟨y, C, T, dd, vs, H', rfl, os, bare, un, hok, ny, hy, ey, e1, tT, neT, nT, hT', hE⟩ := hq
  have I' : Inv (cxOf (CX1 P w) P w K mg base N qual scope f cd A outer s0 H0 E0) pins σ H' s' := I.call' (ch := []) os un hok bare (fun b z => absurd z (by simp))
  have fr : s'.heap.FunFrames base (envOfC qual scope s0.heap.objs.size f cd :: outer) := I'.stack
  have ff : ∀ b ∈ frs (envOfC qual scope s0.heap.objs.size f cd :: outer), H' b = none := I'.stkFree
  show wpAny (model P w) (A.deeper (envOfC qual scope s0.heap.objs.size f cd)) (leaving (envOfC qual scope s0.heap.objs.size f cd) (.ref y)) _ _ _
  have back : ∀ b, s.heap.get? b = none → s0.heap.get? b = none := fun b hb => by
    cases z : s0.heap.get? b with
    | none => rfl
    | some o =>
      obtain ⟨o', e'⟩ := I.base.there b o z (by simp [cxOf])
      rw [hb] at e'
      cases e'
  have back' : ∀ b, s'.heap.get? b = none → s0.heap.get? b = none := fun b hb => by
    cases z : s0.heap.get? b with
    | none => rfl
    | some o =>
      obtain ⟨o', e'⟩ := I'.base.there b o z (by simp [cxOf])
      rw [hb] at e'
      cases e'
  unfold leaving
  refine wpAny_bind (note_next I'.ok.frames fr rfl ey e1 tT neT fun h2 T2 W n2 e2 t2 ne2 => ?_)
  have e1s : 1 < vs.size := (Array.getElem?_eq_some_iff.mp e1).1
  have W' : Way (frs outer) y [T, s0.heap.objs.size] s'.heap h2 := by
    refine ⟨fun b o b1 b2 b3 eb => W.keep b o b1 (fun m => ?_) (fun m => b3 (by rw [List.mem_singleton.mp m]; exact List.mem_cons_self ..)) eb, fun b o b1 b2 b3 eb => W.slot b o (List.mem_cons_of_mem _ b1) b2 (fun m => b3 (by rw [List.mem_singleton.mp m]; exact List.mem_cons_self ..)) eb⟩
    have : b ∈ s0.heap.objs.size :: frs outer := m
    rcases List.mem_cons.mp this with z | z
    · exact b3 (by rw [z]; exact List.mem_cons_of_mem _ (List.mem_cons_self ..))
    · exact b2 z
  have u4 : Un (frs outer) [] H0 H' s0.heap h2 := un_way (show Un (frs outer) [] H0 H' s0.heap s'.heap from I'.base) W' (back y ny) fun b hb => by
    rcases List.mem_cons.mp hb with z | z
    · rw [z]; exact back T nT
    · rw [List.mem_singleton.mp z]; exact Heap.get?_none_of_le (Nat.le_refl _)
  have k3 : HOk P w H' h2 := hok_way hok W ff (fun b hb => by rw [List.mem_singleton.mp hb]; exact hT') hy ⟨_, e2⟩
  exact ⟨y, C, T2, dd, _, H', rfl, I'.os, I'.bare, u4, k3, back y ny, hy, e2, by simp [e1s], t2, ne2, back' T2 n2, hok_none hok n2, hE⟩
end
end L2

/-! an own exception gets an attribute. -/
namespace L2
open PySem PySem.Spec PyProof.Rows Xc PySem.W
open PySem.Builtin PySem.Builtin.ObjectAttr
/-- how an attribute is stored -/
structure ExS (K : Frag) (C S : Addr) (name : Str) : Prop where
  cl : ∃ nm q N bs sn sub ab col dd k0 k1 k2 k3 k5 newId, K.lookup C = some (excClassObj nm q C N bs (.ref S :: bmV) true sn sub ab col dd k0 k1 k2 k3 k5 newId)
  sa : findIn K (.ref C) "__setattr__" = some (some (.builtin "object.__setattr__"))
  no : findIn K (.ref C) name = some none
  ob : mroIn K C (.type "object") = some true
section
variable {prog : Program} {w : World} {A : Around} {E : Value → Shared → Prop} {K : Frag} {h : Heap} {g : Array GenState} {d : Drawn} {t : Nat} {os : OsState} {y C S : Addr} {vs : Array Value} {name : Str} {v : Value}
theorem st_entry {tk : Tok} {Q : Fin → Shared → Prop} {o : Obj} (X : K.In h) (a : ExS K C S name) (hx : h.get? y = some o) (hc : o.cls = .ref C) (hdn : o.dict = none) (hnc : ∀ c, o.data ≠ .cls c)
    (hq : ∀ h' dx tk', h'.get? y = some { o with dict := some dx } → dx ≠ y → h.get? dx = none → h'.Ns1 dx (fun z => if z = name then some v else none) → (∀ b ob, b ≠ y → h.get? b = some ob → h'.get? b = some ob) → Q (.done (.ret .none)) ⟨h', g, d, tk', os⟩) :
    wpAny (model prog w) A (Builtin.«object.__setattr__» ⟨[.ref y, .str name tk, v], []⟩) Q E ⟨h, g, d, t, os⟩ := by
  obtain ⟨nm, q, N, bs, sn, sub, ab, col, dd, k0, k1, k2, k3, k5, newId, hl⟩ := a.cl
  have hC := X _ _ hl
  have hpass := PySem.F.store_ValueError.passes (.ref y)
  have L1 := looks_findIn (M := model prog w) X a.no
  unfold Builtin.«object.__setattr__»
  repeat (first | rw [refuse_eq] | (rw [refuseLoop_ref, refuseLoop_ref, hpass]) | (with_reducible refine wpAny_loadPart_at hx ?_; rw [hc]) | with_reducible refine wpAny_mroOf_exc hC ?_ | (with_reducible refine L1.at ?_) | wp_step)
  rw [hdn, if_neg (by simp [typeHasDict])]
  split
  · rename_i hcd
    cases hcd
  split
  · rename_i c hcd
    exact absurd hcd (hnc c)
  · have hx₁ : (h.push { cls := .type "dict", data := .dict #[] }).get? y = some o := Heap.get?_push_of_some _ hx
    have hxs : y ≠ h.objs.size := Nat.ne_of_lt (Heap.lt_size hx)
    refine wpAny_bind (wpAny_alloc' ?_)
    refine wpAny_bind (wpAny_update' hx₁ ?_)
    refine wpAny_pure ?_
    have hgd : ((h.push { cls := .type "dict", data := .dict #[] }).update y fun o => { cls := o.cls, dict := some h.objs.size, data := o.data, slots := o.slots }).get? h.objs.size = some { cls := .type "dict", data := .dict #[] } :=
      (Heap.get?_update_ne _ _ _ _ hxs.symm).trans (Heap.get?_push_at rfl rfl)
    have hnd : ((h.push { cls := .type "dict", data := .dict #[] }).update y fun o => { cls := o.cls, dict := some h.objs.size, data := o.data, slots := o.slots }).Ns h.objs.size (fun _ => none) :=
      ⟨_, #[], _, hgd, rfl, fun e he => absurd he (by simp), fun _ => rfl⟩
    show wpAny _ _ (storeInDict h.objs.size (.str name tk) name v) _ _ _
    unfold storeInDict newKeyGuard
    refine wpAny_bind (wpAny_pure (wpAny_bind (wpAny_nsSet1 (Heap.Ns1.of_empty hnd) fun h' hn' hs => ?_)))
    obtain ⟨oD, esD, epD, hoD, hdD, hcD⟩ := hn'.count (Within.cons name v Within.nil)
    refine wpAny_bind (wpAny_lookBehind hoD (by rw [hdD]; exact pastItsLine_dict (Nat.le_trans hcD (by rw [List.length_cons, List.length_nil, sizeLine_eq]; omega))) ?_)
    wp_walk
    refine hq h' h.objs.size _ ?_ hxs.symm (Heap.get?_none_of_le (Nat.le_refl _)) hn' (fun b ob hb e => ?_)
    · refine (hs.2 y hxs).trans (Heap.get?_update_self _ hx₁ ?_)
      have hfr := (Heap.get?_some_iff.mp hx).2
      obtain ⟨oc, od, odt, osl⟩ := o
      cases odt <;> first | rfl | exact hfr
    · exact (hs.2 b (Nat.ne_of_lt (Heap.lt_size e))).trans ((Heap.get?_update_ne _ _ _ _ hb).trans (Heap.get?_push_of_some _ e))
theorem st_check {nameV : Value} {Q : Unit → Shared → Prop} {o : Obj} (X : K.In h) (a : ExS K C S name) (hx : h.get? y = some o) (hc : o.cls = .ref C) (hq : Q () ⟨h, g, d, t, os⟩) :
    wpAny (model prog w) A (checkBuiltinCall "object.__setattr__" ⟨[.ref y, nameV, v], []⟩) Q E ⟨h, g, d, t, os⟩ := by
  have SF := PySem.F.store_ValueError
  have hk := SF.kind
  have hsp := SF.split
  have ha := SF.args (.ref y) nameV v
  have L2 := looks_mroIn (M := model prog w) X a.ob
  simp only [checkBuiltinCall, hk, hsp]
  refine wpAny_bind ?_
  · unfold isInstance
    repeat (first | (with_reducible refine wpAny_loadPart_at hx ?_; rw [hc]) | (with_reducible refine L2.at ?_) | wp_step)
    exact hq
theorem st_attr {Q : Unit → Shared → Prop} {o : Obj} (X : K.In h) (a : ExS K C S name) (hx : h.get? y = some o) (hc : o.cls = .ref C) (hdn : o.dict = none) (hnc : ∀ c, o.data ≠ .cls c)
    (hq : ∀ h' dx tk', h'.get? y = some { o with dict := some dx } → dx ≠ y → h.get? dx = none → h'.Ns1 dx (fun z => if z = name then some v else none) → (∀ b ob, b ≠ y → h.get? b = some ob → h'.get? b = some ob) → Q () ⟨h', g, d, tk', os⟩) :
    wpAny (model prog w) A (setAttr (.ref y) name v) Q E ⟨h, g, d, t, os⟩ := by
  have SF := PySem.F.store_ValueError
  have f3 := SF.slot.bind (.ref y)
  have L1 := looks_findIn (M := model prog w) X a.sa
  have L2 := looks_mroIn (M := model prog w) X a.ob
  have ha := SF.args (.ref y)
  unfold setAttr callSpecial? specialOf
  repeat (any_goals (first | assumption | (with_reducible refine wpAny_loadPart_at hx ?_; rw [hc]) | (with_reducible refine L1.at ?_) | wp_step))
  refine codeAny_call_builtin SF.slot.plain SF.entry (st_check X a hx hc (st_entry X a hx hc hdn hnc fun h' dx tk' z1 z2 z3 z4 z5 => ?_))
  repeat (any_goals (first | assumption | wp_step))
  exact hq h' dx tk' z1 z2 z3 z4 z5
end
end L2

/-! super().__init__(text) within an own exception's __init__. -/
namespace L2
open PySem PySem.Spec PyProof.Rows Xc PySem.W
theorem wd_slot : Slot "wrapper_descriptor" "__get__" "wrapper_descriptor.__get__" := .of (owner := "wrapper_descriptor") (n := "__get__") (by rw [typeLookup_type, builtinLookup_eq_fast]; kernel_rfl) (by decide +kernel) (by decide +kernel) (by decide +kernel)
    (by first | exact .inl (by decide +kernel) | exact .inr (by decide +kernel)) (by rw [isSubtype_type]; kernel_rfl)
theorem wd_entry : entryFor table "wrapper_descriptor.__get__" = some Builtin.«wrapper_descriptor.__get__» := entryFor_of_tree (by kernel_rfl)
theorem wd_args (a b c : Value) : argsOk "wrapper_descriptor.__get__" ⟨[a, b, c], []⟩ := by unfold argsOk; kernel_rfl
theorem vi_type : typeOf (.builtin "ValueError.__init__") = pure (.type "wrapper_descriptor") := by show builtinType _ = _; kernel_rfl
section
variable {prog : Program} {w : World} {A : Around} {E : Value → Shared → Prop} {K : Frag} {h : Heap} {g : Array GenState} {d : Drawn} {t : Nat} {os : OsState} {so D x C : Addr} {l₀ l : List Value} {ox : Obj}
theorem sg_entry {tk : Tok} {Q : Fin → Shared → Prop} (hso : h.get? so = some (ks_superObj D x C)) (hno : Looks (model prog w) h (opaqueClassAbove (.ref C)) none) (hC : Looks (model prog w) h (mroOf (.ref C)) l₀) (hl : (l₀.dropWhile (· != .ref D)).drop 1 = l) (X : K.In h)
    (hf : alongIn K "__init__" l = some (some (.builtin "ValueError.__init__"))) (hx : h.get? x = some ox) (hc : ox.cls = .ref C) (hv : mroIn K C (.type "ValueError") = some true) (hxC : x ≠ C)
    (hq : Q (.done (.ret (.ref h.objs.size))) ⟨h.push { cls := .type "method-wrapper", data := .fields #[.builtin "ValueError.__init__", .ref x] }, g, d, t, os⟩) :
    wpAny (model prog w) A (Builtin.«super.__getattribute__» ⟨[.ref so, .str "__init__" tk], []⟩) Q E ⟨h, g, d, t, os⟩ := by
  have hlk := wd_slot.lookup
  have hne : (Value.ref x == Value.ref C) = false := by simp [hxC]
  have hT := vi_type
  have hTt : (⟨h, g, d, t, os⟩ : Shared).TypeIs (.builtin "ValueError.__init__") "wrapper_descriptor" := vi_type
  have hn : ((Str.ofString "__init__") == ("__class__" : Str)) = false := by decide
  have L5 := looks_mroIn (M := model prog w) X hv
  have hdt : (ks_superObj D x C).data = .fields #[.ref D, .ref x, .ref C] := rfl
  have f0 : (#[.ref D, .ref x, .ref C] : Array Value)[0]? = some (.ref D) := rfl
  have f1 : (#[.ref D, .ref x, .ref C] : Array Value)[1]? = some (.ref x) := rfl
  have f2 : (#[.ref D, .ref x, .ref C] : Array Value)[2]? = some (.ref C) := rfl
  unfold Builtin.«super.__getattribute__»
  repeat (first
    | (with_reducible refine wpAny_field hso hdt f0 ?_) | (with_reducible refine wpAny_field hso hdt f1 ?_) | (with_reducible refine wpAny_field hso hdt f2 ?_)
    | (with_reducible refine ks_wpAny_notOpaque hno ?_)
    | (with_reducible refine Looks.at hC ?_; rw [hl])
    | (refine ks_forIn_along X (fun _ _ => rfl) rfl ?_ hf)
    | (with_reducible refine wpAny_call_entry wd_slot hTt wd_entry ?_ (wd_args _ _ _))
    | (with_reducible refine ⟨_, rfl, ?_⟩)
    | (simp only [hn, hne, Bool.or_false, Bool.false_eq_true, if_false])
    | wp_step
    | dsimp only)
  have ho : (".".intercalate ("ValueError.__init__".cutAt '.').dropLast) = "ValueError" := by decide +kernel
  rw [hc, ho]
  refine L5.at ?_
  simp only [Bool.not_true, Bool.false_eq_true, if_false]
  unfold newFields
  repeat (first | assumption | (with_reducible refine ⟨_, rfl, ?_⟩) | wp_step | dsimp only)
  all_goals first | exact hq | skip
  all_goals trace_state
theorem sg_method {pl : Sem Bool} {Q : Value × List Value → Shared → Prop} (hso : h.get? so = some (ks_superObj D x C)) (hno : Looks (model prog w) h (opaqueClassAbove (.ref C)) none) (hC : Looks (model prog w) h (mroOf (.ref C)) l₀) (hl : (l₀.dropWhile (· != .ref D)).drop 1 = l) (X : K.In h)
    (hf : alongIn K "__init__" l = some (some (.builtin "ValueError.__init__"))) (hx : h.get? x = some ox) (hc : ox.cls = .ref C) (hv : mroIn K C (.type "ValueError") = some true) (hxC : x ≠ C)
    (hq : Q (.ref h.objs.size, []) ⟨h.push { cls := .type "method-wrapper", data := .fields #[.builtin "ValueError.__init__", .ref x] }, g, d, t + 1, os⟩) :
    wpAny (model prog w) A (getMethod (.ref so) "__init__" pl) Q E ⟨h, g, d, t, os⟩ := by
  have lk := F.ks_slot_super_ga.lookup
  have hcan := F.ks_canon_super_ga
  have hT : ∀ t', (⟨h, g, d, t', os⟩ : Shared).TypeIs (.ref so) "super" := fun _ => ⟨_, hso, rfl⟩
  unfold getMethod
  refine wpAny_bind (wpAny_specialOf (hT _) lk ?_)
  show wpAny _ _ (if (Manifest.canonical "super.__getattribute__" != "object.__getattribute__") = true then _ else _) _ _ _
  rw [if_pos hcan]
  unfold getAttr getAttrBy
  refine wpAny_bind (wpAny_bind (wpAny_mkText (wpAny_holding (wpAny_bind (wpAny_typeOf (hT _) (wpAny_bind (wpAny_of_eq lk ?_)))))))
  show wpAny _ _ (getAttrByItsOwn (.ref so) (.str "__init__" t) (.type "super") (.builtin "super.__getattribute__") true false) _ _ _
  unfold getAttrByItsOwn hookBefore callGetattribute boundAndCalled
  refine wpAny_bind (wpAny_of_eq (show (if onTheHeap (.type "super") then typeLookup (.type "super") "__getattr__" else pure none) = pure none from rfl) ?_)
  refine wpAny_bind (wpAny_attempt (wpAny_holding ?_))
  show wpAny _ _ (bindSpecial (.builtin "super.__getattribute__") (.ref so) >>= _) _ _ _
  refine wpAny_bind (wpAny_of_eq (F.ks_slot_super_ga.bind _) ?_)
  refine wpAny_mono (Q := fun v s' => v = .ref h.objs.size ∧ s' = ⟨h.push { cls := .type "method-wrapper", data := .fields #[.builtin "ValueError.__init__", .ref x] }, g, d, t + 1, os⟩) (E := fun _ _ => False)
    (wpAny_call_entry F.ks_slot_super_ga (hT _) F.ks_entry_super_ga (sg_entry hso hno hC hl X hf hx hc hv hxC ⟨_, rfl, rfl, rfl⟩) (F.ks_gaArgs_super _ _)) (fun v s' z => ?_) fun _ _ z => z.elim
  obtain ⟨rfl, rfl⟩ := z
  exact wpAny_pure (wpAny_pure hq)
end
theorem vi_entry : entryFor table "ValueError.__init__" = some Builtin.«BaseException.__init__» := entryFor_alias (id' := "BaseException.__init__") (by kernel_rfl) (by decide +kernel) (by decide +kernel) (by kernel_rfl)
section
variable {prog : Program} {w : World} {A : Around} {E : Value → Shared → Prop} {s : Shared} {mw x C : Addr} {dd : Option Addr} {vs : Array Value}
theorem mw_check {g : Array GenState} {d : Drawn} {t : Nat} {os : OsState} {h : Heap} {bm : List Value} {nm q : Str} {N : Addr} {bs : List Value} {hdct : Bool} {sn : List Str} {sub : List Value} {ab : Bool} {col : Option Bool} {dc : Option Addr} {k0 k1 k2 k3 k5 : Option Value} {rest : List Value} {Q : Unit → Shared → Prop} {oe : Obj}
    (hC : h.get? C = some (excClassObj nm q C N bs bm hdct sn sub ab col dc k0 k1 k2 k3 k5 "ValueError.__new__")) (he : h.get? x = some oe) (hcls : oe.cls = .ref C) (hq : Q () ⟨h, g, d, t, os⟩) :
    wpAny (model prog w) A (checkBoundCall "ValueError.__init__" ⟨.ref x :: rest, []⟩) Q E ⟨h, g, d, t, os⟩ := by
  have F := PySem.F.excBase_ValueError
  have hshort := F.noStar
  unfold checkBoundCall
  simp only [F.initKind, F.initRow]
  repeat (first | (with_reducible refine wpAny_loadPart_at he ?_; rw [hcls]) | with_reducible refine wpAny_loadPart_at hC ?_ | wp_step)
  refine wpAny_onRaise ?_
  rw [show ∀ (a b : String) (n : Nat), Bind.check ⟨.positional, "*", "ValueError", .self, [⟨"args", .varPos, false⟩]⟩ a b n (List.map (fun x => x.fst) ({ pos := Value.ref x :: rest } : Args).kw) = pure () from
    fun a b n => check_star_args _ _ _ _ _ _]
  exact wpAny_pure hq
/-- the bound __init__ of the built-in base is called with one thing -/
theorem mw_call {u : Value} {R : Result → Shared → Prop} {bm : List Value} {nm q : Str} {N : Addr} {bs : List Value} {hdct : Bool} {sn : List Str} {sub : List Value} {ab : Bool} {col : Option Bool} {dc : Option Addr} {k0 k1 k2 k3 k5 : Option Value} (hm : s.heap.get? mw = some { cls := .type "method-wrapper", data := .fields #[.builtin "ValueError.__init__", .ref x] }) (hx : s.heap.get? x = some (exO C vs dd)) (h0 : 0 < vs.size)
    (hC : s.heap.get? C = some (excClassObj nm q C N bs bm hdct sn sub ab col dc k0 k1 k2 k3 k5 "ValueError.__new__"))
    (hq : ∀ h' tp, h'.get? x = some (exO C (vs.setIfInBounds 0 (.ref tp)) dd) → (∀ b o, b ≠ x → s.heap.get? b = some o → h'.get? b = some o) → R (.ok (.ret .none)) { s with heap := h' }) :
    codeAny (model prog w) A (.call (.ref mw) ⟨[u], []⟩) R s := by
  obtain ⟨h, g, d, t, os⟩ := s
  refine codeAny_of_tree ?_
  show wpAny _ _ (callAny (.ref mw) _) _ _ _
  unfold callAny
  refine wpAny_bind (wpAny_load hm ?_)
  show wpAny _ _ (if (Value.type "method-wrapper" == Value.type "method" || Value.type "method-wrapper" == Value.type "builtin_function_or_method" || Value.type "method-wrapper" == Value.type "method-wrapper") = true then _ else _) _ _ _
  rw [if_pos (by decide)]
  dsimp only
  show wpAny _ _ (if (Value.type "method-wrapper" != Value.type "method") = true then _ else _) _ _ _
  rw [if_pos (by decide)]
  refine wpAny_bind (mw_check hC hx rfl ?_)
  refine wpAny_pure ⟨Code.quiet_builtin _ (by decide +kernel), codeAny_builtin vi_entry ?_⟩
  unfold Builtin.«BaseException.__init__»
  dsimp only
  rw [if_neg (by simp)]
  unfold newTuple Builtin.BaseException.bexcPut
  have he₁ := Heap.get?_push_of_some (h := h) { cls := .type "tuple", data := .seq [u].toArray } hx
  refine wpAny_bind (wpAny_newObj_type (wpAny_bind (wpAny_bind (wpAny_field he₁ rfl (x := vs[0]) (by simp [h0]) (wpAny_bind (wpAny_setField he₁ rfl h0 ?_))))) (by size_fits))
  have fin : R (.ok (.ret .none)) ⟨(h.push { cls := .type "tuple", data := .seq [u].toArray }).update x (Obj.mapFields (·.setIfInBounds 0 (.ref h.objs.size))), g, d, t, os⟩ :=
    hq _ h.objs.size (Heap.get?_update_self _ he₁ rfl) fun b o hb e => (Heap.get?_update_other _ _ (Ne.symm hb)).trans (Heap.get?_push_of_some _ e)
  cases vs[0] <;> first | exact wpAny_pure (wpAny_pure fin) | exact wpAny_letGo (wpAny_pure fin)
end
end L2

/-! the __init__ of an own exception: super().__init__(f".."), self.a = a. -/
namespace L2
open PySem PySem.Spec PyProof.Rows Xc PySem.W
abbrev iniFs (a c1 c2 : Str) (p1 p2 p3 p4 p5 : Pos) : Expr := .JoinedStr [.Constant (.str c1) 0 p1, .FormattedValue (.Name a p2) (-1) none p3, .Constant (.str c2) 0 p4] p5
abbrev iniBody (a c1 c2 : Str) (p1 p2 p3 p4 p5 p6 p7 p8 p9 p10 q0 q1 q2 q3 : Pos) : List Stmt :=
  [.Expr (.Call (.Attribute (.Call (.Name "super" p6) [] [] p7) "__init__" p8) [iniFs a c1 c2 p1 p2 p3 p4 p5] [] p9) p10, .Assign [.Attribute (.Name "self" q0) a q1] (.Name a q2) q3]
abbrev iniScope (a : Str) : Scope := { kind := .function, names := [("self", .local), (a, .local), ("__class__", .free), ("super", .globalImplicit)], isGenerator := false, isCoroutine := false, more := [] }
abbrev iniArgs (a : Str) (r1 r2 : Pos) : Arguments := { posonlyargs := [], args := [{ arg := "self", annotation := none, pos := r1 }, { arg := a, annotation := none, pos := r2 }], vararg := none, kwonlyargs := [], kw_defaults := [], kwarg := none, defaults := [] }
/-- a value that an f-string tells -/
def Fmt (u : Value) : Prop := (∃ (y : Str) (t : Tok), u = .str y t ∧ y.length ≤ 1000000) ∨ ∃ (i : Int) (t : Tok), u = .int i t ∧ i.natAbs.log2 < 1920
structure Ini (P : Program) (K : Frag) (C S f : Addr) (a : Str) : Prop where
  lk : ∃ qual c1 c2 p1 p2 p3 p4 p5 p6 p7 p8 p9 p10 q0 q1 q2 q3 r1 r2 kV doc pm an cda ct cc od sl, (c1.length ≤ 1000000 ∧ c2.length ≤ 1000000) ∧ (p8.endLine == p9.line) = true ∧ K.lookup f = some ⟨.type "function", od, .func (ksFn "__init__" qual (iniArgs a r1 r2) (iniBody a c1 c2 p1 p2 p3 p4 p5 p6 p7 p8 p9 p10 q0 q1 q2 q3) (iniScope a) .none kV doc pm an (.ref cda) ct cc), sl⟩ ∧
    (∀ x u, bindArgs (ksFn "__init__" qual (iniArgs a r1 r2) (iniBody a c1 c2 p1 p2 p3 p4 p5 p6 p7 p8 p9 p10 q0 q1 q2 q3) (iniScope a) .none kV doc pm an (.ref cda) ct cc) ⟨[.ref x, u], []⟩ = pure [(("self" : Str), .ref x), (a, u)]) ∧ codeIn K (.ref cda) qual = true ∧ (∃ ccl cdd cvs ccs file tf, K.lookup cda = some ⟨ccl, cdd, .fields cvs, ccs⟩ ∧ cvs[2]? = some (.str file tf) ∧ ((P.main.file : Str) == file) = true) ∧ ∃ cl cld csl, K.lookup cc = some ⟨cl, cld, .cell (some (.ref C)), csl⟩
  cls : ∃ nm q N bs sn sub ab col dd k0 k1 k2 k3 k5, K.lookup C = some (excClassObj nm q C N bs (.ref S :: bmV) true sn sub ab col dd k0 k1 k2 k3 k5 "ValueError.__new__")
  sup : ks_superIn K C C "__init__" = some (some (.builtin "ValueError.__init__"))
  mroC : mroIn K C (.ref C) = some true
  mroV : mroIn K C (.type "ValueError") = some true
  opq : nsIn K cStatics "thirdparty.any" = some none
  sto : ExS K C S a
  top : (P.main.scope.names.lookup ("super" : Str)).isSome = false
  lA : (iniScope a).names.lookup a = some .local
  lS : (iniScope a).names.lookup ("super" : Str) = some .globalImplicit
  lC : (iniScope a).names.lookup ("__class__" : Str) = some .free
  nd : (a == ("__debug__" : Str)) = false
  ns : a ≠ ("self" : Str)
section
variable {P : Program} {w : World} {A : Around} {E : Value → Shared → Prop} {s : Shared} {K : Frag}
theorem mw_keeps {M : Model} {mw : Addr} {o : Obj} (hc : o.cls = .type "method-wrapper") {vs : Array Value} (hd : o.data = .fields vs) (h : Heap) (hm : h.get? mw = some o) : ∃ k, (k = Keeper.frame ∨ k = Keeper.machine ∨ k = Keeper.boundFrame) ∧ Looks M h (keeperOf (.ref mw)) k := by
  refine ⟨.machine, .inr (.inl rfl), ?_⟩
  unfold keeperOf
  refine (Looks.ld (part := none) hm).andThen ?_
  rw [hd, hc]
  exact .now
/-- the text -/
theorem ini_text {env : Env} {L : Addr} {m : Str → Option Value} {u : Value} {a c1 c2 : Str} {p1 p2 p3 p4 p5 : Pos} {Q : Value → Shared → Prop} (hk : env.scope.kind = .function) (hl : env.kindOf a = some .local) (hL : env.locals = L) (hn : s.heap.Ns L m) (hv : m a = some u) (hu : Fmt u) (hc : c1.length ≤ 1000000 ∧ c2.length ≤ 1000000)
    (hd : (a == ("__debug__" : Str)) = false) (h : ∀ y t tk, Q (.str y t) { s with toks := tk }) : wpAny (model P w) A (eval (iniFs a c1 c2 p1 p2 p3 p4 p5) env) Q E s := by
  have hs : sizeLine = 16777216 := sizeLine_eq
  refine JoinedStr_many ?_
  show wpAny _ _ (joinParts Str.empty [_, _, _]) _ _ _
  refine joinParts_cons (Calls.Constant_str ⟨?_, ?_⟩)
  · rw [hs, strLen_append]; show 0 + _ ≤ _; omega
  refine joinParts_cons (FormattedValue_plain (wpAny_Name (wpAny_loadName_local hk hl (by rw [hL]; exact hn) hv ?_) hd))
  have fin : ∀ (y : Str) (tk : Nat), y.length ≤ 1000000 → wpAny (model P w) A (joinParts (Str.empty ++ c1 ++ y) [eval (.Constant (.str c2) 0 p4) env]) Q E { s with toks := tk } := fun y tk hy => by
    refine joinParts_cons (Calls.Constant_str ⟨?_, joinParts_nil (h _ _ _) ?_⟩)
    all_goals (rw [hs, strLen_append, strLen_append, strLen_append]; show 0 + _ + _ + _ ≤ _; omega)
  rcases hu with ⟨y, t, rfl, hy⟩ | ⟨i, t, rfl, hi⟩
  · refine formatField_str (fun t' tk => ⟨?_, fin y tk hy⟩) (by omega)
    rw [hs, strLen_append, strLen_append]; show 0 + _ + _ ≤ _; omega
  · have hy : ((toString i : String) : Str).length ≤ 1000000 := by
      have e := int_text_length_le (k := 1920) (by decide) hi
      show (Str.ofString (toString i)).length ≤ _
      rw [PySem.ofString_length]; omega
    refine formatField_int_small hi ⟨?_, fin _ _ hy⟩
    rw [hs, strLen_append, strLen_append]; show 0 + _ + _ ≤ _; omega
/-- the whole run of the __init__ -/
theorem ini_call {C S f x : Addr} {a : Str} {vs : Array Value} {u : Value} {mg mb : Str → Option Value} {R : Result → Shared → Prop} (T : Ini P K C S f a) (X : K.In s.heap) (lim : s.heap.NoLimit) (G : s.heap.Ns mainGlobals mg) (B : s.heap.Ns builtinsNs mb) (gs : mg "super" = none) (bs : mb "super" = some (.type "super"))
    (hx : s.heap.get? x = some (exO C vs none)) (hxK : K.lookup x = none) (h0 : 0 < vs.size) (hroom : A.depth < recursionLimit) (hu : Fmt u)
    (hq : ∀ h' tk dx tp, h'.get? x = some (exO C (vs.setIfInBounds 0 (.ref tp)) (some dx)) → dx ≠ x → s.heap.get? dx = none → h'.Ns1 dx (fun z => if z = a then some u else none) → (∀ b o, b ≠ x → s.heap.get? b = some o → h'.get? b = some o) → R (.ok (.ret .none)) { s with heap := h', toks := tk }) :
    codeAny (model P w) A (.call (.ref f) ⟨[.ref x, u], []⟩) R s := by
  obtain ⟨qual, c1, c2, p1, p2, p3, p4, p5, p6, p7, p8, p9, p10, q0, q1, q2, q3, r1, r2, kV, doc, pm, an, cda, ct, cc, od, sl, hc12, hline, hlk, hbd, hcd, ⟨ccl, cdd, cvs, ccs, file, tf, hcode, hcv, hfile⟩, cl, cld, csl, hcell⟩ := T.lk
  obtain ⟨nm, q, N, bs0, sn, sub, ab, col, dd, k0, k1, k2, k3, k5, hlC⟩ := T.cls
  have hself : (iniScope a).names.lookup ("self" : Str) = some .local := rfl
  refine ks_codeAny_call_defAt (fd := ksFn "__init__" qual (iniArgs a r1 r2) (iniBody a c1 c2 p1 p2 p3 p4 p5 p6 p7 p8 p9 p10 q0 q1 q2 q3) (iniScope a) .none kV doc pm an (.ref cda) ct cc) (binds := [("self", .ref x), (a, u)]) hroom (X _ _ hlk) rfl lim (codeRec_of X hcd) rfl (.of_eq (hbd x u)) (fun y hy => ?_) (fun y hy => ?_) fun h1 ns1 k1 => ?_
  · have : y ∈ [(("self" : Str), NameKind.local), (a, .local), ("__class__", .free), ("super", .globalImplicit)] := hy
    simp only [List.mem_cons, List.not_mem_nil, or_false] at this
    rcases this with rfl | rfl | rfl | rfl <;> exact fun q => nomatch q
  · simp only [List.mem_cons, List.not_mem_nil, or_false] at hy
    rcases hy with rfl | rfl
    · exact hself
    · exact T.lA
  have X1 : K.In h1 := fun b o e => k1 b o (X b o e)
  show _root_.PySem.wpAt (model P w) (A.deeper (ksEnv qual (iniScope a) s.heap.objs.size f (.ref cda) cc)) (.func _ (ksEnv qual (iniScope a) s.heap.objs.size f (.ref cda) cc)) (execs _ (ksEnv qual (iniScope a) s.heap.objs.size f (.ref cda) cc)) _ _ _
  have mS : (fun z : Str => List.lookup z ([(("self" : Str), Value.ref x), (a, u)]).reverse) "self" = some (.ref x) := by
    show (match ("self" : Str) == a with | true => _ | false => _) = _
    rw [show (("self" : Str) == a) = false from by rw [beq_eq_false_iff_ne]; exact T.ns.symm]
    rfl
  have mA : (fun z : Str => List.lookup z ([(("self" : Str), Value.ref x), (a, u)]).reverse) a = some u := by
    show (match a == a with | true => _ | false => _) = _
    rw [beq_self_eq_true]
  generalize hm : (fun z : Str => List.lookup z ([(("self" : Str), Value.ref x), (a, u)]).reverse) = m at ns1 mS mA
  have hlt : ∀ {b : Addr} {o : Obj}, s.heap.get? b = some o → b ≠ s.heap.objs.size := fun e => Nat.ne_of_lt (Heap.lt_size e)
  refine ks_wpAt_mono (Q := fun fl s' => fl = .next ∧ R (.ok (.ret .none)) s') (E := fun _ _ => False) ?_ (fun fl s' z => by obtain ⟨rfl, z⟩ := z; exact z) fun _ _ z => z.elim
  obtain ⟨h, g, d, t, os⟩ := s
  have hpos : ∀ env, methodCallPos true (.Call (.Name "super" p6) [] [] p7) env p8 p9 = pure p9 := fun env => by unfold methodCallPos; simp [hline]
  have he : ∀ env, eval (.Call (.Attribute (.Call (.Name "super" p6) [] [] p7) "__init__" p8) [iniFs a c1 c2 p1 p2 p3 p4 p5] [] p9) env = (do
      let ov ← attributeBase (.Call (.Name "super" p6) [] [] p7) "__init__" env (eval (.Call (.Name "super" p6) [] [] p7) env)
      standAt p8.atName
      let (f, first) ← holding [ov] (getMethod ov "__init__" (do return (← importBound (.Call (.Name "super" p6) [] [] p7) env).getD true))
      callWith p9 f first (backTo p9 (starEach [iniFs a c1 c2 p1 p2 p3 p4 p5] env)) []) := fun env => by
    show (attributeBase _ _ _ _ >>= fun ov => standAt p8.atName >>= fun _ => (holding [ov] (getMethod ov "__init__" (do return (← importBound (.Call (.Name "super" p6) [] [] p7) env).getD true)) >>= fun fx => methodCallPos true (.Call (.Name "super" p6) [] [] p7) env p8 p9 >>= fun cp => callWith cp fx.1 fx.2 (backTo p9 (starEach [iniFs a c1 c2 p1 p2 p3 p4 p5] env)) [])) = _
    simp only [hpos, pure_bind]
  refine ks_wpAt_execs_cons (ks_wpAt_Expr_any (ks_wpAt_MethodCall ?_ (he _)))
  refine ks_wpAt_super_base (env := ksEnv qual (iniScope a) h.objs.size f (.ref cda) cc) T.lS T.lC (by decide) rfl (X1 _ _ hlk) rfl rfl rfl (X1 _ _ hcode) rfl hcv hfile T.top ?_
  refine ks_loadName_global rfl T.lS (Calls.loadGlobal_builtin (env := ksEnv qual (iniScope a) h.objs.size f (.ref cda) cc) (G.keeps k1) gs (B.keeps k1) bs ⟨rfl, ?_⟩)
  refine wpAny_loadName_free rfl T.lC rfl ⟨_, X1 _ _ hcell, rfl⟩ ?_
  refine wpAny_loadName_local rfl hself ns1 mS ?_
  refine ks_wpAny_isType_cls (X1 _ _ hlC) rfl ⟨rfl, ?_⟩
  refine ks_wpAny_call_super (X1 _ _ hlC) rfl (k1 _ _ hx) rfl (fun c e => nomatch e) (looks_mroIn X1 T.mroC) (fun h2 e2 k2 => ?_)
  have X2 : K.In h2 := fun b o e => k2 b o (X1 b o e)
  obtain ⟨cdC, hcls⟩ : ∃ cd, clsIn K C = some cd := ⟨_, by unfold clsIn; rw [hlC]⟩
  have hsup := T.sup
  unfold ks_superIn at hsup
  rw [hcls] at hsup
  have hxC : x ≠ C := fun q => by
    have e := X _ _ hlC
    rw [← q] at e
    have e' := hx.symm.trans e
    cases e'
  have hx2 := k2 _ _ (k1 _ _ hx)
  refine sg_method e2 (looks_opaque X2 T.opq) (fun A Q E s k q => wpAny_bind ((looks_clsIn X2 hcls) A _ E s k (wpAny_pure q))) rfl X2 hsup hx2 rfl T.mroV hxC ?_
  generalize hmwo : ({ cls := .type "method-wrapper", data := .fields #[.builtin "ValueError.__init__", .ref x] } : Obj) = mo
  have e3 : (h2.push mo).get? h2.objs.size = some mo := Heap.get?_push_at rfl (by rw [← hmwo]; rfl)
  have k3 : ∀ b o, h1.get? b = some o → (h2.push mo).get? b = some o := fun b o e => Heap.get?_push_of_some _ (k2 _ _ e)
  refine callWith_of (P := fun hh => hh.get? h2.objs.size = some mo) (by rfl) (mw_keeps (by rw [← hmwo]) (by rw [← hmwo])) (Calls.evalArgs_plain ?_)
  have ns3 : (h2.push mo).Ns h.objs.size m := ns1.keeps k3
  refine Calls.spliced_cons (ini_text (p5 := p5) (env := ksEnv qual (iniScope a) h.objs.size f (.ref cda) cc) (L := h.objs.size) rfl T.lA rfl ns3 mA hu hc12 T.nd fun y t' tk => ?_)
  refine Calls.spliced_nil ⟨e3, ?_⟩
  have hx3 := k3 _ _ (k1 _ _ hx)
  refine wpAny_call (mw_call (by rw [hmwo]; exact e3) hx3 h0 (k3 _ _ (X1 _ _ hlC)) fun h4 tp e4 k4 => ?_)
  show _root_.PySem.wpAt _ _ _ _ _ _ _
  have hxL : x ≠ h.objs.size := hlt hx
  have k5 : ∀ b o, b ≠ x → h1.get? b = some o → h4.get? b = some o := fun b o hb e => k4 b o hb (k3 _ _ e)
  obtain ⟨oL, esL, epL, eL, rL⟩ := ns1
  have ns4 : h4.Ns h.objs.size m := ⟨oL, esL, epL, k5 _ _ hxL.symm eL, rL⟩
  have X4 : K.In h4 := fun b o e => k5 b o (fun q => by rw [q, hxK] at e; cases e) (X1 b o e)
  refine ks_wpAt_execs_cons (ks_wpAt_Assign_Attr (wpAt_of_wpAny (wpAny_Name (wpAny_loadName_local rfl T.lA ns4 mA (wpAny_Name (wpAny_loadName_local rfl hself ns4 mS ?_) (by decide))) T.nd)))
  refine st_attr X4 T.sto e4 rfl rfl (fun c e => nomatch e) fun h6 dx tk6 e6 ne6 n6 s6 k6 => ?_
  show _root_.PySem.wpAt _ _ _ (execs [] _) _ _ _
  have kk : ∀ b o, b ≠ x → h.get? b = some o → h4.get? b = some o := fun b o hb e => k5 b o hb (k1 _ _ e)
  refine wpAt_of_wpAny (wpAny_execs_nil ⟨rfl, hq h6 tk6 dx tp e6 ne6 ?_ s6 fun b o hb e => k6 b o hb (kk b o hb e)⟩)
  cases z : h.get? dx with
  | none => rfl
  | some o => rw [kk dx o ne6 z] at n6; cases n6
end
end L2

/-! raise of an own exception with an __init__. -/
namespace L2
open PySem PySem.Spec PyProof.Rows Xc PySem.W
section
variable {prog : Program} {w : World} {A : Around} {E : Value → Shared → Prop} {h : Heap} {g : Array GenState} {d : Drawn} {t : Nat} {os : OsState} {env : Env} {s : Shared}
variable {nm q : Str} {C N : Addr} {bs bm bmB : List Value} {hdct : Bool} {sn : List Str} {sub : List Value} {ab : Bool} {col : Option Bool} {dd : Option Addr} {k0 k1 k2 k3 k5 : Option Value} {B newId initId : String}
theorem tc_init (F : ExcBaseFacts B newId initId bmB) (T : OwnTail h bmB bm) {mN : Str → Option Value} {rest : List Value} {fI : Addr} {oI : Obj} {Q : Fin → Shared → Prop}
    (hC : h.get? C = some (excClassObj nm q C N bs bm hdct sn sub ab col dd k0 k1 k2 k3 k5 newId)) (hn : h.Ns N mN) (hi : mN "__init__" = some (.ref fI)) (hfI : h.get? fI = some oI) (hfc : oI.cls = .type "function")
    (hq : ∀ h' e, Heap.MadeExcOf h h' e (.ref C) rest → wpAny (model prog w) A (call (.ref fI) (.ref e :: rest)) (fun r s' => r = .none ∧ Q (.done (.ret (.ref e))) s') E ⟨h', g, d, t, os⟩) (hrest : rest.length ≤ sizeLine := by size_fits) :
    wpAny (model prog w) A (Builtin.«type.__call__» ⟨.ref C :: rest, []⟩) Q E ⟨h, g, d, t, os⟩ := by
  repeat (first | with_reducible refine wpAny_loadPart_at hC ?_ | with_reducible refine wpAny_madeBy_exc hC ?_ | wp_step)
  refine codeAny_call_builtin_code (Code.quiet_builtin _ F.quiet) (wpAny_check_new_subT F T hC ?_)
  refine codeAny_exc_new_subT F T hC ?_ hrest
  show wpAny _ _ _ _ _ _
  generalize hh2 : ((h.push { cls := .type "tuple", data := .seq rest.toArray }).push { cls := .ref C, data := .fields #[.ref h.objs.size, .none, .none, .none, .bool false, .none] }) = h2
  have up : ∀ b o, h.get? b = some o → h2.get? b = some o := fun b o e => by rw [← hh2]; exact Heap.get?_push_of_some _ (Heap.get?_push_of_some _ e)
  have hget : h2.get? (h.objs.size + 1) = some { cls := .ref C, data := .fields #[.ref h.objs.size, .none, .none, .none, .bool false, .none] } := by rw [← hh2]; heap_get
  have hget0 : h2.get? h.objs.size = some { cls := .type "tuple", data := .seq rest.toArray } := by rw [← hh2]; exact Heap.get?_push_of_some _ (Heap.get?_push_at rfl rfl)
  have hC1 := up _ _ hC
  have hf1 := up _ _ hfI
  have T1 := T.keeps up
  have hcC : (Value.ref C :: bm).contains (.ref C) = true := by simp
  unfold isInstance
  repeat (first | with_reducible refine wpAny_loadPart_at hget ?_ | (with_reducible refine wpAny_isSubtype_exc hC1 ?_; rw [hcC]) | wp_step)
  show wpAny _ _ (typeLookup (.ref C) _) _ _ _
  refine wpAny_typeLookup_tail hC1 (hn.keeps up) T1 F.mroIs F.init.lookup ?_
  rw [hi]
  refine wpAny_holding (wpAny_bind ?_)
  unfold bindSpecial
  refine wpAny_bind (wpAny_typeOf (T := "function") ⟨_, hf1, hfc⟩ ?_)
  rw [if_pos (by decide)]
  refine wpAny_pure (wpAny_bind (wpAny_mono (hq h2 (h.objs.size + 1) ⟨up, Heap.get?_none_of_le (Nat.le_succ _), h.objs.size, hget, Heap.get?_none_of_le (Nat.le_refl _), hget0⟩) (fun r s' hr => ?_) fun _ _ x => x))
  obtain ⟨rfl, hQ⟩ := hr
  wp_walk
  exact hQ
theorem call_init (F : ExcBaseFacts B newId initId bmB) (T : OwnTail h bmB bm) {mN : Str → Option Value} {rest : List Value} {fI : Addr} {oI : Obj} {Q : Value → Shared → Prop}
    (hC : h.get? C = some (excClassObj nm q C N bs bm hdct sn sub ab col dd k0 k1 k2 k3 k5 newId)) (hn : h.Ns N mN) (hi : mN "__init__" = some (.ref fI)) (hfI : h.get? fI = some oI) (hfc : oI.cls = .type "function")
    (hq : ∀ h' e, Heap.MadeExcOf h h' e (.ref C) rest → wpAny (model prog w) (A.under (.builtin "type.__call__" ⟨.ref C :: rest, []⟩)) (call (.ref fI) (.ref e :: rest)) (fun r s' => r = .none ∧ Q (.ref e) s') E ⟨h', g, d, t, os⟩) (hrest : rest.length ≤ sizeLine := by size_fits) :
    wpAny (model prog w) A (call (.ref C) rest) Q E ⟨h, g, d, t, os⟩ := by
  have f1 := tc_lookup
  have f2 := tc_bind (.ref C)
  have hT : (⟨h, g, d, t, os⟩ : Shared).TypeIs (.ref C) "type" := ⟨_, hC, rfl⟩
  refine wpAny_call (codeAny_of_tree ?_)
  show wpAny _ _ (callAny (.ref C) _) _ _ _
  repeat (any_goals (first | assumption | with_reducible refine wpAny_loadPart_at hC ?_ | wp_step))
  refine ⟨rfl, ?_⟩
  refine codeAny_call_builtin_at (Code.quiet_builtin _ (by decide +kernel)) entry_typeCall (wpAny_check_type_call_sub hC (tc_init (hrest := hrest) F T hC hn hi hfI hfc fun h' e hm => ?_))
  exact hq h' e hm
theorem raise_made {x : Sem Value} {Q : Flow → Shared → Prop} (hbase : bm.contains (.type "BaseException") = true) (hh : A.handled = none)
    (hx : wpAny (model prog w) A x (fun v s₁ => ∃ e vs de, v = .ref e ∧ s₁.heap.get? C = some (excClassObj nm q C N bs bm hdct sn sub ab col dd k0 k1 k2 k3 k5 newId) ∧ s₁.heap.get? e = some (exO C vs de) ∧ vs[1]? = some .none ∧ E (.ref e) s₁) E s) :
    wpAny (model prog w) A (raiseStmt env (some x) none) Q E s := by
  have hcB : (Value.ref C :: bm).contains (.type "BaseException") = true := by rw [List.contains_cons, hbase, Bool.or_true]
  unfold raiseStmt
  refine wpAny_bind (wpAny_mono hx (fun v s₁ h₁ => ?_) fun _ _ x => x)
  obtain ⟨e, vs, de, rfl, hC, he, v1, hE⟩ := h₁
  obtain ⟨hp, g, d, tk, os⟩ := s₁
  repeat (first | with_reducible refine wpAny_loadPart_at he ?_ | with_reducible refine wpAny_loadPart_at hC ?_ | (with_reducible refine wpAny_isSubtype_exc hC ?_; rw [hcB]) | wp_step)
  rw [v1]
  refine wpAny_pure ?_
  rw [if_neg (by decide)]
  exact wpAny_pure (wpAny_raiseNew_none hh hE)
theorem raise_init (F : ExcBaseFacts B newId initId bmB) {x : Str} {np cpos pos : Pos} {args : List Expr} {Q : Flow → Shared → Prop} {fI : Addr}
    (hbase : bm.contains (.type "BaseException") = true) (hh : A.handled = none) (hplain : (backTo cpos (starEach args env)).any (·.1) = false)
    (hx : wpAny (model prog w) A (eval (.Name x np) env) (fun f s₁ => f = .ref C ∧ wpAny (model prog w) A (evalArgs (.ref C) true (backTo cpos (starEach args env)) [])
      (fun a s₂ => a.kw = [] ∧ a.pos.length ≤ sizeLine ∧ s₂.heap.get? C = some (excClassObj nm q C N bs bm hdct sn sub ab col dd k0 k1 k2 k3 k5 newId) ∧ OwnTail s₂.heap bmB bm ∧ (∃ mN, s₂.heap.Ns N mN ∧ mN "__init__" = some (.ref fI)) ∧ (∃ oI, s₂.heap.get? fI = some oI ∧ oI.cls = .type "function") ∧
        ∀ h' e, Heap.MadeExcOf s₂.heap h' e (.ref C) a.pos → wpAny (model prog w) (A.under (.builtin "type.__call__" ⟨.ref C :: a.pos, []⟩)) (call (.ref fI) (.ref e :: a.pos)) (fun r s' => r = .none ∧ ∃ vs de, s'.heap.get? C = some (excClassObj nm q C N bs bm hdct sn sub ab col dd k0 k1 k2 k3 k5 newId) ∧ s'.heap.get? e = some (exO C vs de) ∧ vs[1]? = some .none ∧ E (.ref e) s') E { s₂ with heap := h' }) E s₁) E s) :
    wpAny (model prog w) A (exec (.Raise (some (.Call (.Name x np) args [] cpos)) none pos) env) Q E s := by
  rw [arm_exec_Raise]
  first
    | refine wpAny_bind (wpAny_standAt (raise_made (C := C) (nm := nm) (q := q) (N := N) (bs := bs) (bm := bm) (hdct := hdct) (sn := sn) (sub := sub) (ab := ab) (col := col) (dd := dd) (k0 := k0) (k1 := k1) (k2 := k2) (k3 := k3) (k5 := k5) (newId := newId) hbase hh (wpAny_bind (wpAny_mono (wpAny_Call_ofName (wpAny_mono hx (fun f s₁ h₁ => ?_) fun _ _ x => x)) (fun v s₃ h₃ => wpAny_bind (wpAny_standAt (wpAny_pure h₃))) fun _ _ x => x))))
    | (simp only [evalOpt, Option.map]; refine wpAny_bind (wpAny_standAt (raise_made (C := C) (nm := nm) (q := q) (N := N) (bs := bs) (bm := bm) (hdct := hdct) (sn := sn) (sub := sub) (ab := ab) (col := col) (dd := dd) (k0 := k0) (k1 := k1) (k2 := k2) (k3 := k3) (k5 := k5) (newId := newId) hbase hh (wpAny_bind (wpAny_mono (wpAny_Call_ofName (wpAny_mono hx (fun f s₁ h₁ => ?_) fun _ _ x => x)) (fun v s₃ h₃ => wpAny_bind (wpAny_standAt (wpAny_pure h₃))) fun _ _ x => x)))))
  obtain ⟨rfl, h₁⟩ := h₁
  unfold callWith
  refine wpAny_bind (wpAny_holding (wpAny_mono h₁ (fun a s₂ h₂ => wpAny_bind (wpAny_standAt ?_)) fun _ _ x => x))
  obtain ⟨apos, akw⟩ := a
  obtain ⟨hkw, hlen, hC, T, ⟨mN, hn, hi⟩, ⟨oI, hfI, hfc⟩, h₂⟩ := h₂
  obtain rfl : akw = [] := hkw
  obtain ⟨hp, g, d, tk, os⟩ := s₂
  simp only [hplain]
  refine wpAny_bind (wpAny_keeperOf_exc hC ?_)
  refine wpAny_bind (call_init (hrest := hlen) F T hC hn hi hfI hfc fun h' e hm => wpAny_mono (h₂ h' e hm) (fun r s' hr => ⟨hr.1, ?_⟩) fun _ _ x => x)
  obtain ⟨_, vs, de, hC', he', v1, hE⟩ := hr
  exact wpAny_bind (wpAny_holding (wpAny_point (wpAny_pure ⟨e, vs, de, rfl, hC', he', v1, hE⟩)))
end
end L2

/-! the rule for raise of an own exception with an __init__. -/
namespace L2
open PySem PySem.Spec PyProof.Rows Xc
section
variable {P : Program} {w : World} {K : PySem.W.Frag} {mg : Str → Option Value} {base : Heap} {N : List Str} {qual : Str} {scope : Scope} {f : Addr} {cd : Value} {A : Around} {outer : List Env} {s0 : Shared} {H0 : Hp} {E0 : XK}
/-- a new exception leaves the def -/
theorem out1 {pins : List (Addr × Obj)} {σ : St} {H2 Hn : Hp} {s2 : Shared} {h' : Heap} {tk : Nat} {e C : Addr} {vs : Array Value} {dd : Option Addr} (I2 : Inv (cxOf (CX1 P w) P w K mg base N qual scope f cd A outer s0 H0 E0) pins σ H2 s2) (kp : ∀ b o, s2.heap.get? b = some o → h'.get? b = some o) (nx : s2.heap.get? e = none)
    (ex : h'.get? e = some (exO C vs dd)) (v1 : vs[1]? = some .none) (ho : ∀ b o, s2.heap.get? b = some o → Hn b = H2 b) (k1 : HOk P w Hn h') (he : Hn e = some (.ext (IsEx e C dd))) (hE : E0 (.ref C) (some e) Hn) :
    (cxOf (CX1 P w) P w K mg base N qual scope f cd A outer s0 H0 E0).xe (.ref e) { s2 with heap := h', toks := tk } := by
  show wpAny (model P w) (A.deeper (envOfC qual scope s0.heap.objs.size f cd)) (leaving (envOfC qual scope s0.heap.objs.size f cd) (.ref e)) _ _ _
  have fr : s2.heap.FunFrames base (envOfC qual scope s0.heap.objs.size f cd :: outer) := I2.stack
  have fr' : h'.FunFrames base (envOfC qual scope s0.heap.objs.size f cd :: outer) := fr.of_keeps fun b o hb _ => ⟨o, kp b o hb, rfl⟩
  have ff : ∀ b ∈ frs (envOfC qual scope s0.heap.objs.size f cd :: outer), H2 b = none := I2.stkFree
  have ffn : ∀ b ∈ frs (envOfC qual scope s0.heap.objs.size f cd :: outer), Hn b = none := fun b hb => by
    obtain ⟨_, o, hbo, _⟩ := fr.mem hb
    rw [ho b o hbo]
    exact ff b hb
  refine leave_first (s := { s2 with heap := h', toks := tk }) I2.ok.frames fr' rfl ex v1 fun h3 T W nT e3 t3 neT => ?_
  have back : ∀ b, s2.heap.get? b = none → s0.heap.get? b = none := fun b hb => by
    cases z : s0.heap.get? b with
    | none => rfl
    | some o =>
      obtain ⟨o', e'⟩ := I2.base.there b o z (by simp [cxOf])
      rw [hb] at e'
      cases e'
  have nT2 : s2.heap.get? T = none := by
    cases z : s2.heap.get? T with
    | none => rfl
    | some o => have := kp _ _ z; rw [show h'.get? T = none from nT] at this; cases this
  have u2 : Un (frs outer) [] H0 H2 s0.heap h' := Un.trans (show Un (frs outer) [] H0 H2 s0.heap s2.heap from I2.base) (Un.kept kp)
  have trk : ∀ b o, H2 b = some o → Hn b = some o := fun b o q => by
    obtain ⟨u, hu⟩ : ∃ u, s2.heap.get? b = some u := by
      cases z : s2.heap.get? b with
      | some u => exact ⟨u, rfl⟩
      | none => rw [hok_none I2.hok z] at q; cases q
    rw [ho b u hu]; exact q
  have u3 : Un (frs outer) [] H0 Hn s0.heap h' := ⟨u2.keep, u2.slot, fun b o q n hb => by
      obtain ⟨u, hu⟩ : ∃ u, s2.heap.get? b = some u := by
        obtain ⟨o', e'⟩ := I2.base.there b o q (by simp [cxOf])
        exact ⟨o', e'⟩
      rw [ho b u hu]
      exact u2.free b o q n hb, u2.there, fun b xs q => trk _ _ (u2.tups b xs q), fun b o u q => trk _ _ (u2.frzs b o u q), fun b ps q => by
    obtain ⟨m, em⟩ := u2.tbls b ps q
    exact ⟨m, trk _ _ em⟩⟩
  have k3 : HOk P w Hn h3 := hok_way k1 W ffn (fun b hb => by cases hb) he ⟨_, e3⟩
  have W' : Way (frs outer) e [s0.heap.objs.size] h' h3 := by
    refine ⟨fun b o b1 b2 b3 eb => W.keep b o b1 (fun m => ?_) (by simp) eb, fun b o b1 b2 b3 eb => W.slot b o ?_ b2 (by simp) eb⟩
    · have : b ∈ s0.heap.objs.size :: frs outer := m
      rcases List.mem_cons.mp this with z | z
      · exact b3 (by simp [z])
      · exact b2 z
    · exact List.mem_cons_of_mem _ b1
  have u4 : Un (frs outer) [] H0 Hn s0.heap h3 := un_way u3 W' (back e nx) fun b hb => by
    rw [List.mem_singleton.mp hb]
    exact Heap.get?_none_of_le (Nat.le_refl _)
  have e1s : 1 < vs.size := (Array.getElem?_eq_some_iff.mp v1).1
  refine ⟨e, C, T, dd, _, Hn, rfl, I2.os, I2.bare, u4, k3, back e nx, he, e3, by simp [e1s], t3, neT, back T nT2, ?_, hE⟩
  cases z : Hn T with
  | none => rfl
  | some o =>
    have := hok_none k1 nT
    rw [z] at this
    cases this
theorem nsv_of {K : PySem.W.Frag} {h : Heap} {NN : Addr} {m : Str → Option Value} {n : Str} {v : Value} (X : K.In h) (G : h.Ns NN m) (e : PySem.W.nsIn K NN n = some (some v)) : m n = some v := by
  obtain ⟨o, es, ep, ho, hd, _, hf⟩ := G
  unfold PySem.W.nsIn at e
  split at e
  · rename_i c d es' n' sl q
    have e2 := (X _ _ q).symm.trans ho
    cases e2
    cases hd
    split at e
    · rename_i en hen
      cases e
      rw [← hf]
      unfold nsFind findBy
      rw [← Array.find?_toList, hen]
      rfl
    · split at e <;> cases e
  · cases e
/-- how an own class of exceptions with an __init__ lies in the fragment -/
structure RaiseI (P : Program) (K : PySem.W.Frag) (C S : Addr) (a : Str) : Prop where
  ini : ∃ fI, Ini P K C S fI a ∧ ∃ nm q NN bs sn sub ab col dd k0 k1 k2 k3 k5, K.lookup C = some (excClassObj nm q C NN bs (.ref S :: bmV) true sn sub ab col dd k0 k1 k2 k3 k5 "ValueError.__new__") ∧
    PySem.W.tailIn K bmV (.ref S :: bmV) = true ∧ PySem.W.nsOkIn K NN = true ∧ PySem.W.nsIn K NN "__init__" = some (some (.ref fI))
/-- a value that an own exception keeps -/
def Kept : V → Prop
  | .str y => y.length ≤ 1000000
  | .int i => i.natAbs.log2 < 1920
  | _ => False
theorem kept_fmt {v : V} {u : Value} (h : Kept v) (r : RelV v u) : Fmt u := by
  cases v with
  | str y => obtain ⟨t, rfl⟩ := r; exact .inl ⟨y, t, rfl, h⟩
  | int i => obtain ⟨t, rfl⟩ := r; exact .inr ⟨i, t, rfl, h⟩
  | _ => exact h.elim
def tRaiseI (C : Addr) (a : Str) (E : XK) (t : TA) : TS := fun D σ H => t σ H fun vs H1 => ∃ v, vs = [v] ∧ Kept v ∧ ∀ y dx, H1 y = none → H1 dx = none → dx ≠ y → E (.ref C) (some y) (upd (upd H1 dx (.xd [(a, v)])) y (.ext (IsEx y C (some dx))))
theorem braiseI {k : Nat} {C S : Addr} {x a : Str} {np cpos pos : Pos} {e₀ : Expr} {t : TA} (hC : RaiseI P K C S a) (hr : Room (k + 1) (A.deeper (envOfC qual scope s0.heap.objs.size f cd))) (hgs : mg "super" = none) (hg : Gl (cxOf (CX1 P w) P w K mg base N qual scope f cd A outer s0 H0 E0) x) (hm : mg x = some (.ref C)) (ha : SA (cxOf (CX1 P w) P w K mg base N qual scope f cd A outer s0 H0 E0) [e₀] t)
    (he : starEach [e₀] (cxOf (CX1 P w) P w K mg base N qual scope f cd A outer s0 H0 E0).env = [(false, eval e₀ (cxOf (CX1 P w) P w K mg base N qual scope f cd A outer s0 H0 E0).env)]) (hdb : (x == ("__debug__" : Str)) = false) :
    SS1 (cxOf (CX1 P w) P w K mg base N qual scope f cd A outer s0 H0 E0) (.Raise (some (.Call (.Name x np) [e₀] [] cpos)) none pos) (tRaiseI C a E0 t) := by
  refine ⟨fun pins s σ H D I h => ?_⟩
  obtain ⟨fI, T, nm, q, NN, bs, sn, sub, ab, col, dd, k0, k1, k2, k3, k5, hl, ht, hok, hin⟩ := hC.ini
  obtain ⟨mb, hmb, hmb2⟩ := I.mod.blt
  refine raise_init (C := C) (nm := nm) (q := q) (N := NN) (bs := bs) (bm := .ref S :: bmV) (hdct := true) (sn := sn) (sub := sub) (ab := ab) (col := col) (dd := dd) (k0 := k0) (k1 := k1) (k2 := k2) (k3 := k3) (k5 := k5) (fI := fI)
    PySem.F.excBase_ValueError (by simp) (I.ok.hd rfl) (by rw [he]; rfl) (ld_glob I hg hm ⟨rfl, ?_⟩ hdb)
  rw [he]
  refine Calls.evalArgs_plain (wpAny_mono (by have := ha.o cpos pins s σ H _ I h; rw [he] at this; exact this) (fun us s2 z => ?_) fun _ _ y => y)
  obtain ⟨vs, H2, I2, r2, v, rfl, hkv, q2⟩ := z
  have ns0 : base.Ns NN (base.nsMap NN) := .of_isNs (PySem.W.isNs_of_in I.mod.kin hok)
  cases r2 with
  | cons rv r2 =>
    cases r2
    rename_i u
    obtain ⟨qual', c1, c2, p1, p2, p3, p4, p5, p6, p7, p8, p9, p10, q0, q1, q2', q3, r1', r2', kV, doc, pm, an, cda, ct, cc, od, sl, hc12, hline, hlk, hrest⟩ := T.lk
    refine ⟨rfl, by show 1 ≤ sizeLine; decide, I2.kIn _ _ hl, PySem.W.tail_of_in I2.kIn ht, ⟨base.nsMap NN, ns0.keeps I2.bk, ?_⟩, ⟨_, I2.kIn _ _ hlk, rfl⟩, fun h' e hx => ?_⟩
    · exact nsv_of I.mod.kin ns0 hin
    · have nx : s2.heap.get? e = none := hx.new
      have ny : H2 e = none := hok_none I2.hok nx
      obtain ⟨tp, ex, ntp, _⟩ := hx.there
      have up : ∀ b o, base.get? b = some o → h'.get? b = some o := fun b o eb => hx.keeps _ _ (I2.bk b o eb)
      have hxK : K.lookup e = none := by
        cases z : K.lookup e with
        | none => rfl
        | some o => have := I2.kIn _ _ z; rw [nx] at this; cases this
      refine wpAny_call (ini_call (s := { s2 with heap := h' }) (mg := mg) (mb := mb) T (fun b o eb => hx.keeps _ _ (I2.kIn b o eb)) (I2.mod.nolimit.keeps up) (I2.mod.glob.keeps up) (hmb.keeps up) hgs ((hmb2 "super" (by decide)).trans ?_) ex hxK (by simp) ?_ (kept_fmt hkv rv) fun h4 tk dx tp' e4 ne4 n4 s4 k4 => ⟨rfl, _, some dx, ?_, e4, rfl, ?_⟩)
      · first | boot_by_name | rfl | kernel_rfl
      · exact (hr.make C [u] []).depth
      · exact k4 C _ (fun q => by have := I2.kIn _ _ hl; rw [q, nx] at this; cases this) (hx.keeps _ _ (I2.kIn _ _ hl))
      · have kp4 : ∀ b o, s2.heap.get? b = some o → h4.get? b = some o := fun b o eb => k4 b o (fun z => by rw [z, nx] at eb; cases eb) (hx.keeps _ _ eb)
        have nd2 : s2.heap.get? dx = none := by
          cases z : s2.heap.get? dx with
          | none => rfl
          | some o => have := hx.keeps _ _ z; rw [show h'.get? dx = none from n4] at this; cases this
        have nd : H2 dx = none := hok_none I2.hok nd2
        refine out1 (s2 := s2) (tk := tk) (Hn := upd (upd H2 dx (.xd [(a, v)])) e (.ext (IsEx e C (some dx)))) I2 kp4 nx e4 rfl (fun b o eb => ?_) (fun b o eb => ?_) upd_same (q2 e dx ny nd ne4)
        · rw [upd_ne (fun z => by rw [z, nx] at eb; cases eb), upd_ne (fun z => by rw [z, nd2] at eb; cases eb)]
        · by_cases z : b = e
          · subst z
            rw [upd_same] at eb
            cases eb
            exact ex_ok ⟨_, e4⟩
          · rw [upd_ne z] at eb
            by_cases z2 : b = dx
            · subst z2
              rw [upd_same] at eb
              cases eb
              refine ⟨_, s4, fun fl => ?_⟩
              by_cases z3 : fl = a
              · subst z3
                simp only [if_true, List.lookup_cons, beq_self_eq_true]
                exact rv
              · have : (fl == a) = false := by rw [beq_eq_false_iff_ne]; exact z3
                simp only [if_neg z3, List.lookup_cons, this, List.lookup_nil]
                trivial
            · rw [upd_ne z2] at eb
              refine (show ObjOk P w H2 s2.heap b o from I2.hok b o eb).stay (fun c u _ ec => kp4 c u ec) (fun c qc => ?_) fun c xs qc => ?_
              all_goals (rw [upd_ne (fun zz => by rw [zz, ny] at qc; cases qc), upd_ne (fun zz => by rw [zz, nd] at qc; cases qc)]; exact qc)
end
end L2

/-! isinstance of an own exception that keeps something; what it keeps. -/
namespace L2
open PySem PySem.Spec PyProof.Rows Xc PySem.W
open PySem.Builtin PySem.Builtin.ObjectAttr
/-- an exception with its dict -/
def IsEd (y C dx : Addr) : Heap → Prop := fun h => (∃ vs, h.get? y = some (exO C vs (some dx))) ∧ ∃ o, h.get? dx = some o
section
variable {prog : Program} {w : World} {A : Around} {E : Value → Shared → Prop} {K : Frag} {h : Heap} {g : Array GenState} {d : Drawn} {t : Nat} {os : OsState} {y C dx : Addr} {vs : Array Value} {od : Obj}
theorem ed_inst (he : h.get? y = some (exO C vs (some dx))) (hd : h.get? dx = some od) : InstAt h y (exO C vs (some dx)) C (some od) := ⟨he, rfl, rfl, hd⟩
theorem ed_class_entry {tk : Tok} {Q : Fin → Shared → Prop} (X : K.In h) (a : ExA K C) (he : h.get? y = some (exO C vs (some dx))) (hd : h.get? dx = some od) (hq : Q (.done (.ret (.ref C))) ⟨h, g, d, t, os⟩) :
    wpAny (model prog w) A (Builtin.«object.__getattribute__» ⟨[.ref y, .str "__class__" tk], []⟩) Q E ⟨h, g, d, t, os⟩ := by
  have hT5 : (⟨h, g, d, t, os⟩ : Shared).TypeIs (.builtin "object.__class__") "getset_descriptor" := F.typeOf_object_class
  have f5 := F.typeOf_object_class
  have f6 := F.slot_gs_get.lookup
  have f7 := F.slot_gs_set.lookup
  have L1 := looks_findIn (M := model prog w) X a.ca
  repeat (any_goals (first | assumption | (with_reducible refine wpAny_loadPart_at he ?_) | (with_reducible refine L1.at ?_) | wp_step))
  refine class_get (s := ⟨h, g, d, t, os⟩) X (ed_inst he hd) a.ob ?_
  repeat (any_goals (first | assumption | wp_step))
theorem ed_check {nameV : Value} {Q : Unit → Shared → Prop} {dd : Option Addr} (X : K.In h) (a : ExA K C) (he : h.get? y = some (exO C vs dd)) (hq : Q () ⟨h, g, d, t, os⟩) : wpAny (model prog w) A (checkBuiltinCall "BaseException.__getattribute__" ⟨[.ref y, nameV], []⟩) Q E ⟨h, g, d, t, os⟩ := by
  have hk : builtinKind "BaseException.__getattribute__" = some .slot := by decide +kernel
  have hsplit : splitId "BaseException.__getattribute__" = some ("BaseException", "__getattribute__") := by decide +kernel
  have ha := F.args_bexc_ga (.ref y) nameV
  have L1 := looks_mroIn (M := model prog w) X a.be
  simp only [checkBuiltinCall, hk, hsplit]
  refine wpAny_bind ?_
  · unfold isInstance
    repeat (first | (with_reducible refine wpAny_loadPart_at he ?_) | (with_reducible refine L1.at ?_) | wp_step)
    exact hq
/-- any attribute, by what object.__getattribute__ tells -/
theorem ed_by {name : Str} {tk : Tok} {fill expr : Bool} {Q : Value → Shared → Prop} {dd : Option Addr} {v : Value} (X : K.In h) (a : ExA K C) (he : h.get? y = some (exO C vs dd))
    (hen : ∀ {R : Fin → Shared → Prop} {E' : Value → Shared → Prop} {A' : Around}, R (.done (.ret v)) ⟨h, g, d, t, os⟩ → wpAny (model prog w) A' (Builtin.«object.__getattribute__» ⟨[.ref y, .str name tk], []⟩) R E' ⟨h, g, d, t, os⟩) (hv : ∀ id, v ≠ .builtin id) (hq : Q v ⟨h, g, d, t, os⟩) :
    wpAny (model prog w) A (getAttrBy (.ref y) (.str name tk) fill expr) Q E ⟨h, g, d, t, os⟩ := by
  have f3 := F.excAttr_ValueError.ga.bind (.ref y)
  have hx0 : (expr && onTheHeap (Value.builtin "BaseException.__getattribute__")) = false := by cases expr <;> rfl
  have hx2 : (Value.builtin "BaseException.__getattribute__" == Value.builtin "object.__getattribute__") = false := by decide +kernel
  have hx1 : (onTheHeap (Value.ref C) && Value.builtin "BaseException.__getattribute__" == Value.builtin "object.__getattribute__") = false := by rw [hx2]; rfl
  have L1 := looks_findIn (M := model prog w) X a.ga
  have L2 := looks_findIn (M := model prog w) X a.na
  repeat (any_goals (first | assumption | (with_reducible refine wpAny_loadPart_at he ?_) | (with_reducible refine L1.at ?_) | (with_reducible refine L2.at ?_) | wp_step))
  refine codeAny_call_builtin F.excAttr_ValueError.ga.plain F.entry_bexc_ga (ed_check X a he (hen ?_))
  repeat (any_goals (first | assumption | wp_step))
  cases v <;> first | exact wpAny_pure hq | exact absurd rfl (hv _)
theorem ed_class_attr {Q : Option Value → Shared → Prop} (X : K.In h) (a : ExA K C) (he : h.get? y = some (exO C vs (some dx))) (hd : h.get? dx = some od) (hq : Q (some (.ref C)) ⟨h, g, d, t + 1, os⟩) : wpAny (model prog w) A (getAttr? (.ref y) "__class__") Q E ⟨h, g, d, t, os⟩ := by
  unfold getAttr? getAttrBy?
  repeat (any_goals (first | assumption | with_reducible apply ed_by X a he (fun z => ed_class_entry X a he hd z) (fun _ q => nomatch q) | wp_step))
/-- in its own dict -/
theorem ed_own {M : Model} {name : Str} {m : Str → Option Value} {u : Value} {cdC : ClassData} (X : K.In h) (hc : clsIn K C = some cdC) (hh : cdC.hasDict = true) (he : h.get? y = some (exO C vs (some dx))) (hn : h.Ns dx m) (hu : m name = some u) : Looks M h (inOwnDict name (.ref y)) (some u) := by
  have L := looks_clsIn (M := M) X hc
  intro A Q E s k q
  refine wpAny_bind (wpAny_bind (wpAny_loadPart (k _ _ he) ?_))
  show wpAny M A (instanceDict y false) _ _ _
  unfold instanceDict
  refine wpAny_bind (wpAny_loadPart (k _ _ he) ?_)
  dsimp only
  refine wpAny_bind (L A _ E s k ?_)
  rw [hh, if_neg (by simp)]
  refine wpAny_pure (a := some dx) ?_
  refine wpAny_nsGet (hn.keeps k) ?_
  rw [hu]
  exact q
theorem ed_word_entry {name : Str} {tk : Tok} {Q : Fin → Shared → Prop} {m : Str → Option Value} {u : Value} {cdC : ClassData} (X : K.In h) (hc : clsIn K C = some cdC) (hh : cdC.hasDict = true) (no : findIn K (.ref C) name = some none) (he : h.get? y = some (exO C vs (some dx))) (hn : h.Ns dx m) (hu : m name = some u)
    (hq : Q (.done (.ret u)) ⟨h, g, d, t, os⟩) : wpAny (model prog w) A (Builtin.«object.__getattribute__» ⟨[.ref y, .str name tk], []⟩) Q E ⟨h, g, d, t, os⟩ := by
  have L1 := looks_findIn (M := model prog w) X no
  have L3 := ed_own (M := model prog w) X hc hh he hn hu
  repeat (any_goals (first | assumption | (with_reducible refine wpAny_loadPart_at he ?_) | (with_reducible refine L1.at ?_) | (with_reducible refine L3.at ?_) | wp_step))
  all_goals trace_state
theorem ed_word {name : Str} {Q : Value → Shared → Prop} {m : Str → Option Value} {u : Value} {cdC : ClassData} {expr : Bool} (X : K.In h) (a : ExA K C) (hc : clsIn K C = some cdC) (hh : cdC.hasDict = true) (no : findIn K (.ref C) name = some none) (he : h.get? y = some (exO C vs (some dx))) (hn : h.Ns dx m) (hu : m name = some u)
    (hv : ∀ id, u ≠ .builtin id) (hq : Q u ⟨h, g, d, t + 1, os⟩) : wpAny (model prog w) A (getAttr (.ref y) name expr) Q E ⟨h, g, d, t, os⟩ := by
  unfold getAttr
  refine wpAny_bind (wpAny_mkText ?_)
  exact ed_by X a he (fun z => ed_word_entry X hc hh no he hn hu z) hv hq
end
theorem kitx_ed {K : Frag} {y C dx : Addr} {bm : List Value} (hC : ExC K C bm) (a : ExA K C) : KitX K (.ref y) (.ref C) (IsEd y C dx) where
  ty := fun M h _ ⟨⟨vs, he⟩, od, hd⟩ => (ed_inst he hd).type
  it := fun M h X _ => by
    obtain ⟨nm, q, N, bs, hdct, sn, sub, ab, col, dd, k0, k1, k2, k3, k5, newId, ho⟩ := hC
    intro A' Q' E' s' k q
    unfold isType loadHead
    exact wpAny_bind (wpAny_loadPart (k _ _ (X _ _ ho)) (wpAny_pure q))
  ne := fun h tp dd its n sl X htp => by
    obtain ⟨nm, q, N, bs, hdct, sn, sub, ab, col, dd, k0, k1, k2, k3, k5, newId, ho⟩ := hC
    refine Bool.eq_false_iff.mpr fun q => ?_
    have e : C = tp := Value.ref.inj (beq_iff_eq.mp q)
    subst e
    have z : Value.type "type" = Value.type "tuple" := congrArg Obj.cls (Option.some.inj ((X _ _ ho).symm.trans htp))
    injection z with z
    exact absurd z (by decide)
  ca := fun {prog w A E Q s} X ⟨⟨vs, he⟩, od, hd⟩ k => by
    obtain ⟨h, g, d, t, os⟩ := s
    exact ed_class_attr X a he hd k
/-- isinstance(e, c), e an own exception that keeps something -/
def rIsXd (K : Frag) : List V → Hp → VK → Prop := fun vs H Q => ∃ (y C dx : Addr) (fs : List (Str × V)) (bm : List Value) (c : V) (u : Value) (b : Bool), vs = [.ref y, c] ∧ H y = some (.ext (IsEx y C (some dx))) ∧ H dx = some (.xd fs) ∧ ExC K C bm ∧ ExA K C ∧ (∀ u', RelV c u' → u' = u) ∧ kitOne K (.ref C) u = some b ∧ Q (.bl b) H
theorem xd_there {P : Program} {w : World} {H : Hp} {h : Heap} {dx : Addr} {fs : List (Str × V)} (k : HOk P w H h) (e : H dx = some (.xd fs)) : ∃ mA, h.Ns1 dx mA ∧ (∀ f, RelO (fs.lookup f) (mA f)) ∧ ∃ o, h.get? dx = some o := by
  obtain ⟨mA, hn, hr⟩ := k dx _ e
  obtain ⟨o, _, _, eo, _⟩ := id hn
  exact ⟨mA, hn, hr, o, eo⟩
theorem cr_isXd {X : Cx} : CallR X (.builtin "isinstance") (rIsXd X.K) := by
  intro pins s σ H vs us Q I r h
  obtain ⟨y, C, dx, fs, bm, c, u, b, rfl, hy, hdx, hC, a, hu, hb, q⟩ := h
  obtain ⟨mA, _, _, od⟩ := xd_there I.hok hdx
  cases r with
  | cons r1 rr =>
    cases rr with
    | cons r2 rr =>
      cases rr
      cases r1
      rw [hu _ r2]
      exact kia_one (H := IsEd y C dx) (kitx_ed hC a) I.kIn ⟨(I.hok y _ hy).1, od⟩ hb (fun z => nomatch z) fun tk => ⟨.bl b, H, I.kept (fun _ _ e => e), rfl, q⟩
/-- isinstance(e, c), e an own exception of either make -/
def rIsXx (K : Frag) : List V → Hp → VK → Prop := fun vs H Q => rIsX K vs H Q ∨ rIsXd K vs H Q
/-- how what is kept is looked up -/
structure ExW (K : Frag) (C : Addr) (name : Str) : Prop where
  cd : ∃ cd, clsIn K C = some cd ∧ cd.hasDict = true
  no : findIn K (.ref C) name = some none
/-- e.name, e an own exception -/
def tXw (K : Frag) (ta : TE) (name : Str) : TE := fun σ H Q => ta σ H fun x H1 => ∃ y C dx fs v, x = .ref y ∧ H1 y = some (.ext (IsEx y C (some dx))) ∧ H1 dx = some (.xd fs) ∧ ExA K C ∧ ExW K C name ∧ fs.lookup name = some v ∧ Kept v ∧ Q v H1
theorem exw {X : Cx} {e : Expr} {name : Str} {pos : Pos} {ta : TE} (he : SE X e ta) (hb : attributeBase e name X.env (eval e X.env) = eval e X.env) : SE X (.Attribute e name pos) (tXw X.K ta name) := by
  refine ⟨fun pins s σ H Q I h => ?_⟩
  refine attr_of hb (thn (he.o pins s σ H _ I h) fun u s1 ⟨x, H1, I1, rx, y, C, dx, fs, v, ex, hy, hdx, a, ⟨⟨cd, hcd, hh⟩, no⟩, hl, hk, q⟩ => ?_)
  subst ex
  obtain rfl : u = Value.ref y := rx
  obtain ⟨mA, hn, hr, _⟩ := xd_there I1.hok hdx
  obtain ⟨⟨vs, hey⟩, _⟩ := I1.hok y _ hy
  have hr' := hr name
  rw [hl] at hr'
  obtain ⟨uv, huv, ruv⟩ : ∃ uv, mA name = some uv ∧ RelV v uv := by
    cases z : mA name with
    | none => rw [z] at hr'; exact hr'.elim
    | some uv => rw [z] at hr'; exact ⟨uv, rfl, hr'⟩
  have hv : ∀ id, uv ≠ .builtin id := fun id q => by
    rcases kept_fmt hk ruv with ⟨_, _, rfl, _⟩ | ⟨_, _, rfl, _⟩ <;> cases q
  obtain ⟨hh1, g1, d1, t1, os1⟩ := s1
  refine ed_word I1.kIn a hcd hh no hey hn.ns huv hv ⟨v, H1, ?_, ruv, q⟩
  exact I1.kept fun _ _ e => e
end L2

/-! list.insert; a call by a local name within try. -/
namespace L2
open PySem PySem.Spec PyProof.Rows Xc
section
variable {X : Cx}
def rInsert : V → List V → Hp → VK → Prop := fun x vs H Q => ∃ l xs k y, x = .ref l ∧ vs = [.int (k : Nat), y] ∧ H l = some (.lst xs) ∧ k ≤ xs.length ∧ xs.length < 1000000 ∧ Q .non (upd H l (.lst (xs.take k ++ y :: xs.drop k)))
theorem mt_insert : MtM X "list.insert" rInsert := by
  intro pins s σ H x vs v us Q I rx rv h
  obtain ⟨l, xs, k, y, rfl, rfl, hH, hk, hz, q⟩ := h
  cases rx
  cases rv with
  | cons r1 rr =>
    obtain ⟨u, rfl, ru⟩ := Vals.one rr
    obtain ⟨t, rfl⟩ := r1
    obtain ⟨z, its, n, r, hl, e⟩ := I.lstM hH
    have hl1 : -(2 ^ 63) ≤ ((k : Nat) : Int) := by omega
    have hl2 : ((k : Nat) : Int) < 2 ^ 63 := by omega
    have hs : sizeLine = 16777216 := sizeLine_eq
    have hf : Builtin.List.listFitsIndex ((k : Nat) : Int) = true := fitsIndex_both hl1 hl2
    obtain ⟨xi, exi⟩ : ∃ xi : Int, xi = ((k : Nat) : Int) := ⟨_, rfl⟩
    obtain ⟨ai, eai⟩ : ∃ ai : Array Value, ai = its.toArray := ⟨_, rfl⟩
    rw [← exi] at hf ⊢
    rw [← eai] at e
    have hsz : ai.size ≤ sizeLine := by rw [eai, List.size_toArray]; omega
    refine call_meets F.slot_list_insert ⟨_, e, rfl⟩ F.entry_list_insert (F.args_list_insert_3 _ _ _) (AutoSeq1.list_insert_list_int_val_1 l ai n xi t u (by rw [hf]; decide) hsz) ⟨e, ?_⟩
    rw [eai] at e
    refine ⟨.non, _, I.lset (its' := its.take k ++ u :: its.drop k) hH e ?_ ((r.take k).append (.cons ru (r.drop k))) ?_, rfl, q⟩
    · have hk' : k ≤ its.length := by omega
      show (its.toArray.extract 0 (if xi < 0 then (xi + (its.toArray.size : Int)).toNat else min xi.toNat its.toArray.size)).push u ++ its.toArray.extract (if xi < 0 then (xi + (its.toArray.size : Int)).toNat else min xi.toNat its.toArray.size) = _
      rw [if_neg (by omega), exi, Int.toNat_natCast, List.size_toArray, Nat.min_eq_left hk']
      apply Array.toList_inj.mp
      simp
      exact List.take_of_length_le (by rw [List.length_drop]; omega)
    · simp only [List.length_append, List.length_cons, List.length_take, List.length_drop]
      omega
end
section
variable {X : Cx} {pins : List (Addr × Obj)} {σ : St} {H : Hp} {s : Shared}
def tTryL (X : Cx) (k : Nat) (te : TE) (ta : TA) (n ie : Nat) (S : Addr) (ts : TS) : TS := fun D σ H => te σ H fun x H0 => ∃ f fd ps sp, x = V.ref f ∧ FnOk X.prog X.w X.K X.mg X.base (CX1 X.prog X.w) k f fd ps sp ∧ PySem.W.keepIn X.K (.ref f) = true ∧ Binds X.K fd ps [] ∧
  ta σ H0 fun vs H1 => sp vs H1 (fun v H2 => D.nx (σ.set n (some v)) H2)
  (fun cls dx H2 => ∃ C y bm, cls = .ref C ∧ dx = some y ∧ ExC X.K C bm ∧ bm.contains (.ref S) = true ∧ ts { nx := fun σ' H3 => D.nx (σ'.set ie none) H3, rt := fun _ _ => False } (σ.set ie (some (.ref y))) H2)
end
end L2

/-! sorted of texts at any length; rows of texts in a list of such; == [] and != []. -/
namespace L2
open PySem PySem.Spec PyProof.Rows Xc
def rSortedSA (K : PySem.W.Frag) : List V → Hp → VK → Prop := fun vs H Q => ∃ (a : Addr) (xs : List Str), vs = [V.ref a] ∧ SqL K H a (xs.map V.str) ∧
  ∀ (ys : List Str) (p : Addr), ys.Perm xs → sortedS ys = true → H p = none → Q (.ref p) (upd H p (.lst (ys.map V.str)))
theorem cr_sortedSA {X : Cx} : CallR X (.builtin "sorted") (rSortedSA X.K) := by
  intro pins s σ H vs us Q I r h
  obtain ⟨a, xs, rfl, hs, q⟩ := h
  obtain ⟨its, rv, hl, hz⟩ := I.list hs
  rw [Vals.ref1 r]
  have hlen0 := rv.length
  refine PyProof.Rows.sorted_strsAny hl.isList rv.strs (by rw [← hlen0]; exact hz) fun out ys h1 h2 h3 => ?_
  obtain ⟨ep, he'⟩ := PyProof.Rows.sortedAll_at s.heap its out
  have hlen : (ys.map V.str).length ≤ sizeLine := by rw [List.length_map, h2.length_eq, ← List.length_map (f := V.str)]; exact hz
  exact ⟨.ref _, upd H (s.heap.objs.size + 1) (.lst (ys.map V.str)), I.laid (t' := s.toks) (fun _ _ => PyProof.Rows.sortedAll_old) (Nat.le_succ _) ⟨hlen, out.toList, ep, vals_of_strs h1, he'⟩, rfl, q ys _ h2 h3 (I.hok.fresh (Nat.le_succ _))⟩
/-! ### rows of texts -/
def txtOf : Value → Str
  | .str x _ => x
  | _ => default
def rowOf (h : Heap) (u : Value) : Option (List Str) :=
  match u with
  | .ref a => (h.get? a).bind fun o => match o.data with
    | .seq xs _ => some (xs.toList.map txtOf)
    | _ => none
  | _ => none
theorem vals_txt : ∀ {ws : List Str} {its : List Value}, Vals (ws.map V.str) its → its.map txtOf = ws
  | [], _, .nil => rfl
  | x :: r, _, .cons q t => by
    obtain ⟨tk, rfl⟩ := q
    rw [List.map_cons, vals_txt t]
    rfl
theorem rowOf_tup {h : Heap} {a : Addr} {its : List Value} (q : h.IsTuple a its.toArray) : rowOf h (.ref a) = some (its.map txtOf) := by
  obtain ⟨o, h1, h2, n, h3⟩ := q
  simp [rowOf, h1, h3]
theorem rowOf_lst {h : Heap} {a : Addr} {its : List Value} (q : h.IsList a its.toArray) : rowOf h (.ref a) = some (its.map txtOf) := by
  obtain ⟨o, h1, h2, n, h3⟩ := q
  simp [rowOf, h1, h3]
theorem str_item {ws : List Str} {its : List Value} (r : Vals (ws.map V.str) its) {j : Nat} (h : j < its.toArray.size) : ∃ x tk, ws[j]? = some x ∧ its.toArray[j] = .str x tk := by
  have h' : j < its.length := by simpa using h
  obtain ⟨x, tk, e1, e2⟩ := vals_strs_at r j its[j] (List.getElem?_eq_getElem h')
  exact ⟨x, tk, e1, by simpa using e2⟩
theorem all_rows {ws us : List Str} : ((List.range (min ws.length us.length)).all (fun j => decide (ws[j]? = us[j]?)) && ws.length == us.length) = decide (ws = us) := by
  by_cases e : ws = us
  · subst e
    simp
  · rw [decide_eq_false e, Bool.and_eq_false_iff]
    by_cases l : ws.length = us.length
    · left
      rw [Bool.eq_false_iff]
      intro z
      rw [List.all_eq_true] at z
      refine e (List.ext_getElem? fun j => ?_)
      by_cases hj : j < ws.length
      · exact of_decide_eq_true (z j (List.mem_range.mpr (by omega)))
      · rw [List.getElem?_eq_none (by omega), List.getElem?_eq_none (by omega)]
    · right
      simp [l]
theorem eqAt_rowT {A : Around} {s : Shared} {a b : Addr} {its its2 : List Value} {ws us : List Str} (ha : s.heap.IsTuple a its.toArray) (hb : s.heap.IsTuple b its2.toArray) (ra : Vals (ws.map V.str) its) (rb : Vals (us.map V.str) its2) (hu : A.units < cLine) :
    SeqAt.EqAt A s (.ref a) (.ref b) (decide (ws = us)) := by
  have la := ra.length
  have lb := rb.length
  rw [List.length_map] at la lb
  by_cases e : a = b
  · subst e
    have q := (rowOf_tup ha).symm.trans (rowOf_tup hb)
    rw [vals_txt ra, vals_txt rb] at q
    rw [decide_eq_true (Option.some.inj q)]
    exact SeqAt.EqAt.same _
  · have r := SeqAt.RcAt.tuples (A := A) (e := fun j => decide (ws[j]? = us[j]?)) ha hb hu (fun j h1 h2 => by
      obtain ⟨x, t, e1, e2⟩ := str_item ra h1
      obtain ⟨y, u, e3, e4⟩ := str_item rb h2
      rw [e2, e4, e1, e3]
      have := SeqAt.EqAt.str_str (A := A.in1) (s := s) x t y u
      have e5 : decide (some x = some y) = (x == y) := by
        by_cases z : x = y <;> simp [z]
      rw [e5]
      exact this)
    rw [List.size_toArray, List.size_toArray, ← la, ← lb, all_rows] at r
    exact SeqAt.EqAt.of_refs e r
theorem eqAt_rowL {A : Around} {s : Shared} {a b : Addr} {its its2 : List Value} {ws us : List Str} (ha : s.heap.IsList a its.toArray) (hb : s.heap.IsList b its2.toArray) (ra : Vals (ws.map V.str) its) (rb : Vals (us.map V.str) its2) (hu : A.units < cLine) :
    SeqAt.EqAt A s (.ref a) (.ref b) (decide (ws = us)) := by
  have la := ra.length
  have lb := rb.length
  rw [List.length_map] at la lb
  by_cases e : a = b
  · subst e
    have q := (rowOf_lst ha).symm.trans (rowOf_lst hb)
    rw [vals_txt ra, vals_txt rb] at q
    rw [decide_eq_true (Option.some.inj q)]
    exact SeqAt.EqAt.same _
  · by_cases l : ws.length = us.length
    · have r := SeqAt.RcAt.lists (A := A) (e := fun j => decide (ws[j]? = us[j]?)) ha hb (by rw [List.size_toArray, List.size_toArray]; omega) hu (fun j h1 h2 => by
        obtain ⟨x, t, e1, e2⟩ := str_item ra h1
        obtain ⟨y, u, e3, e4⟩ := str_item rb h2
        rw [e2, e4, e1, e3]
        have := SeqAt.EqAt.str_str (A := A.in1) (s := s) x t y u
        have e5 : decide (some x = some y) = (x == y) := by
          by_cases z : x = y <;> simp [z]
        rw [e5]
        exact this)
      have ar := all_rows (ws := ws) (us := us)
      rw [l, Nat.min_self, beq_self_eq_true, Bool.and_true] at ar
      rw [List.size_toArray, ← la, l, ar] at r
      exact SeqAt.EqAt.of_refs e r
    · have r := SeqAt.RcAt.lists_lengths (A := A) ha hb (by rw [List.size_toArray, List.size_toArray]; simp; omega) hu
      rw [decide_eq_false (fun z => l (by rw [z]))]
      exact SeqAt.EqAt.of_refs e r
def IsRowT (K : PySem.W.Frag) (H : Hp) (v : V) (ws : List Str) : Prop := ∃ a, v = .ref a ∧ SqT K H a (ws.map V.str)
def IsRowL (K : PySem.W.Frag) (H : Hp) (v : V) (ws : List Str) : Prop := ∃ a, v = .ref a ∧ SqL K H a (ws.map V.str)
def rInRow (W : Hp → V → List Str → Prop) (K : PySem.W.Frag) (neg : Bool) : R2 := fun x y H Q => ∃ q vs wss ws, y = .ref q ∧ SqL K H q vs ∧ Paired (W H) vs wss ∧ W H x ws ∧ Q (.bl (if neg then !decide (ws ∈ wss) else decide (ws ∈ wss))) H
section
variable {X : Cx} {pins : List (Addr × Obj)} {σ : St} {H : Hp} {s : Shared}
theorem row_atT (I : Inv X pins σ H s) {v : V} {u : Value} {ws : List Str} (h : IsRowT X.K H v ws) (r : RelV v u) : ∃ a its, u = .ref a ∧ s.heap.IsTuple a its.toArray ∧ Vals (ws.map V.str) its ∧ rowOf s.heap u = some ws := by
  obtain ⟨a, rfl, hq⟩ := h
  cases r
  obtain ⟨its, rv, pl, _⟩ := I.tuple hq
  exact ⟨a, its, rfl, pl, rv, by rw [rowOf_tup pl, vals_txt rv]⟩
theorem row_atL (I : Inv X pins σ H s) {v : V} {u : Value} {ws : List Str} (h : IsRowL X.K H v ws) (r : RelV v u) : ∃ a its, u = .ref a ∧ s.heap.IsList a its.toArray ∧ Vals (ws.map V.str) its ∧ rowOf s.heap u = some ws := by
  obtain ⟨a, rfl, hq⟩ := h
  cases r
  obtain ⟨its, rv, pl, _⟩ := I.list hq
  exact ⟨a, its, rfl, pl.isList, rv, by rw [rowOf_lst pl.isList, vals_txt rv]⟩
theorem any_row {W : V → List Str → Prop} (hW : ∀ v u ws, W v ws → RelV v u → rowOf s.heap u = some ws) (ws : List Str) : ∀ {vs : List V} {its : List Value} {wss : List (List Str)}, Vals vs its → Paired W vs wss → (its.any fun u => decide (rowOf s.heap u = some ws)) = decide (ws ∈ wss)
  | _, _, _, .nil, .nil => by simp
  | _, _, _, .cons r t, .cons (b := p) q u => by
    rw [List.any_cons, any_row hW ws t u, hW _ _ _ q r]
    by_cases c : p = ws
    · subst c
      simp
    · have c' : ¬ ws = p := fun z => c z.symm
      simp [c, c']
theorem mem_vals {W : V → List Str → Prop} : ∀ {vs : List V} {its : List Value} {wss : List (List Str)}, Vals vs its → Paired W vs wss → ∀ u ∈ its, ∃ v ws, W v ws ∧ RelV v u
  | _, _, _, .nil, .nil => fun u hu => by cases hu
  | _, _, _, .cons r t, .cons (b := p) q w => fun u hm => by
    rcases List.mem_cons.mp hm with rfl | hm
    · exact ⟨_, _, q, r⟩
    · exact mem_vals t w u hm
end
section
variable {X : Cx}
theorem op_inRowT (hu : X.A.units + 64 < cLine) : OpR X (compareOp .In) (rInRow (IsRowT X.K) X.K false) := by
  intro pins s σ H x y v u Q I rx ry h
  obtain ⟨q, vs, wss, ws, rfl, hq, hp, hx, hQ⟩ := h
  cases ry
  have hu1 : X.A.in1.units < cLine := by
    have : X.A.in1.units = X.A.units + 1 := rfl
    omega
  obtain ⟨its, r, pl, hz⟩ := I.list hq
  obtain ⟨a, i1, rfl, t1, v1, e1⟩ := row_atT I hx rx
  refine SeqAt.in_listAt (fun u => decide (rowOf s.heap u = some ws)) pl.isList (fun w hw => ?_) ⟨.bl _, H, I, rfl, ?_⟩
  · obtain ⟨v', ws', hv', rv'⟩ := mem_vals r hp w (by simpa using hw)
    obtain ⟨b, i2, rfl, t2, v2, e2⟩ := row_atT I hv' rv'
    have z := eqAt_rowT (A := X.A.in1) t2 t1 v2 v1 hu1
    have e : decide (rowOf s.heap (.ref b) = some ws) = decide (ws' = ws) := by
      rw [e2]
      by_cases c : ws' = ws <;> simp [c]
    rw [e]
    exact z
  · rw [show its.toArray.any (fun u => decide (rowOf s.heap u = some ws)) = its.any (fun u => decide (rowOf s.heap u = some ws)) by simp, any_row (fun v u ws h r => (row_atT I h r).choose_spec.choose_spec.2.2.2) ws r hp]
    exact hQ
theorem op_notInRowT (hu : X.A.units + 64 < cLine) : OpR X (compareOp .NotIn) (rInRow (IsRowT X.K) X.K true) := by
  intro pins s σ H x y v u Q I rx ry h
  obtain ⟨q, vs, wss, ws, rfl, hq, hp, hx, hQ⟩ := h
  cases ry
  have hu1 : X.A.in1.units < cLine := by
    have : X.A.in1.units = X.A.units + 1 := rfl
    omega
  obtain ⟨its, r, pl, hz⟩ := I.list hq
  obtain ⟨a, i1, rfl, t1, v1, e1⟩ := row_atT I hx rx
  refine SeqAt.notIn_listAt (fun u => decide (rowOf s.heap u = some ws)) pl.isList (fun w hw => ?_) ⟨.bl _, H, I, rfl, ?_⟩
  · obtain ⟨v', ws', hv', rv'⟩ := mem_vals r hp w (by simpa using hw)
    obtain ⟨b, i2, rfl, t2, v2, e2⟩ := row_atT I hv' rv'
    have z := eqAt_rowT (A := X.A.in1) t2 t1 v2 v1 hu1
    have e : decide (rowOf s.heap (.ref b) = some ws) = decide (ws' = ws) := by
      rw [e2]
      by_cases c : ws' = ws <;> simp [c]
    rw [e]
    exact z
  · rw [show its.toArray.any (fun u => decide (rowOf s.heap u = some ws)) = its.any (fun u => decide (rowOf s.heap u = some ws)) by simp, any_row (fun v u ws h r => (row_atT I h r).choose_spec.choose_spec.2.2.2) ws r hp]
    exact hQ
theorem op_inRowL (hu : X.A.units + 64 < cLine) : OpR X (compareOp .In) (rInRow (IsRowL X.K) X.K false) := by
  intro pins s σ H x y v u Q I rx ry h
  obtain ⟨q, vs, wss, ws, rfl, hq, hp, hx, hQ⟩ := h
  cases ry
  have hu1 : X.A.in1.units < cLine := by
    have : X.A.in1.units = X.A.units + 1 := rfl
    omega
  obtain ⟨its, r, pl, hz⟩ := I.list hq
  obtain ⟨a, i1, rfl, t1, v1, e1⟩ := row_atL I hx rx
  refine SeqAt.in_listAt (fun u => decide (rowOf s.heap u = some ws)) pl.isList (fun w hw => ?_) ⟨.bl _, H, I, rfl, ?_⟩
  · obtain ⟨v', ws', hv', rv'⟩ := mem_vals r hp w (by simpa using hw)
    obtain ⟨b, i2, rfl, t2, v2, e2⟩ := row_atL I hv' rv'
    have z := eqAt_rowL (A := X.A.in1) t2 t1 v2 v1 hu1
    have e : decide (rowOf s.heap (.ref b) = some ws) = decide (ws' = ws) := by
      rw [e2]
      by_cases c : ws' = ws <;> simp [c]
    rw [e]
    exact z
  · rw [show its.toArray.any (fun u => decide (rowOf s.heap u = some ws)) = its.any (fun u => decide (rowOf s.heap u = some ws)) by simp, any_row (fun v u ws h r => (row_atL I h r).choose_spec.choose_spec.2.2.2) ws r hp]
    exact hQ
/-! ### xs == [], xs != [] -/
def rNil (K : PySem.W.Frag) (neg : Bool) : R2 := fun x y H Q => ∃ a b xs, x = .ref a ∧ y = .ref b ∧ SqL K H a xs ∧ SqL K H b [] ∧ Q (.bl (if neg then !xs.isEmpty else xs.isEmpty)) H
theorem op_eqN (hu : X.A.units + 64 < cLine) : OpR X (compareOp .Eq) (rNil X.K false) := by
  intro pins s σ H x y v u Q I rx ry h
  obtain ⟨a, b, xs, rfl, rfl, ha, hb, hQ⟩ := h
  cases rx
  cases ry
  obtain ⟨its, r, pl, hz⟩ := I.list ha
  obtain ⟨its2, r2, pl2, hz2⟩ := I.list hb
  cases r2
  cases r with
  | nil => exact SeqAt.eq_listAt (e := fun _ => true) pl.isList pl2.isList rfl (by omega) (fun j h1 h2 => absurd h1 (Nat.not_lt_zero _)) ⟨.bl true, H, I, rfl, hQ⟩
  | cons r1 rr => exact SeqAt.eq_list_lengthsAt pl.isList pl2.isList (by simp) (by omega) ⟨.bl false, H, I, rfl, hQ⟩
theorem op_neN (hu : X.A.units + 64 < cLine) : OpR X (compareOp .NotEq) (rNil X.K true) := by
  intro pins s σ H x y v u Q I rx ry h
  obtain ⟨a, b, xs, rfl, rfl, ha, hb, hQ⟩ := h
  cases rx
  cases ry
  obtain ⟨its, r, pl, hz⟩ := I.list ha
  obtain ⟨its2, r2, pl2, hz2⟩ := I.list hb
  cases r2
  cases r with
  | nil => exact SeqAt.RcNeAt.lists (e := fun _ => true) pl.isList pl2.isList rfl (by omega) (fun j h1 h2 => absurd h1 (Nat.not_lt_zero _)) _ _ _ _ ⟨.bl false, H, I, rfl, hQ⟩
  | cons r1 rr => exact SeqAt.RcNeAt.lists_lengths pl.isList pl2.isList (by simp) (by omega) _ _ _ _ ⟨.bl true, H, I, rfl, hQ⟩
end
end L2

/-! text.replace(y, z, 1) behind text + c; an own error made in an expression. -/
namespace L2
open PySem PySem.Spec PyProof.Rows Xc
theorem replace1_tree (x y z : Str) (t u v c : Tok) : Builtin.«str.replace» ⟨[.str x t, .str y u, .str z v, .int 1 c], []⟩ =
    (if ((Builtin.Str.occurrences x y 0 x.length 1).isEmpty || (y.length == 0 && z.length == 0)) = true then (do rule "str.replace.nothing"; ret (.str x t)) else
      (do let same ← isSame (.str y u) (.str z v)
          if same = true then (do rule "str.replace.old-is-new"; ret (.str x t)) else
          if Builtin.Str.tooLong (x.length + (Builtin.Str.occurrences x y 0 x.length 1).length * z.length) = true then unsupported "str.replace:memory" else
          retStr (Builtin.Str.glued z (Builtin.Str.partsBetween x (Builtin.Str.occurrences x y 0 x.length 1) y.length)))) := by
  show (do let limit ← Builtin.Str.countLimit "str.replace" (some (.int 1 c)) (x.length + 1); _) = _
  rw [countLimit_int "str.replace" 1 c (x.length + 1) (by decide)]
  rfl
theorem gives_replace1 (x y z : Str) (t u v c : Tok) (h0 : (u == 0 || v == 0) = false) (huv : (u == v) = false) (hyz : (y == z) = false) (hl : Builtin.Str.tooLong (x.length + (Builtin.Str.occurrences x y 0 x.length 1).length * z.length) = false) :
    Gives (Builtin.«str.replace» ⟨[.str x t, .str y u, .str z v, .int 1 c], []⟩) (if ((Builtin.Str.occurrences x y 0 x.length 1).isEmpty || (y.length == 0 && z.length == 0)) = true then .val (.str x t) else .str (Builtin.Str.glued z (Builtin.Str.partsBetween x (Builtin.Str.occurrences x y 0 x.length 1) y.length))) := by
  rw [replace1_tree]
  cases hc : ((Builtin.Str.occurrences x y 0 x.length 1).isEmpty || (y.length == 0 && z.length == 0))
  · rw [isSame_str_other y z u v h0 huv hyz, hl]
    exact .of_eq rfl
  · exact .rule (.of_eq rfl)
theorem replace1_len (x y z : Str) : (Builtin.Str.glued z (Builtin.Str.partsBetween x (Builtin.Str.occurrences x y 0 x.length 1) y.length)).length ≤ x.length + z.length := by
  have h1 := StrLaws.occ_length_le x y 0 x.length 1
  have hy : (Builtin.Str.glued y (Builtin.Str.partsBetween x (Builtin.Str.occurrences x y 0 x.length 1) y.length)).length = x.length := by rw [StrLaws.glued_between_self]
  rw [size_glued, length_partsBetween, Nat.add_sub_cancel] at hy
  rw [size_glued, length_partsBetween, Nat.add_sub_cancel]
  have h2 : (Builtin.Str.occurrences x y 0 x.length 1).length * z.length ≤ 1 * z.length := Nat.mul_le_mul_right _ h1
  omega
section
variable {X : Cx}
def tPlusRepl (i : Nat) (c z : Str) : TA := fun σ H Q => ∃ a, σ[i]? = some (some (.str a)) ∧ a.length + c.length ≤ sizeLine ∧ a.length + z.length ≤ sizeLine ∧ ∀ r : Str, r.length ≤ a.length + z.length → Q [.str (a ++ c), .str r] H
theorem ld_var {i : Nat} {x : Str} {pos : Pos} {pins : List (Addr × Obj)} {s : Shared} {σ : St} {H : Hp} {v : V} {Q : Value → Shared → Prop} (I : Inv X pins σ H s) (hN : X.N[i]? = some x) (hv : Vis X.env.scope x) (hd : (x == ("__debug__" : Str)) = false) (hcd : (x == ("__classdict__" : Str)) = false)
    (e : σ[i]? = some (some v)) (fin : ∀ u, RelV v u → Q u s) : wpAny (model X.prog X.w) X.A (eval (.Name x pos) X.env) Q X.xe s := by
  obtain ⟨m, hn, hl⟩ := I.loc
  obtain ⟨u, r, l⟩ := hl i x v hN e hv
  rcases l with ⟨hk, hm⟩ | ⟨hk, c, hc, hcell⟩
  · exact wpAny_Name (wpAny_loadName_local I.ok.kind hk hn hm (fin u r)) hd
  · rcases hk with hk | hk
    · exact wpAny_Name (wpAny_loadName_cell I.ok.kind hk hc hcell (fin u r)) hd
    · exact wpAny_Name (wpAny_loadName_free I.ok.kind hk hc hcell (fin u r) hcd) hd
theorem arepl {i : Nat} {x c y z : Str} {j0 j1 j2 j3 : Nat} {p0 p1 p2 p3 p4 p5 p6 apos pos : Pos} (hN : X.N[i]? = some x) (hv : Vis X.env.scope x) (hd : (x == ("__debug__" : Str)) = false) (hcd : (x == ("__classdict__" : Str)) = false) (hyz : (y == z) = false)
    (hs0 : starEach [.BinOp (.Name x p0) .Add (.Constant (.str c) j0 p1) p2, .Call (.Attribute (.Name x p3) "replace" apos) [.Constant (.str y) j1 p4, .Constant (.str z) j2 p5, .Constant (.int 1) j3 p6] [] pos] X.env
      = [(false, eval (.BinOp (.Name x p0) .Add (.Constant (.str c) j0 p1) p2) X.env), (false, eval (.Call (.Attribute (.Name x p3) "replace" apos) [.Constant (.str y) j1 p4, .Constant (.str z) j2 p5, .Constant (.int 1) j3 p6] [] pos) X.env)])
    (hbase : attributeBase (.Name x p3) "replace" X.env (eval (.Name x p3) X.env) = eval (.Name x p3) X.env)
    (hfew : ((backTo pos (starEach [.Constant (.str y) j1 p4, .Constant (.str z) j2 p5, .Constant (.int 1) j3 p6] X.env)).all (fun x => !x.1) && (backToKw pos (keywordEach [] X.env)).all (fun x => x.1.isSome)
      && decide (([.Constant (.str y) j1 p4, .Constant (.str z) j2 p5, .Constant (.int 1) j3 p6] : List Expr).length + ([] : List Keyword).length + (if ([] : List Keyword).isEmpty then 0 else 1) < 30)) = true)
    (hline : (apos.endLine == pos.line) = true)
    (hs1 : starEach [.Constant (.str y) j1 p4, .Constant (.str z) j2 p5, .Constant (.int 1) j3 p6] X.env = [(false, eval (.Constant (.str y) j1 p4) X.env), (false, eval (.Constant (.str z) j2 p5) X.env), (false, eval (.Constant (.int 1) j3 p6) X.env)]) :
    SA X [.BinOp (.Name x p0) .Add (.Constant (.str c) j0 p1) p2, .Call (.Attribute (.Name x p3) "replace" apos) [.Constant (.str y) j1 p4, .Constant (.str z) j2 p5, .Constant (.int 1) j3 p6] [] pos] (tPlusRepl i c z) := by
  refine ⟨fun cpos pins s σ H Q I h => ?_⟩
  obtain ⟨a, hσ, hz1, hz2, q⟩ := h
  rw [hs0]
  show wpAny _ _ (spliced ((false, eval (.BinOp (.Name x p0) .Add (.Constant (.str c) j0 p1) p2) X.env) :: (false, eval (.Call (.Attribute (.Name x p3) "replace" apos) [.Constant (.str y) j1 p4, .Constant (.str z) j2 p5, .Constant (.int 1) j3 p6] [] pos) X.env) :: [])) _ _ s
  refine Calls.spliced_cons ?_
  -- behind the first one
  have key : ∀ (u : Value) (s1 : Shared), Inv X pins σ H s1 → RelV (.str (a ++ c)) u → 0 < s1.toks → wpAny (model X.prog X.w) X.A (spliced ((false, eval (.Call (.Attribute (.Name x p3) "replace" apos) [.Constant (.str y) j1 p4, .Constant (.str z) j2 p5, .Constant (.int 1) j3 p6] [] pos) X.env) :: []))
      (fun us s₂ => AP X pins σ Q (u :: us) s₂) X.xe s1 := by
    intro u s1 I1 r1 ht
    refine Calls.spliced_cons (wpAny_Call_method_late hbase hfew hline rfl (ld_var I1 hN hv hd hcd hσ fun ov ro => ?_))
    obtain ⟨t, rfl⟩ := ro
    refine ⟨"str", _, F.plainAttrs_str, F.slot_str_replace, F.type_str_replace, typeIs_str _ _ _, (fun _ e => nomatch e), Calls.callWith_builtin (by rw [hs1]; rfl) (Calls.evalArgs_plain ?_)⟩
    show wpAny _ _ (spliced ((false, eval (.Constant (.str y) j1 p4) X.env) :: (false, eval (.Constant (.str z) j2 p5) X.env) :: (false, eval (.Constant (.int 1) j3 p6) X.env) :: [])) _ _ s1
    refine Calls.spliced_cons (Calls.Constant_str (Calls.spliced_cons (Calls.Constant_str (Calls.spliced_cons (wpAny_Constant_int (Calls.spliced_nil ?_))))))
    have l1 := StrLaws.occ_length_le a y 0 a.length 1
    have l2 : (Builtin.Str.occurrences a y 0 a.length 1).length * z.length ≤ 1 * z.length := Nat.mul_le_mul_right _ l1
    refine call_gives F.slot_str_replace (typeIs_str _ _ _) F.entry_str_replace (F.args_str_replace_4 _ _ _ _) (gives_replace1 a y z _ _ _ _ ?_ ?_ hyz ?_) ?_
    · have e1 : (s1.toks == 0) = false := beq_eq_false_iff_ne.mpr (Nat.ne_of_gt ht)
      show (s1.toks == 0 || s1.toks + 1 == 0) = false
      rw [e1]
      rfl
    · show (s1.toks == s1.toks + 1) = false
      exact beq_eq_false_iff_ne.mpr (Nat.ne_of_lt (Nat.lt_succ_self _))
    · unfold Builtin.Str.tooLong
      exact decide_eq_false (by omega)
    · cases hc : ((Builtin.Str.occurrences a y 0 a.length 1).isEmpty || (y.length == 0 && z.length == 0))
      · have l3 := replace1_len a y z
        refine ⟨by omega, Calls.spliced_nil ⟨[.str (a ++ c), .str _], H, I1.tok _, .cons r1 (.cons ⟨_, rfl⟩ .nil), q _ l3⟩⟩
      · exact Calls.spliced_nil ⟨[.str (a ++ c), .str a], H, I1.tok _, .cons r1 (.cons ⟨_, rfl⟩ .nil), q a (by omega)⟩
  refine wpAny_BinOp (ld_var I hN hv hd hcd hσ fun v rv => Calls.Constant_str ?_)
  obtain ⟨t, rfl⟩ := rv
  refine PySem.P.add_str ?_
  by_cases c1 : (a.length == 0) = true
  · rw [if_pos c1]
    have e : a ++ c = c := by
      have : a = ⟨#[]⟩ := by
        have := eq_of_beq c1
        cases a with
        | mk cps => cases cps with
          | mk l => cases l with
            | nil => rfl
            | cons _ _ => cases this
      subst this
      cases c
      show (⟨#[] ++ _⟩ : Str) = _
      rw [Array.empty_append]
    exact key _ _ (I.tok _) ⟨_, by rw [e]⟩ (Nat.succ_pos _)
  · rw [if_neg c1]
    by_cases c2 : (c.length == 0) = true
    · rw [if_pos c2]
      have e : a ++ c = a := by
        have : c = ⟨#[]⟩ := by
          have := eq_of_beq c2
          cases c with
          | mk cps => cases cps with
            | mk l => cases l with
              | nil => rfl
              | cons _ _ => cases this
        subst this
        cases a
        show (⟨_ ++ #[]⟩ : Str) = _
        rw [Array.append_empty]
      exact key _ _ (I.tok _) ⟨_, by rw [e]⟩ (Nat.succ_pos _)
    · rw [if_neg c2]
      exact ⟨by rw [Wd.app_len]; exact hz1, key _ _ (I.tok _) ⟨_, rfl⟩ (Nat.succ_pos _)⟩
end
end L2

/-! an own error with an __init__, made in an expression. -/
namespace L2
open PySem PySem.Spec PyProof.Rows Xc
section
variable {X : Cx}
def tMakeI (C : Addr) (a : Str) (t : TA) : TE := fun σ H Q => t σ H fun vs H1 => ∃ v, vs = [v] ∧ Kept v ∧ ∀ y dx, H1 y = none → H1 dx = none → dx ≠ y → Q (.ref y) (upd (upd H1 dx (.xd [(a, v)])) y (.ext (IsEx y C (some dx))))
theorem emakeI {k : Nat} {C S : Addr} {x a : Str} {np cpos : Pos} {e₀ : Expr} {t : TA} (hC : RaiseI X.prog X.K C S a) (hr : Room (k + 1) X.A) (hgs : X.mg "super" = none) (hg : Gl X x) (hm : X.mg x = some (.ref C)) (ha : SA X [e₀] t)
    (he : starEach [e₀] X.env = [(false, eval e₀ X.env)]) (hdb : (x == ("__debug__" : Str)) = false) :
    SE X (.Call (.Name x np) [e₀] [] cpos) (tMakeI C a t) := by
  refine ⟨fun pins s σ H Q I h => ?_⟩
  obtain ⟨fI, T, nm, q, NN, bs, sn, sub, ab, col, dd, k0, k1, k2, k3, k5, hl, ht, hok, hin⟩ := hC.ini
  obtain ⟨mb, hmb, hmb2⟩ := I.mod.blt
  refine wpAny_Call_ofName (ld_glob I hg hm ?_ hdb)
  unfold callWith
  have hA := ha.o cpos pins s σ H _ I h
  rw [he] at hA
  have hplain : (backTo cpos (starEach [e₀] X.env)).any (·.1) = false := by rw [he]; rfl
  rw [he]
  refine wpAny_bind (wpAny_holding (Calls.evalArgs_plain (wpAny_mono hA (fun us s2 z => wpAny_bind (wpAny_standAt ?_)) fun _ _ y => y)))
  obtain ⟨vs, H2, I2, r2, v, rfl, hkv, q2⟩ := z
  have ns0 : X.base.Ns NN (X.base.nsMap NN) := .of_isNs (PySem.W.isNs_of_in I.mod.kin hok)
  cases r2 with
  | cons rv r2 =>
    cases r2
    rename_i u
    obtain ⟨qual', c1, c2, p1, p2, p3, p4, p5, p6, p7, p8, p9, p10, q0, q1, q2', q3, r1', r2', kV, doc, pm, an, cda, ct, cc, od, sl, hc12, hline, hlk, hrest⟩ := T.lk
    obtain ⟨hp, g, d, tk0, os⟩ := s2
    have hCs : hp.get? C = some (excClassObj nm q C NN bs (.ref S :: bmV) true sn sub ab col dd k0 k1 k2 k3 k5 "ValueError.__new__") := I2.kIn _ _ hl
    refine wpAny_bind (wpAny_keeperOf_exc hCs ?_)
    refine wpAny_bind (call_init (hrest := by show 1 ≤ sizeLine; decide) PySem.F.excBase_ValueError (PySem.W.tail_of_in I2.kIn ht) hCs (ns0.keeps I2.bk) (nsv_of I.mod.kin ns0 hin) (I2.kIn _ _ hlk) rfl fun h' e hx => ?_)
    have nx : hp.get? e = none := hx.new
    have ny : H2 e = none := hok_none I2.hok nx
    obtain ⟨tp, ex, ntp, _⟩ := hx.there
    have up : ∀ b o, X.base.get? b = some o → h'.get? b = some o := fun b o eb => hx.keeps _ _ (I2.bk b o eb)
    have hxK : X.K.lookup e = none := by
      cases z : X.K.lookup e with
      | none => rfl
      | some o => have := I2.kIn _ _ z; rw [show (Shared.mk hp g d tk0 os).heap.get? e = none from nx] at this; cases this
    refine wpAny_call (ini_call (s := ⟨h', g, d, tk0, os⟩) (mg := X.mg) (mb := mb) T (fun b o eb => hx.keeps _ _ (I2.kIn b o eb)) (I2.mod.nolimit.keeps up) (I2.mod.glob.keeps up) (hmb.keeps up) hgs ((hmb2 "super" (by decide)).trans ?_) ex hxK (by simp) ?_ (kept_fmt hkv rv) fun h4 tk dx tp' e4 ne4 n4 s4 k4 => ⟨rfl, ?_⟩)
    · first | boot_by_name | rfl | kernel_rfl
    · exact (hr.make C [u] []).depth
    · refine wpAny_bind (wpAny_holding (wpAny_point (wpAny_pure ?_)))
      have kp4 : ∀ b o, hp.get? b = some o → h4.get? b = some o := fun b o eb => k4 b o (fun z => by rw [z, nx] at eb; cases eb) (hx.keeps _ _ eb)
      have nd2 : hp.get? dx = none := by
        cases z : hp.get? dx with
        | none => rfl
        | some o => have := hx.keeps _ _ z; rw [show h'.get? dx = none from n4] at this; cases this
      have nd : H2 dx = none := hok_none I2.hok nd2
      have trk : ∀ b o, H2 b = some o → (upd (upd H2 dx (.xd [(a, v)])) e (.ext (IsEx e C (some dx)))) b = some o := fun b o eb => by
        rw [upd_ne (fun z => by rw [z, ny] at eb; cases eb), upd_ne (fun z => by rw [z, nd] at eb; cases eb)]
        exact eb
      have un : Un X.fs [] H2 (upd (upd H2 dx (.xd [(a, v)])) e (.ext (IsEx e C (some dx)))) hp h4 :=
        ⟨fun b o eb _ _ _ => kp4 b o eb, fun b o eb _ _ _ => ⟨o.slots, kp4 b o eb⟩, fun b o eb n _ => by
          rw [upd_ne (fun z => by rw [z, nx] at eb; cases eb), upd_ne (fun z => by rw [z, nd2] at eb; cases eb)]
          exact n, fun b o eb _ => ⟨o, kp4 b o eb⟩, fun b xs eb => trk b _ eb, fun b o u eb => trk b _ eb, fun b ps eb => ⟨#[], by rw [trk b _ eb]; simp⟩⟩
      refine ⟨.ref e, _, I2.un (t' := tk) un (fun b o eb => ?_), rfl, q2 e dx ny nd ne4⟩
      by_cases z : b = e
      · subst z
        rw [upd_same] at eb
        cases eb
        exact ex_ok ⟨_, e4⟩
      · rw [upd_ne z] at eb
        by_cases z2 : b = dx
        · subst z2
          rw [upd_same] at eb
          cases eb
          refine ⟨_, s4, fun fl => ?_⟩
          by_cases z3 : fl = a
          · subst z3
            simp only [if_true, List.lookup_cons, beq_self_eq_true]
            exact rv
          · have : (fl == a) = false := by rw [beq_eq_false_iff_ne]; exact z3
            simp only [if_neg z3, List.lookup_cons, this, List.lookup_nil]
            trivial
        · rw [upd_ne z2] at eb
          refine (show ObjOk X.prog X.w H2 hp b o from I2.hok b o eb).stay (fun c u _ ec => kp4 c u ec) (fun c qc => ?_) fun c xs qc => ?_
          all_goals exact trk _ _ qc
end
end L2

/-! Any text, read: the web, or the number of the first wrong row. -/
namespace L2
open PySem
theorem call_tuple_ofK {X : Cx} {K : PySem.W.Frag} (hK : X.K = K) : CallR X (.type "tuple") (fun xs H Q => ∃ p ys, xs = [.ref p] ∧ ((SqL K H p ys ∧ ∀ l, H l = none → Q (.ref l) (upd H l (.tup ys))) ∨ (SqT K H p ys ∧ Q (.ref p) H))) := by subst hK; exact call_tuple_of
end L2
namespace Ym
open PySem L2 Wd Wm Tm PyProof.Rows
def ltB (c : Nat) : Bool := decide (97 ≤ c) && decide (c ≤ 122)
def nmB (x : Str) : Bool := decide (1 ≤ x.length) && decide (x.length ≤ 8) && !decide (x ∈ own16) && x.cps.toList.all ltB
theorem nm_ok {x : Str} (h : nmB x = true) : Word x ∧ x ∉ own16 := by
  unfold nmB at h
  simp only [Bool.and_eq_true, decide_eq_true_eq, Bool.not_eq_true', decide_eq_false_iff_not, List.all_eq_true, ltB] at h
  exact ⟨⟨h.1.1.1, h.1.1.2, fun c hc => h.2 c hc⟩, h.1.2⟩
theorem lett_mem (c : Nat) : (c ∈ lett.cps.toList) ↔ ltB c = true := by
  have e : lett.cps.toList = (List.range 26).map (97 + ·) := by decide +kernel
  rw [e, List.mem_map]
  unfold ltB
  simp only [List.mem_range, Bool.and_eq_true, decide_eq_true_eq]
  constructor
  · rintro ⟨k, hk, rfl⟩
    omega
  · intro h
    exact ⟨c - 97, by omega, by omega⟩
theorem mem_dd' : ∀ (n : Nat) (l : List Str), l.length = n → ∀ y, y ∈ SetT.dd l ↔ y ∈ l
  | 0, l, h => by
    have : l = [] := List.eq_nil_of_length_eq_zero h
    subst this
    intro y
    exact Iff.rfl
  | n + 1, l, h => by
    intro y
    have hne : l ≠ [] := fun e => by rw [e] at h; cases h
    have e := List.dropLast_concat_getLast hne
    rw [← e, SetT.dd_snoc, SetT.mem_put1, List.mem_append, List.mem_singleton, mem_dd' n _ (by rw [List.length_dropLast]; omega)]
theorem dd_full : ∀ (n : Nat) (l : List Str), l.length = n → (SetT.dd l).length = n → l.Nodup
  | 0, l, h, _ => by
    have : l = [] := List.eq_nil_of_length_eq_zero h
    subst this
    exact List.nodup_nil
  | n + 1, l, h, hd => by
    have hne : l ≠ [] := fun e => by rw [e] at h; cases h
    have e := List.dropLast_concat_getLast hne
    have hl : l.dropLast.length = n := by rw [List.length_dropLast]; omega
    have le := SetT.dd_le n _ hl
    rw [← e, SetT.dd_snoc] at hd
    unfold SetT.put1 at hd
    split at hd
    · omega
    · rename_i hx
      rw [List.length_append, List.length_singleton] at hd
      have ih := dd_full n _ hl (by omega)
      rw [mem_dd' n _ hl] at hx
      rw [← e, List.nodup_append]
      refine ⟨ih, by simp, fun a ha b hb z => ?_⟩
      rw [List.mem_singleton] at hb
      rw [z, hb] at ha
      exact hx ha
theorem dd_lt {l : List Str} : ((SetT.dd l).length < l.length) ↔ ¬ l.Nodup := by
  have le := SetT.dd_le _ l rfl
  constructor
  · intro h nd
    rw [SetT.dd_nodup _ l rfl nd] at h
    omega
  · intro h
    by_cases c : (SetT.dd l).length = l.length
    · exact absurd (dd_full _ l rfl c) h
    · omega
/-- the words of a text's first row -/
def nmRow (row : Str) : List Str := if row.length = 0 then [] else Txt.split row " "
def okN (ws : List Str) : Bool := decide ws.Nodup && ws.all nmB
theorem ok_nd {ws : List Str} (h : okN ws = true) : ws.Nodup := by
  unfold okN at h
  rw [Bool.and_eq_true] at h
  exact of_decide_eq_true h.1
/-- going on word by word -/
def goN : List Str → List Str → Bool
  | _, [] => true
  | seen, x :: r => if (!nmB x || decide (x ∈ seen)) = true then false else goN (seen ++ [x]) r
theorem go_at {xs : List Str} {i : Nat} {x : Str} (h : xs[i]? = some x) : goN (xs.take i) (xs.drop i) = if (!nmB x || decide (x ∈ xs.take i)) = true then false else goN (xs.take (i + 1)) (xs.drop (i + 1)) := by
  have hi := (List.getElem?_eq_some_iff.mp h).1
  have e1 : xs.drop i = x :: xs.drop (i + 1) := by rw [List.drop_eq_getElem_cons hi, (List.getElem?_eq_some_iff.mp h).2]
  have e2 : xs.take (i + 1) = xs.take i ++ [x] := by rw [List.take_succ, h]; rfl
  rw [e1, e2]
  rfl
theorem go_end {xs : List Str} : goN (xs.take xs.length) (xs.drop xs.length) = true := by rw [List.drop_length]; rfl
theorem go_iff : ∀ {xs seen : List Str}, seen.Nodup → (goN seen xs = true ↔ (seen ++ xs).Nodup ∧ ∀ x ∈ xs, nmB x = true)
  | [], seen, h => by
    rw [List.append_nil]
    exact ⟨fun _ => ⟨h, fun x hx => by cases hx⟩, fun _ => rfl⟩
  | x :: r, seen, h => by
    unfold goN
    by_cases c1 : nmB x = true
    · by_cases c2 : x ∈ seen
      · rw [if_pos (by simp [c2])]
        constructor
        · intro z
          cases z
        · intro ⟨z, _⟩
          exact absurd rfl ((List.nodup_append.mp z).2.2 x c2 x (List.mem_cons_self ..))
      · rw [if_neg (by simp [c1, c2])]
        have nd : (seen ++ [x]).Nodup := by
          rw [List.nodup_append]
          refine ⟨h, by simp, fun a ha b hb z => ?_⟩
          rw [List.mem_singleton] at hb
          rw [z, hb] at ha
          exact c2 ha
        rw [go_iff nd, List.append_assoc]
        constructor
        · intro ⟨z1, z2⟩
          exact ⟨z1, fun y hy => (List.mem_cons.mp hy).elim (fun e => e ▸ c1) (z2 y)⟩
        · intro ⟨z1, z2⟩
          exact ⟨z1, fun y hy => z2 y (List.mem_cons_of_mem _ hy)⟩
    · rw [if_pos (by simp [c1])]
      constructor
      · intro z
        cases z
      · intro ⟨_, z⟩
        exact absurd (z x (List.mem_cons_self ..)) c1
theorem go_ok (ws : List Str) : goN [] ws = okN ws := by
  have z := go_iff (xs := ws) (seen := []) List.nodup_nil
  rw [List.nil_append] at z
  unfold okN
  by_cases c : goN [] ws = true
  · obtain ⟨h1, h2⟩ := z.mp c
    rw [c, decide_eq_true h1, List.all_eq_true.mpr h2]
    rfl
  · have c2 : ¬ ((decide ws.Nodup && ws.all nmB) = true) := fun k => by
      rw [Bool.and_eq_true] at k
      exact c (z.mpr ⟨of_decide_eq_true k.1, List.all_eq_true.mp k.2⟩)
    rw [Bool.eq_false_iff.mpr c, Bool.eq_false_iff.mpr c2]
/-- the tie of a row -/
def prL (p : SS) : List Str := [p.1, p.2]
theorem prL_inj {p q : SS} (h : prL p = prL q) : p = q := by
  unfold prL at h
  injection h with h1 h2
  injection h2 with h2 _
  exact Prod.ext h1 h2
theorem mem_prL {p : SS} {l : List SS} : prL p ∈ l.map prL ↔ p ∈ l := by
  rw [List.mem_map]
  exact ⟨fun ⟨q, hq, e⟩ => prL_inj e ▸ hq, fun h => ⟨p, h, rfl⟩⟩
def lexP (a b : Str) : SS := if a.cps.toList < b.cps.toList then (a, b) else (b, a)
theorem lexP_lt {a b : Str} (h : a ≠ b) : sLt (lexP a b).1 (lexP a b).2 := by
  unfold lexP
  split
  · assumption
  · rename_i k
    by_cases k2 : sLt b a
    · exact k2
    · exact absurd (sLt_tot k k2) h
theorem lexP_or (a b : Str) : ([a, b] = [(lexP a b).1, (lexP a b).2]) ∨ ([a, b] = [(lexP a b).2, (lexP a b).1]) := by
  unfold lexP
  split
  · exact .inl rfl
  · exact .inr rfl
theorem lexP_mem {a b : Str} {m : Str → Bool} (ha : m a = true) (hb : m b = true) : m (lexP a b).1 = true ∧ m (lexP a b).2 = true := by
  unfold lexP
  split
  · exact ⟨ha, hb⟩
  · exact ⟨hb, ha⟩
def tieW (m : Str → Bool) : List Str → Option SS
  | [a, b] => if (m a && m b && !decide (a = b)) = true then some (lexP a b) else none
  | _ => none
def tieOf (m : Str → Bool) (row : Str) : Option SS := tieW m (Txt.split row " ")
theorem tieW_two (m : Str → Bool) (a b : Str) : tieW m [a, b] = if (m a && m b && !decide (a = b)) = true then some (lexP a b) else none := rfl
theorem tieW_len {m : Str → Bool} {ws : List Str} (h : ws.length ≠ 2) : tieW m ws = none := by
  unfold tieW
  split
  · exact absurd rfl h
  · rfl
/-- sorted words that are a tie -/
theorem tie_some {m : Str → Bool} {ws ys : List Str} {p : SS} (h : tieW m ws = some p) (hp : ys.Perm ws) (hs : sortedS ys = true) : ys = prL p ∧ m p.1 = true ∧ m p.2 = true ∧ sLt p.1 p.2 := by
  unfold tieW at h
  split at h
  · rename_i a b
    split at h
    · rename_i c
      cases h
      simp only [Bool.and_eq_true, Bool.not_eq_true', decide_eq_false_iff_not] at c
      have l := lexP_lt c.2
      exact ⟨two_sorted l (lexP_or a b) hp hs, (lexP_mem c.1.1 c.1.2).1, (lexP_mem c.1.1 c.1.2).2, l⟩
    · cases h
  · cases h
/-- sorted words that are none -/
theorem tie_none {m : Str → Bool} {ws ys : List Str} (h : tieW m ws = none) (hp : ys.Perm ws) {p : SS} (h1 : m p.1 = true) (h2 : m p.2 = true) (h3 : sLt p.1 p.2) : ys ≠ prL p := by
  intro e
  subst e
  have hl := hp.length_eq
  match ws, hl with
  | [a, b], _ =>
    unfold tieW at h
    have ha := hp.symm.mem_iff.mp (List.mem_cons_self (a := a) (l := [b]))
    have hb := hp.symm.mem_iff.mp (List.mem_cons_of_mem a (List.mem_cons_self (a := b) (l := [])))
    have hm : ∀ x, x ∈ prL p → m x = true := fun x hx => by
      simp only [prL, List.mem_cons, List.not_mem_nil, or_false] at hx
      rcases hx with rfl | rfl
      · exact h1
      · exact h2
    have ne : a ≠ b := fun e => by
      subst e
      have c1 := hp.mem_iff.mp (show p.1 ∈ prL p from by simp [prL])
      have c2 := hp.mem_iff.mp (show p.2 ∈ prL p from by simp [prL])
      simp only [List.mem_cons, List.not_mem_nil, or_false, or_self] at c1 c2
      rw [c1, c2] at h3
      exact sLt_irr _ h3
    dsimp only at h
    rw [if_pos (by simp [hm a ha, hm b hb, ne])] at h
    cases h
/-- the rows behind the first one, one by one -/
def rdT (m : Str → Bool) : List SS → List Str → Nat → Nat ⊕ List SS
  | acc, [], _ => .inr acc
  | acc, r :: rs, k => match tieOf m r with
    | none => .inl k
    | some p => if decide (p ∈ acc) = true then .inl k else rdT m (acc ++ [p]) rs (k + 1)
theorem rd_at {m : Str → Bool} {acc : List SS} {rows : List Str} {i k : Nat} {r : Str} (h : rows[i]? = some r) : rdT m acc (rows.drop i) k = match tieOf m r with
    | none => .inl k
    | some p => if decide (p ∈ acc) = true then .inl k else rdT m (acc ++ [p]) (rows.drop (i + 1)) (k + 1) := by
  have hi := (List.getElem?_eq_some_iff.mp h).1
  have e1 : rows.drop i = r :: rows.drop (i + 1) := by rw [List.drop_eq_getElem_cons hi, (List.getElem?_eq_some_iff.mp h).2]
  rw [e1]
  rfl
theorem rd_end {m : Str → Bool} {acc : List SS} {rows : List Str} {k : Nat} : rdT m acc (rows.drop rows.length) k = .inr acc := by rw [List.drop_length]; rfl
theorem rd_nodup {m : Str → Bool} : ∀ {rows : List Str} {acc : List SS} {k : Nat} {ps : List SS}, acc.Nodup → rdT m acc rows k = .inr ps → ps.Nodup
  | [], acc, k, ps, h, e => by
    injection e with e
    exact e ▸ h
  | r :: rs, acc, k, ps, h, e => by
    unfold rdT at e
    split at e
    · cases e
    · rename_i p _
      split at e
      · cases e
      · rename_i c
        refine rd_nodup (rows := rs) ?_ e
        rw [List.nodup_append]
        refine ⟨h, by simp, fun a ha b hb z => ?_⟩
        rw [List.mem_singleton] at hb
        rw [z, hb] at ha
        exact c (decide_eq_true ha)
theorem rd_le {m : Str → Bool} : ∀ {rows : List Str} {acc : List SS} {k j : Nat}, rdT m acc rows k = .inl j → j ≤ k + rows.length
  | [], acc, k, j, e => by cases e
  | r :: rs, acc, k, j, e => by
    unfold rdT at e
    rw [List.length_cons]
    split at e
    · injection e with e; omega
    · split at e
      · injection e with e; omega
      · have := rd_le (rows := rs) e
        omega
/-- the whole text -/
def rd (text : Str) : Nat ⊕ (List Str × List SS) :=
  match Txt.split text "\n" with
  | [] => .inl 0
  | row0 :: rows => if okN (nmRow row0) = true then (match rdT (fun x => decide (x ∈ nmRow row0)) [] rows 1 with
    | .inl k => .inl k
    | .inr ps => .inr (nmRow row0, ps)) else .inl 0
/-! ### any text, split -/
theorem spl_len (S : List Nat) : ∀ (l : List Nat) (k : Nat) (acc : List Nat), TL.spl S k acc l ≠ [] ∧ (TL.spl S k acc l).length ≤ l.length + 1 ∧ ∀ p ∈ TL.spl S k acc l, p.length ≤ acc.length + l.length
  | [], k, acc => by
    rw [TL.spl_nil]
    exact ⟨by simp, Nat.le_refl _, fun p hp => by rw [List.mem_singleton.mp hp]; exact Nat.le_add_right _ _⟩
  | c :: r, 0, acc => by
    cases h : TL.pre S (c :: r) with
    | true =>
      rw [TL.spl_hit h]
      obtain ⟨h1, h2, h3⟩ := spl_len S r (S.length - 1) []
      refine ⟨by simp, by rw [List.length_cons, List.length_cons]; omega, fun p hp => ?_⟩
      rw [List.length_cons]
      rcases List.mem_cons.mp hp with rfl | hp
      · omega
      · have := h3 p hp
        rw [List.length_nil] at this
        omega
    | false =>
      rw [TL.spl_miss h]
      obtain ⟨h1, h2, h3⟩ := spl_len S r 0 (acc ++ [c])
      refine ⟨h1, by rw [List.length_cons]; omega, fun p hp => ?_⟩
      have := h3 p hp
      rw [List.length_append, List.length_singleton] at this
      rw [List.length_cons]
      omega
  | c :: r, k + 1, acc => by
    show TL.spl S k acc r ≠ [] ∧ _
    obtain ⟨h1, h2, h3⟩ := spl_len S r k acc
    refine ⟨h1, ?_, fun p hp => ?_⟩
    · show (TL.spl S k acc r).length ≤ _
      rw [List.length_cons]
      omega
    · have := h3 p hp
      rw [List.length_cons]
      omega
theorem split_any {y : Str} (hy : TL.tl y ≠ []) (hk : y.cps.all (· < 256) = true) (x : Str) : Txt.split x y ≠ [] ∧ (Txt.split x y).length ≤ x.length + 1 ∧ ∀ p ∈ Txt.split x y, p.length ≤ x.length := by
  have e := TL.split_spl x y hy (TL.kind_ok hk)
  obtain ⟨h1, h2, h3⟩ := spl_len (TL.tl y) (TL.tl x) 0 []
  rw [← e] at h1 h2 h3
  rw [List.length_map] at h2
  refine ⟨fun z => h1 (by rw [z]; rfl), h2, fun p hp => ?_⟩
  have := h3 (TL.tl p) (List.mem_map.mpr ⟨p, hp, rfl⟩)
  rw [List.length_nil, Nat.zero_add] at this
  exact this
theorem split_nl (x : Str) : Txt.split x "\n" ≠ [] ∧ (Txt.split x "\n").length ≤ x.length + 1 ∧ ∀ p ∈ Txt.split x "\n", p.length ≤ x.length := split_any (by rw [tl_nl]; simp) (by decide +kernel) x
theorem split_sp (x : Str) : Txt.split x " " ≠ [] ∧ (Txt.split x " ").length ≤ x.length + 1 ∧ ∀ p ∈ Txt.split x " ", p.length ≤ x.length := split_any (by rw [tl_sp]; simp) (by decide +kernel) x
/-! ### how long a text is that rows make -/
def totL (ws : List Str) : Nat := (ws.map (·.length)).sum + ws.length
theorem spl_sum (s : Nat) : ∀ (l acc : List Nat), ((TL.spl [s] 0 acc l).map List.length).sum + (TL.spl [s] 0 acc l).length = acc.length + l.length + 1
  | [], acc => by
    rw [TL.spl_nil]
    simp
  | c :: r, acc => by
    cases h : TL.pre [s] (c :: r) with
    | true =>
      rw [TL.spl_hit h]
      have ih := spl_sum s r []
      rw [show [s].length - 1 = 0 from rfl, List.map_cons, List.sum_cons, List.length_cons, List.length_cons]
      rw [List.length_nil] at ih
      omega
    | false =>
      rw [TL.spl_miss h, spl_sum s r (acc ++ [c]), List.length_append, List.length_singleton, List.length_cons]
      omega
theorem split_tot {y : Str} {s : Nat} (hy : TL.tl y = [s]) (hk : y.cps.all (· < 256) = true) (x : Str) : totL (Txt.split x y) = x.length + 1 := by
  have e := TL.split_spl x y (by rw [hy]; simp) (TL.kind_ok hk)
  have h := spl_sum s (TL.tl x) []
  rw [← hy, ← e, List.map_map, List.length_map, List.length_nil, Nat.zero_add] at h
  exact h
theorem tot_nl (x : Str) : totL (Txt.split x "\n") = x.length + 1 := split_tot tl_nl (by decide +kernel) x
theorem tot_sp (x : Str) : totL (Txt.split x " ") = x.length + 1 := split_tot tl_sp (by decide +kernel) x
theorem join_tot (y : Str) (hy : y.length = 1) (ws : List Str) : (Txt.join y ws).length ≤ totL ws := by
  have e : (Txt.join y ws).length = (ws.map (·.length)).sum + (ws.length - 1) * y.length := size_glued y ws
  rw [e, hy]
  unfold totL
  omega
theorem tot_app (a b : List Str) : totL (a ++ b) = totL a + totL b := by
  unfold totL
  rw [List.map_append, List.sum_append, List.length_append]
  omega
theorem tot_cons (x : Str) (b : List Str) : totL (x :: b) = x.length + 1 + totL b := by
  unfold totL
  rw [List.map_cons, List.sum_cons, List.length_cons]
  omega
theorem tot_ins (ws : List Str) (k : Nat) (x : Str) : totL (ws.take k ++ x :: ws.drop k) = totL ws + x.length + 1 := by
  rw [tot_app, tot_cons]
  have := tot_app (ws.take k) (ws.drop k)
  rw [List.take_append_drop] at this
  omega
theorem tot_set : ∀ (ws : List Str) (k : Nat) (x : Str), totL (ws.set k x) ≤ totL ws + x.length
  | [], k, x => by simp [totL]
  | w :: r, 0, x => by rw [List.set_cons_zero, tot_cons, tot_cons]; omega
  | w :: r, k + 1, x => by
    have := tot_set r k x
    rw [List.set_cons_succ, tot_cons, tot_cons]
    omega
theorem tot_erase : ∀ (ws : List Str) (k : Nat), totL (ws.eraseIdx k) ≤ totL ws
  | [], k => by simp [totL]
  | w :: r, 0 => by rw [List.eraseIdx_cons_zero, tot_cons]; omega
  | w :: r, k + 1 => by
    have := tot_erase r k
    rw [List.eraseIdx_cons_succ, tot_cons, tot_cons]
    omega
theorem tot_rev (ws : List Str) : totL ws.reverse = totL ws := by
  unfold totL
  rw [List.map_reverse, List.length_reverse, List.sum_reverse]
theorem nm_len {row : Str} (h : (Txt.split row " ").length ≤ 14) : (nmRow row).length ≤ 14 := by
  unfold nmRow
  split
  · exact Nat.zero_le _
  · exact h
theorem nm_mem {row x : Str} (h : x ∈ nmRow row) : x.length ≤ row.length := by
  unfold nmRow at h
  split at h
  · cases h
  · exact (split_sp row).2.2 x h
theorem str_nil {x : Str} : (x = ("" : Str)) ↔ x.length = 0 := by
  constructor
  · rintro rfl
    decide +kernel
  · intro h
    cases x with
    | mk cps => cases cps with
      | mk l => cases l with
        | nil => decide +kernel
        | cons _ _ => cases h
/-- what the law goes through: the words, once or not at all -/
theorem rep_row (row : Str) : (List.replicate ((if (!decide (V.str row = V.str "")) = true then (1 : Int) else 0)).toNat ((Txt.split row " ").map V.str)).flatten = (nmRow row).map V.str := by
  unfold nmRow
  by_cases h : row.length = 0
  · have e : row = ("" : Str) := str_nil.mpr h
    subst e
    simp
    decide +kernel
  · have e : row ≠ ("" : Str) := fun z => h (str_nil.mp z)
    rw [if_neg h, decide_eq_false (fun z => e (V.str.inj z))]
    simp
/-! ### the law's list of ties: lists of two -/
structure Rl (H1 : Hp) (tl : Addr) (acc : List SS) (H : Hp) : Prop where
  s : Same H1 H
  v : ∃ vs, H tl = some (.lst vs) ∧ Paired (fun v p => ∃ a, v = V.ref a ∧ H a = some (.lst ((prL p).map V.str)) ∧ a ≠ tl) vs acc
section
variable {H1 H : Hp} {tl : Addr} {acc : List SS}
theorem Rl.start (n : H1 tl = none) : Rl H1 tl [] (upd H1 tl (.lst [])) := ⟨same_new n _, [], upd_same, .nil⟩
theorem Rl.same {H' : Hp} (h : Rl H1 tl acc H) (s : Same H H') : Rl H1 tl acc H' := by
  obtain ⟨vs, h1, h2⟩ := h.v
  exact ⟨h.s.trans s, vs, s _ _ h1, L2.Paired.mapP h2 fun v p ⟨a, e, k, n⟩ => ⟨a, e, s _ _ k, n⟩⟩
theorem Rl.new (h : Rl H1 tl acc H) {p : Addr} (n : H p = none) (o : HO) : Rl H1 tl acc (upd H p o) := h.same (same_new n o)
theorem Rl.add (h : Rl H1 tl acc H) (n : H1 tl = none) {vs : List V} (hv : H tl = some (.lst vs)) {a : Addr} {p : SS} (ha : H a = some (.lst ((prL p).map V.str))) (na : a ≠ tl) : Rl H1 tl (acc ++ [p]) (upd H tl (.lst (vs ++ [.ref a]))) := by
  obtain ⟨vs', h1, h2⟩ := h.v
  rw [hv] at h1
  cases h1
  exact ⟨fun b o e => by rw [upd_ne (ne_of_none e n)]; exact h.s b o e, _, upd_same, Paired.snoc (L2.Paired.mapP h2 fun v p ⟨a, e, k, n⟩ => ⟨a, e, by rw [upd_ne n]; exact k, n⟩) ⟨a, rfl, by rw [upd_ne na]; exact ha, na⟩⟩
theorem Rl.rows {K : PySem.W.Frag} (h : Rl H1 tl acc H) : ∃ vs, H tl = some (.lst vs) ∧ Paired (IsRowL K H) vs (acc.map prL) := by
  obtain ⟨vs, h1, h2⟩ := h.v
  refine ⟨vs, h1, ?_⟩
  clear h1 h
  induction h2 with
  | nil => exact .nil
  | cons r _ ih =>
    obtain ⟨a, e, k, _⟩ := r
    exact .cons ⟨a, e, SqL.of k⟩ ih
end
end Ym

/-! Going through all greatest rows: rows, names left, names out; a pivot. -/
namespace Zm
open PySem L2 Wd Wm Km Bm Gm Hm Fm Fn PyProof.Rows
def Clq (g : Str → Str → Bool) (xs : List Str) : Prop := ∀ a ∈ xs, ∀ b ∈ xs, a ≠ b → g a b = true
structure Mxc (names : List Str) (g : Str → Str → Bool) (C : List Str) : Prop where
  sub : ∀ x ∈ C, x ∈ names
  clq : Clq g C
  max : ∀ x ∈ names, x ∉ C → ∃ a ∈ C, g x a = false
structure Has (names : List Str) (g : Str → Str → Bool) (R P C : List Str) : Prop where
  m : Mxc names g C
  r : ∀ a ∈ R, a ∈ C
  p : ∀ a ∈ C, a ∈ R ∨ a ∈ P
structure Bk (names : List Str) (g : Str → Str → Bool) (R P X : List Str) : Prop where
  rn : ∀ a ∈ R, a ∈ names
  rc : Clq g R
  pn : ∀ a ∈ P, a ∈ names ∧ a ∉ R ∧ ∀ b ∈ R, g a b = true
  xn : ∀ a ∈ X, a ∈ names ∧ a ∉ R ∧ ∀ b ∈ R, g a b = true
  all : ∀ a ∈ names, a ∉ R → (∀ b ∈ R, g a b = true) → a ∈ P ∨ a ∈ X
/-- two names that are one are not tied to one another, and it is the same from both sides -/
structure Gr (g : Str → Str → Bool) : Prop where
  sy : ∀ a b, g a b = g b a
  ir : ∀ a, g a a = false
section
variable {names : List Str} {g : Str → Str → Bool} {R P X C : List Str}
theorem Mxc.congr {D : List Str} (h : Mxc names g C) (e : ∀ x, x ∈ C ↔ x ∈ D) : Mxc names g D :=
  ⟨fun x hx => h.sub x ((e x).mpr hx), fun a ha b hb ne => h.clq a ((e a).mpr ha) b ((e b).mpr hb) ne, fun x hx hn => by
    obtain ⟨a, ha, z⟩ := h.max x hx fun k => hn ((e x).mp k)
    exact ⟨a, (e a).mp ha, z⟩⟩
theorem Bk.start : Bk names g [] names [] := ⟨(fun a h => by cases h), (fun a h => by cases h), (fun a h => ⟨h, by simp, fun b h => by cases h⟩), (fun a h => by cases h), fun a h _ _ => .inl h⟩
/-- with a name, or without it -/
theorem Bk.step (h : Bk names g R P X) (G : Gr g) {v : Str} (hv : v ∈ P) : Has names g R P C ↔ (Has names g (R ++ [v]) (P.filter (g v)) C ∨ Has names g R (P.filter fun x => !decide (x = v)) C) := by
  constructor
  · intro k
    by_cases c : v ∈ C
    · refine .inl ⟨k.m, fun a ha => ?_, fun a ha => ?_⟩
      · rcases List.mem_append.mp ha with z | z
        · exact k.r a z
        · rw [List.mem_singleton.mp z]; exact c
      · by_cases e : a = v
        · exact .inl (by rw [e]; simp)
        · rcases k.p a ha with z | z
          · exact .inl (List.mem_append_left _ z)
          · exact .inr (List.mem_filter.mpr ⟨z, k.m.clq v c a ha fun q => e q.symm⟩)
    · refine .inr ⟨k.m, k.r, fun a ha => (k.p a ha).imp_right fun z => List.mem_filter.mpr ⟨z, ?_⟩⟩
      have : a ≠ v := fun e => c (e ▸ ha)
      simp [this]
  · rintro (k | k)
    · refine ⟨k.m, fun a ha => k.r a (List.mem_append_left _ ha), fun a ha => ?_⟩
      rcases k.p a ha with z | z
      · rcases List.mem_append.mp z with z | z
        · exact .inl z
        · rw [List.mem_singleton.mp z]; exact .inr hv
      · exact .inr (List.mem_filter.mp z).1
    · exact ⟨k.m, k.r, fun a ha => (k.p a ha).imp_right fun z => (List.mem_filter.mp z).1⟩
theorem Bk.next (h : Bk names g R P X) {v : Str} (hv : v ∈ P) : Bk names g R (P.filter fun x => !decide (x = v)) (X ++ [v]) := by
  refine ⟨h.rn, h.rc, fun a ha => h.pn a (List.mem_filter.mp ha).1, fun a ha => ?_, fun a ha hn hR => ?_⟩
  · rcases List.mem_append.mp ha with z | z
    · exact h.xn a z
    · rw [List.mem_singleton.mp z]; exact h.pn v hv
  · by_cases e : a = v
    · exact .inr (by rw [e]; simp)
    · exact (h.all a ha hn hR).imp (fun z => List.mem_filter.mpr ⟨z, by simp [e]⟩) fun z => List.mem_append_left _ z
open Classical in
/-- 1 where the row comes of it -/
noncomputable def ind (names : List Str) (g : Str → Str → Bool) (R P C : List Str) : Nat := if Has names g R P C then 1 else 0
end
/-- a list that tells all greatest rows, in order -/
structure AllOf (names : List Str) (g : Str → Str → Bool) (L : List (List Str)) : Prop where
  mem : ∀ r, r ∈ L ↔ r.Sublist names ∧ Mxc names g r
  asc : L.Pairwise fun a b => LS.lexS a b = true
/-! ### the order of tuples of texts -/
theorem lex_irr : ∀ a : List Str, LS.lexS a a = false
  | [] => rfl
  | x :: r => by rw [LS.lexS_cons, if_pos rfl]; exact lex_irr r
theorem lex_tr : ∀ {a b c : List Str}, LS.lexS a b = true → LS.lexS b c = true → LS.lexS a c = true
  | [], b, [], h, k => by cases b <;> cases k
  | [], b, z :: c, h, k => rfl
  | x :: a, [], c, h, k => by cases h
  | x :: a, y :: b, [], h, k => by cases k
  | x :: a, y :: b, z :: c, h, k => by
    rw [LS.lexS_cons] at h k ⊢
    by_cases e1 : x = y
    · subst e1
      rw [if_pos rfl] at h
      by_cases e2 : x = z
      · rw [if_pos e2] at k ⊢
        exact lex_tr h k
      · rw [if_neg e2] at k ⊢
        exact k
    · rw [if_neg e1] at h
      by_cases e2 : y = z
      · subst e2
        rw [if_neg e1]
        exact h
      · rw [if_neg e2] at k
        have l : sLt x z := sLt_trans (of_decide_eq_true h) (of_decide_eq_true k)
        rw [if_neg (sLt_ne l)]
        exact decide_eq_true l
theorem lex_ext : ∀ {L M : List (List Str)}, L.Pairwise (fun a b => LS.lexS a b = true) → M.Pairwise (fun a b => LS.lexS a b = true) → (∀ r, r ∈ L ↔ r ∈ M) → L = M
  | [], [], _, _, _ => rfl
  | [], m :: M, _, _, h => absurd ((h m).mpr (List.mem_cons_self ..)) (by simp)
  | l :: L, [], _, _, h => absurd ((h l).mp (List.mem_cons_self ..)) (by simp)
  | l :: L, m :: M, hL, hM, h => by
    obtain ⟨l1, l2⟩ := List.pairwise_cons.mp hL
    obtain ⟨m1, m2⟩ := List.pairwise_cons.mp hM
    have e : l = m := by
      rcases List.mem_cons.mp ((h l).mp (List.mem_cons_self ..)) with z | z
      · exact z
      · rcases List.mem_cons.mp ((h m).mpr (List.mem_cons_self ..)) with y | y
        · exact y.symm
        · have := lex_tr (l1 m y) (m1 l z)
          rw [lex_irr] at this
          cases this
    subst e
    rw [lex_ext l2 m2 fun r => ?_]
    constructor
    · intro z
      rcases List.mem_cons.mp ((h r).mp (List.mem_cons_of_mem _ z)) with y | y
      · have := l1 r z
        rw [y, lex_irr] at this
        cases this
      · exact y
    · intro z
      rcases List.mem_cons.mp ((h r).mpr (List.mem_cons_of_mem _ z)) with y | y
      · have := m1 r z
        rw [y, lex_irr] at this
        cases this
      · exact y
theorem AllOf.uniq {names : List Str} {g : Str → Str → Bool} {L M : List (List Str)} (h : AllOf names g L) (k : AllOf names g M) : L = M := lex_ext h.asc k.asc fun r => (h.mem r).trans (k.mem r).symm
end Zm

/-! One row behind another: each greatest row but the first comes of filling from one ahead of it. -/
namespace Zm
open PySem L2 Wd Wm Km Bm Gm Hm Fm Fn PyProof.Rows
section
variable {names : List Str} {g : Str → Str → Bool}
/-- names put in, in order, where they go with all -/
def stG (g : Str → Str → Bool) (h : List Str) (x : Str) : List Str := if (!decide (x ∈ h) && h.all (g x)) = true then h ++ [x] else h
def fillG (g : Str → Str → Bool) (ns h : List Str) : List Str := ns.foldl (stG g) h
theorem stG_mem {h : List Str} {x y : Str} : y ∈ stG g h x ↔ y ∈ h ∨ (y = x ∧ ∀ a ∈ h, g x a = true) := by
  unfold stG
  by_cases c : (!decide (x ∈ h) && h.all (g x)) = true
  · rw [if_pos c]
    rw [Bool.and_eq_true] at c
    rw [List.mem_append, List.mem_singleton]
    exact ⟨fun z => z.imp_right fun e => ⟨e, List.all_eq_true.mp c.2⟩, fun z => z.imp_right fun e => e.1⟩
  · rw [if_neg c]
    refine ⟨.inl, fun z => z.elim id fun ⟨e, k⟩ => ?_⟩
    by_cases m : x ∈ h
    · rw [e]; exact m
    · exact absurd (by rw [Bool.and_eq_true]; exact ⟨by simp [m], List.all_eq_true.mpr k⟩) c
theorem fillG_snoc (ns h : List Str) (x : Str) : fillG g (ns ++ [x]) h = stG g (fillG g ns h) x := by unfold fillG; rw [List.foldl_append]; rfl
theorem fillG_sup : ∀ {ns h : List Str} {y : Str}, y ∈ h → y ∈ fillG g ns h
  | [], h, y, k => k
  | x :: r, h, y, k => fillG_sup (ns := r) (stG_mem.mpr (.inl k))
theorem fillG_src : ∀ {ns h : List Str} {y : Str}, y ∈ fillG g ns h → y ∈ h ∨ y ∈ ns
  | [], h, y, k => .inl k
  | x :: r, h, y, k => by
    rcases fillG_src (ns := r) k with z | z
    · exact (stG_mem.mp z).imp_right fun e => by rw [e.1]; exact List.mem_cons_self ..
    · exact .inr (List.mem_cons_of_mem _ z)
theorem stG_clq (G : Gr g) {h : List Str} {x : Str} (c : Clq g h) : Clq g (stG g h x) := fun a ha b hb ne => by
  rcases stG_mem.mp ha with ha' | ⟨ea, ka⟩ <;> rcases stG_mem.mp hb with hb' | ⟨eb, kb⟩
  · exact c a ha' b hb' ne
  · rw [G.sy, eb]; exact kb a ha'
  · rw [ea]; exact ka b hb'
  · exact absurd (ea.trans eb.symm) ne
theorem fillG_clq (G : Gr g) : ∀ {ns h : List Str}, Clq g h → Clq g (fillG g ns h)
  | [], h, c => c
  | x :: r, h, c => fillG_clq G (ns := r) (stG_clq G c)
/-- what was gone through and is not in does not go with some that is in -/
theorem fillG_out : ∀ {ns h : List Str} {y : Str}, y ∈ ns → y ∉ fillG g ns h → ∃ a ∈ fillG g ns h, g y a = false
  | x :: r, h, y, hy, hn => by
    rcases List.mem_cons.mp hy with e | hy
    · subst e
      by_cases c : ∀ a ∈ h, g y a = true
      · exact absurd (fillG_sup (ns := r) (stG_mem.mpr (.inr ⟨rfl, c⟩))) hn
      · obtain ⟨a, ha⟩ := Classical.not_forall.mp c
        obtain ⟨ha, k⟩ := Classical.not_imp.mp ha
        exact ⟨a, fillG_sup (ns := r) (stG_mem.mpr (.inl ha)), Bool.eq_false_iff.mpr k⟩
    · exact fillG_out (ns := r) hy hn
theorem fillG_mxc (G : Gr g) {h : List Str} (sub : ∀ x ∈ h, x ∈ names) (c : Clq g h) : Mxc names g (fillG g names h) :=
  ⟨fun x hx => (fillG_src hx).elim (sub x) id, fillG_clq G c, fun x hx hn => fillG_out hx hn⟩
/-- a row that has the least name of those that are in one alone lies ahead -/
theorem lex_first : ∀ {T S : List Str} {d s : Str}, T.Pairwise sLt → S.Pairwise sLt → d ∈ T → d ∉ S → s ∈ S → sLt d s → (∀ y, sLt y d → (y ∈ T ↔ y ∈ S)) → LS.lexS T S = true
  | [], S, d, s, _, _, h, _, _, _, _ => by cases h
  | t :: T, [], d, s, _, _, _, _, h, _, _ => by cases h
  | t :: T, x :: S, d, s, hT, hS, hd, hn, hs, ds, al => by
    obtain ⟨t1, t2⟩ := List.pairwise_cons.mp hT
    obtain ⟨x1, x2⟩ := List.pairwise_cons.mp hS
    rw [LS.lexS_cons]
    by_cases e : t = x
    · subst e
      rw [if_pos rfl]
      have nd : d ≠ t := fun z => hn (by rw [z]; exact List.mem_cons_self ..)
      have dT : d ∈ T := (List.mem_cons.mp hd).resolve_left nd
      have td := t1 d dT
      have sS : s ∈ S := (List.mem_cons.mp hs).resolve_left fun z => sLt_irr _ (sLt_trans td (z ▸ ds))
      refine lex_first t2 x2 dT (fun z => hn (List.mem_cons_of_mem _ z)) sS ds fun y hy => ?_
      have := al y hy
      constructor
      · intro z
        have := this.mp (List.mem_cons_of_mem _ z)
        exact (List.mem_cons.mp this).resolve_left fun q => sLt_irr _ (q ▸ t1 y z)
      · intro z
        have := this.mpr (List.mem_cons_of_mem _ z)
        exact (List.mem_cons.mp this).resolve_left fun q => sLt_irr _ (q ▸ x1 y z)
    · rw [if_neg e]
      have key : sLt t x := by
        rcases List.mem_cons.mp hd with z | z
        · subst z
          rcases List.mem_cons.mp hs with q | q
          · exact q ▸ ds
          · by_cases k : sLt d x
            · exact k
            · by_cases k2 : sLt x d
              · have := (al x k2).mpr (List.mem_cons_self ..)
                rcases List.mem_cons.mp this with q2 | q2
                · exact absurd q2.symm e
                · exact absurd (sLt_trans k2 (t1 x q2)) (sLt_irr _)
              · exact absurd (sLt_tot k k2) e
        · have td := t1 d z
          have tS := (al t td).mp (List.mem_cons_self ..)
          rcases List.mem_cons.mp tS with q | q
          · exact absurd q e
          · have xt := x1 t q
            have xT := (al x (sLt_trans xt td)).mpr (List.mem_cons_self ..)
            rcases List.mem_cons.mp xT with q2 | q2
            · exact absurd q2.symm e
            · exact absurd (sLt_trans xt (t1 x q2)) (sLt_irr _)
      exact decide_eq_true key
/-- the rows of the first places -/
def upTo (names S : List Str) (k : Nat) : List Str := (names.take k).filter fun x => decide (x ∈ S)
theorem mem_upTo {S : List Str} {k : Nat} {x : Str} : x ∈ upTo names S k ↔ x ∈ names.take k ∧ x ∈ S := by unfold upTo; rw [List.mem_filter]; simp
/-- a last place with a property -/
theorem last_such (p : Nat → Prop) : ∀ n, (∃ k, k ≤ n ∧ p k) → ∃ k, k ≤ n ∧ p k ∧ ∀ j, k < j → j ≤ n → ¬ p j
  | 0, ⟨k, hk, h⟩ => ⟨k, hk, h, fun j h1 h2 => by omega⟩
  | n + 1, ⟨k, hk, h⟩ => by
    by_cases c : p (n + 1)
    · exact ⟨n + 1, Nat.le_refl _, c, fun j h1 h2 => by omega⟩
    · have hk' : k ≤ n := by
        by_cases e : k = n + 1
        · rw [e] at h; exact absurd h c
        · omega
      obtain ⟨k2, a, b, d⟩ := last_such p n ⟨k, hk', h⟩
      exact ⟨k2, by omega, b, fun j h1 h2 => by
        by_cases e : j = n + 1
        · rw [e]; exact c
        · exact d j h1 (by omega)⟩
/-- no name ahead of x, or x, can be put to the row -/
def Full (names : List Str) (g : Str → Str → Bool) (A : List Str) (x : Str) : Prop := ∀ y ∈ names, sLt y x → y ∉ A → ∃ a ∈ A, g y a = false
/-- what a told row gives for a name -/
def behindA (g : Str → Str → Bool) (T : List Str) (x : Str) : List Str := (T.filter fun y => decide (y.cps.toList < x.cps.toList) && g x y) ++ [x]
theorem mem_behind {T : List Str} {x y : Str} : y ∈ behindA g T x ↔ (y ∈ T ∧ sLt y x ∧ g x y = true) ∨ y = x := by
  unfold behindA
  rw [List.mem_append, List.mem_filter, List.mem_singleton, Bool.and_eq_true, decide_eq_true_eq]
  exact Iff.rfl
theorem take_lt {k : Nat} {x y : Str} (h : names.Pairwise sLt) (hx : names[k]? = some x) (hy : y ∈ names) : y ∈ names.take k ↔ sLt y x := by
  obtain ⟨j, hj⟩ := List.getElem?_of_mem hy
  constructor
  · intro z
    obtain ⟨i, hi⟩ := List.getElem?_of_mem z
    rw [List.getElem?_take] at hi
    split at hi
    · rename_i ik
      exact at_lt h ik hi hx
    · cases hi
  · intro z
    have jk : j < k := by
      by_cases c : j < k
      · exact c
      · by_cases e : j = k
        · subst e
          rw [hx] at hj
          cases hj
          exact absurd z (sLt_irr _)
        · exact absurd (sLt_trans z (at_lt h (by omega : k < j) hx hj)) (sLt_irr _)
    exact List.mem_of_getElem? (i := j) (by rw [List.getElem?_take, if_pos jk]; exact hj)
/-- each greatest row but the one that comes of filling () comes of filling what a row ahead of it gives for a name -/
theorem jyp (G : Gr g) (hs : names.Pairwise sLt) {S : List Str} (sub : S.Sublist names) (m : Mxc names g S) (ne : ¬ ∀ x, x ∈ fillG g names [] ↔ x ∈ S) :
    ∃ T x, T.Sublist names ∧ Mxc names g T ∧ LS.lexS T S = true ∧ x ∈ names ∧ x ∉ T ∧ Full names g (behindA g T x) x ∧ ∀ y, y ∈ fillG g names (behindA g T x) ↔ y ∈ S := by
  have hS : S.Pairwise sLt := hs.sublist sub
  -- where the first places of S are not greatest among the first places
  let bad : Nat → Prop := fun k => ∃ y ∈ names.take k, y ∉ S ∧ ∀ a ∈ S, a ∈ names.take k → g y a = true
  have hex : ∃ k, k ≤ names.length ∧ bad k := by
    by_cases c : ∃ k, k ≤ names.length ∧ bad k
    · exact c
    · refine absurd ?_ ne
      have good : ∀ k, k ≤ names.length → ¬ bad k := fun k hk z => c ⟨k, hk, z⟩
      have key : ∀ k, k ≤ names.length → ∀ y, y ∈ fillG g (names.take k) [] ↔ (y ∈ names.take k ∧ y ∈ S) := by
        intro k
        induction k with
        | zero => intro _ y; rw [List.take_zero]; simp [fillG]
        | succ k ih =>
          intro hk y
          obtain ⟨x, hx⟩ : ∃ x, names[k]? = some x := ⟨names[k], List.getElem?_eq_getElem (by omega)⟩
          have tk : names.take (k + 1) = names.take k ++ [x] := by rw [List.take_succ, hx]; rfl
          have ihk := ih (by omega)
          rw [tk, fillG_snoc, stG_mem, ihk, List.mem_append, List.mem_singleton]
          constructor
          · rintro (⟨a, b⟩ | ⟨rfl, k2⟩)
            · exact ⟨.inl a, b⟩
            · refine ⟨.inr rfl, ?_⟩
              by_cases ys : y ∈ S
              · exact ys
              · refine absurd ⟨y, by rw [tk]; simp, ys, fun a ha hat => ?_⟩ (good (k + 1) hk)
                rw [tk] at hat
                rcases List.mem_append.mp hat with z | z
                · exact k2 a ((ihk a).mpr ⟨z, ha⟩)
                · rw [List.mem_singleton.mp z] at ha; exact absurd ha ys
          · rintro ⟨a | rfl, b⟩
            · exact .inl ⟨a, b⟩
            · refine .inr ⟨rfl, fun a ha => ?_⟩
              obtain ⟨a1, a2⟩ := (ihk a).mp ha
              refine m.clq y b a a2 fun e => ?_
              rw [← e] at a1
              exact sLt_irr _ ((take_lt hs hx (m.sub y b)).mp a1)
      intro x
      have := key names.length (Nat.le_refl _) x
      rw [List.take_length] at this
      rw [this]
      exact ⟨fun z => z.2, fun z => ⟨m.sub x z, z⟩⟩
  obtain ⟨k, hk, ⟨s0, s0t, s0S, s0g⟩, hgood⟩ := last_such bad names.length hex
  have hkl : k < names.length := by
    by_cases e : k = names.length
    · subst e
      rw [List.take_length] at s0t s0g
      obtain ⟨a, ha, z⟩ := m.max s0 s0t s0S
      rw [s0g a ha (m.sub a ha)] at z
      cases z
    · omega
  obtain ⟨x, hx⟩ : ∃ x, names[k]? = some x := ⟨names[k], List.getElem?_eq_getElem hkl⟩
  have xn : x ∈ names := List.mem_of_getElem? hx
  have tk : names.take (k + 1) = names.take k ++ [x] := by rw [List.take_succ, hx]; rfl
  have good1 := hgood (k + 1) (by omega) (by omega)
  -- x is in S
  have xS : x ∈ S := by
    by_cases c : x ∈ S
    · exact c
    · refine absurd ⟨s0, by rw [tk]; exact List.mem_append_left _ s0t, s0S, fun a ha hat => ?_⟩ good1
      rw [tk] at hat
      rcases List.mem_append.mp hat with z | z
      · exact s0g a ha z
      · rw [List.mem_singleton.mp z] at ha; exact absurd ha c
  -- what goes with the first places of S does not go with x
  have notx : ∀ y ∈ names.take k, y ∉ S → (∀ a ∈ S, a ∈ names.take k → g y a = true) → g y x = false := fun y hy yS hyg => by
    cases c : g y x
    · rfl
    · refine absurd ⟨y, by rw [tk]; exact List.mem_append_left _ hy, yS, fun a ha hat => ?_⟩ good1
      rw [tk] at hat
      rcases List.mem_append.mp hat with z | z
      · exact hyg a ha z
      · rw [List.mem_singleton.mp z]; exact c
  -- T
  have cS : Clq g (upTo names S k) := fun a ha b hb ne => m.clq a (mem_upTo.mp ha).2 b (mem_upTo.mp hb).2 ne
  generalize hB : fillG g (names.take k) (upTo names S k) = B
  have Bsup : ∀ y, y ∈ upTo names S k → y ∈ B := fun y hy => by rw [← hB]; exact fillG_sup hy
  have Bsrc : ∀ y ∈ B, y ∈ names.take k := fun y hy => by
    rw [← hB] at hy
    exact (fillG_src hy).elim (fun z => (mem_upTo.mp z).1) id
  have Bclq : Clq g B := by rw [← hB]; exact fillG_clq G cS
  have Bout : ∀ y ∈ names.take k, y ∉ B → ∃ a ∈ B, g y a = false := fun y hy hn => by
    rw [← hB] at hn ⊢
    exact fillG_out hy hn
  have Bsub : ∀ y ∈ B, y ∈ names := fun y hy => List.mem_of_mem_take (Bsrc y hy)
  have mT := fillG_mxc (names := names) G Bsub Bclq
  generalize hT0 : fillG g names B = T0 at mT
  have T0sup : ∀ y ∈ B, y ∈ T0 := fun y hy => by rw [← hT0]; exact fillG_sup hy
  -- T in order
  have eT : ∀ y, y ∈ kN names T0 ↔ y ∈ T0 := fun y => by rw [mem_kN]; exact ⟨fun z => z.2, fun z => ⟨mT.sub y z, z⟩⟩
  have mT' : Mxc names g (kN names T0) := mT.congr fun y => (eT y).symm
  have sT : (kN names T0).Sublist names := kN_sub _ _
  have hT : (kN names T0).Pairwise sLt := hs.sublist sT
  have Tk : ∀ y ∈ names.take k, y ∈ T0 ↔ y ∈ B := fun y hy => by
    refine ⟨fun z => ?_, T0sup y⟩
    by_cases c : y ∈ B
    · exact c
    · obtain ⟨a, ha, q⟩ := Bout y hy c
      have : g y a = true := mT.clq y z a (T0sup a ha) fun e => c (e ▸ ha)
      rw [this] at q
      cases q
  -- s1 in B, not in S
  have hs1 : ∃ s1, s1 ∈ B ∧ s1 ∉ S := by
    by_cases c : s0 ∈ B
    · exact ⟨s0, c, s0S⟩
    · obtain ⟨a, ha, q⟩ := Bout s0 s0t c
      refine ⟨a, ha, fun z => ?_⟩
      rw [s0g a z (Bsrc a ha)] at q
      cases q
  have Bg : ∀ y ∈ B, y ∉ S → g y x = false := fun y hy yS => notx y (Bsrc y hy) yS fun a ha hat => Bclq y hy a (Bsup a (mem_upTo.mpr ⟨hat, ha⟩)) fun e => yS (e ▸ ha)
  obtain ⟨s1, s1B, s1S⟩ := hs1
  have xT : x ∉ T0 := fun z => by
    have := mT.clq s1 (T0sup s1 s1B) x z fun e => s1S (e ▸ xS)
    rw [Bg s1 s1B s1S] at this
    cases this
  -- the least of B that is not in S
  obtain ⟨d, dB, dS, dmin⟩ : ∃ d, d ∈ B ∧ d ∉ S ∧ ∀ y ∈ B, sLt y d → y ∈ S := by
    have : ∀ (l : List Str), l.Pairwise sLt → (∃ y ∈ l, y ∈ B ∧ y ∉ S) → ∃ d ∈ l, (d ∈ B ∧ d ∉ S) ∧ ∀ y ∈ l, y ∈ B → sLt y d → y ∈ S := by
      intro l
      induction l with
      | nil => rintro _ ⟨y, h, _⟩; cases h
      | cons y r ih =>
        intro hl ⟨z, hz, zB, zS⟩
        obtain ⟨l1, l2⟩ := List.pairwise_cons.mp hl
        by_cases c : y ∈ B ∧ y ∉ S
        · refine ⟨y, List.mem_cons_self .., c, fun w hw _ lt => ?_⟩
          rcases List.mem_cons.mp hw with e | hw
          · rw [e] at lt; exact absurd lt (sLt_irr _)
          · exact absurd (sLt_trans lt (l1 w hw)) (sLt_irr _)
        · have hz' : z ∈ r := (List.mem_cons.mp hz).resolve_left fun e => c (e ▸ ⟨zB, zS⟩)
          obtain ⟨d, hd, h1, h2⟩ := ih l2 ⟨z, hz', zB, zS⟩
          refine ⟨d, List.mem_cons_of_mem _ hd, h1, fun w hw wB lt => ?_⟩
          rcases List.mem_cons.mp hw with e | hw
          · by_cases ws : w ∈ S
            · exact ws
            · exact absurd (e ▸ ⟨wB, ws⟩) c
          · exact h2 w hw wB lt
    obtain ⟨d, hd, ⟨h1, h2⟩, h3⟩ := this names hs ⟨s1, Bsub s1 s1B, s1B, s1S⟩
    exact ⟨d, h1, h2, fun y hy lt => h3 y (Bsub y hy) hy lt⟩
  have dx : sLt d x := (take_lt hs hx (Bsub d dB)).mp (Bsrc d dB)
  have ahead : LS.lexS (kN names T0) S = true := by
    refine lex_first hT hS ((eT d).mpr (T0sup d dB)) dS xS dx fun y hy => ?_
    rw [eT]
    constructor
    · intro z
      have yt : y ∈ names.take k := (take_lt hs hx (mT.sub y z)).mpr (sLt_trans hy dx)
      exact dmin y ((Tk y yt).mp z) hy
    · intro z
      have yt : y ∈ names.take k := (take_lt hs hx (m.sub y z)).mpr (sLt_trans hy dx)
      exact T0sup y (Bsup y (mem_upTo.mpr ⟨yt, z⟩))
  -- what it gives for x
  have A : ∀ y, y ∈ behindA g (kN names T0) x ↔ y ∈ names.take (k + 1) ∧ y ∈ S := fun y => by
    rw [mem_behind, eT, tk, List.mem_append, List.mem_singleton]
    constructor
    · rintro (⟨z, lt, gx⟩ | rfl)
      · have yt := (take_lt hs hx (mT.sub y z)).mpr lt
        refine ⟨.inl yt, ?_⟩
        by_cases ys : y ∈ S
        · exact ys
        · have := Bg y ((Tk y yt).mp z) ys
          rw [G.sy, gx] at this
          cases this
      · exact ⟨.inr rfl, xS⟩
    · rintro ⟨yt | rfl, ys⟩
      · have lt := (take_lt hs hx (m.sub y ys)).mp yt
        exact .inl ⟨T0sup y (Bsup y (mem_upTo.mpr ⟨yt, ys⟩)), lt, m.clq x xS y ys fun e => sLt_irr _ (e ▸ lt)⟩
      · exact .inr rfl
  refine ⟨kN names T0, x, sT, mT', ahead, xn, fun z => xT ((eT x).mp z), fun y hy lt yA => ?_, ?_⟩
  · have yt := (take_lt hs hx hy).mpr lt
    have ys : y ∉ S := fun z => yA ((A y).mpr ⟨by rw [tk]; exact List.mem_append_left _ yt, z⟩)
    by_cases c : ∃ a ∈ behindA g (kN names T0) x, g y a = false
    · exact c
    · refine absurd ⟨y, by rw [tk]; exact List.mem_append_left _ yt, ys, fun a ha hat => ?_⟩ good1
      cases q : g y a
      · exact absurd ⟨a, (A a).mpr ⟨hat, ha⟩, q⟩ c
      · rfl
  · have key : ∀ j, j ≤ names.length → ∀ y, y ∈ fillG g (names.take j) (behindA g (kN names T0) x) ↔ (y ∈ names.take (k + 1) ∧ y ∈ S) ∨ (y ∈ names.take j ∧ y ∈ S) := by
      intro j
      induction j with
      | zero => intro _ y; rw [List.take_zero]; simp [fillG, A]
      | succ j ih =>
        intro hj y
        obtain ⟨z, hz⟩ : ∃ z, names[j]? = some z := ⟨names[j], List.getElem?_eq_getElem (by omega)⟩
        have tj : names.take (j + 1) = names.take j ++ [z] := by rw [List.take_succ, hz]; rfl
        have ihj := ih (by omega)
        have zn : z ∈ names := List.mem_of_getElem? hz
        rw [tj, fillG_snoc, stG_mem, ihj, List.mem_append, List.mem_singleton]
        constructor
        · rintro ((h1 | ⟨h1, h2⟩) | ⟨rfl, kk⟩)
          · exact .inl h1
          · exact .inr ⟨.inl h1, h2⟩
          · refine .inr ⟨.inr rfl, ?_⟩
            by_cases ys : y ∈ S
            · exact ys
            · by_cases c : j ≤ k
              · -- among the first places
                refine absurd ⟨y, ?_, ys, fun a ha hat => kk a ((ihj a).mpr (.inl ⟨hat, ha⟩))⟩ good1
                exact List.mem_of_getElem? (i := j) (by rw [List.getElem?_take, if_pos (by omega)]; exact hz)
              · refine absurd ⟨y, by rw [tj]; simp, ys, fun a ha hat => ?_⟩ (hgood (j + 1) (by omega) hj)
                rw [tj] at hat
                rcases List.mem_append.mp hat with q | q
                · exact kk a ((ihj a).mpr (.inr ⟨q, ha⟩))
                · rw [List.mem_singleton.mp q] at ha; exact absurd ha ys
        · rintro (h1 | ⟨h1 | rfl, h2⟩)
          · exact .inl (.inl h1)
          · exact .inl (.inr ⟨h1, h2⟩)
          · by_cases c : y ∈ names.take (k + 1)
            · exact .inl (.inl ⟨c, h2⟩)
            · refine .inr ⟨rfl, fun a ha => ?_⟩
              have aS : a ∈ S := ((ihj a).mp ha).elim (fun q => q.2) fun q => q.2
              refine m.clq y h2 a aS fun e => ?_
              rcases (ihj a).mp ha with q | q
              · exact c (e ▸ q.1)
              · have := (take_lt hs hz (m.sub a aS)).mp q.1
                rw [e] at this
                exact sLt_irr _ this
    intro y
    have := key names.length (Nat.le_refl _) y
    rw [List.take_length] at this
    rw [this]
    exact ⟨fun z => z.elim (fun q => q.2) fun q => q.2, fun z => .inr ⟨m.sub y z, z⟩⟩
end
end Zm

/-! Closed lists are all; what waits in a walk. -/
namespace Zm
open PySem L2 Wd Wm Km Bm Gm Hm Fm Fn PyProof.Rows
section
variable {names : List Str} {g : Str → Str → Bool} {D : List (List Str)}
/-- filled, in order -/
def filG (names : List Str) (g : Str → Str → Bool) (r : List Str) : List Str := kN names (fillG g names r)
/-- what a told row gives for a name, filled -/
def giv (names : List Str) (g : Str → Str → Bool) (T : List Str) (x : Str) : List Str := filG names g (behindA g T x)
/-- that it does -/
def Val (names : List Str) (g : Str → Str → Bool) (T : List Str) (x : Str) : Prop := x ∈ names ∧ x ∉ T ∧ Full names g (behindA g T x) x
theorem fil_row (G : Gr g) {r : List Str} (sub : ∀ x ∈ r, x ∈ names) (c : Clq g r) : (filG names g r).Sublist names ∧ Mxc names g (filG names g r) := by
  have m := fillG_mxc (names := names) G sub c
  exact ⟨kN_sub _ _, m.congr fun y => by unfold filG; rw [mem_kN]; exact ⟨fun z => ⟨m.sub y z, z⟩, fun z => z.2⟩⟩
theorem behind_row (G : Gr g) {T : List Str} {x : Str} (m : Mxc names g T) (hx : x ∈ names) : (∀ y ∈ behindA g T x, y ∈ names) ∧ Clq g (behindA g T x) := by
  refine ⟨fun y hy => ?_, fun a ha b hb ne => ?_⟩
  · rcases mem_behind.mp hy with z | z
    · exact m.sub y z.1
    · rw [z]; exact hx
  · rcases mem_behind.mp ha with a1 | a1 <;> rcases mem_behind.mp hb with b1 | b1
    · exact m.clq a a1.1 b b1.1 ne
    · rw [b1, G.sy]; exact a1.2.2
    · rw [a1]; exact b1.2.2
    · exact absurd (a1.trans b1.symm) ne
theorem giv_row (G : Gr g) {T : List Str} {x : Str} (m : Mxc names g T) (hx : x ∈ names) : (giv names g T x).Sublist names ∧ Mxc names g (giv names g T x) :=
  fil_row G (behind_row G m hx).1 (behind_row G m hx).2
theorem fil_eq (G : Gr g) (hs : names.Pairwise sLt) {r S : List Str} (sS : S.Sublist names) (e : ∀ y, y ∈ fillG g names r ↔ y ∈ S) : filG names g r = S := by
  refine s_ext (hs.sublist (kN_sub _ _)) (hs.sublist sS) fun y => ?_
  unfold filG
  rw [mem_kN, e]
  exact ⟨fun z => z.2, fun z => ⟨sS.subset z, z⟩⟩
theorem AllOf.nodup (A : AllOf names g D) : D.Nodup := List.nodup_iff_pairwise_ne.mpr (List.Pairwise.imp (fun {a b} h e => by rw [e, lex_irr] at h; cases h) A.asc)
theorem AllOf.at_lt (A : AllOf names g D) {i j : Nat} {a b : List Str} (hi : D[i]? = some a) (hj : D[j]? = some b) (h : LS.lexS a b = true) : i < j := by
  by_cases c : i < j
  · exact c
  · exfalso
    by_cases e : i = j
    · subst e
      rw [hi] at hj
      cases hj
      rw [lex_irr] at h
      cases h
    · have hl : j < i := by omega
      have hi' := (List.getElem?_eq_some_iff.mp hi)
      have hj' := (List.getElem?_eq_some_iff.mp hj)
      have := List.pairwise_iff_getElem.mp A.asc j i hj'.1 hi'.1 hl
      rw [hi'.2, hj'.2] at this
      have := lex_tr h this
      rw [lex_irr] at this
      cases this
theorem AllOf.lt_at (A : AllOf names g D) {i j : Nat} {a b : List Str} (hi : D[i]? = some a) (hj : D[j]? = some b) (h : i < j) : LS.lexS a b = true := by
  have hi' := (List.getElem?_eq_some_iff.mp hi)
  have hj' := (List.getElem?_eq_some_iff.mp hj)
  have := List.pairwise_iff_getElem.mp A.asc i j hi'.1 hj'.1 h
  rw [hi'.2, hj'.2] at this
  exact this
/-- each row of all is the first, or comes of one ahead -/
theorem AllOf.from (A : AllOf names g D) (G : Gr g) (hs : names.Pairwise sLt) {i : Nat} {S : List Str} (hi : D[i]? = some S) : S = filG names g [] ∨ ∃ j T x, j < i ∧ D[j]? = some T ∧ Val names g T x ∧ giv names g T x = S := by
  obtain ⟨sS, mS⟩ := (A.mem S).mp (List.mem_of_getElem? hi)
  by_cases c : ∀ x, x ∈ fillG g names [] ↔ x ∈ S
  · exact .inl (fil_eq G hs sS c).symm
  · obtain ⟨T, x, sT, mT, lt, xn, xT, fu, e⟩ := jyp G hs sS mS c
    obtain ⟨j, hj⟩ := List.getElem?_of_mem ((A.mem T).mpr ⟨sT, mT⟩)
    exact .inr ⟨j, T, x, A.at_lt hj hi lt, hj, ⟨xn, xT, fu⟩, fil_eq G hs sS e⟩
/-- a closed list has all -/
theorem closed_all (A : AllOf names g D) (G : Gr g) (hs : names.Pairwise sLt) {L : List (List Str)} (h0 : filG names g [] ∈ L) (cl : ∀ T ∈ L, ∀ x, Val names g T x → giv names g T x ∈ L) : ∀ S ∈ D, S ∈ L := by
  have key : ∀ (n i : Nat) (S : List Str), i < n → D[i]? = some S → S ∈ L := by
    intro n
    induction n with
    | zero => intro i S h; omega
    | succ n ih =>
      intro i S h hi
      rcases A.from G hs hi with e | ⟨j, T, x, ji, hj, v, e⟩
      · rw [e]; exact h0
      · rw [← e]
        exact cl T (ih j T (by omega) hj) x v
  intro S hS
  obtain ⟨i, hi⟩ := List.getElem?_of_mem hS
  exact key (i + 1) i S (by omega) hi
/-- what has come by the first k told rows -/
def Come (names : List Str) (g : Str → Str → Bool) (D : List (List Str)) (k : Nat) (r : List Str) : Prop := r = filG names g [] ∨ ∃ j T x, j < k ∧ D[j]? = some T ∧ Val names g T x ∧ r = giv names g T x
/-- what waits behind k tellings -/
structure Wk (names : List Str) (g : Str → Str → Bool) (D : List (List Str)) (k : Nat) (W : List (List Str)) : Prop where
  nd : W.Nodup
  mem : ∀ r, r ∈ W ↔ Come names g D k r ∧ r ∉ D.take k
theorem Come.row (A : AllOf names g D) (G : Gr g) {k : Nat} {r : List Str} (h : Come names g D k r) : r ∈ D := by
  refine (A.mem r).mpr ?_
  rcases h with e | ⟨j, T, x, _, hj, v, e⟩
  · rw [e]; exact fil_row G (fun x hx => by cases hx) (fun a ha => by cases ha)
  · rw [e]; exact giv_row G ((A.mem T).mp (List.mem_of_getElem? hj)).2 v.1
theorem Wk.start (A : AllOf names g D) : Wk names g D 0 [filG names g []] := ⟨by simp, fun r => by
  rw [List.mem_singleton, List.take_zero]
  exact ⟨fun e => ⟨.inl e, by simp⟩, fun ⟨h, _⟩ => h.elim id fun ⟨j, _, _, hj, _⟩ => absurd hj (by omega)⟩⟩
/-- the next one waits, and no other one is ahead -/
theorem Wk.next (A : AllOf names g D) (G : Gr g) (hs : names.Pairwise sLt) {k : Nat} {W : List (List Str)} (h : Wk names g D k W) {S : List Str} (hk : D[k]? = some S) : S ∈ W ∧ ∀ r ∈ W, r = S ∨ LS.lexS S r = true := by
  have nt : S ∉ D.take k := fun z => by
    obtain ⟨i, hi⟩ := List.getElem?_of_mem z
    rw [List.getElem?_take] at hi
    split at hi
    · rename_i ik
      have := (List.getElem?_inj (by have := (List.getElem?_eq_some_iff.mp hi).1; omega : i < D.length) A.nodup).mp (hi.trans hk.symm)
      omega
    · cases hi
  refine ⟨(h.mem S).mpr ⟨?_, nt⟩, fun r hr => ?_⟩
  · rcases A.from G hs hk with e | ⟨j, T, x, jk, hj, v, e⟩
    · exact .inl e
    · exact .inr ⟨j, T, x, jk, hj, v, e.symm⟩
  · obtain ⟨hc, hn⟩ := (h.mem r).mp hr
    obtain ⟨i, hi⟩ := List.getElem?_of_mem (hc.row A G)
    by_cases e : i = k
    · subst e
      rw [hk] at hi
      exact .inl (Option.some.inj hi).symm
    · by_cases c : i < k
      · exact absurd (List.mem_of_getElem? (i := i) (by rw [List.getElem?_take, if_pos c]; exact hi)) hn
      · exact .inr (A.lt_at hk hi (by omega))
theorem Wk.end (A : AllOf names g D) (G : Gr g) {k : Nat} {W : List (List Str)} (h : Wk names g D k W) (hk : D.length ≤ k) : W = [] := by
  cases W with
  | nil => rfl
  | cons r W =>
    obtain ⟨hc, hn⟩ := (h.mem r).mp (List.mem_cons_self ..)
    rw [List.take_of_length_le hk] at hn
    exact absurd (hc.row A G) hn
/-- behind a telling: what waited but the told one, and what the told one gives that neither waits nor was told -/
theorem Wk.step {k : Nat} {W W' : List (List Str)} (h : Wk names g D k W) {S : List Str} (hk : D[k]? = some S) (nd : W'.Nodup) (mem : ∀ r, r ∈ W' ↔ (r ∈ W ∧ r ≠ S) ∨ ((∃ x, Val names g S x ∧ r = giv names g S x) ∧ r ∉ D.take (k + 1))) : Wk names g D (k + 1) W' := by
  have tk : D.take (k + 1) = D.take k ++ [S] := by rw [List.take_succ, hk]; rfl
  refine ⟨nd, fun r => (mem r).trans ?_⟩
  rw [h.mem]
  constructor
  · rintro (⟨⟨hc, hn⟩, ne⟩ | ⟨⟨x, v, e⟩, hn⟩)
    · refine ⟨hc.imp_right fun ⟨j, T, x, hj, z⟩ => ⟨j, T, x, by omega, z⟩, fun z => ?_⟩
      rw [tk] at z
      exact (List.mem_append.mp z).elim hn fun q => ne (List.mem_singleton.mp q)
    · exact ⟨.inr ⟨k, S, x, by omega, hk, v, e⟩, hn⟩
  · rintro ⟨hc, hn⟩
    have hn' := hn
    rw [tk] at hn
    have n1 : r ∉ D.take k := fun z => hn (List.mem_append_left _ z)
    have n2 : r ≠ S := fun z => hn (List.mem_append_right _ (by rw [z]; simp))
    rcases hc with e | ⟨j, T, x, hj, hT, v, e⟩
    · exact .inl ⟨⟨.inl e, n1⟩, n2⟩
    · by_cases c : j = k
      · subst c
        rw [hk] at hT
        cases hT
        exact .inr ⟨⟨x, v, e⟩, hn'⟩
      · exact .inl ⟨⟨.inr ⟨j, T, x, by omega, hT, v, e⟩, n1⟩, n2⟩
theorem Wk.perm {k : Nat} {W W' : List (List Str)} (h : Wk names g D k W) (h' : Wk names g D k W') : W.Perm W' := (List.perm_ext_iff_of_nodup h.nd h'.nd).mpr fun r => (h.mem r).trans (h'.mem r).symm
end
end Zm

/-! The same of the kinds. -/
namespace Zm
open PySem L2 Wd Wm Km Bm Gm Hm Fm Fn PyProof.Rows
def gK (ties : List SS) (kd : Kd) (a b : Str) : Bool := !decide (a = b) && (decide (Tie ties a b) == want kd)
section
variable {names : List Str} {ties : List SS} {kd : Kd}
/-- all greatest rows of a kind, in order -/
structure AllK (names : List Str) (ties : List SS) (kd : Kd) (L : List (List Str)) : Prop where
  mem : ∀ r, r ∈ L ↔ r.Sublist names ∧ mB names ties kd r = true
  asc : L.Pairwise fun a b => LS.lexS a b = true
theorem AllK.uniq {L M : List (List Str)} (h : AllK names ties kd L) (k : AllK names ties kd M) : L = M := lex_ext h.asc k.asc fun r => (h.mem r).trans (k.mem r).symm
end
end Zm

/-! The names that the second family of laws draws. -/
namespace Am
open PySem L2 Wd Wm Tm Ym PyProof.Rows
def some8 : List Str := ["", "", "one", "zz", "b", "ties", "place", "lengthy"]
def menu15 : List Str := ["p", "q", "pp", "pq", "qp", "qq", "ppq", "pqp", "qpp", "pqq", "qpq", "qqp", "qqqq", "pqpqpqp", "qpqpqpq"]
def mkN (b : Str) (a c : Nat) : Str := cutS b none (some (a : Int)) ++ (⟨#[97 + c]⟩ : Str) ++ cutS b (some (a : Int)) none
def dec (a : Nat) (x : Str) : Nat := (x.cps.toList.getD (min a (x.length - 1)) 0) - 97
end Am

/-! Rules of the second stage: rows (tuples of texts, of any lengths) sorted; (int, text) sorted; list(d) of tuple keys; methods without arguments; dict of pairs. -/
namespace L2
open PySem PySem.Spec PySem.W PyProof.Rows
def keyI : Key → Int ⊕ List Nat
  | .inl i => .inl i
  | .inr x => .inr x.cps.toList
def keyOfV : Value → Key
  | .int i _ => .inl i
  | .str x _ => .inr x
  | _ => .inl 0
def rowKOf (h : Heap) (u : Value) : Option (List Key) := match u with
  | .ref a => match h.get? a with
    | some o => match o.data with
      | .seq xs _ => some (xs.toList.map keyOfV)
      | _ => none
    | none => none
  | _ => none
def IsRowK (K : PySem.W.Frag) (H : Hp) (v : V) (ks : List Key) : Prop := ∃ a, v = .ref a ∧ SqT K H a (ks.map kV)
/-- texts where the shape says so, else ints -/
def shOk (sh : Nat → Bool) : Nat → List Key → Bool
  | _, [] => true
  | i, .inl _ :: r => !sh i && shOk sh (i + 1) r
  | i, .inr _ :: r => sh i && shOk sh (i + 1) r
def rSortedK (sh : Nat → Bool) (K : PySem.W.Frag) : List V → Hp → VK → Prop := fun vs H Q => ∃ (a : Addr) (xs : List V) (ks : List (List Key)), vs = [V.ref a] ∧ SqL K H a xs ∧ Paired (IsRowK K H) xs ks ∧ (∀ k ∈ ks, shOk sh 0 k = true) ∧ (2 ≤ ks.length → ∀ k ∈ ks, k ≠ []) ∧
  ∀ (xs' : List V) (ks' : List (List Key)) (p : Addr), Paired (IsRowK K H) xs' ks' → ks'.Perm ks → ks'.Pairwise (fun p q => lexLt itemOrd (q.map keyI) (p.map keyI) = false) → H p = none → Q (.ref p) (upd H p (.lst xs'))
section
variable {X : Cx} {pins : List (Addr × Obj)} {σ : St} {H : Hp} {s : Shared}
end
section
variable {X : Cx}
end
/-! ### rows of texts -/
theorem inr_inj {ws us : List Str} (h : (ws.map Sum.inr : List Key) = us.map Sum.inr) : ws = us := by
  induction ws generalizing us with
  | nil => cases us with | nil => rfl | cons y r => cases h
  | cons x r ih =>
    cases us with
    | nil => cases h
    | cons y t =>
      obtain ⟨h1, h2⟩ := List.cons.inj h
      rw [Sum.inr.inj h1, ih h2]
def rSortedR (K : PySem.W.Frag) : List V → Hp → VK → Prop := fun vs H Q => ∃ (a : Addr) (xs : List V) (ws : List (List Str)), vs = [V.ref a] ∧ SqL K H a xs ∧ Paired (IsRowT K H) xs ws ∧ (2 ≤ ws.length → ∀ k ∈ ws, k ≠ []) ∧
  ∀ (xs' : List V) (ws' : List (List Str)) (p : Addr), Paired (IsRowT K H) xs' ws' → ws'.Perm ws → ws'.Pairwise (fun p q => LS.lexS q p = false) → H p = none → Q (.ref p) (upd H p (.lst xs'))
/-! ### (int, text) -/
abbrev IS := Int × Str
def isK (p : IS) : List Key := [.inl p.1, .inr p.2]
def IsIS (K : PySem.W.Frag) (H : Hp) (v : V) (p : IS) : Prop := ∃ a, v = .ref a ∧ SqT K H a [.int p.1, .str p.2]
def isLt (p q : IS) : Bool := decide (p.1 < q.1) || (!decide (q.1 < p.1) && decide (p.2.cps.toList < q.2.cps.toList))
def rSortedIS (K : PySem.W.Frag) : List V → Hp → VK → Prop := fun vs H Q => ∃ (a : Addr) (xs : List V) (ps : List IS), vs = [V.ref a] ∧ SqL K H a xs ∧ Paired (IsIS K H) xs ps ∧
  ∀ (xs' : List V) (ps' : List IS) (p : Addr), Paired (IsIS K H) xs' ps' → ps'.Perm ps → ps'.Pairwise (fun p q => isLt q p = false) → H p = none → Q (.ref p) (upd H p (.lst xs'))
/-! ### list(d), the keys tuples -/
section
variable {prog : Program} {w : World}
end
/-! ### behind structures -/
section
variable {X : Cx} {o e : Expr} {to te : TE} {name : Str} {apos cpos : Pos} {T id : String} {r : V → List V → Hp → VK → Prop}
end
section
variable {X : Cx} {i o : Expr} {ty td : TE} {pos : Pos}
end
section
variable {X : Cx} {K : PySem.W.Frag}
end
/-! ### the scope of a comprehension within a def, by its place -/
def subE : Expr → List Expr
  | .Call f args _ _ => f :: args
  | .ListComp elt gens _ _ => elt :: gens.flatMap fun g => g.iter :: g.ifs
  | .Tuple es _ _ => es
  | .List es _ => es
  | .BinOp a _ b _ => [a, b]
  | .UnaryOp _ a _ => [a]
  | .Compare a _ bs _ => a :: bs
  | .BoolOp _ es _ => es
  | .IfExp c a b _ => [c, a, b]
  | .Subscript a b _ => [a, b]
  | .Attribute a _ _ => [a]
  | _ => []
def subS : Stmt → List Expr
  | .Return (some e) _ => [e]
  | .Expr e _ => [e]
  | .Assign _ e _ => [e]
  | .AugAssign _ _ e _ => [e]
  | .For _ it _ _ _ => [it]
  | .While c _ _ _ => [c]
  | .If c _ _ _ => [c]
  | _ => []
def bodS : Stmt → List Stmt
  | .FunctionDef _ _ body _ _ _ _ _ _ _ => body
  | .For _ _ a b _ => a ++ b
  | .While _ a b _ => a ++ b
  | .If _ a b _ => a ++ b
  | _ => []
def atE : Expr → List Nat → Expr
  | e, [] => e
  | e, k :: r => atE ((subE e).getD k e) r
def atSt : Stmt → List Nat → Stmt
  | st, [] => st
  | st, k :: r => atSt ((bodS st).getD k st) r
def scAt (st : Stmt) (is js : List Nat) : Scope := match js with
  | [] => defScope st
  | j :: r => match (subS (atSt st is))[j]? with
    | some e => match atE e r with
      | .ListComp _ _ sc _ => sc
      | _ => defScope st
    | none => defScope st
end L2

/-! Comprehensions whose parts change nothing; going through all rows: what waits. -/
namespace L2
open PySem PySem.Spec PyProof.Rows
section
variable {α : Type} {K : PySem.W.Frag} {a : Addr} {xs : List α} {v f : α → V} {p : α → Bool} {n : Nat} {tt : TT} {te : TE} {vs : List Nat} {σ : St} {H1 : Hp} {D : Addr} {Q : Hp → Prop}
theorem at_map {i : Nat} {u : V} (h : (xs.map v)[i]? = some u) : ∃ x, xs[i]? = some x ∧ x ∈ xs ∧ v x = u := by
  rw [List.getElem?_map] at h
  cases e : xs[i]? with
  | none => rw [e] at h; cases h
  | some x => rw [e] at h; exact ⟨x, rfl, List.mem_of_getElem? e, Option.some.inj h⟩
end
theorem IsRowT.keep {K : PySem.W.Frag} {H H' : Hp} {v : V} {ws : List Str} (h : IsRowT K H v ws) (k : KeepT H H') : IsRowT K H' v ws := let ⟨a, e, q⟩ := h; ⟨a, e, k.seqT q⟩
theorem IsIS.keep {K : PySem.W.Frag} {H H' : Hp} {v : V} {p : IS} (h : IsIS K H v p) (k : KeepT H H') : IsIS K H' v p := let ⟨a, e, q⟩ := h; ⟨a, e, k.seqT q⟩
abbrev Rws (K : PySem.W.Frag) (H : Hp) : List V → List (List Str) → Prop := Paired (IsRowT K H)
theorem Rws.keep {K : PySem.W.Frag} {H H' : Hp} {vs : List V} {L : List (List Str)} (h : Rws K H vs L) (k : KeepT H H') : Rws K H' vs L := Paired.mapP h fun _ _ q => q.keep k
theorem Rws.same {K : PySem.W.Frag} {H H' : Hp} {vs : List V} {L : List (List Str)} (h : Rws K H vs L) (k : Same H H') : Rws K H' vs L := h.keep k.keepT
end L2
namespace Zm
open PySem L2 Wd Wm Km Bm Gm Hm Fm Fn PyProof.Rows
/-! ### what waits -/
abbrev E3 := List Str × List Str × List Str
section
variable {names : List Str} {g : Str → Str → Bool}
noncomputable def sumI (names : List Str) (g : Str → Str → Bool) (es : List E3) (C : List Str) : Nat := (es.map fun e => ind names g e.1 e.2.1 C).sum
def mu (es : List E3) : Nat := (es.map fun e => 16 ^ e.2.1.length).sum
end
end Zm
namespace Zm
open PySem L2 Wd Wm Km Bm Gm Hm Fm Fn PyProof.Rows
def keyD (xs : List Str) : List (Key × V) := xs.map fun y => (Sum.inr y, V.bl true)
/-- for each name the names that go with it -/
structure Ways (H G : Hp) (wy : Addr) (names : List Str) (g : Str → Str → Bool) (k : Nat) : Prop where
  s : Same H G
  at_ : ∃ kvs, G wy = some (.dK kvs) ∧ kvs.length ≤ k ∧ ∀ x ∈ names.take k, ∃ d ks, valV kvs (Sum.inr x) = some (.ref d) ∧ G d = some (.dK ks) ∧ d ≠ wy ∧ ∀ y ∈ names, (valV ks (Sum.inr y)).isSome = g x y
section
variable {H G G' : Hp} {wy : Addr} {names : List Str} {g : Str → Str → Bool} {k : Nat}
theorem Ways.same (h : Ways H G wy names g k) (s : Same G G') : Ways H G' wy names g k := by
  obtain ⟨kvs, h1, h2, h3⟩ := h.at_
  refine ⟨h.s.trans s, kvs, s _ _ h1, h2, fun x hx => ?_⟩
  obtain ⟨d, ks, a, b, c, e⟩ := h3 x hx
  exact ⟨d, ks, a, s _ _ b, c, e⟩
theorem Ways.start (n : H wy = none) : Ways H (upd H wy (.dK [])) wy names g 0 := ⟨same_new n _, [], upd_same, Nat.le_refl _, fun x hx => by rw [List.take_zero] at hx; cases hx⟩
theorem Ways.put (h : Ways H G wy names g k) (n : H wy = none) {x : Str} (hx : names[k]? = some x) {kvs : List (Key × V)} (e : G wy = some (.dK kvs)) {d : Addr} {ks : List (Key × V)} (ed : G d = some (.dK ks)) (nd : d ≠ wy) (hk : ∀ y ∈ names, (valV ks (Sum.inr y)).isSome = g x y) : Ways H (upd G wy (.dK (putK kvs (Sum.inr x) (.ref d)))) wy names g (k + 1) := by
  obtain ⟨kv, h1, h2, h3⟩ := h.at_
  rw [e] at h1
  cases h1
  refine ⟨fun b o q => by rw [upd_ne (ne_of_none q n)]; exact h.s _ _ q, _, upd_same, Nat.le_trans (length_putK _ _ _) (by omega), fun z hz => ?_⟩
  by_cases c : z = x
  · subst c
    exact ⟨d, ks, by rw [valV_put, if_pos rfl], by rw [upd_ne nd]; exact ed, nd, hk⟩
  · rw [List.take_succ, hx] at hz
    rcases List.mem_append.mp hz with hz | hz
    · obtain ⟨d', ks', a, b, c', e'⟩ := h3 z hz
      exact ⟨d', ks', by rw [valV_put, if_neg fun q => c (Sum.inr.inj q)]; exact a, by rw [upd_ne c']; exact b, c', e'⟩
    · exact absurd (by simpa using hz) c
theorem Ways.get (h : Ways H G wy names g names.length) {x : Str} (hx : x ∈ names) : ∃ d ks, DGet G wy (.str x) (some (.ref d)) ∧ G d = some (.dK ks) ∧ ∀ y ∈ names, (valV ks (Sum.inr y)).isSome = g x y := by
  obtain ⟨kvs, h1, h2, h3⟩ := h.at_
  rw [List.take_length] at h3
  obtain ⟨d, ks, a, b, _, e⟩ := h3 x hx
  refine ⟨d, ks, ?_, b, e⟩
  rw [← a]
  exact DGet.k (k := Sum.inr x) h1
end
end Zm
namespace Zm
open PySem L2 Wd Wm Km Bm Gm Hm Fm Fn PyProof.Rows
theorem filter_lt {α : Type} {p : α → Bool} : ∀ {l : List α} {v : α}, v ∈ l → p v = false → (l.filter p).length < l.length
  | x :: r, v, h, e => by
    rcases List.mem_cons.mp h with rfl | h
    · rw [List.filter_cons_of_neg (by rw [e]; exact Bool.false_ne_true)]
      have := List.length_filter_le p r
      rw [List.length_cons]
      omega
    · have ih := filter_lt (p := p) h e
      rw [List.filter_cons]
      split <;> simp only [List.length_cons] <;> omega
section
variable {names : List Str} {g : Str → Str → Bool}
structure Ok3 (names : List Str) (g : Str → Str → Bool) (e : E3) : Prop where
  b : Bk names g e.1 e.2.1 e.2.2
  nd : e.1.Nodup
  pd : e.2.1.Nodup
  rp : e.1.length + e.2.1.length ≤ 15
  px : e.2.1.length + e.2.2.length ≤ 15
theorem Ok3.start (nd : names.Nodup) (h : names.length ≤ 15) : Ok3 names g ([], names, []) := ⟨Bk.start, List.nodup_nil, nd, by simpa using h, by simpa using h⟩
theorem Ok3.next {R P X : List Str} (h : Ok3 names g (R, P, X)) {v : Str} (hv : v ∈ P) : Ok3 names g (R, P.filter fun x => !decide (x = v), X ++ [v]) := by
  have l1 := filter_lt (p := fun x => !decide (x = v)) hv (by simp)
  have h1 := h.rp
  have h2 := h.px
  refine ⟨h.b.next hv, h.nd, h.pd.filter _, ?_, ?_⟩
  · show R.length + (P.filter fun x => !decide (x = v)).length ≤ 15
    simp only at *
    omega
  · show (P.filter fun x => !decide (x = v)).length + (X ++ [v]).length ≤ 15
    rw [List.length_append]
    simp only [List.length_cons, List.length_nil] at *
    omega
end
/-! ### .. in the heap -/
structure Ent (K : PySem.W.Frag) (wt fo : Addr) (G : Hp) (v : V) (e : E3) : Prop where
  at_ : ∃ t r l o, v = .ref t ∧ SqT K G t [.ref r, .ref l, .ref o] ∧ SqT K G r (e.1.map V.str) ∧ G l = some (.lst (e.2.1.map V.str)) ∧ G o = some (.lst (e.2.2.map V.str)) ∧ l ≠ wt ∧ l ≠ fo ∧ o ≠ wt ∧ o ≠ fo
def Kp (wt fo : Addr) (G G' : Hp) : Prop := KeepT G G' ∧ ∀ b xs, b ≠ wt → b ≠ fo → G b = some (.lst xs) → G' b = some (.lst xs)
section
variable {K : PySem.W.Frag} {wt fo : Addr} {G G' : Hp} {v : V} {e : E3}
theorem Kp.same (s : Same G G') : Kp wt fo G G' := ⟨s.keepT, fun b xs _ _ h => s _ _ h⟩
theorem Kp.w {ws : List V} (h : G wt = some (.lst ws)) (o : HO) : Kp wt fo G (upd G wt o) := ⟨keepT_upd h o, fun b xs n _ h => by rw [upd_ne n]; exact h⟩
theorem Kp.f {ws : List V} (h : G fo = some (.lst ws)) (o : HO) : Kp wt fo G (upd G fo o) := ⟨keepT_upd h o, fun b xs _ n h => by rw [upd_ne n]; exact h⟩
theorem Ent.keep (h : Ent K wt fo G v e) (k : Kp wt fo G G') : Ent K wt fo G' v e := by
  obtain ⟨t, r, l, o, h1, h2, h3, h4, h5, h6, h7, h8, h9⟩ := h.at_
  exact ⟨t, r, l, o, h1, k.1.seqT h2, k.1.seqT h3, k.2 _ _ h6 h7 h4, k.2 _ _ h8 h9 h5, h6, h7, h8, h9⟩
structure Wt (K : PySem.W.Frag) (names : List Str) (g : Str → Str → Bool) (H0 : Hp) (wt fo : Addr) (G : Hp) (es : List E3) (fs : List (List Str)) : Prop where
  s : Same H0 G
  w : ∃ ws, G wt = some (.lst ws) ∧ Paired (Ent K wt fo G) ws es
  f : ∃ us, G fo = some (.lst us) ∧ Rws K G us fs
  ok : ∀ e ∈ es, Ok3 names g e
  p : ∀ i e, es[i]? = some e → i + 15 * e.2.1.length ≤ 225
  r : ∀ r ∈ fs, r.Sublist names
variable {names : List Str} {g : Str → Str → Bool} {H0 : Hp} {es : List E3} {fs : List (List Str)}
theorem Wt.same (h : Wt K names g H0 wt fo G es fs) (s : Same G G') : Wt K names g H0 wt fo G' es fs := by
  obtain ⟨ws, h1, h2⟩ := h.w
  obtain ⟨us, h3, h4⟩ := h.f
  exact ⟨h.s.trans s, ⟨ws, s _ _ h1, Paired.mapP h2 fun _ _ z => z.keep (Kp.same s)⟩, ⟨us, s _ _ h3, h4.same s⟩, h.ok, h.p, h.r⟩
theorem same_w {a : Addr} (s : Same H0 G) (n : H0 a = none) (o : HO) : Same H0 (upd G a o) := fun b u q => by rw [upd_ne (ne_of_none q n)]; exact s _ _ q
theorem Wt.push (h : Wt K names g H0 wt fo G es fs) (nw : H0 wt = none) (ne : wt ≠ fo) {ws : List V} (hw : G wt = some (.lst ws)) (he : Ent K wt fo G v e) (ok : Ok3 names g e) (hp : es.length + 15 * e.2.1.length ≤ 225) : Wt K names g H0 wt fo (upd G wt (.lst (ws ++ [v]))) (es ++ [e]) fs := by
  obtain ⟨ws', h1, h2⟩ := h.w
  rw [hw] at h1
  cases h1
  obtain ⟨us, h3, h4⟩ := h.f
  have k : Kp wt fo G (upd G wt (.lst (ws ++ [v]))) := Kp.w hw _
  refine ⟨same_w h.s nw _, ⟨_, upd_same, Paired.snoc (Paired.mapP h2 fun _ _ z => z.keep k) (he.keep k)⟩, ⟨us, by rw [upd_ne ne.symm]; exact h3, h4.keep k.1⟩, fun e' h' => ?_, fun i e' h' => ?_, h.r⟩
  · rcases List.mem_append.mp h' with z | z
    · exact h.ok e' z
    · rw [List.mem_singleton.mp z]; exact ok
  · by_cases c : i < es.length
    · rw [List.getElem?_append_left c] at h'
      exact h.p i e' h'
    · rw [List.getElem?_append_right (by omega)] at h'
      have : i - es.length = 0 := by
        by_cases z : i - es.length = 0
        · exact z
        · rw [List.getElem?_eq_none (by simp; omega)] at h'; cases h'
      rw [this] at h'
      cases h'
      omega
theorem Wt.found (h : Wt K names g H0 wt fo G es fs) (nf : H0 fo = none) (ne : wt ≠ fo) {us : List V} (hu : G fo = some (.lst us)) {S : List Str} (hv : IsRowT K G v S) (hS : S.Sublist names) : Wt K names g H0 wt fo (upd G fo (.lst (us ++ [v]))) es (fs ++ [S]) := by
  obtain ⟨ws, h1, h2⟩ := h.w
  obtain ⟨us', h3, h4⟩ := h.f
  rw [hu] at h3
  cases h3
  have k : Kp wt fo G (upd G fo (.lst (us ++ [v]))) := Kp.f hu _
  refine ⟨same_w h.s nf _, ⟨ws, by rw [upd_ne ne]; exact h1, Paired.mapP h2 fun _ _ z => z.keep k⟩, ⟨_, upd_same, Paired.snoc (h4.keep k.1) (hv.keep k.1)⟩, h.ok, h.p, fun r hr => ?_⟩
  rcases List.mem_append.mp hr with z | z
  · exact h.r r z
  · rw [List.mem_singleton.mp z]; exact hS
theorem Wt.start (nw : G wt = none) {t r l o : Addr} (s : Same H0 G) (ht : SqT K G t [.ref r, .ref l, .ref o]) (hr : SqT K G r []) (hl : G l = some (.lst (names.map V.str))) (ho : G o = some (.lst [])) (nd : names.Nodup) (h15 : names.length ≤ 15) (nf : (upd G wt (.lst [.ref t])) fo = none) :
    Wt K names g H0 wt fo (upd (upd G wt (.lst [.ref t])) fo (.lst [])) [([], names, [])] [] := by
  have s1 := same_new nw (.lst [V.ref t])
  have s2 := same_new nf (.lst [])
  have s3 := s1.trans s2
  refine ⟨s.trans s3, ⟨_, s2 _ _ upd_same, .cons ⟨t, r, l, o, rfl, s3.seqT ht, s3.seqT hr, s3 _ _ hl, s3 _ _ ho, ne_of_none hl nw, ne_of_none (s1 _ _ hl) nf, ne_of_none ho nw, ne_of_none (s1 _ _ ho) nf⟩ .nil⟩, ⟨[], upd_same, .nil⟩, fun e he => ?_, fun i e he => ?_, fun r hr => by cases hr⟩
  · rw [List.mem_singleton.mp he]; exact Ok3.start nd h15
  · cases i with
    | zero => cases he; simp only; omega
    | succ j => cases he
end
theorem found_few {names : List Str} {g : Str → Str → Bool} {fs : List (List Str)} (sub : ∀ r ∈ fs, r.Sublist names) (one : ∀ C, fs.count C ≤ 1) (h : names.length ≤ 15) : fs.length ≤ 32768 := by
  have nd : fs.Nodup := List.nodup_iff_count.mpr one
  have key : ∀ (ns : List Str) (l : List (List Str)), l.Nodup → (∀ r ∈ l, r.Sublist ns) → l.length ≤ 2 ^ ns.length := by
    intro ns
    induction ns with
    | nil =>
      intro l nd hl
      cases l with
      | nil => simp
      | cons a r =>
        have ea : a = [] := List.sublist_nil.mp (hl a (List.mem_cons_self ..))
        cases r with
        | nil => simp
        | cons b t =>
          have eb : b = [] := List.sublist_nil.mp (hl b (by simp))
          rw [ea, eb] at nd
          simp at nd
    | cons x t ih =>
      intro l nd hl
      have sp : l.length = (l.filter fun r => decide (r.head? = some x)).length + (l.filter fun r => !decide (r.head? = some x)).length := by
        clear nd hl
        induction l with
        | nil => rfl
        | cons a r ih2 =>
          rw [List.length_cons, List.filter_cons, List.filter_cons]
          by_cases c : a.head? = some x
          · simp only [c, decide_true, if_true, Bool.not_true, Bool.false_eq_true, if_false, List.length_cons]
            omega
          · simp only [c, decide_false, if_false, Bool.not_false, if_true, Bool.false_eq_true, List.length_cons]
            omega
      have h1 : (l.filter fun r => !decide (r.head? = some x)).length ≤ 2 ^ t.length := by
        refine ih _ (nd.filter _) fun r hr => ?_
        obtain ⟨m, c⟩ := List.mem_filter.mp hr
        have c' : ¬ r.head? = some x := by simpa using c
        have s := hl r m
        cases s with
        | cons _ s => exact s
        | cons_cons _ s => exact absurd rfl c'
      have h2 : (l.filter fun r => decide (r.head? = some x)).length ≤ 2 ^ t.length := by
        have z := ih ((l.filter fun r => decide (r.head? = some x)).map List.tail) ?_ ?_
        · rw [List.length_map] at z
          exact z
        · refine List.nodup_iff_pairwise_ne.mpr (List.pairwise_map.mpr ?_)
          refine List.Pairwise.imp_of_mem (fun {a b} ha hb ne e => ne ?_) (List.nodup_iff_pairwise_ne.mp (nd.filter _))
          have ca : a.head? = some x := by simpa using (List.mem_filter.mp ha).2
          have cb : b.head? = some x := by simpa using (List.mem_filter.mp hb).2
          cases a with
          | nil => cases ca
          | cons a1 ar =>
            cases b with
            | nil => cases cb
            | cons b1 br =>
              cases ca
              cases cb
              exact congrArg (x :: ·) e
        · intro r hr
          obtain ⟨a, ha, rfl⟩ := List.mem_map.mp hr
          obtain ⟨m, c⟩ := List.mem_filter.mp ha
          have c' : a.head? = some x := by simpa using c
          have s := hl a m
          cases a with
          | nil => cases c'
          | cons a1 ar =>
            cases c'
            cases s with
            | cons _ s => exact (List.sublist_cons_self _ _).trans s
            | cons_cons _ s => exact s
      rw [List.length_cons, Nat.pow_succ]
      omega
  have := key names fs nd sub
  have h2 : 2 ^ names.length ≤ 2 ^ 15 := Nat.pow_le_pow_right (by decide) h
  omega
end Zm
namespace Zm
open PySem L2 Wd Wm Km Bm Gm Hm Fm Fn PyProof.Rows
end Zm
namespace L2
open PySem PySem.Spec PyProof.Rows
end L2
namespace L2
open PySem PySem.Spec PyProof.Rows
theorem FnOk.or {P : Program} {w : World} {K : PySem.W.Frag} {mg : Str → Option Value} {base : Heap} {CX : CXT} {k : Nat} {f : Addr} {fd : FuncData} {ps : List Str} {sp sp' : Sp} (F : FnOk P w K mg base CX k f fd ps sp) (G : FnOk P w K mg base CX k f fd ps sp') : FnOk P w K mg base CX k f fd ps (fun vs H Q E => sp vs H Q E ∨ sp' vs H Q E) :=
  ⟨fun vs H Q E h => h.elim (F.len vs H Q E) (G.len vs H Q E), fun A outer s H args us vs Q E a b c d h => h.elim (F.run A outer s H args us vs Q E a b c d) (G.run A outer s H args us vs Q E a b c d)⟩
end L2
namespace Zm
open PySem L2 Wd Wm Km Bm Gm Hm Fm Fn PyProof.Rows
theorem allK_nodup {names : List Str} {ties : List SS} {kd : Kd} {L : List (List Str)} (h : AllK names ties kd L) : L.Nodup := List.nodup_iff_pairwise_ne.mpr (List.Pairwise.imp (fun {a b} h e => by rw [e, lex_irr] at h; cases h) h.asc)
end Zm

/-! All greatest rows by the first names, grown by one name. -/
namespace Zm
open PySem L2 Wd Wm Km Bm Gm Hm Fm Fn PyProof.Rows
section
variable {names : List Str} {g : Str → Str → Bool}
/-- all greatest rows by some names, in any order -/
def Grown (g : Str → Str → Bool) (ns : List Str) (L : List (List Str)) : Prop := L.Nodup ∧ ∀ r, r ∈ L ↔ r.Sublist ns ∧ Mxc ns g r
theorem Grown.start : Grown g [] [[]] := ⟨by simp, fun r => by
  constructor
  · intro h
    rw [List.mem_singleton.mp h]
    exact ⟨List.Sublist.refl _, (fun x hx => by cases hx), (fun a ha => by cases ha), fun x hx => by cases hx⟩
  · rintro ⟨h, _⟩
    rw [List.sublist_nil.mp h]
    simp⟩
theorem behind_take {k : Nat} {x : Str} (hs : names.Pairwise sLt) (hx : names[k]? = some x) {r : List Str} (s : r.Sublist (names.take k)) : behindA g r x = r.filter (g x) ++ [x] := by
  unfold behindA
  congr 1
  refine List.filter_congr fun y hy => ?_
  have hy' := s.subset hy
  have : y.cps.toList < x.cps.toList := (take_lt hs hx (List.mem_of_mem_take hy')).mp hy'
  rw [decide_eq_true this, Bool.true_and]
/-- which rows come of the rows by the names ahead -/
theorem Grown.step (G : Gr g) (hs : names.Pairwise sLt) {k : Nat} {x : Str} (hx : names[k]? = some x) {L L' : List (List Str)} (h : Grown g (names.take k) L) (nd : L'.Nodup)
    (mem : ∀ r, r ∈ L' ↔ ∃ s ∈ L, (r = s ∧ s.all (g x) = false) ∨ (r = behindA g s x ∧ Full names g (behindA g s x) x)) : Grown g (names.take (k + 1)) L' := by
  have hk : k < names.length := (List.getElem?_eq_some_iff.mp hx).1
  have tk : names.take (k + 1) = names.take k ++ [x] := by rw [List.take_succ, hx]; rfl
  have hxn : x ∉ names.take k := fun z => sLt_irr _ ((take_lt hs hx (List.mem_of_mem_take z)).mp z)
  have hs' : (names.take (k + 1)).Pairwise sLt := hs.sublist (List.take_sublist _ _)
  have hsk : (names.take k).Pairwise sLt := hs.sublist (List.take_sublist _ _)
  refine ⟨nd, fun r => (mem r).trans ?_⟩
  constructor
  · rintro ⟨s, hsL, ⟨rfl, c⟩ | ⟨rfl, c⟩⟩
    · obtain ⟨s1, m⟩ := (h.2 r).mp hsL
      refine ⟨s1.trans (by rw [tk]; exact List.sublist_append_left _ _), ⟨fun y hy => by rw [tk]; exact List.mem_append_left _ (m.sub y hy), m.clq, fun y hy hn => ?_⟩⟩
      rw [tk] at hy
      rcases List.mem_append.mp hy with z | z
      · exact m.max y z hn
      · rw [List.mem_singleton.mp z]
        have c' : ¬ ∀ a ∈ r, g x a = true := fun q => by rw [List.all_eq_true.mpr q] at c; cases c
        obtain ⟨a, ha⟩ := Classical.not_forall.mp c'
        obtain ⟨ha, e⟩ := Classical.not_imp.mp ha
        exact ⟨a, ha, Bool.eq_false_iff.mpr e⟩
    · obtain ⟨s1, m⟩ := (h.2 s).mp hsL
      rw [behind_take hs hx s1] at c ⊢
      refine ⟨by rw [tk]; exact List.Sublist.append (List.filter_sublist.trans s1) (List.Sublist.refl _), ⟨fun y hy => ?_, fun a ha b hb ne => ?_, fun y hy hn => ?_⟩⟩
      · rw [tk]
        rcases List.mem_append.mp hy with z | z
        · exact List.mem_append_left _ (m.sub y (List.mem_filter.mp z).1)
        · exact List.mem_append_right _ z
      · rcases List.mem_append.mp ha with z | z <;> rcases List.mem_append.mp hb with y | y
        · exact m.clq a (List.mem_filter.mp z).1 b (List.mem_filter.mp y).1 ne
        · rw [List.mem_singleton.mp y, G.sy]; exact (List.mem_filter.mp z).2
        · rw [List.mem_singleton.mp z]; exact (List.mem_filter.mp y).2
        · rw [List.mem_singleton.mp z, List.mem_singleton.mp y] at ne; exact absurd rfl ne
      · rw [tk] at hy
        rcases List.mem_append.mp hy with z | z
        · exact c y (List.mem_of_mem_take z) ((take_lt hs hx (List.mem_of_mem_take z)).mp z) hn
        · exact absurd (List.mem_append_right _ z) hn
  · rintro ⟨s1, m⟩
    by_cases hxr : x ∈ r
    · -- with the name
      have sub' : ∀ y ∈ r.filter (fun y => !decide (y = x)), y ∈ names.take k := fun y hy => by
        obtain ⟨y1, y2⟩ := List.mem_filter.mp hy
        have := m.sub y y1
        rw [tk] at this
        rcases List.mem_append.mp this with z | z
        · exact z
        · rw [List.mem_singleton.mp z] at y2
          simp at y2
      have clq' : Clq g (r.filter fun y => !decide (y = x)) := fun a ha b hb ne => m.clq a (List.mem_filter.mp ha).1 b (List.mem_filter.mp hb).1 ne
      obtain ⟨f1, f2⟩ := fil_row (names := names.take k) G sub' clq'
      have sup : ∀ y ∈ r, y ≠ x → y ∈ filG (names.take k) g (r.filter fun y => !decide (y = x)) := fun y hy hn => by
        unfold filG
        rw [mem_kN]
        exact ⟨sub' y (List.mem_filter.mpr ⟨hy, by simp [hn]⟩), fillG_sup (List.mem_filter.mpr ⟨hy, by simp [hn]⟩)⟩
      have eq : ∀ y, y ∈ behindA g (filG (names.take k) g (r.filter fun y => !decide (y = x))) x ↔ y ∈ r := fun y => by
        rw [behind_take hs hx f1]
        constructor
        · intro z
          rcases List.mem_append.mp z with z | z
          · obtain ⟨z1, z2⟩ := List.mem_filter.mp z
            by_cases c : y ∈ r
            · exact c
            · obtain ⟨a, ha, e⟩ := m.max y (by rw [tk]; exact List.mem_append_left _ (f2.sub y z1)) c
              by_cases ea : a = x
              · rw [ea, G.sy, z2] at e
                cases e
              · rw [f2.clq y z1 a (sup a ha ea) fun q => c (q ▸ ha)] at e
                cases e
          · rw [List.mem_singleton.mp z]; exact hxr
        · intro z
          by_cases c : y = x
          · rw [c]; simp
          · exact List.mem_append_left _ (List.mem_filter.mpr ⟨sup y z c, m.clq x hxr y z fun q => c q.symm⟩)
      have eqr : r = behindA g (filG (names.take k) g (r.filter fun y => !decide (y = x))) x := by
        refine s_ext (hs'.sublist s1) ?_ fun y => (eq y).symm
        rw [behind_take hs hx f1]
        refine hs'.sublist ?_
        rw [tk]
        exact List.Sublist.append (List.filter_sublist.trans f1) (List.Sublist.refl _)
      refine ⟨_, (h.2 _).mpr ⟨f1, f2⟩, .inr ⟨eqr, ?_⟩⟩
      intro y hy lt hn
      rw [← eqr] at hn ⊢
      exact m.max y (by rw [tk]; exact List.mem_append_left _ ((take_lt hs hx hy).mpr lt)) hn
    · -- without it
      have sub' : ∀ y ∈ r, y ∈ names.take k := fun y hy => by
        have := m.sub y hy
        rw [tk] at this
        rcases List.mem_append.mp this with z | z
        · exact z
        · rw [List.mem_singleton.mp z] at hy; exact absurd hy hxr
      refine ⟨r, (h.2 r).mpr ⟨sub_of hsk (hs'.sublist s1) sub', sub', m.clq, fun y hy hn => m.max y (by rw [tk]; exact List.mem_append_left _ hy) hn⟩, .inl ⟨rfl, ?_⟩⟩
      obtain ⟨a, ha, e⟩ := m.max x (by rw [tk]; simp) hxr
      rw [Bool.eq_false_iff]
      intro q
      rw [List.all_eq_true.mp q a ha] at e
      cases e
theorem Grown.few {ns : List Str} {L : List (List Str)} (h : Grown g ns L) (hn : ns.length ≤ 15) : L.length ≤ 32768 :=
  found_few (g := g) (fun r hr => ((h.2 r).mp hr).1) (fun C => List.nodup_iff_count.mp h.1 C) hn
theorem Grown.ne {ns : List Str} {L : List (List Str)} (h : Grown g ns L) (h2 : 2 ≤ L.length) : ∀ k ∈ L, k ≠ [] := by
  rintro k hk rfl
  have m := ((h.2 _).mp hk).2
  have e : ns = [] := by
    cases ns with
    | nil => rfl
    | cons x r =>
      obtain ⟨a, ha, _⟩ := m.max x (List.mem_cons_self ..) (by simp)
      cases ha
  subst e
  have nd := h.1
  match L, h2, nd, h with
  | a :: b :: t, _, nd, h =>
    have ea : a = [] := List.sublist_nil.mp ((h.2 a).mp (by simp)).1
    have eb : b = [] := List.sublist_nil.mp ((h.2 b).mp (by simp)).1
    rw [ea, eb] at nd
    simp at nd
/-- whether no name ahead can be put to a row, as it is asked -/
def fullB (names : List Str) (g : Str → Str → Bool) (r : List Str) (x : Str) : Bool := !((names.filter fun y => decide (y.cps.toList < x.cps.toList) && !decide (y ∈ r)).map fun y => r.all (g y)).any id
end
/-! ### rows as keys -/
def IsRowH (H : Hp) (v : V) (ws : List Str) : Prop := ∃ a, v = .ref a ∧ H a = some (.tup (ws.map V.str))
theorem IsRowH.t {K : PySem.W.Frag} {H : Hp} {v : V} {ws : List Str} (h : IsRowH H v ws) : IsRowT K H v ws := let ⟨a, e, q⟩ := h; ⟨a, e, SqT.of q⟩
theorem IsRowH.keep {H H' : Hp} {v : V} {ws : List Str} (h : IsRowH H v ws) (k : KeepT H H') : IsRowH H' v ws := let ⟨a, e, q⟩ := h; ⟨a, e, k.1 _ _ q⟩
def rk (ws : List Str) : List Key := ws.map Sum.inr
theorem rk_inj {a b : List Str} : rk a = rk b ↔ a = b := ⟨inr_inj, fun h => by rw [h]⟩
/-- a dict of rows -/
def Keys (kvs : List (List Key × V)) (F : List (List Str)) : Prop := kvs.map (·.1) = F.map rk ∧ F.Nodup
theorem Keys.nil : Keys [] [] := ⟨rfl, List.nodup_nil⟩
theorem Keys.len {kvs : List (List Key × V)} {F : List (List Str)} (h : Keys kvs F) : kvs.length = F.length := by
  have := congrArg List.length h.1
  simpa using this
theorem Keys.val {kvs : List (List Key × V)} {F : List (List Str)} (h : Keys kvs F) (r : List Str) : (valV kvs (rk r)).isSome = decide (r ∈ F) := by
  rw [← valV_any]
  have e : (kvs.any fun kv => decide (kv.1 = rk r)) = ((kvs.map (·.1)).any fun k => decide (k = rk r)) := by rw [List.any_map]; rfl
  rw [e, h.1, List.any_map]
  clear e h
  induction F with
  | nil => rfl
  | cons a t ih =>
    rw [List.any_cons, ih]
    by_cases c : r = a
    · subst c; simp
    · have c' : ¬ rk a = rk r := fun z => c (rk_inj.mp z).symm
      simp [Function.comp, c, c']
def putR (F : List (List Str)) (r : List Str) : List (List Str) := if r ∈ F then F else F ++ [r]
theorem Keys.put {kvs : List (List Key × V)} {F : List (List Str)} (h : Keys kvs F) (r : List Str) (v : V) : Keys (putK kvs (rk r) v) (putR F r) := by
  have e := valV_any (rk r) kvs
  rw [h.val] at e
  unfold putK putR
  by_cases c : r ∈ F
  · rw [if_pos (by rw [e]; exact decide_eq_true c), if_pos c]
    refine ⟨?_, h.2⟩
    rw [← h.1, List.map_map]
    refine List.map_congr_left fun p _ => ?_
    show (if p.1 = rk r then (p.1, v) else p).1 = p.1
    split <;> rfl
  · rw [if_neg (by rw [e]; simpa using c), if_neg c]
    refine ⟨by rw [List.map_append, List.map_append, h.1]; rfl, ?_⟩
    rw [List.nodup_append]
    exact ⟨h.2, by simp, fun a ha b hb q => c (by rw [List.mem_singleton.mp hb] at q; exact q ▸ ha)⟩
end Zm
namespace L2
open PySem PySem.Spec PyProof.Rows
/-! ### lists of rows compared -/
def rowD (r : List Str) : PyData := .tuple (r.map PyData.str)
def rowsD (L : List (List Str)) : PyData := .list (L.map rowD)
end L2
namespace Zm
open PySem L2 Wd Wm Km Bm Gm Hm Fm Fn PyProof.Rows
section
variable {names : List Str} {ties : List SS} {kd : Kd} {L : List (List Str)}
theorem AllK.lt (h : AllK names ties kd L) (w : WebOk names ties) : ∀ r ∈ L, ∀ x ∈ r, Wd.Lt x := fun r hr x hx => (w.nw x (((h.mem r).mp hr).1.subset hx)).1.lt
theorem AllK.few (h : AllK names ties kd L) (h15 : names.length ≤ 15) : L.length ≤ 32768 := found_few (g := gK ties kd) (fun r hr => ((h.mem r).mp hr).1) (fun C => List.nodup_iff_count.mp (allK_nodup h) C) h15
theorem AllK.short (h : AllK names ties kd L) (h15 : names.length ≤ 15) : ∀ r ∈ L, r.length ≤ 15 := fun r hr => Nat.le_trans ((h.mem r).mp hr).1.length_le h15
end
end Zm

namespace K02
open PySem L2
def top (i : Nat) : Stmt := PySem.Challenge.pw_eachgreatest_k02_texts_of_no_web.main.body.getD i (.Pass ⟨0, 0, 0, 0⟩)
abbrev s_is_name : Stmt := top 9
abbrev s_pairs_of : Stmt := top 10
abbrev s_read_names : Stmt := top 11
abbrev s_read_ties : Stmt := top 12
abbrev s_read_web : Stmt := top 13
abbrev s_law_deck : Stmt := top 15
abbrev s_law_take : Stmt := top 16
abbrev s_law_names : Stmt := top 17
abbrev s_law_size : Stmt := top 18
abbrev s_law_web : Stmt := top 19
abbrev s_law_some : Stmt := top 20
abbrev s_law_same : Stmt := top 21
abbrev s_law_shuffled : Stmt := top 22
abbrev s_law_text : Stmt := top 23
abbrev s_law_caught : Stmt := top 24
abbrev s_law_is_name : Stmt := top 25
abbrev s_law_read : Stmt := top 26
abbrev s_law_right : Stmt := top 27
abbrev s_law_sign : Stmt := top 28
abbrev s_law_spoilt : Stmt := top 29
abbrev s_law : Stmt := top 30
/-- the built-in names that the text leaves alone -/
structure Tx (mg : Str → Option Value) : Prop where
  len : mg "len" = none
  sum : mg "sum" = none
  range : mg "range" = none
  sorted : mg "sorted" = none
  min : mg "min" = none
  int : mg "int" = none
  tuple : mg "tuple" = none
  isinstance : mg "isinstance" = none
  str : mg "str" = none
  bool : mg "bool" = none
  zip : mg "zip" = none
  enumerate : mg "enumerate" = none
  set : mg "set" = none
  all : mg "all" = none
  list : mg "list" = none
  max : mg "max" = none
  any : mg "any" = none
  reversed : mg "reversed" = none
/-- a def of the text that keeps its promise -/
def Own (P : Program) (w : World) (K : PySem.W.Frag) (mg : Str → Option Value) (base : Heap) (k : Nat) (x : Str) (ps : List Str) (sp : Sp) : Prop :=
  ∃ f fd, FnOk P w K mg base CX0 k f fd ps sp ∧ Binds K fd ps [] ∧ PySem.W.keepIn K (.ref f) = true ∧ mg x = some (.ref f)
/-! ### the deck: three things at d, its cells at c -/
def Deck (H : Hp) (d c : Addr) : Prop := ∃ (cells : List Int) (n sd : Int), H d = some (.lst [.ref c, .int n, .int sd]) ∧ H c = some (.lst (cells.map V.int)) ∧ 0 < cells.length
theorem Deck.ne {H : Hp} {d c : Addr} (h : Deck H d c) : d ≠ c := by
  obtain ⟨cells, n, sd, h1, h2, h3⟩ := h
  refine ne_of h1 h2 fun e => ?_
  cases cells with
  | nil => exact absurd h3 (by simp)
  | cons x r => injection e with e; injection e with e _; cases e
/-- all stays but what stands at the two addresses -/
def Kept (d c : Addr) (H H' : Hp) : Prop := ∀ b o, H b = some o → b ≠ d → b ≠ c → H' b = some o
/-- a step that may draw from the deck -/
structure Stp (d c : Addr) (H H' : Hp) : Prop where
  k : Kept d c H H'
  dk : Deck H' d c
theorem Stp.refl {d c : Addr} {H : Hp} (h : Deck H d c) : Stp d c H H := ⟨fun _ _ e _ _ => e, h⟩
theorem Stp.trans {d c : Addr} {H H1 H2 : Hp} (a : Stp d c H H1) (b : Stp d c H1 H2) : Stp d c H H2 := ⟨fun x o e n1 n2 => b.k x o (a.k x o e n1 n2) n1 n2, b.dk⟩
theorem Stp.free {d c : Addr} {H H' : Hp} (a : Stp d c H H') {p : Addr} (h : H' p = none) : H p = none := by
  cases e : H p with
  | none => rfl
  | some o =>
    obtain ⟨cells, n, sd, h1, h2, _⟩ := a.dk
    by_cases q1 : p = d
    · rw [q1, h1] at h; cases h
    · by_cases q2 : p = c
      · rw [q2, h2] at h; cases h
      · rw [a.k p o e q1 q2] at h; cases h
theorem Deck.nd {H : Hp} {d c p : Addr} (h : Deck H d c) (n : H p = none) : p ≠ d ∧ p ≠ c := by
  obtain ⟨cells, m, sd, h1, h2, _⟩ := h
  exact ⟨(ne_of_none h1 n).symm, (ne_of_none h2 n).symm⟩
/-- an object that is not the deck's is laid or written -/
theorem Stp.upd {d c : Addr} {H H' : Hp} (a : Stp d c H H') {p : Addr} (n : H p = none) (n1 : p ≠ d) (n2 : p ≠ c) (o : HO) : Stp d c H (upd H' p o) := by
  obtain ⟨cells, m, sd, h1, h2, h3⟩ := a.dk
  exact ⟨fun x o e q1 q2 => by rw [upd_ne (ne_of_none e n)]; exact a.k x o e q1 q2, cells, m, sd, by rw [upd_ne n1.symm]; exact h1, by rw [upd_ne n2.symm]; exact h2, h3⟩
theorem Stp.new {d c : Addr} {H H' : Hp} (a : Stp d c H H') {p : Addr} (n : H' p = none) (o : HO) : Stp d c H (L2.upd H' p o) :=
  a.upd (a.free n) (a.dk.nd n).1 (a.dk.nd n).2 o
/-- tuples and texts of before are still there -/
theorem Stp.keepT {d c : Addr} {H H' : Hp} (h0 : Deck H d c) (a : Stp d c H H') : KeepT H H' := by
  obtain ⟨cells, m, sd, h1, h2, h3⟩ := h0
  exact ⟨fun b xs e => a.k b _ e (ne_of e h1 (by intro z; cases z)) (ne_of e h2 (by intro z; cases z)), fun b o u e => a.k b _ e (ne_of e h1 (by intro z; cases z)) (ne_of e h2 (by intro z; cases z))⟩
section
variable {P : Program} {w : World} {K : PySem.W.Frag} {mg : Str → Option Value} {base : Heap}
/-! ### _law_take -/
def spTake : Sp := fun vs H Q _ => ∃ (d c : Addr) (many : Int), vs = [.ref d, .int many] ∧ Deck H d c ∧ 0 < many ∧ many < 1073741824 ∧ ∀ (r : Int) (H' : Hp), 0 ≤ r → r < many → Stp d c H H' → Q (.int r) H'
theorem sc_take : FnScope ["deck", "many", "at", "cell", "one"] ["deck", "many"] (defScope s_law_take) := ⟨rfl, rfl, rfl, by decide +kernel, rfl, by decide +kernel, by decide +kernel⟩
theorem ok_take {f : Addr} {fd : FuncData} (F : Fun K "_law_take" "_law_take" s_law_take f fd) (T : Tx mg) : FnOk P w K mg base CX0 1 f fd ["deck", "many"] spTake := by
  have nd := sc_take.nd
  refine F.ok sc_take (fun vs H Q E h => ?_) (fun cdv A outer s H vs Q E hr h => ?_)
  · obtain ⟨d, c, many, rfl, _⟩ := h
    rfl
  obtain ⟨d, c, many, rfl, D, m0, m1, q⟩ := h
  obtain ⟨cells, n, sd, hd, hc, hl⟩ := id D
  have ndc := D.ne
  refine SB.use (bcons
  (bset (n := 2) nd rfl (Or.inl (by kernel_rfl)) (eop op_mod (eix ix_list (ev 0 rfl (Or.inl (by kernel_rfl)) (by kernel_rfl) (by kernel_rfl)) eint (fun _ _ => rfl)) (ecallB call_len_seq (by unfold Gl; kernel_rfl) T.len L2.boot_len (acons (eix ix_list (ev 0 rfl (Or.inl (by kernel_rfl)) (by kernel_rfl) (by kernel_rfl)) eint (fun _ _ => rfl)) anil (by kernel_rfl)) (by decide +kernel) (by kernel_rfl) (by kernel_rfl) (by kernel_rfl))) (by kernel_rfl) (.inl rfl))
  (bcons
  (basg (eop op_add (eix ix_list (ev 0 rfl (Or.inl (by kernel_rfl)) (by kernel_rfl) (by kernel_rfl)) eint (fun _ _ => rfl)) eint) (gsub (ev 0 rfl (Or.inl (by kernel_rfl)) (by kernel_rfl) (by kernel_rfl)) eint set_list (by intro _; rfl)) (by kernel_rfl) (by kernel_rfl) (by kernel_rfl))
  (bcons
  (bset (n := 3) nd rfl (Or.inl (by kernel_rfl)) (eix ix_list (eix ix_list (ev 0 rfl (Or.inl (by kernel_rfl)) (by kernel_rfl) (by kernel_rfl)) eint (fun _ _ => rfl)) (ev 2 rfl (Or.inl (by kernel_rfl)) (by kernel_rfl) (by kernel_rfl)) (fun _ _ => rfl)) (by kernel_rfl) (.inl rfl))
  (bcons
  (bifs (tw (wor (tcmp op_eq (ev 3 rfl (Or.inl (by kernel_rfl)) (by kernel_rfl) (by kernel_rfl)) eint (nomark _)) (wor1 (tcmp op_eq (ev 3 rfl (Or.inl (by kernel_rfl)) (by kernel_rfl) (by kernel_rfl)) (eun un_neg eint) (nomark _))))) (bcons
  (bset (n := 4) nd rfl (Or.inl (by kernel_rfl)) (eop op_mod (eop op_mul (eop op_mod (eop op_add (eix ix_list (ev 0 rfl (Or.inl (by kernel_rfl)) (by kernel_rfl) (by kernel_rfl)) eint (fun _ _ => rfl)) (eop op_mul eint (eix ix_list (ev 0 rfl (Or.inl (by kernel_rfl)) (by kernel_rfl) (by kernel_rfl)) eint (fun _ _ => rfl)))) eint) eint) eint) (by kernel_rfl) (.inl rfl))
  (bcons
  (bset (n := 4) nd rfl (Or.inl (by kernel_rfl)) (eop op_mod (eop op_mul (eop op_mod (eop op_add (eop op_mul (ev 4 rfl (Or.inl (by kernel_rfl)) (by kernel_rfl) (by kernel_rfl)) (ev 4 rfl (Or.inl (by kernel_rfl)) (by kernel_rfl) (by kernel_rfl))) (eop op_mul eint (eix ix_list (ev 0 rfl (Or.inl (by kernel_rfl)) (by kernel_rfl) (by kernel_rfl)) eint (fun _ _ => rfl)))) eint) eint) eint) (by kernel_rfl) (.inl rfl))
  (bone
  (bret (eop op_mod (eop op_fdiv (ev 4 rfl (Or.inl (by kernel_rfl)) (by kernel_rfl) (by kernel_rfl)) eint) (ev 1 rfl (Or.inl (by kernel_rfl)) (by kernel_rfl) (by kernel_rfl))))))) bnil)
  (bcons
  (basg (eop op_fdiv (ev 3 rfl (Or.inl (by kernel_rfl)) (by kernel_rfl) (by kernel_rfl)) (ev 1 rfl (Or.inl (by kernel_rfl)) (by kernel_rfl) (by kernel_rfl))) (gsub (eix ix_list (ev 0 rfl (Or.inl (by kernel_rfl)) (by kernel_rfl) (by kernel_rfl)) eint (fun _ _ => rfl)) (ev 2 rfl (Or.inl (by kernel_rfl)) (by kernel_rfl) (by kernel_rfl)) set_list (by intro _; rfl)) (by kernel_rfl) (by kernel_rfl) (by kernel_rfl))
  (bone
  (bret (eop op_mod (ev 3 rfl (Or.inl (by kernel_rfl)) (by kernel_rfl) (by kernel_rfl)) (ev 1 rfl (Or.inl (by kernel_rfl)) (by kernel_rfl) (by kernel_rfl)))))))))) ?_
  have hl' : (0 : Int) < (((cells.map V.int).length : Nat) : Int) := by rw [List.length_map]; omega
  refine ⟨_, rfl, d, _, _, _, rfl, rfl, SqL.of hd, rfl, _, rfl, d, _, _, _, rfl, rfl, SqL.of hd, rfl, c, _, rfl, .inl (SqL.of hc), _, _, rfl, rfl, hl', ?_⟩
  have a0 := Int.emod_nonneg n (Int.ne_of_gt hl')
  have a1 := Int.emod_lt_of_pos n hl'
  generalize ha : n % (((cells.map V.int).length : Nat) : Int) = a at a0 a1
  obtain ⟨k, rfl⟩ := Int.eq_ofNat_of_zero_le a0
  rw [List.length_map] at a1
  have hk : k < cells.length := by omega
  -- deck[1] = deck[1] + 1
  refine ⟨_, rfl, d, _, _, _, rfl, rfl, SqL.of hd, rfl, _, _, rfl, rfl, _, rfl, d, _, _, 1, rfl, rfl, hd, rfl, ?_⟩
  generalize hH1 : upd H d (.lst (List.set [V.ref c, V.int n, V.int sd] 1 (V.int (n + 1)))) = H1
  have hd1 : H1 d = some (.lst [.ref c, .int (n + 1), .int sd]) := by rw [← hH1]; exact upd_same
  have hc1 : H1 c = some (.lst (cells.map V.int)) := by rw [← hH1, upd_ne ndc.symm]; exact hc
  have st1 : Stp d c H H1 := ⟨fun b o e n1 n2 => by rw [← hH1, upd_ne n1]; exact e, cells, n + 1, sd, hd1, hc1, hl⟩
  -- cell
  have hat : atI (cells.map V.int) (n % (((cells.map V.int).length : Nat) : Int)) = some (.int cells[k]) := by
    rw [ha]
    exact atI_nat (by rw [List.getElem?_map, List.getElem?_eq_getElem hk]; rfl)
  refine ⟨_, rfl, d, _, _, _, rfl, rfl, SqL.of hd1, rfl, _, rfl, c, _, _, _, rfl, rfl, SqL.of hc1, hat, ?_⟩
  generalize cells[k] = cell
  refine ⟨_, rfl, rfl, _, rfl, ?_⟩
  refine ite2 (fun c1 => ?b1) (fun c1 => ?_)
  case' b1 => refine iteT ?_
  rotate_left
  refine ⟨_, rfl, _, rfl, rfl, _, rfl, ?_⟩
  refine ite2 (fun c2 => ?b2) (fun c2 => ?b3)
  case b3 =>
    refine ⟨_, rfl, _, rfl, _, _, rfl, rfl, ⟨m0, m1⟩, _, rfl, d, _, _, _, rfl, rfl, SqL.of hd1, rfl, _, rfl, c, _, _, k, rfl, rfl, hc1, ?_, ?_⟩
    · show ixN (cells.map V.int).length (n % (((cells.map V.int).length : Nat) : Int)) = some k
      rw [ha]
      unfold ixN
      rw [if_pos (by omega), if_pos (by rw [List.length_map]; omega), Int.toNat_natCast]
    · refine ⟨_, rfl, _, rfl, _, _, rfl, rfl, m0, ?_⟩
      refine q _ _ (Int.emod_nonneg _ (Int.ne_of_gt m0)) (Int.emod_lt_of_pos _ m0) ⟨fun b o e n1 n2 => by rw [upd_ne n2]; exact st1.k b o e n1 n2, cells.set k (cell / many), n + 1, sd, by rw [upd_ne ndc]; exact hd1, ?_, by rw [List.length_set]; exact hl⟩
      rw [upd_same, List.map_set]
  case b1 | b2 =>
    refine ⟨_, rfl, d, _, _, _, rfl, rfl, SqL.of hd1, rfl, _, rfl, d, _, _, _, rfl, rfl, SqL.of hd1, rfl, _, _, rfl, rfl, .inl ⟨by decide, by decide⟩, _, _, rfl, rfl, _, _, rfl, rfl, (by show (0 : Int) < 2147483587; decide), _, _, rfl, rfl, .inr ⟨by decide, by decide⟩, _, _, rfl, rfl, (by show (0 : Int) < 2147483629; decide), ?_⟩
    refine ⟨_, rfl, _, rfl, _, _, rfl, rfl, .inl ⟨by omega, by omega⟩, _, rfl, d, _, _, _, rfl, rfl, SqL.of hd1, rfl, _, _, rfl, rfl, .inl ⟨by decide, by decide⟩, _, _, rfl, rfl, _, _, rfl, rfl, (by show (0 : Int) < 2147483563; decide), _, _, rfl, rfl, .inr ⟨by decide, by decide⟩, _, _, rfl, rfl, (by show (0 : Int) < 2147483549; decide), ?_⟩
    refine ⟨_, rfl, _, _, rfl, rfl, ⟨by decide, by decide⟩, _, rfl, _, _, rfl, rfl, m0, ?_⟩
    exact q _ _ (Int.emod_nonneg _ (Int.ne_of_gt m0)) (Int.emod_lt_of_pos _ m0) st1
end
end K02

namespace K02
open PySem L2
theorem sl1000 {n : Nat} (h : n ≤ 1000) : n ≤ sizeLine := Nat.le_of_lt (small1000 h)
theorem cut63 {ns : List Int} (h : ns.length ≤ 63) : cutV (ns.map V.int) none (some 63) = ns.map V.int := by
  unfold cutV
  have e : HT.sIx (ns.map V.int).length (ns.map V.int).length (some (63 : Int)) = ns.length := by
    rw [List.length_map]
    have := HT.sIx_nat ns.length ns.length 63
    have e2 : ((63 : Nat) : Int) = 63 := rfl
    rw [e2] at this
    rw [this]
    omega
  rw [e, HT.sIx_none, List.drop_zero, Nat.sub_zero, List.take_of_length_le (by rw [List.length_map]; exact Nat.le_refl _)]
theorem at_map {cs : List Int} {i : Nat} (h : i < cs.length) : atI (cs.map V.int) (0 + (i : Int)) = some (.int cs[i]) := by
  rw [Int.zero_add]
  exact atI_nat (by rw [List.getElem?_map, List.getElem?_eq_getElem h]; rfl)
theorem ix_in {n i : Nat} (h : i < n) : ixN n (0 + (i : Int)) = some i := by
  rw [Int.zero_add]
  unfold ixN
  rw [if_pos (by omega), if_pos (by omega), Int.toNat_natCast]
section
variable {P : Program} {w : World} {K : PySem.W.Frag} {mg : Str → Option Value} {base : Heap}
def spDeck (K : PySem.W.Frag) : Sp := fun vs H Q _ => ∃ (a : Addr) (ns : List Int), vs = [.ref a] ∧ SqL K H a (ns.map V.int) ∧ ns.length ≤ 63 ∧ ∀ (d c : Addr) (H' : Hp), Same H H' → Deck H' d c → H d = none → H c = none → Q (.ref d) H'
theorem sc_deck : FnScope ["script", "cells", "seed", "k", "mixed"] ["script"] (defScope s_law_deck) := ⟨rfl, rfl, rfl, by decide +kernel, rfl, by decide +kernel, by decide +kernel⟩
theorem ok_deck {f : Addr} {fd : FuncData} (F : Fun K "_law_deck" "_law_deck" s_law_deck f fd) (T : Tx mg) : FnOk P w K mg base CX0 1 f fd ["script"] (spDeck K) := by
  have nd := sc_deck.nd
  refine F.ok sc_deck (fun vs H Q E h => ?_) (fun cdv A outer s H vs Q E hr h => ?_)
  · obtain ⟨a, ns, rfl, _⟩ := h
    rfl
  obtain ⟨a, ns, rfl, hS, h63, q⟩ := h
  refine SB.use (bcons
  (bset (n := 1) nd rfl (Or.inl (by kernel_rfl)) (eop op_cat (eslice sl_list (ev 0 rfl (Or.inl (by kernel_rfl)) (by kernel_rfl) (by kernel_rfl)) onone (osome eint)) (elst (acons (ecallB call_len_seq (by unfold Gl; kernel_rfl) T.len L2.boot_len (acons (ev 0 rfl (Or.inl (by kernel_rfl)) (by kernel_rfl) (by kernel_rfl)) anil (by kernel_rfl)) (by decide +kernel) (by kernel_rfl) (by kernel_rfl) (by kernel_rfl)) anil (by kernel_rfl)))) (by kernel_rfl) (.inl rfl))
  (bcons
  (bset (n := 2) nd rfl (Or.inl (by kernel_rfl)) (eop op_mod (eop op_add (eop op_add (eop op_mul (ecallB (cr_sum rfl) (by unfold Gl; kernel_rfl) T.sum L2.boot_sum (acons (eslice sl_list (ev 0 rfl (Or.inl (by kernel_rfl)) (by kernel_rfl) (by kernel_rfl)) onone (osome eint)) anil (by kernel_rfl)) (by decide +kernel) (by kernel_rfl) (by kernel_rfl) (by kernel_rfl)) eint) (eop op_mul eint (ecallB call_len_seq (by unfold Gl; kernel_rfl) T.len L2.boot_len (acons (ev 0 rfl (Or.inl (by kernel_rfl)) (by kernel_rfl) (by kernel_rfl)) anil (by kernel_rfl)) (by decide +kernel) (by kernel_rfl) (by kernel_rfl) (by kernel_rfl)))) eint) eint) (by kernel_rfl) (.inl rfl))
  (bcons
  (bifs (tcmp op_eq (eop op_mod (ecallB (cr_sum rfl) (by unfold Gl; kernel_rfl) T.sum L2.boot_sum (acons (eslice sl_list (ev 0 rfl (Or.inl (by kernel_rfl)) (by kernel_rfl) (by kernel_rfl)) onone (osome eint)) anil (by kernel_rfl)) (by decide +kernel) (by kernel_rfl) (by kernel_rfl) (by kernel_rfl)) eint) eint (nomark _)) (bone
  (bfor PassesOwn.never rfl (irange1 (by unfold Gl; kernel_rfl) T.range (acons (ecallB call_len_seq (by unfold Gl; kernel_rfl) T.len L2.boot_len (acons (ev 1 rfl (Or.inl (by kernel_rfl)) (by kernel_rfl) (by kernel_rfl)) anil (by kernel_rfl)) (by decide +kernel) (by kernel_rfl) (by kernel_rfl) (by kernel_rfl)) anil (by kernel_rfl)) (by kernel_rfl)) (gname (n := 3) nd rfl (Or.inl (by kernel_rfl)) (.inl rfl)) (bcons
  (bset (n := 4) nd rfl (Or.inl (by kernel_rfl)) (eop op_mod (eop op_mul (eop op_add (eop op_add (eop op_mod (eix ix_list (ev 1 rfl (Or.inl (by kernel_rfl)) (by kernel_rfl) (by kernel_rfl)) (ev 3 rfl (Or.inl (by kernel_rfl)) (by kernel_rfl) (by kernel_rfl)) (fun _ _ => rfl)) eint) (eop op_mul eint (ev 3 rfl (Or.inl (by kernel_rfl)) (by kernel_rfl) (by kernel_rfl)))) eint) eint) eint) (by kernel_rfl) (.inl rfl))
  (bcons
  (bset (n := 4) nd rfl (Or.inl (by kernel_rfl)) (eop op_mod (eop op_mul (eop op_mod (eop op_add (eop op_mul (ev 4 rfl (Or.inl (by kernel_rfl)) (by kernel_rfl) (by kernel_rfl)) (ev 4 rfl (Or.inl (by kernel_rfl)) (by kernel_rfl) (by kernel_rfl))) (eop op_mul eint (ev 3 rfl (Or.inl (by kernel_rfl)) (by kernel_rfl) (by kernel_rfl)))) eint) eint) eint) (by kernel_rfl) (.inl rfl))
  (bone
  (basg (eop op_add (eop op_mul (eop op_mul (ev 4 rfl (Or.inl (by kernel_rfl)) (by kernel_rfl) (by kernel_rfl)) (ev 4 rfl (Or.inl (by kernel_rfl)) (by kernel_rfl) (by kernel_rfl))) eint) (eop op_mod (eop op_mul (ev 4 rfl (Or.inl (by kernel_rfl)) (by kernel_rfl) (by kernel_rfl)) eint) eint)) (gsub (ev 1 rfl (Or.inl (by kernel_rfl)) (by kernel_rfl) (by kernel_rfl)) (ev 3 rfl (Or.inl (by kernel_rfl)) (by kernel_rfl) (by kernel_rfl)) set_list (by intro _; rfl)) (by kernel_rfl) (by kernel_rfl) (by kernel_rfl))))) (by intro _; rfl))) bnil)
  (bone
  (bret (elst (acons (ev 1 rfl (Or.inl (by kernel_rfl)) (by kernel_rfl) (by kernel_rfl)) (acons eint (acons (ev 2 rfl (Or.inl (by kernel_rfl)) (by kernel_rfl) (by kernel_rfl)) anil (by kernel_rfl)) (by kernel_rfl)) (by kernel_rfl)))))))) ?_
  -- cells = script[:63] + [len(script)]
  refine ⟨_, rfl, _, rfl, a, _, rfl, hS, fun p hp => ?_⟩
  have s1 : Same H (upd H p (.lst (cutV (ns.map V.int) none (some 63)))) := same_new hp _
  refine ⟨_, rfl, a, _, rfl, .inl (s1.seq hS), (by show 1 ≤ sizeLine; decide), fun l hl => ?_⟩
  have npl : p ≠ l := ne_of_none upd_same hl
  have s2 := s1.trans (same_new hl (.lst [V.int (((ns.map V.int).length : Nat) : Int)]))
  refine ⟨p, l, _, _, rfl, rfl, (by rw [upd_ne npl]; exact upd_same), upd_same, (by rw [cut63 h63, List.length_map]; exact sl1000 (by simp only [List.length_singleton]; omega)), fun c hc => ?_⟩
  rw [cut63 h63]
  generalize hcs : ns.map V.int ++ [V.int (((ns.map V.int).length : Nat) : Int)] = cs0
  have ecs : cs0 = (ns ++ [(((ns.map V.int).length : Nat) : Int)]).map V.int := by rw [← hcs, List.map_append]; rfl
  rw [cut63 h63] at s2 hc
  have s3 := s2.trans (same_new hc (.lst cs0))
  have cH : H c = none := s2.free hc
  generalize hH3 : upd (upd (upd H p (.lst (ns.map V.int))) l (.lst [V.int (((ns.map V.int).length : Nat) : Int)])) c (.lst cs0) = H3 at s3
  have hc3 : H3 c = some (.lst cs0) := by rw [← hH3]; exact upd_same
  rw [ecs] at hc3
  generalize hcl : ns ++ [(((ns.map V.int).length : Nat) : Int)] = cl at hc3
  have cll : cl.length = ns.length + 1 := by rw [← hcl, List.length_append]; rfl
  -- seed
  refine ⟨_, rfl, _, rfl, a, _, rfl, s3.seq hS, fun p2 hp2 => ?_⟩
  rw [cut63 h63]
  have s4 := s3.trans (same_new hp2 (.lst (ns.map V.int)))
  have hc4 : (upd H3 p2 (.lst (ns.map V.int))) c = some (.lst (cl.map V.int)) := by rw [upd_ne (ne_of_none hc3 hp2)]; exact hc3
  refine ⟨p2, ns, rfl, SqL.of upd_same, _, _, rfl, rfl, .inr ⟨by decide, by decide⟩, _, rfl, a, _, rfl, .inl (s4.seq hS), _, _, rfl, rfl, .inl ⟨by decide, by decide⟩, _, _, rfl, rfl, _, _, rfl, rfl, _, _, rfl, rfl, (by show (0 : Int) < 2147483647; decide), ?_⟩
  generalize upd H3 p2 (.lst (ns.map V.int)) = H4 at s4 hc4
  -- if sum(script[:63]) % 2 == 1
  refine ⟨_, rfl, _, rfl, a, _, rfl, s4.seq hS, fun p3 hp3 => ?_⟩
  rw [cut63 h63]
  have s5 := s4.trans (same_new hp3 (.lst (ns.map V.int)))
  have hc5 : (upd H4 p3 (.lst (ns.map V.int))) c = some (.lst (cl.map V.int)) := by rw [upd_ne (ne_of_none hc4 hp3)]; exact hc4
  refine ⟨p3, ns, rfl, SqL.of upd_same, _, _, rfl, rfl, (by show (0 : Int) < 2; decide), rfl, _, rfl, ?_⟩
  generalize upd H4 p3 (.lst (ns.map V.int)) = H5 at s5 hc5
  have fin : ∀ (sd : Int) (H6 : Hp) (cs : List Int), Same H H6 → H6 c = some (.lst (cs.map V.int)) → 0 < cs.length → 3 ≤ sizeLine ∧ ∀ d, H6 d = none → Q (.ref d) (upd H6 d (.lst [.ref c, .int 0, .int sd])) := fun sd H6 cs s6 h6 hl6 =>
    ⟨by decide, fun d hd => q d c _ (s6.trans (same_new hd _)) ⟨cs, 0, sd, upd_same, by rw [upd_ne (ne_of_none h6 hd)]; exact h6, hl6⟩ (s6.free hd) cH⟩
  refine ite2 (fun c1 => ?_) (fun c1 => ?_)
  · have b1 : (((cl.map V.int).length : Nat) : Int) ≤ 64 := by rw [List.length_map]; omega
    refine ⟨_, rfl, c, _, rfl, .inl (SqL.of hc5), _, rfl, by omega, by omega, ?_⟩
    refine for_range (lo := 0) (fun i σ H6 => ∃ (cs : List Int) (kv mv : Option V) (sd : Int), cs.length = cl.length ∧ σ = [some (.ref a), some (.ref c), some (.int sd), kv, mv] ∧ Same H H6 ∧ H6 c = some (.lst (cs.map V.int))) ⟨cl, _, _, _, rfl, rfl, s5, hc5⟩ ?_ ?_
    · rintro i σ H6 hi ⟨cs, kv, mv, sd, hcl6, rfl, s6, hc6⟩
      have hi' : i < cs.length := by
        rw [List.length_map] at hi
        omega
      refine ⟨_, rfl, _, rfl, c, _, _, _, rfl, rfl, SqL.of hc6, at_map hi', _, _, rfl, rfl, (by show (0 : Int) < 2147483587; decide), _, rfl, _, _, rfl, rfl, .inl ⟨by decide, by decide⟩, _, _, rfl, rfl, _, _, rfl, rfl, _, _, rfl, rfl, .inr ⟨by decide, by decide⟩, _, _, rfl, rfl, (by show (0 : Int) < 2147483629; decide), ?_⟩
      refine ⟨_, rfl, _, rfl, _, _, rfl, rfl, .inl ⟨by omega, by omega⟩, _, rfl, _, _, rfl, rfl, .inl ⟨by decide, by decide⟩, _, _, rfl, rfl, _, _, rfl, rfl, (by show (0 : Int) < 2147483563; decide), _, _, rfl, rfl, .inr ⟨by decide, by decide⟩, _, _, rfl, rfl, (by show (0 : Int) < 2147483549; decide), ?_⟩
      refine ⟨_, rfl, _, rfl, _, _, rfl, rfl, .inl ⟨by omega, by omega⟩, _, _, rfl, rfl, .inr ⟨by decide, by decide⟩, _, rfl, _, _, rfl, rfl, .inr ⟨by decide, by decide⟩, _, _, rfl, rfl, (by show (0 : Int) < 2147483579; decide), _, _, rfl, rfl, _, rfl, _, rfl, c, _, _, i, rfl, rfl, hc6, ix_in (by rw [List.length_map]; exact hi'), ?_⟩
      have key : ∀ (z : Int) (k1 k2 : Option V), ∃ (cs' : List Int) (kv mv : Option V) (sd' : Int), cs'.length = cl.length ∧ [some (V.ref a), some (V.ref c), some (V.int sd), k1, k2] = [some (.ref a), some (.ref c), some (.int sd'), kv, mv] ∧ Same H (upd H6 c (.lst ((cs.map V.int).set i (.int z)))) ∧ (upd H6 c (.lst ((cs.map V.int).set i (.int z)))) c = some (.lst (cs'.map V.int)) := fun z k1 k2 =>
        ⟨cs.set i z, k1, k2, sd, by rw [List.length_set]; exact hcl6, rfl, fun b o e => by rw [upd_ne (ne_of_none e cH)]; exact s6 b o e, by rw [upd_same, List.map_set]⟩
      exact key _ _ _
    · rintro σ H6 ⟨cs, kv, mv, sd, hcl6, rfl, s6, hc6⟩
      refine ⟨_, rfl, _, rfl, ?_⟩
      exact fin sd H6 cs s6 hc6 (by omega)
  · refine ⟨_, rfl, _, rfl, ?_⟩
    exact fin _ H5 cl s5 hc5 (by omega)
end
end K02

namespace K02
open PySem L2 Wd
/-- what stands while names are drawn: the desk's words at o, the found names at l -/
structure Bd (d c o l : Addr) (H : Hp) (found : List Str) (H2 : Hp) : Prop where
  st : Stp d c H H2
  o : H2 o = some (.lst (own16.map V.str))
  l : H2 l = some (.lst (found.map V.str))
section
variable {d c o l : Addr} {H H2 H3 : Hp} {found : List Str}
theorem Bd.step (b : Bd d c o l H found H2) (D : Deck H d c) (no : H o = none) (nl : H l = none) (s : Stp d c H2 H3) : Bd d c o l H found H3 :=
  ⟨b.st.trans s, s.k _ _ b.o (D.nd no).1 (D.nd no).2, s.k _ _ b.l (D.nd nl).1 (D.nd nl).2⟩
theorem Bd.new (b : Bd d c o l H found H2) {p : Addr} (n : H2 p = none) (x : HO) : Bd d c o l H found (upd H2 p x) :=
  ⟨b.st.new n x, by rw [upd_ne (ne_of_none b.o n)]; exact b.o, by rw [upd_ne (ne_of_none b.l n)]; exact b.l⟩
theorem Bd.upd (b : Bd d c o l H found H2) {p : Addr} (n : H p = none) (D : Deck H d c) (n1 : p ≠ o) (n2 : p ≠ l) (x : HO) : Bd d c o l H found (L2.upd H2 p x) :=
  ⟨b.st.upd n (D.nd n).1 (D.nd n).2 x, by rw [upd_ne n1.symm]; exact b.o, by rw [upd_ne n2.symm]; exact b.l⟩
end
theorem at_strs {xs : List Str} {r : Int} (h0 : 0 ≤ r) (h1 : r < (xs.length : Int)) : ∃ x, atI (xs.map V.str) r = some (.str x) ∧ x ∈ xs := by
  obtain ⟨k, rfl⟩ := Int.eq_ofNat_of_zero_le h0
  have hk : k < xs.length := by omega
  exact ⟨xs[k], atI_nat (by rw [List.getElem?_map, List.getElem?_eq_getElem hk]; rfl), List.getElem_mem hk⟩
theorem at_last {xs : List Str} (h : ∀ x ∈ xs, Word x) : ∃ x, atI ([V.str "a"] ++ xs.map V.str) (-1) = some (.str x) ∧ Word x := by
  rcases List.eq_nil_or_concat xs with e | ⟨ys, y, e⟩
  · subst e
    exact ⟨"a", atI_last [] (V.str "a"), by decide +kernel, by decide +kernel, by show ∀ c ∈ ("a" : Str).cps.toList, 97 ≤ c ∧ c ≤ 122; decide +kernel⟩
  · subst e
    refine ⟨y, ?_, h y (by simp)⟩
    have e2 : [V.str "a"] ++ (ys ++ [y]).map V.str = ([V.str "a"] ++ ys.map V.str) ++ [V.str y] := by simp
    rw [List.concat_eq_append, e2]
    exact atI_last _ _
theorem flat_strs : ∀ xs : List Str, (xs.map V.str).all flatV = true
  | [] => rfl
  | _ :: r => by rw [List.map_cons, List.all_cons, flat_strs r]; rfl
theorem in_strs (x : Str) : ∀ xs : List Str, inV (.str x) (xs.map V.str) = decide (x ∈ xs)
  | [] => by simp [inV]
  | y :: r => by
    have ih := in_strs x r
    unfold inV at ih ⊢
    rw [List.map_cons, List.any_cons, ih]
    have e : eqV (.str y) (.str x) = decide (x = y) := by
      show (y == x) = decide (x = y)
      by_cases h : x = y
      · subst h; simp
      · have h' : ¬ y = x := fun z => h z.symm
        simp [h, h']
    rw [e]
    by_cases h : x = y <;> simp [h]
theorem sum_ones : ∀ {ys : List Str}, (∀ y ∈ ys, ∃ k, k < 26 ∧ y = (⟨#[97 + k]⟩ : Str)) → (ys.map (·.length)).sum = ys.length
  | [], _ => rfl
  | y :: r, h => by
    obtain ⟨k, _, rfl⟩ := h y (List.mem_cons_self ..)
    rw [List.map_cons, List.sum_cons, sum_ones fun z hz => h z (List.mem_cons_of_mem _ hz), sign_len, List.length_cons]
    omega
section
variable {P : Program} {w : World} {K : PySem.W.Frag} {mg : Str → Option Value} {base : Heap}
def spNames : Sp := fun vs H Q _ => ∃ (d c : Addr) (many : Int), vs = [.ref d, .int many] ∧ Deck H d c ∧ 0 ≤ many ∧ many ≤ 40 ∧
  ∀ (l : Addr) (names : List Str) (H' : Hp), Stp d c H H' → H l = none → H' l = some (.lst (names.map V.str)) → (names.length : Int) = many → names.Nodup → (∀ x ∈ names, Word x ∧ x ∉ own16) → Q (.ref l) H'
theorem sc_names : FnScope ["deck", "many", "letters", "own", "found", "any_word", "k", "ahead", "near", "more", "word", "turn"] ["deck", "many"] (defScope s_law_names) := ⟨rfl, rfl, rfl, by decide +kernel, rfl, by decide +kernel, by decide +kernel⟩
theorem ok_names {f : Addr} {fd : FuncData} (F : Fun K "_law_names" "_law_names" s_law_names f fd) (T : Tx mg) (oT : Own P w K mg base 1 "_law_take" ["deck", "many"] spTake) : FnOk P w K mg base CX0 2 f fd ["deck", "many"] spNames := by
  have nd := sc_names.nd
  obtain ⟨ft, fdt, G_law_take, b_law_take, k_law_take, m_law_take⟩ := oT
  refine F.ok sc_names (fun vs H Q E h => ?_) (fun cdv A outer s H vs Q E hr h => ?_)
  · obtain ⟨d, c, many, rfl, _⟩ := h
    rfl
  have hr_law_take := hr
  obtain ⟨d, c, many, rfl, D, m0, m1, q⟩ := h
  refine SB.use (bcons
  (bset (n := 2) nd rfl (Or.inr (by kernel_rfl)) estr (by kernel_rfl) (.inl rfl))
  (bcons
  (bset (n := 3) nd rfl (Or.inl (by kernel_rfl)) (elst (acons estr (acons estr (acons estr (acons estr (acons estr (acons estr (acons estr (acons estr (acons estr (acons estr (acons estr (acons estr anil (by kernel_rfl)) (by kernel_rfl)) (by kernel_rfl)) (by kernel_rfl)) (by kernel_rfl)) (by kernel_rfl)) (by kernel_rfl)) (by kernel_rfl)) (by kernel_rfl)) (by kernel_rfl)) (by kernel_rfl)) (by kernel_rfl))) (by kernel_rfl) (.inl rfl))
  (bcons
  (bset (n := 3) nd rfl (Or.inl (by kernel_rfl)) (eop op_cat (ev 3 rfl (Or.inl (by kernel_rfl)) (by kernel_rfl) (by kernel_rfl)) (elst (acons estr (acons estr (acons estr (acons estr anil (by kernel_rfl)) (by kernel_rfl)) (by kernel_rfl)) (by kernel_rfl)))) (by kernel_rfl) (.inl rfl))
  (bcons
  (bset (n := 4) nd rfl (Or.inl (by kernel_rfl)) (elst anil) (by kernel_rfl) (.inl rfl))
  (bcons
  (bwhile PassesOwn.never (tcmp op_lt (ecallB call_len_seq (by unfold Gl; kernel_rfl) T.len L2.boot_len (acons (ev 4 rfl (Or.inl (by kernel_rfl)) (by kernel_rfl) (by kernel_rfl)) anil (by kernel_rfl)) (by decide +kernel) (by kernel_rfl) (by kernel_rfl) (by kernel_rfl)) (ev 1 rfl (Or.inl (by kernel_rfl)) (by kernel_rfl) (by kernel_rfl)) (nomark _)) (bcons
  (bset (n := 5) nd rfl (Or.inl (by kernel_rfl)) (ejoin estr (elc (own := [("k", 6)]) (g := gName 6) (by rfl) nd (irange1 (by unfold Gl; kernel_rfl) T.range (acons (eop op_add eint (ecall G_law_take hr_law_take (by unfold Gl; kernel_rfl) m_law_take k_law_take b_law_take .nil pass0 (acons (ev 0 rfl (Or.inr (Or.inl (by kernel_rfl))) (by kernel_rfl) (by kernel_rfl)) (acons eint anil (by kernel_rfl)) (by kernel_rfl)) (by kernel_rfl) (by kernel_rfl) (by kernel_rfl))) anil (by kernel_rfl)) (by kernel_rfl)) (blkOk_by (own := [("k", 6)]) (N := ["deck", "many", "letters", "own", "found", "any_word", "k", "ahead", "near", "more", "word", "turn"]) (sc := defScope s_law_names) (by decide +kernel)) (fun _ _ _ _ _ => (gname (n := 6) nd rfl (Or.inl (by kernel_rfl)) (.inr (by kernel_rfl)))) (fun _ _ _ _ _ => unil) (fun _ _ _ _ _ => (eix ix_str (ev 2 rfl (Or.inr (Or.inl (by kernel_rfl))) (by kernel_rfl) (by kernel_rfl)) (ecall G_law_take hr_law_take (by unfold Gl; kernel_rfl) m_law_take k_law_take b_law_take .nil pass0 (acons (ev 0 rfl (Or.inr (Or.inl (by kernel_rfl))) (by kernel_rfl) (by kernel_rfl)) (acons eint anil (by kernel_rfl)) (by kernel_rfl)) (by kernel_rfl) (by kernel_rfl) (by kernel_rfl)) (fun _ _ => rfl))) (by intro _; rfl)) (by kernel_rfl) (by kernel_rfl) (by kernel_rfl)) (by kernel_rfl) (.inl rfl))
  (bcons
  (bset (n := 7) nd rfl (Or.inl (by kernel_rfl)) (eop op_add_str (eix ix_list (eop op_cat (elst (acons estr anil (by kernel_rfl))) (ev 4 rfl (Or.inl (by kernel_rfl)) (by kernel_rfl) (by kernel_rfl))) (eun un_neg eint) (fun _ _ => rfl)) (eix ix_str (ev 2 rfl (Or.inr (Or.inl (by kernel_rfl))) (by kernel_rfl) (by kernel_rfl)) (ecall G_law_take hr_law_take (by unfold Gl; kernel_rfl) m_law_take k_law_take b_law_take .nil pass0 (acons (ev 0 rfl (Or.inr (Or.inl (by kernel_rfl))) (by kernel_rfl) (by kernel_rfl)) (acons eint anil (by kernel_rfl)) (by kernel_rfl)) (by kernel_rfl) (by kernel_rfl) (by kernel_rfl)) (fun _ _ => rfl))) (by kernel_rfl) (.inl rfl))
  (bcons
  (bset (n := 8) nd rfl (Or.inl (by kernel_rfl)) (eix ix_list (ev 3 rfl (Or.inl (by kernel_rfl)) (by kernel_rfl) (by kernel_rfl)) (ecall G_law_take hr_law_take (by unfold Gl; kernel_rfl) m_law_take k_law_take b_law_take .nil pass0 (acons (ev 0 rfl (Or.inr (Or.inl (by kernel_rfl))) (by kernel_rfl) (by kernel_rfl)) (acons eint anil (by kernel_rfl)) (by kernel_rfl)) (by kernel_rfl) (by kernel_rfl) (by kernel_rfl)) (fun _ _ => rfl)) (by kernel_rfl) (.inl rfl))
  (bcons
  (bset (n := 9) nd rfl (Or.inl (by kernel_rfl)) (eop op_add_str (ev 8 rfl (Or.inl (by kernel_rfl)) (by kernel_rfl) (by kernel_rfl)) (eix ix_str (ev 2 rfl (Or.inr (Or.inl (by kernel_rfl))) (by kernel_rfl) (by kernel_rfl)) (ecall G_law_take hr_law_take (by unfold Gl; kernel_rfl) m_law_take k_law_take b_law_take .nil pass0 (acons (ev 0 rfl (Or.inr (Or.inl (by kernel_rfl))) (by kernel_rfl) (by kernel_rfl)) (acons eint anil (by kernel_rfl)) (by kernel_rfl)) (by kernel_rfl) (by kernel_rfl) (by kernel_rfl)) (fun _ _ => rfl))) (by kernel_rfl) (.inl rfl))
  (bcons
  (bset (n := 8) nd rfl (Or.inl (by kernel_rfl)) (eix ix_list (elst (acons (ev 9 rfl (Or.inl (by kernel_rfl)) (by kernel_rfl) (by kernel_rfl)) (acons (eslice sl_str (ev 8 rfl (Or.inl (by kernel_rfl)) (by kernel_rfl) (by kernel_rfl)) onone (osome (eun un_neg eint))) (acons (eix ix_str (ev 2 rfl (Or.inr (Or.inl (by kernel_rfl))) (by kernel_rfl) (by kernel_rfl)) (ecall G_law_take hr_law_take (by unfold Gl; kernel_rfl) m_law_take k_law_take b_law_take .nil pass0 (acons (ev 0 rfl (Or.inr (Or.inl (by kernel_rfl))) (by kernel_rfl) (by kernel_rfl)) (acons eint anil (by kernel_rfl)) (by kernel_rfl)) (by kernel_rfl) (by kernel_rfl) (by kernel_rfl)) (fun _ _ => rfl)) anil (by kernel_rfl)) (by kernel_rfl)) (by kernel_rfl))) (ecall G_law_take hr_law_take (by unfold Gl; kernel_rfl) m_law_take k_law_take b_law_take .nil pass0 (acons (ev 0 rfl (Or.inr (Or.inl (by kernel_rfl))) (by kernel_rfl) (by kernel_rfl)) (acons eint anil (by kernel_rfl)) (by kernel_rfl)) (by kernel_rfl) (by kernel_rfl) (by kernel_rfl)) (fun _ _ => rfl)) (by kernel_rfl) (.inl rfl))
  (bcons
  (bset (n := 10) nd rfl (Or.inl (by kernel_rfl)) (eix ix_list (elst (acons (ev 5 rfl (Or.inl (by kernel_rfl)) (by kernel_rfl) (by kernel_rfl)) (acons (eslice sl_str (ev 7 rfl (Or.inl (by kernel_rfl)) (by kernel_rfl) (by kernel_rfl)) onone (osome eint)) (acons (eslice sl_str (ev 8 rfl (Or.inl (by kernel_rfl)) (by kernel_rfl) (by kernel_rfl)) onone (osome eint)) (acons (eix ix_str (ev 2 rfl (Or.inr (Or.inl (by kernel_rfl))) (by kernel_rfl) (by kernel_rfl)) (ecall G_law_take hr_law_take (by unfold Gl; kernel_rfl) m_law_take k_law_take b_law_take .nil pass0 (acons (ev 0 rfl (Or.inr (Or.inl (by kernel_rfl))) (by kernel_rfl) (by kernel_rfl)) (acons eint anil (by kernel_rfl)) (by kernel_rfl)) (by kernel_rfl) (by kernel_rfl) (by kernel_rfl)) (fun _ _ => rfl)) anil (by kernel_rfl)) (by kernel_rfl)) (by kernel_rfl)) (by kernel_rfl))) (ecall G_law_take hr_law_take (by unfold Gl; kernel_rfl) m_law_take k_law_take b_law_take .nil pass0 (acons (ev 0 rfl (Or.inr (Or.inl (by kernel_rfl))) (by kernel_rfl) (by kernel_rfl)) (acons eint anil (by kernel_rfl)) (by kernel_rfl)) (by kernel_rfl) (by kernel_rfl) (by kernel_rfl)) (fun _ _ => rfl)) (by kernel_rfl) (.inl rfl))
  (bcons
  (bset (n := 11) nd rfl (Or.inl (by kernel_rfl)) eint (by kernel_rfl) (.inl rfl))
  (bcons
  (bwhile PassesOwn.never (tw (wor (tcmp op_in_seq (ev 10 rfl (Or.inl (by kernel_rfl)) (by kernel_rfl) (by kernel_rfl)) (ev 4 rfl (Or.inl (by kernel_rfl)) (by kernel_rfl) (by kernel_rfl)) (by kernel_rfl)) (wor1 (tcmp op_in_seq (ev 10 rfl (Or.inl (by kernel_rfl)) (by kernel_rfl) (by kernel_rfl)) (ev 3 rfl (Or.inl (by kernel_rfl)) (by kernel_rfl) (by kernel_rfl)) (by kernel_rfl))))) (bcons
  (bset (n := 10) nd rfl (Or.inl (by kernel_rfl)) (eop op_add_str (eix ix_str (ev 2 rfl (Or.inr (Or.inl (by kernel_rfl))) (by kernel_rfl) (by kernel_rfl)) (eop op_mod (ev 11 rfl (Or.inl (by kernel_rfl)) (by kernel_rfl) (by kernel_rfl)) eint) (fun _ _ => rfl)) (eix ix_str (ev 2 rfl (Or.inr (Or.inl (by kernel_rfl))) (by kernel_rfl) (by kernel_rfl)) (eop op_fdiv (ev 11 rfl (Or.inl (by kernel_rfl)) (by kernel_rfl) (by kernel_rfl)) eint) (fun _ _ => rfl))) (by kernel_rfl) (.inl rfl))
  (bone
  (bset (n := 11) nd rfl (Or.inl (by kernel_rfl)) (eop op_add (ev 11 rfl (Or.inl (by kernel_rfl)) (by kernel_rfl) (by kernel_rfl)) eint) (by kernel_rfl) (.inl rfl)))))
  (bone
  (bexpr (ebm PySem.F.plainAttrs_list PySem.F.slot_list_append PySem.F.type_list_append mt_append (ev 4 rfl (Or.inl (by kernel_rfl)) (by kernel_rfl) (by kernel_rfl)) (acons (ev 10 rfl (Or.inl (by kernel_rfl)) (by kernel_rfl) (by kernel_rfl)) anil (by kernel_rfl)) (by kernel_rfl) (by kernel_rfl) (by kernel_rfl) (by kernel_rfl) (by kernel_rfl)) (by kernel_rfl))))))))))))
  (bone
  (bret (ev 4 rfl (Or.inl (by kernel_rfl)) (by kernel_rfl) (by kernel_rfl))))))))) ?_
  refine ⟨(by show 12 ≤ sizeLine; decide), fun o1 ho1 => ?_⟩
  refine ⟨_, rfl, (by show 4 ≤ sizeLine; decide), fun o2 ho2 => ?_⟩
  have n12 : o1 ≠ o2 := ne_of_none upd_same ho2
  refine ⟨o1, o2, _, _, rfl, rfl, (by rw [upd_ne n12]; exact upd_same), upd_same, (by show 16 ≤ sizeLine; decide), fun o ho => ?_⟩
  refine ⟨(by show 0 ≤ sizeLine; decide), fun l hl => ?_⟩
  have a1 : Stp d c H _ := (Stp.refl D).new ho1 (.lst (own12.map V.str))
  have a2 : Stp d c H _ := a1.new ho2 (.lst (own4.map V.str))
  have no : H o = none := a2.free ho
  have a3 : Stp d c H _ := a2.new ho (.lst (own16.map V.str))
  have nl : H l = none := a3.free hl
  have nlo : l ≠ o := (ne_of_none upd_same hl).symm
  have b0 : Bd d c o l H [] _ := ⟨a3.new hl (.lst []), (by rw [upd_ne nlo.symm]; exact upd_same), upd_same⟩
  refine ⟨fun m σ H2 => ∃ (found : List Str) (x5 x6 x7 x8 x9 x10 x11 : Option V), σ = [some (.ref d), some (.int many), some (.str lett), some (.ref o), some (.ref l), x5, x6, x7, x8, x9, x10, x11] ∧ Bd d c o l H found H2 ∧ (found.length : Int) ≤ many ∧ found.Nodup ∧ (∀ x ∈ found, Word x ∧ x ∉ own16) ∧ m + found.length = many.toNat,
    ⟨many.toNat, [], _, _, _, _, _, _, _, rfl, b0, m0, List.nodup_nil, (fun x hx => by cases hx), rfl⟩, ?_⟩
  rintro m σ H2 ⟨found, x5, x6, x7, x8, x9, x10, x11, rfl, bd, fm, fn, fw, mm⟩
  refine ⟨_, rfl, l, _, rfl, .inl (SqL.of bd.l), _, rfl, _, _, rfl, rfl, _, rfl, ?_⟩
  refine ite2 (fun c1 => ?_) (fun c1 => ?_)
  rotate_left
  · have c2 := of_decide_eq_false (Bool.eq_false_iff.mpr c1)
    rw [List.length_map] at c2
    refine ⟨_, rfl, ?_⟩
    exact q l found H2 bd.st nl bd.l (by omega) fn fw
  have c2 := of_decide_eq_true c1
  rw [List.length_map] at c2
  refine ⟨fun σ' H' => ∃ m', m' < m ∧ ∃ (found : List Str) (x5 x6 x7 x8 x9 x10 x11 : Option V), σ' = [some (.ref d), some (.int many), some (.str lett), some (.ref o), some (.ref l), x5, x6, x7, x8, x9, x10, x11] ∧ Bd d c o l H found H' ∧ (found.length : Int) ≤ many ∧ found.Nodup ∧ (∀ x ∈ found, Word x ∧ x ∉ own16) ∧ m' + found.length = many.toNat, fun _ _ h => h, ?_⟩
  -- any_word
  refine ⟨⟨_, rfl⟩, _, rfl, d, c, 8, rfl, bd.st.dk, by decide, by decide, fun r H3 r0 r1 s3 => ?_⟩
  have bd := bd.step D no nl s3
  refine ⟨_, _, rfl, rfl, _, rfl, by omega, by omega, fun y hy => ?_⟩
  have ny : H y = none := bd.st.free hy
  have nyo : y ≠ o := (ne_of_none bd.o hy).symm
  have nyl : y ≠ l := (ne_of_none bd.l hy).symm
  refine lc_range (lo := 0) (fun i H4 => ∃ ys : List Str, ys.length = i ∧ (∀ z ∈ ys, ∃ k, k < 26 ∧ z = (⟨#[97 + k]⟩ : Str)) ∧ Bd d c o l H found H4 ∧ H4 y = some (.lst (ys.map V.str))) ⟨[], rfl, (fun z hz => by cases hz), bd.new hy _, upd_same⟩ ?_ ?_
  · rintro i H4 hi ⟨ys, yl, yk, bd, h4⟩
    refine ⟨rfl, tyes ?_⟩
    refine ⟨_, rfl, _, rfl, d, c, 26, rfl, bd.st.dk, by decide, by decide, fun r H5 r0 r1 s5 => ?_⟩
    have bd5 := bd.step D no nl s5
    refine ⟨_, _, _, rfl, rfl, lett_len, lett_at r0 r1, _, s5.k _ _ h4 (D.nd ny).1 (D.nd ny).2, (by rw [List.length_map]; exact small1000 (by omega)), ?_⟩
    refine ⟨ys ++ [⟨#[97 + r.toNat]⟩], by rw [List.length_append]; simp [yl], fun z hz => ?_, bd5.upd ny D nyo nyl _, by rw [upd_same, List.map_append]; rfl⟩
    rcases List.mem_append.mp hz with hz | hz
    · exact yk z hz
    · exact ⟨r.toNat, by omega, List.mem_singleton.mp hz⟩
  rintro H4 ⟨ys, yl, yk, bd, h4⟩
  have y8 : 1 ≤ ys.length ∧ ys.length ≤ 8 := by omega
  refine ⟨_, y, ys, rfl, rfl, .inl (SqL.of h4), (by rw [sum_ones yk]; have e : ("" : Str).length = 0 := rfl; rw [e]; omega), ?_⟩
  have wA : Word (Txt.join ("" : Str) ys) := join_word y8.1 y8.2 yk
  generalize Txt.join ("" : Str) ys = anyw at wA
  -- ahead
  refine ⟨(by show 1 ≤ sizeLine; decide), fun p5 hp5 => ?_⟩
  have bd := bd.new hp5 (.lst [V.str "a"])
  refine ⟨_, rfl, p5, l, _, _, rfl, rfl, upd_same, bd.l, (by rw [List.length_map]; exact sl1000 (by simp only [List.length_singleton]; omega)), fun p6 hp6 => ?_⟩
  have bd := bd.new hp6 (.lst ([V.str "a"] ++ found.map V.str))
  obtain ⟨lst, hlst, wlst⟩ := at_last fun x hx => (fw x hx).1
  refine ⟨_, rfl, p6, _, _, _, rfl, rfl, SqL.of upd_same, hlst, _, rfl, _, rfl, d, c, 26, rfl, bd.st.dk, by decide, by decide, fun r7 H7 r70 r71 s7 => ?_⟩
  have bd := bd.step D no nl s7
  have lA : (lst ++ (⟨#[97 + r7.toNat]⟩ : Str)).length = lst.length + 1 := by rw [app_len, sign_len]
  have tA : Lt (lst ++ (⟨#[97 + r7.toNat]⟩ : Str)) := app_lt wlst.lt (sign_lt (by omega))
  refine ⟨_, _, _, rfl, rfl, lett_len, lett_at r70 r71, _, _, rfl, rfl, (by have := wlst.hi; rw [sign_len]; exact sl1000 (by omega)), ?_⟩
  generalize lst ++ (⟨#[97 + r7.toNat]⟩ : Str) = ahead at lA tA
  -- near = own[..]
  refine ⟨_, rfl, _, rfl, d, c, 16, rfl, bd.st.dk, by decide, by decide, fun r8 H8 r80 r81 s8 => ?_⟩
  have bd := bd.step D no nl s8
  obtain ⟨nr, hnr, mnr⟩ := at_strs (xs := own16) r80 (by rw [own_len]; exact r81)
  have onr := own_ok nr mnr
  refine ⟨o, _, _, _, rfl, rfl, SqL.of bd.o, hnr, ?_⟩
  -- more
  refine ⟨_, rfl, _, rfl, _, rfl, d, c, 26, rfl, bd.st.dk, by decide, by decide, fun r9 H9 r90 r91 s9 => ?_⟩
  have bd := bd.step D no nl s9
  have lM : (nr ++ (⟨#[97 + r9.toNat]⟩ : Str)).length = nr.length + 1 := by rw [app_len, sign_len]
  have tM : Lt (nr ++ (⟨#[97 + r9.toNat]⟩ : Str)) := app_lt onr.2.2 (sign_lt (by omega))
  refine ⟨_, _, _, rfl, rfl, lett_len, lett_at r90 r91, _, _, rfl, rfl, (by rw [sign_len]; exact sl1000 (by omega)), ?_⟩
  generalize nr ++ (⟨#[97 + r9.toNat]⟩ : Str) = more at lM tM
  -- near = [more, near[:-1], a letter][..]
  refine ⟨_, rfl, _, rfl, _, rfl, _, rfl, _, rfl, sl1000 (by omega), _, rfl, _, rfl, d, c, 26, rfl, bd.st.dk, by decide, by decide, fun r10 H10 r100 r101 s10 => ?_⟩
  have bd := bd.step D no nl s10
  refine ⟨_, _, _, rfl, rfl, lett_len, lett_at r100 r101, (by show 3 ≤ sizeLine; decide), fun p10 hp10 => ?_⟩
  have np : p10 ≠ d ∧ p10 ≠ c := bd.st.dk.nd hp10
  have bd := bd.new hp10 (.lst [V.str more, V.str (cutS nr none (some (-1))), V.str ⟨#[97 + r10.toNat]⟩])
  refine ⟨_, rfl, d, c, 3, rfl, bd.st.dk, by decide, by decide, fun r11 H11 r110 r111 s11 => ?_⟩
  have w1 : 1 ≤ more.length ∧ more.length ≤ 8 ∧ Lt more := ⟨by omega, by omega, tM⟩
  have w2 : 1 ≤ (cutS nr none (some (-1))).length ∧ (cutS nr none (some (-1))).length ≤ 8 ∧ Lt (cutS nr none (some (-1))) := ⟨by rw [cut1]; omega, by rw [cut1]; omega, cut_lt onr.2.2 _ _⟩
  have w3 : 1 ≤ (⟨#[97 + r10.toNat]⟩ : Str).length ∧ (⟨#[97 + r10.toNat]⟩ : Str).length ≤ 8 ∧ Lt (⟨#[97 + r10.toNat]⟩ : Str) := ⟨by rw [sign_len]; decide, by rw [sign_len]; decide, sign_lt (by omega)⟩
  have bdp := bd
  have bd := bd.step D no nl s11
  obtain ⟨near, hnear, mnear⟩ := at_strs (xs := [more, cutS nr none (some (-1)), ⟨#[97 + r10.toNat]⟩]) r110 (by exact r111)
  have wn : 1 ≤ near.length ∧ near.length ≤ 8 ∧ Lt near := by
    rcases List.mem_cons.mp mnear with e | m
    · rw [e]; exact w1
    rcases List.mem_cons.mp m with e | m
    · rw [e]; exact w2
    rw [List.mem_singleton.mp m]; exact w3
  refine ⟨p10, _, _, _, rfl, rfl, SqL.of (s11.k _ _ upd_same np.1 np.2), hnear, ?_⟩
  -- word
  refine ⟨_, rfl, _, rfl, _, rfl, _, rfl, sl1000 (by have := wlst.hi; omega), _, rfl, _, rfl, _, rfl, sl1000 (by omega), _, rfl, _, rfl, d, c, 26, rfl, bd.st.dk, by decide, by decide, fun r12 H12 r120 r121 s12 => ?_⟩
  have bd := bd.step D no nl s12
  refine ⟨_, _, _, rfl, rfl, lett_len, lett_at r120 r121, (by show 4 ≤ sizeLine; decide), fun p13 hp13 => ?_⟩
  have np13 : p13 ≠ d ∧ p13 ≠ c := bd.st.dk.nd hp13
  have bd := bd.new hp13 (.lst [V.str anyw, V.str (cutS ahead none (some 8)), V.str (cutS near none (some 8)), V.str ⟨#[97 + r12.toNat]⟩])
  refine ⟨_, rfl, d, c, 4, rfl, bd.st.dk, by decide, by decide, fun r14 H14 r140 r141 s14 => ?_⟩
  have bd := bd.step D no nl s14
  obtain ⟨word, hword, mword⟩ := at_strs (xs := [anyw, cutS ahead none (some 8), cutS near none (some 8), ⟨#[97 + r12.toNat]⟩]) r140 (by exact r141)
  have ww : Word word := by
    rcases List.mem_cons.mp mword with e | m
    · rw [e]; exact wA
    rcases List.mem_cons.mp m with e | m
    · rw [e]; exact cut8_word (by omega) tA
    rcases List.mem_cons.mp m with e | m
    · rw [e]; exact cut8_word wn.1 wn.2.2
    rw [List.mem_singleton.mp m]; exact sign_word (by omega)
  refine ⟨p13, _, _, _, rfl, rfl, SqL.of (s14.k _ _ upd_same np13.1 np13.2), hword, ?_⟩
  -- turn = 0; while word in found or word in own
  refine ⟨fun m2 σ H4 => ∃ (word : Str) (t : Nat) (x5 x6 x7 x8 x9 : Option V), σ = [some (.ref d), some (.int many), some (.str lett), some (.ref o), some (.ref l), x5, x6, x7, x8, x9, some (.str word), some (.int t)] ∧ Word word ∧ Bd d c o l H found H4 ∧ (∀ s, s + 1 < t → turnW s ∈ found ++ own16) ∧ (0 < t → word = turnW (t - 1)) ∧ m2 + t = 100 ∧ t ≤ 100,
    ⟨100, word, 0, _, _, _, _, _, rfl, ww, bd, (fun s hs => absurd hs (by omega)), (fun h => absurd h (by omega)), rfl, by omega⟩, ?_⟩
  rintro m2 σ H4 ⟨word, t, x5, x6, x7, x8, x9, rfl, ww, bd, t1, t2, t3, t4⟩
  have hit : word ∈ found ++ own16 → t ≤ found.length + 16 := fun hw => by
    have z : ∀ s, s < t → turnW s ∈ found ++ own16 := fun s hs => by
      by_cases e : s + 1 < t
      · exact t1 s e
      · have e2 : s = t - 1 := by omega
        rw [e2, ← t2 (by omega)]
        exact hw
    have := turns_le z
    rw [List.length_append, own_len] at this
    exact this
  have ltm : found.length < 40 := by omega
  have step : word ∈ found ++ own16 → (t : Int) / 26 < 26 ∧ t < 676 ∧ t + 1 ≤ 100 := fun hw => by have := hit hw; omega
  refine ⟨_, rfl, _, rfl, l, _, rfl, .inl (SqL.of bd.l), rfl, flat_strs _, _, rfl, ?_⟩
  show if (inV (.str word) (found.map V.str)) = true then _ else _
  rw [in_strs]
  refine ite2 (fun c3 => ?w1) (fun c3 => ?_)
  case' w1 => refine iteT ?_
  rotate_left
  · refine ⟨_, rfl, _, rfl, o, _, rfl, .inl (SqL.of bd.o), rfl, flat_strs _, _, rfl, ?_⟩
    show if (inV (.str word) (own16.map V.str)) = true then _ else _
    rw [in_strs]
    refine ite2 (fun c4 => ?w2) (fun c4 => ?w3)
    case w3 =>
      have n1 : word ∉ found := of_decide_eq_false (Bool.eq_false_iff.mpr c3)
      have n2 : word ∉ own16 := of_decide_eq_false (Bool.eq_false_iff.mpr c4)
      refine ⟨_, rfl, .inl ⟨rfl, _, SqL.of bd.l⟩, _, rfl, l, _, _, rfl, rfl, bd.l, (by rw [List.length_map]; exact small1000 (by omega)), ?_⟩
      refine ⟨m - 1, by omega, found ++ [word], _, _, _, _, _, _, _, rfl, ⟨bd.st.upd nl (D.nd nl).1 (D.nd nl).2 _, by rw [upd_ne nlo.symm]; exact bd.o, by rw [upd_same, List.map_append]; rfl⟩, by rw [List.length_append]; simp only [List.length_singleton]; omega, ?_, ?_, by rw [List.length_append]; simp only [List.length_singleton]; omega⟩
      · rw [List.nodup_append]
        exact ⟨fn, by simp, fun a ha b hb e => n1 (by rw [← List.mem_singleton.mp hb, ← e]; exact ha)⟩
      · intro x hx
        rcases List.mem_append.mp hx with hx | hx
        · exact fw x hx
        · rw [List.mem_singleton.mp hx]
          exact ⟨ww, n2⟩
    case w2 =>
      have hw : word ∈ found ++ own16 := List.mem_append_right _ (of_decide_eq_true c4)
      obtain ⟨k1, k2, k3⟩ := step hw
      have e1 : ((t : Int) % 26).toNat = t % 26 := by omega
      have e2 : ((t : Int) / 26).toNat = t / 26 := by omega
      have a1 := lett_at (r := (t : Int) % 26) (by omega) (by omega)
      have a2 := lett_at (r := (t : Int) / 26) (by omega) (by omega)
      rw [e1] at a1
      rw [e2] at a2
      refine ⟨_, fun _ _ h => h, ?_⟩
      refine ⟨_, rfl, _, rfl, _, _, rfl, rfl, (by show (0 : Int) < 26; decide), _, _, _, rfl, rfl, lett_len, a1, _, rfl, _, rfl, _, _, rfl, rfl, ⟨by decide, by decide⟩, _, _, _, rfl, rfl, lett_len, a2, _, _, rfl, rfl, (by rw [sign_len, sign_len]; decide), _, rfl, _, _, rfl, rfl, ?_⟩
      refine ⟨m2 - 1, by omega, turnW t, t + 1, _, _, _, _, _, rfl, turn_word k2, bd, fun s hs => ?_, fun _ => rfl, by omega, by omega⟩
      by_cases e : s + 1 < t
      · exact t1 s e
      · have e3 : s = t - 1 := by omega
        rw [e3, ← t2 (by omega)]
        exact hw
  case w1 =>
    have hw : word ∈ found ++ own16 := List.mem_append_left _ (of_decide_eq_true c3)
    obtain ⟨k1, k2, k3⟩ := step hw
    have e1 : ((t : Int) % 26).toNat = t % 26 := by omega
    have e2 : ((t : Int) / 26).toNat = t / 26 := by omega
    have a1 := lett_at (r := (t : Int) % 26) (by omega) (by omega)
    have a2 := lett_at (r := (t : Int) / 26) (by omega) (by omega)
    rw [e1] at a1
    rw [e2] at a2
    refine ⟨_, fun _ _ h => h, ?_⟩
    refine ⟨_, rfl, _, rfl, _, _, rfl, rfl, (by show (0 : Int) < 26; decide), _, _, _, rfl, rfl, lett_len, a1, _, rfl, _, rfl, _, _, rfl, rfl, ⟨by decide, by decide⟩, _, _, _, rfl, rfl, lett_len, a2, _, _, rfl, rfl, (by rw [sign_len, sign_len]; decide), _, rfl, _, _, rfl, rfl, ?_⟩
    refine ⟨m2 - 1, by omega, turnW t, t + 1, _, _, _, _, _, rfl, turn_word k2, bd, fun s hs => ?_, fun _ => rfl, by omega, by omega⟩
    by_cases e : s + 1 < t
    · exact t1 s e
    · have e3 : s = t - 1 := by omega
      rw [e3, ← t2 (by omega)]
      exact hw
end
end K02

namespace K02
open PySem L2 Wd Wm
theorem at_ints {xs : List Int} {r : Int} (h0 : 0 ≤ r) (h1 : r < (xs.length : Int)) : ∃ x, atI (xs.map V.int) r = some (.int x) ∧ x ∈ xs := by
  obtain ⟨k, rfl⟩ := Int.eq_ofNat_of_zero_le h0
  have hk : k < xs.length := by omega
  exact ⟨xs[k], atI_nat (by rw [List.getElem?_map, List.getElem?_eq_getElem hk]; rfl), List.getElem_mem hk⟩
theorem at_nat {xs : List Str} {i : Nat} {x : Str} (h : xs[i]? = some x) : atI (xs.map V.str) (0 + (i : Int)) = some (.str x) := by
  rw [Int.zero_add]
  exact atI_nat (by rw [List.getElem?_map, h]; rfl)
section
variable {P : Program} {w : World} {K : PySem.W.Frag} {mg : Str → Option Value} {base : Heap}
/-! ### _law_size -/
def spSize : Sp := fun vs H Q _ => ∃ (d c : Addr) (most : Int), vs = [.ref d, .int most] ∧ Deck H d c ∧ 0 ≤ most ∧ most < 1000000 ∧ ∀ (r : Int) (H' : Hp), 0 ≤ r → Stp d c H H' → Q (.int r) H'
theorem sc_size : FnScope ["deck", "most"] ["deck", "most"] (defScope s_law_size) := ⟨rfl, rfl, rfl, by decide +kernel, rfl, by decide +kernel, by decide +kernel⟩
theorem ok_size {f : Addr} {fd : FuncData} (F : Fun K "_law_size" "_law_size" s_law_size f fd) (T : Tx mg) (oT : Own P w K mg base 1 "_law_take" ["deck", "many"] spTake) : FnOk P w K mg base CX0 2 f fd ["deck", "most"] spSize := by
  have nd := sc_size.nd
  obtain ⟨ft, fdt, G_law_take, b_law_take, k_law_take, m_law_take⟩ := oT
  refine F.ok sc_size (fun vs H Q E h => ?_) (fun cdv A outer s H vs Q E hr h => ?_)
  · obtain ⟨d, c, most, rfl, _⟩ := h
    rfl
  have hr_law_take := hr
  obtain ⟨d, c, most, rfl, D, m0, m1, q⟩ := h
  refine SB.use (bone
  (bret (eix ix_list (elst (acons (ecall G_law_take hr_law_take (by unfold Gl; kernel_rfl) m_law_take k_law_take b_law_take .nil pass0 (acons (ev 0 rfl (Or.inl (by kernel_rfl)) (by kernel_rfl) (by kernel_rfl)) (acons eint anil (by kernel_rfl)) (by kernel_rfl)) (by kernel_rfl) (by kernel_rfl) (by kernel_rfl)) (acons (ecall G_law_take hr_law_take (by unfold Gl; kernel_rfl) m_law_take k_law_take b_law_take .nil pass0 (acons (ev 0 rfl (Or.inl (by kernel_rfl)) (by kernel_rfl) (by kernel_rfl)) (acons (eop op_add (ev 1 rfl (Or.inl (by kernel_rfl)) (by kernel_rfl) (by kernel_rfl)) eint) anil (by kernel_rfl)) (by kernel_rfl)) (by kernel_rfl) (by kernel_rfl) (by kernel_rfl)) (acons (ev 1 rfl (Or.inl (by kernel_rfl)) (by kernel_rfl) (by kernel_rfl)) (acons (ecall G_law_take hr_law_take (by unfold Gl; kernel_rfl) m_law_take k_law_take b_law_take .nil pass0 (acons (ev 0 rfl (Or.inl (by kernel_rfl)) (by kernel_rfl) (by kernel_rfl)) (acons eint anil (by kernel_rfl)) (by kernel_rfl)) (by kernel_rfl) (by kernel_rfl) (by kernel_rfl)) anil (by kernel_rfl)) (by kernel_rfl)) (by kernel_rfl)) (by kernel_rfl))) (ecall G_law_take hr_law_take (by unfold Gl; kernel_rfl) m_law_take k_law_take b_law_take .nil pass0 (acons (ev 0 rfl (Or.inl (by kernel_rfl)) (by kernel_rfl) (by kernel_rfl)) (acons eint anil (by kernel_rfl)) (by kernel_rfl)) (by kernel_rfl) (by kernel_rfl) (by kernel_rfl)) (fun _ _ => rfl)))) ?_
  refine ⟨_, rfl, d, c, 5, rfl, D, by decide, by decide, fun r1 H1 a1 b1 s1 => ?_⟩
  refine ⟨_, rfl, _, rfl, _, _, rfl, rfl, d, c, most + 1, rfl, s1.dk, by omega, by omega, fun r2 H2 a2 b2 s2 => ?_⟩
  refine ⟨_, rfl, _, rfl, d, c, 8, rfl, s2.dk, by decide, by decide, fun r3 H3 a3 b3 s3 => ?_⟩
  refine ⟨(by show 4 ≤ sizeLine; decide), fun p hp => ?_⟩
  have st := (s1.trans (s2.trans s3)).new hp (.lst [V.int r1, V.int r2, V.int most, V.int r3])
  have np := s3.dk.nd hp
  refine ⟨_, rfl, d, c, 4, rfl, st.dk, by decide, by decide, fun r4 H4 a4 b4 s4 => ?_⟩
  obtain ⟨x, hx, mx⟩ := at_ints (xs := [r1, r2, most, r3]) a4 (by exact b4)
  refine ⟨p, _, _, _, rfl, rfl, SqL.of (s4.k _ _ upd_same np.1 np.2), hx, ?_⟩
  refine q x H4 ?_ (st.trans s4)
  simp only [List.mem_cons, List.not_mem_nil, or_false] at mx
  rcases mx with rfl | rfl | rfl | rfl <;> assumption
/-! ### _law_web -/
/-- a web stands at a -/
structure WebAt (K : PySem.W.Frag) (H : Hp) (a : Addr) (names : List Str) (ties : List SS) : Prop where
  at_ : ∃ (na ta : Addr) (vs : List V), SqT K H a [.ref na, .ref ta] ∧ SqT K H na (names.map V.str) ∧ SqT K H ta vs ∧ Prs K H vs ties
theorem WebAt.keep {H H' : Hp} {a : Addr} {names : List Str} {ties : List SS} (h : WebAt K H a names ties) (k : KeepT H H') : WebAt K H' a names ties := by
  obtain ⟨na, ta, vs, h1, h2, h3, h4⟩ := h.at_
  exact ⟨na, ta, vs, k.seqT h1, k.seqT h2, k.seqT h3, h4.keep k⟩
def spWeb (K : PySem.W.Frag) : Sp := fun vs H Q _ => ∃ (d c : Addr) (most : Int), vs = [.ref d, .int most] ∧ Deck H d c ∧ 0 ≤ most ∧ most ≤ 14 ∧
  ∀ (a : Addr) (names : List Str) (ties : List SS) (H' : Hp), Stp d c H H' → WebAt K H' a names ties → WebOk names ties → (names.length : Int) ≤ most → Q (.ref a) H'
structure Wb (K : PySem.W.Frag) (d c nl mu tl : Addr) (H : Hp) (names : List Str) (ms : List Int) (vs : List V) (ps : List SS) (H2 : Hp) : Prop where
  st : Stp d c H H2
  nl : H2 nl = some (.lst (names.map V.str))
  mu : H2 mu = some (.lst (ms.map V.int))
  tl : H2 tl = some (.lst vs)
  ps : Prs K H2 vs ps
section
variable {d c nl mu tl : Addr} {H H2 H3 : Hp} {names : List Str} {ms : List Int} {vs : List V} {ps : List SS}
theorem Wb.step (b : Wb K d c nl mu tl H names ms vs ps H2) (D : Deck H d c) (n1 : H nl = none) (n2 : H mu = none) (n3 : H tl = none) (s : Stp d c H2 H3) : Wb K d c nl mu tl H names ms vs ps H3 :=
  ⟨b.st.trans s, s.k _ _ b.nl (D.nd n1).1 (D.nd n1).2, s.k _ _ b.mu (D.nd n2).1 (D.nd n2).2, s.k _ _ b.tl (D.nd n3).1 (D.nd n3).2, b.ps.keep (Stp.keepT b.st.dk s)⟩
theorem Wb.new (b : Wb K d c nl mu tl H names ms vs ps H2) {p : Addr} (n : H2 p = none) (x : HO) : Wb K d c nl mu tl H names ms vs ps (upd H2 p x) :=
  ⟨b.st.new n x, by rw [upd_ne (ne_of_none b.nl n)]; exact b.nl, by rw [upd_ne (ne_of_none b.mu n)]; exact b.mu, by rw [upd_ne (ne_of_none b.tl n)]; exact b.tl, b.ps.same (same_new n x)⟩
end
theorem sc_web : FnScope ["deck", "most", "names", "menu", "way", "ties", "k", "j", "drawn"] ["deck", "most"] (defScope s_law_web) := ⟨rfl, rfl, rfl, by decide +kernel, rfl, by decide +kernel, by decide +kernel⟩
/-- the pairs met so far, up to place j of row k -/
def Met (names : List Str) (k j : Nat) (ps : List SS) : Prop := ps.Nodup ∧ ∀ p ∈ ps, ∃ a b, a < b ∧ (b < k ∨ (b = k ∧ a < j)) ∧ names[a]? = some p.1 ∧ names[b]? = some p.2
theorem Met.more {names : List Str} {k j : Nat} {ps : List SS} (h : Met names k j ps) : Met names k (j + 1) ps := ⟨h.1, fun p hp => by obtain ⟨a, b, h1, h2, h3⟩ := h.2 p hp; exact ⟨a, b, h1, by omega, h3⟩⟩
theorem Met.row {names : List Str} {k : Nat} {ps : List SS} (h : Met names k k ps) : Met names (k + 1) 0 ps := ⟨h.1, fun p hp => by obtain ⟨a, b, h1, h2, h3⟩ := h.2 p hp; exact ⟨a, b, h1, by omega, h3⟩⟩
theorem Met.len {names : List Str} {k j : Nat} {ps : List SS} (hn : names.Pairwise sLt) (h14 : names.length ≤ 14) (h : Met names k j ps) : ps.length ≤ 1000 := by
  have sub : ∀ p ∈ ps, p ∈ pairsL names := fun p hp => by
    obtain ⟨a, b, h1, _, h3, h4⟩ := h.2 p hp
    exact (mem_pairs hn).mpr ⟨List.mem_of_getElem? h3, List.mem_of_getElem? h4, at_lt hn h1 h3 h4⟩
  have l1 := nodup_le h.1 sub
  have l2 := len_pairs names
  have l3 : names.length * (names.length - 1) ≤ 14 * 14 := Nat.mul_le_mul h14 (by omega)
  omega
theorem Met.add {names : List Str} {k j : Nat} {ps : List SS} (hn : names.Pairwise sLt) (h : Met names k j ps) {x y : Str} (hjk : j < k) (hx : names[j]? = some x) (hy : names[k]? = some y) : Met names k (j + 1) (ps ++ [(x, y)]) := by
  refine ⟨?_, fun p hp => ?_⟩
  · rw [List.nodup_append]
    refine ⟨h.1, by simp, fun a ha b hb e => ?_⟩
    have e2 : a = (x, y) := by rw [e, List.mem_singleton.mp hb]
    subst e2
    obtain ⟨a', b', h1, h2, h3, h4⟩ := h.2 _ ha
    have := inj hn h3 hx
    have := inj hn h4 hy
    omega
  · rcases List.mem_append.mp hp with hp | hp
    · obtain ⟨a, b, h1, h2, h3⟩ := h.2 p hp
      exact ⟨a, b, h1, by omega, h3⟩
    · rw [List.mem_singleton.mp hp]
      exact ⟨j, k, hjk, by omega, hx, hy⟩
theorem Met.ok {names : List Str} {k j : Nat} {ps ps' : List SS} (hn : names.Pairwise sLt) (hw : ∀ x ∈ names, Word x ∧ x ∉ own16) (h : Met names k j ps) (hp : ps'.Perm ps) (hs : ps'.Pairwise (fun p q => prLt q p = false)) : WebOk names ps' :=
  ⟨hn, hw, asc_of hs (hp.nodup_iff.mpr h.1), fun p hp' => by
    obtain ⟨a, b, h1, _, h3, h4⟩ := h.2 p (hp.mem_iff.mp hp')
    exact ⟨List.mem_of_getElem? h3, List.mem_of_getElem? h4, at_lt hn h1 h3 h4⟩⟩
theorem ok_web {f : Addr} {fd : FuncData} (F : Fun K "_law_web" "_law_web" s_law_web f fd) (T : Tx mg) (oT : Own P w K mg base 1 "_law_take" ["deck", "many"] spTake) (oN : Own P w K mg base 2 "_law_names" ["deck", "many"] spNames) (oS : Own P w K mg base 2 "_law_size" ["deck", "most"] spSize) : FnOk P w K mg base CX0 3 f fd ["deck", "most"] (spWeb K) := by
  have nd := sc_web.nd
  obtain ⟨ft, fdt, G_law_take, b_law_take, k_law_take, m_law_take⟩ := oT
  obtain ⟨fn, fdn, G_law_names, b_law_names, k_law_names, m_law_names⟩ := oN
  obtain ⟨fs, fds, G_law_size, b_law_size, k_law_size, m_law_size⟩ := oS
  refine F.ok sc_web (fun vs H Q E h => ?_) (fun cdv A outer s H vs Q E hr h => ?_)
  · obtain ⟨d, c, most, rfl, _⟩ := h
    rfl
  have hr_law_take := hr.mono (j := 1) (by decide)
  have hr_law_names := hr
  have hr_law_size := hr
  obtain ⟨d, c, most, rfl, D, m0, m1, q⟩ := h
  refine SB.use (bcons
  (bset (n := 2) nd rfl (Or.inl (by kernel_rfl)) (ecallB cr_sortedS (by unfold Gl; kernel_rfl) T.sorted L2.boot_sorted (acons (ecall G_law_names hr_law_names (by unfold Gl; kernel_rfl) m_law_names k_law_names b_law_names .nil pass0 (acons (ev 0 rfl (Or.inl (by kernel_rfl)) (by kernel_rfl) (by kernel_rfl)) (acons (ecallB (call_min2 rfl) (by unfold Gl; kernel_rfl) T.min L2.boot_min (acons (ev 1 rfl (Or.inl (by kernel_rfl)) (by kernel_rfl) (by kernel_rfl)) (acons (ecall G_law_size hr_law_size (by unfold Gl; kernel_rfl) m_law_size k_law_size b_law_size .nil pass0 (acons (ev 0 rfl (Or.inl (by kernel_rfl)) (by kernel_rfl) (by kernel_rfl)) (acons (ev 1 rfl (Or.inl (by kernel_rfl)) (by kernel_rfl) (by kernel_rfl)) anil (by kernel_rfl)) (by kernel_rfl)) (by kernel_rfl) (by kernel_rfl) (by kernel_rfl)) anil (by kernel_rfl)) (by kernel_rfl)) (by decide +kernel) (by kernel_rfl) (by kernel_rfl) (by kernel_rfl)) anil (by kernel_rfl)) (by kernel_rfl)) (by kernel_rfl) (by kernel_rfl) (by kernel_rfl)) anil (by kernel_rfl)) (by decide +kernel) (by kernel_rfl) (by kernel_rfl) (by kernel_rfl)) (by kernel_rfl) (.inl rfl))
  (bcons
  (bset (n := 3) nd rfl (Or.inl (by kernel_rfl)) (eix ix_list (elst (acons (elst (acons eint anil (by kernel_rfl))) (acons (elst (acons eint anil (by kernel_rfl))) (acons (elst (acons eint (acons eint anil (by kernel_rfl)) (by kernel_rfl))) (acons (elst (acons eint (acons eint (acons eint (acons eint anil (by kernel_rfl)) (by kernel_rfl)) (by kernel_rfl)) (by kernel_rfl))) (acons (elst (acons eint (acons eint (acons eint (acons eint anil (by kernel_rfl)) (by kernel_rfl)) (by kernel_rfl)) (by kernel_rfl))) anil (by kernel_rfl)) (by kernel_rfl)) (by kernel_rfl)) (by kernel_rfl)) (by kernel_rfl))) (ecall G_law_take hr_law_take (by unfold Gl; kernel_rfl) m_law_take k_law_take b_law_take .nil pass0 (acons (ev 0 rfl (Or.inl (by kernel_rfl)) (by kernel_rfl) (by kernel_rfl)) (acons eint anil (by kernel_rfl)) (by kernel_rfl)) (by kernel_rfl) (by kernel_rfl) (by kernel_rfl)) (fun _ _ => rfl)) (by kernel_rfl) (.inl rfl))
  (bcons
  (bset (n := 4) nd rfl (Or.inl (by kernel_rfl)) (ecall G_law_take hr_law_take (by unfold Gl; kernel_rfl) m_law_take k_law_take b_law_take .nil pass0 (acons (ev 0 rfl (Or.inl (by kernel_rfl)) (by kernel_rfl) (by kernel_rfl)) (acons eint anil (by kernel_rfl)) (by kernel_rfl)) (by kernel_rfl) (by kernel_rfl) (by kernel_rfl)) (by kernel_rfl) (.inl rfl))
  (bcons
  (bset (n := 5) nd rfl (Or.inl (by kernel_rfl)) (elst anil) (by kernel_rfl) (.inl rfl))
  (bcons
  (bfor PassesOwn.never rfl (irange1 (by unfold Gl; kernel_rfl) T.range (acons (ecallB call_len_seq (by unfold Gl; kernel_rfl) T.len L2.boot_len (acons (ev 2 rfl (Or.inl (by kernel_rfl)) (by kernel_rfl) (by kernel_rfl)) anil (by kernel_rfl)) (by decide +kernel) (by kernel_rfl) (by kernel_rfl) (by kernel_rfl)) anil (by kernel_rfl)) (by kernel_rfl)) (gname (n := 6) nd rfl (Or.inl (by kernel_rfl)) (.inl rfl)) (bone
  (bfor PassesOwn.never rfl (irange1 (by unfold Gl; kernel_rfl) T.range (acons (ev 6 rfl (Or.inl (by kernel_rfl)) (by kernel_rfl) (by kernel_rfl)) anil (by kernel_rfl)) (by kernel_rfl)) (gname (n := 7) nd rfl (Or.inl (by kernel_rfl)) (.inl rfl)) (bcons
  (bset (n := 8) nd rfl (Or.inl (by kernel_rfl)) (eix ix_list (ev 3 rfl (Or.inl (by kernel_rfl)) (by kernel_rfl) (by kernel_rfl)) (ecall G_law_take hr_law_take (by unfold Gl; kernel_rfl) m_law_take k_law_take b_law_take .nil pass0 (acons (ev 0 rfl (Or.inl (by kernel_rfl)) (by kernel_rfl) (by kernel_rfl)) (acons (ecallB call_len_seq (by unfold Gl; kernel_rfl) T.len L2.boot_len (acons (ev 3 rfl (Or.inl (by kernel_rfl)) (by kernel_rfl) (by kernel_rfl)) anil (by kernel_rfl)) (by decide +kernel) (by kernel_rfl) (by kernel_rfl) (by kernel_rfl)) anil (by kernel_rfl)) (by kernel_rfl)) (by kernel_rfl) (by kernel_rfl) (by kernel_rfl)) (fun _ _ => rfl)) (by kernel_rfl) (.inl rfl))
  (bcons
  (bifs (tcmp op_eq (ev 4 rfl (Or.inl (by kernel_rfl)) (by kernel_rfl) (by kernel_rfl)) eint (nomark _)) (bone
  (bset (n := 8) nd rfl (Or.inl (by kernel_rfl)) (ecallT call_int1 (by unfold Gl; kernel_rfl) T.int L2.boot_int (acons (ecmp op_in_seq (eop op_sub (ev 6 rfl (Or.inl (by kernel_rfl)) (by kernel_rfl) (by kernel_rfl)) (ev 7 rfl (Or.inl (by kernel_rfl)) (by kernel_rfl) (by kernel_rfl))) (elst (acons eint (acons (eop op_sub (ecallB call_len_seq (by unfold Gl; kernel_rfl) T.len L2.boot_len (acons (ev 2 rfl (Or.inl (by kernel_rfl)) (by kernel_rfl) (by kernel_rfl)) anil (by kernel_rfl)) (by decide +kernel) (by kernel_rfl) (by kernel_rfl) (by kernel_rfl)) eint) anil (by kernel_rfl)) (by kernel_rfl))) (by kernel_rfl)) anil (by kernel_rfl)) (by decide +kernel) (by kernel_rfl) (by kernel_rfl) (by kernel_rfl)) (by kernel_rfl) (.inl rfl))) bnil)
  (bcons
  (bifs (tw (wand (tcmp op_eq (ev 4 rfl (Or.inl (by kernel_rfl)) (by kernel_rfl) (by kernel_rfl)) eint (nomark _)) (wand1 (tcmp op_gt (eop op_mod (eop op_sub (ev 6 rfl (Or.inl (by kernel_rfl)) (by kernel_rfl) (by kernel_rfl)) (ev 7 rfl (Or.inl (by kernel_rfl)) (by kernel_rfl) (by kernel_rfl))) eint) eint (nomark _))))) (bone
  (bset (n := 8) nd rfl (Or.inl (by kernel_rfl)) eint (by kernel_rfl) (.inl rfl))) bnil)
  (bone
  (bifs (tcmp op_eq (ev 8 rfl (Or.inl (by kernel_rfl)) (by kernel_rfl) (by kernel_rfl)) eint (nomark _)) (bone
  (bexpr (ebm PySem.F.plainAttrs_list PySem.F.slot_list_append PySem.F.type_list_append mt_append (ev 5 rfl (Or.inl (by kernel_rfl)) (by kernel_rfl) (by kernel_rfl)) (acons (etup (acons (eix ix_list (ev 2 rfl (Or.inl (by kernel_rfl)) (by kernel_rfl) (by kernel_rfl)) (ev 7 rfl (Or.inl (by kernel_rfl)) (by kernel_rfl) (by kernel_rfl)) (fun _ _ => rfl)) (acons (eix ix_list (ev 2 rfl (Or.inl (by kernel_rfl)) (by kernel_rfl) (by kernel_rfl)) (ev 6 rfl (Or.inl (by kernel_rfl)) (by kernel_rfl) (by kernel_rfl)) (fun _ _ => rfl)) anil (by kernel_rfl)) (by kernel_rfl))) anil (by kernel_rfl)) (by kernel_rfl) (by kernel_rfl) (by kernel_rfl) (by kernel_rfl) (by kernel_rfl)) (by kernel_rfl))) bnil))))) (by intro _; rfl))) (by intro _; rfl))
  (bone
  (bret (etup (acons (ecallT call_tuple_of (by unfold Gl; kernel_rfl) T.tuple L2.boot_tuple (acons (ev 2 rfl (Or.inl (by kernel_rfl)) (by kernel_rfl) (by kernel_rfl)) anil (by kernel_rfl)) (by decide +kernel) (by kernel_rfl) (by kernel_rfl) (by kernel_rfl)) (acons (ecallT call_tuple_of (by unfold Gl; kernel_rfl) T.tuple L2.boot_tuple (acons (ecallB cr_sortedP (by unfold Gl; kernel_rfl) T.sorted L2.boot_sorted (acons (ev 5 rfl (Or.inl (by kernel_rfl)) (by kernel_rfl) (by kernel_rfl)) anil (by kernel_rfl)) (by decide +kernel) (by kernel_rfl) (by kernel_rfl) (by kernel_rfl)) anil (by kernel_rfl)) (by decide +kernel) (by kernel_rfl) (by kernel_rfl) (by kernel_rfl)) anil (by kernel_rfl)) (by kernel_rfl)))))))))) ?_
  -- names = sorted(_law_names(deck, min(most, _law_size(deck, most))))
  refine ⟨_, rfl, _, rfl, _, rfl, _, rfl, d, c, most, rfl, D, m0, by omega, fun r H1 r0 s1 => ?_⟩
  refine ⟨_, _, rfl, d, c, _, rfl, s1.dk, (by split <;> omega), (by split <;> omega), fun l found H2 s2 nl1 h2 hlen hnd hwd => ?_⟩
  have hlen' : (found.length : Int) ≤ most := by rw [hlen]; split <;> omega
  refine ⟨l, found, rfl, SqL.of h2, by omega, fun names nl perm srt hnl => ?_⟩
  have hn : names.Pairwise sLt := strict srt (perm.nodup_iff.mpr hnd)
  have hw : ∀ x ∈ names, Word x ∧ x ∉ own16 := fun x hx => hwd x (perm.mem_iff.mp hx)
  have n14 : names.length ≤ 14 := by rw [perm.length_eq]; omega
  have st := s1.trans s2
  have nnl : H nl = none := st.free hnl
  have st := st.new hnl (.lst (names.map V.str))
  have e0 : (upd H2 nl (.lst (names.map V.str))) nl = some (.lst (names.map V.str)) := upd_same
  generalize upd H2 nl (.lst (names.map V.str)) = H3 at st e0
  -- menu
  refine ⟨(by show 1 ≤ sizeLine; decide), fun p1 hp1 => ⟨(by show 1 ≤ sizeLine; decide), fun p2 hp2 => ⟨(by show 2 ≤ sizeLine; decide), fun p3 hp3 => ⟨(by show 4 ≤ sizeLine; decide), fun p4 hp4 => ⟨(by show 4 ≤ sizeLine; decide), fun p5 hp5 => ⟨(by show 5 ≤ sizeLine; decide), fun p6 hp6 => ?_⟩⟩⟩⟩⟩⟩
  have t1 := st.new hp1 (.lst ([0].map V.int))
  have t2 := t1.new hp2 (.lst ([1].map V.int))
  have t3 := t2.new hp3 (.lst ([0, 1].map V.int))
  have t4 := t3.new hp4 (.lst ([0, 1, 1, 1].map V.int))
  have t5 := t4.new hp5 (.lst ([0, 0, 0, 1].map V.int))
  have t6 := t5.new hp6 (.lst [V.ref p1, V.ref p2, V.ref p3, V.ref p4, V.ref p5])
  have n21 : p1 ≠ p2 := ne_of_none upd_same hp2
  have g1 : ∀ {G : Hp} {a b : Addr} {o u : HO}, G a = some o → G b = none → (upd G b u) a = some o := fun {G a b o u} h k => by rw [upd_ne (ne_of_none h k)]; exact h
  have v1 := g1 (u := .lst [V.ref p1, V.ref p2, V.ref p3, V.ref p4, V.ref p5]) (g1 (u := .lst ([0, 0, 0, 1].map V.int)) (g1 (u := .lst ([0, 1, 1, 1].map V.int)) (g1 (u := .lst ([0, 1].map V.int)) (g1 (u := .lst ([1].map V.int)) (upd_same (H := H3) (a := p1) (o := .lst ([0].map V.int))) hp2) hp3) hp4) hp5) hp6
  have v2 := g1 (u := .lst [V.ref p1, V.ref p2, V.ref p3, V.ref p4, V.ref p5]) (g1 (u := .lst ([0, 0, 0, 1].map V.int)) (g1 (u := .lst ([0, 1, 1, 1].map V.int)) (g1 (u := .lst ([0, 1].map V.int)) (upd_same (a := p2) (o := .lst ([1].map V.int))) hp3) hp4) hp5) hp6
  have v3 := g1 (u := .lst [V.ref p1, V.ref p2, V.ref p3, V.ref p4, V.ref p5]) (g1 (u := .lst ([0, 0, 0, 1].map V.int)) (g1 (u := .lst ([0, 1, 1, 1].map V.int)) (upd_same (a := p3) (o := .lst ([0, 1].map V.int))) hp4) hp5) hp6
  have v4 := g1 (u := .lst [V.ref p1, V.ref p2, V.ref p3, V.ref p4, V.ref p5]) (g1 (u := .lst ([0, 0, 0, 1].map V.int)) (upd_same (a := p4) (o := .lst ([0, 1, 1, 1].map V.int))) hp5) hp6
  have v5 := g1 (u := .lst [V.ref p1, V.ref p2, V.ref p3, V.ref p4, V.ref p5]) (upd_same (a := p5) (o := .lst ([0, 0, 0, 1].map V.int))) hp6
  have e6 := g1 (u := .lst [V.ref p1, V.ref p2, V.ref p3, V.ref p4, V.ref p5]) (g1 (u := .lst ([0, 0, 0, 1].map V.int)) (g1 (u := .lst ([0, 1, 1, 1].map V.int)) (g1 (u := .lst ([0, 1].map V.int)) (g1 (u := .lst ([1].map V.int)) (g1 (u := .lst ([0].map V.int)) e0 hp1) hp2) hp3) hp4) hp5) hp6
  have np6 := t5.dk.nd hp6
  refine ⟨_, rfl, d, c, 5, rfl, t6.dk, by decide, by decide, fun r7 H7 a7 b7 s7 => ?_⟩
  have hmenu : ∃ (mu : Addr) (ms : List Int), atI [V.ref p1, V.ref p2, V.ref p3, V.ref p4, V.ref p5] r7 = some (.ref mu) ∧ H7 mu = some (.lst (ms.map V.int)) ∧ H mu = none ∧ 0 < ms.length ∧ ms.length ≤ 4 := by
    have k : ∀ (p : Addr) (ms : List Int), H p = none → (upd (upd (upd (upd (upd (upd H3 p1 (.lst ([0].map V.int))) p2 (.lst ([1].map V.int))) p3 (.lst ([0, 1].map V.int))) p4 (.lst ([0, 1, 1, 1].map V.int))) p5 (.lst ([0, 0, 0, 1].map V.int))) p6 (.lst [V.ref p1, V.ref p2, V.ref p3, V.ref p4, V.ref p5])) p = some (.lst (ms.map V.int)) → H7 p = some (.lst (ms.map V.int)) := fun p ms n h => s7.k _ _ h (D.nd n).1 (D.nd n).2
    have i1 := st.free hp1
    have i2 := t1.free hp2
    have i3 := t2.free hp3
    have i4 := t3.free hp4
    have i5 := t4.free hp5
    have c5 : r7 = 0 ∨ r7 = 1 ∨ r7 = 2 ∨ r7 = 3 ∨ r7 = 4 := by omega
    rcases c5 with rfl | rfl | rfl | rfl | rfl
    · exact ⟨p1, [0], rfl, k p1 _ i1 v1, i1, by decide, by decide⟩
    · exact ⟨p2, [1], rfl, k p2 _ i2 v2, i2, by decide, by decide⟩
    · exact ⟨p3, [0, 1], rfl, k p3 _ i3 v3, i3, by decide, by decide⟩
    · exact ⟨p4, [0, 1, 1, 1], rfl, k p4 _ i4 v4, i4, by decide, by decide⟩
    · exact ⟨p5, [0, 0, 0, 1], rfl, k p5 _ i5 v5, i5, by decide, by decide⟩
  obtain ⟨mu, ms, hat, hmu, nmu, ml1, ml2⟩ := hmenu
  refine ⟨p6, _, _, _, rfl, rfl, SqL.of (s7.k _ _ upd_same np6.1 np6.2), hat, ?_⟩
  have st := t6.trans s7
  have e7 := s7.k _ _ e6 (D.nd nnl).1 (D.nd nnl).2
  -- way
  refine ⟨_, rfl, d, c, 4, rfl, st.dk, by decide, by decide, fun way H8 a8 b8 s8 => ?_⟩
  have st := st.trans s8
  have e8 := s8.k _ _ e7 (D.nd nnl).1 (D.nd nnl).2
  have hmu := s8.k _ _ hmu (D.nd nmu).1 (D.nd nmu).2
  -- ties = []
  refine ⟨(by show 0 ≤ sizeLine; decide), fun tl htl => ?_⟩
  have ntl : H tl = none := st.free htl
  have ntn : tl ≠ nl := (ne_of_none e8 htl).symm
  have ntm : tl ≠ mu := (ne_of_none hmu htl).symm
  have wb0 : Wb K d c nl mu tl H names ms [] [] _ := ⟨st.new htl (.lst []), by rw [upd_ne ntn.symm]; exact e8, by rw [upd_ne ntm.symm]; exact hmu, upd_same, .nil⟩
  -- for k
  have kl : (((names.map V.str).length : Nat) : Int) ≤ 14 := by rw [List.length_map]; omega
  refine ⟨_, rfl, nl, _, rfl, .inl (SqL.of wb0.nl), _, rfl, by omega, by omega, ?_⟩
  refine for_range (lo := 0) (fun k σ H9 => ∃ (vs : List V) (ps : List SS) (kv jv dv : Option V), σ = [some (.ref d), some (.int most), some (.ref nl), some (.ref mu), some (.int way), some (.ref tl), kv, jv, dv] ∧ Wb K d c nl mu tl H names ms vs ps H9 ∧ Met names k 0 ps) ⟨[], [], _, _, _, rfl, wb0, List.nodup_nil, fun p hp => by cases hp⟩ ?_ ?_
  · rintro k σ H9 hk ⟨vs, ps, kv, jv, dv, rfl, wb, met⟩
    rw [Int.toNat_natCast, List.length_map] at hk
    refine ⟨_, rfl, _, rfl, by omega, by omega, ?_⟩
    refine for_range (lo := 0) (fun j σ H9 => ∃ (vs : List V) (ps : List SS) (jv dv : Option V), σ = [some (.ref d), some (.int most), some (.ref nl), some (.ref mu), some (.int way), some (.ref tl), some (.int (0 + (k : Int))), jv, dv] ∧ Wb K d c nl mu tl H names ms vs ps H9 ∧ Met names k j ps) ⟨vs, ps, _, _, rfl, wb, met⟩ ?_ ?_
    · rintro j σ H9 hj ⟨vs, ps, jv, dv, rfl, wb, met⟩
      have hj' : j < k := by omega
      -- drawn = menu[..]
      refine ⟨_, rfl, _, rfl, _, rfl, mu, _, rfl, .inl (SqL.of wb.mu), d, c, _, rfl, wb.st.dk, (by rw [List.length_map]; omega), (by rw [List.length_map]; omega), fun r H10 a10 b10 s10 => ?_⟩
      have wb := wb.step D nnl nmu ntl s10
      rw [List.length_map] at b10
      obtain ⟨x, hx, _⟩ := at_ints (xs := ms) a10 b10
      refine ⟨mu, _, _, _, rfl, rfl, SqL.of wb.mu, hx, ?_⟩
      -- if way == 1
      have s0 : Stp d c H10 H10 := Stp.refl s10.dk
      refine ⟨_, rfl, rfl, _, rfl, ?_⟩
      refine ite2 (fun w1 => ?A1) (fun w1 => ?A2)
      case' A1 =>
        refine ⟨_, rfl, _, rfl, _, _, rfl, rfl, _, rfl, nl, _, rfl, .inl (SqL.of wb.nl), _, _, rfl, rfl, (by show 2 ≤ sizeLine; decide), fun p hp => ?_⟩
        refine ⟨p, _, rfl, .inl (SqL.of upd_same), rfl, rfl, .inr ⟨_, rfl, ?_⟩⟩
        have wb := wb.new hp (.lst [V.int 1, V.int ((((names.map V.str).length : Nat) : Int) - 1)])
      case' A2 =>
        have wb := wb
      all_goals
        -- if way == 2 and ..
        refine ⟨_, rfl, rfl, _, rfl, ?_⟩
        refine ite2 (fun w2 => ⟨_, rfl, _, rfl, _, _, rfl, rfl, _, _, rfl, rfl, (by show (0 : Int) < 3; decide), _, _, rfl, rfl, _, rfl, ite2 (fun w3 => ?_) (fun w3 => ?_)⟩) (fun w2 => iteF ?_)
        all_goals
          -- if drawn == 1
          refine ⟨_, rfl, rfl, _, rfl, ?_⟩
          refine ite2 (fun w4 => ?_) (fun w4 => ⟨vs, ps, _, _, rfl, wb, met.more⟩)
          · obtain ⟨x1, hx1⟩ : ∃ x1, names[j]? = some x1 := ⟨names[j], List.getElem?_eq_getElem (by omega)⟩
            obtain ⟨x2, hx2⟩ : ∃ x2, names[k]? = some x2 := ⟨names[k], List.getElem?_eq_getElem (by omega)⟩
            refine ⟨_, rfl, .inl ⟨rfl, _, SqL.of wb.tl⟩, _, rfl, _, rfl, nl, _, _, _, rfl, rfl, SqL.of wb.nl, at_nat hx1, _, rfl, _, rfl, nl, _, _, _, rfl, rfl, SqL.of wb.nl, at_nat hx2, (by show 2 ≤ sizeLine; decide), fun t ht => ?_⟩
            have ntt : tl ≠ t := ne_of_none wb.tl ht
            have wb2 := wb.new ht (.tup [V.str x1, V.str x2])
            refine ⟨tl, _, _, rfl, rfl, wb2.tl, ?_, ?_⟩
            · have e := Paired.length wb.ps
              rw [e]
              exact small1000 (met.len hn n14)
            · refine ⟨vs ++ [V.ref t], ps ++ [(x1, x2)], _, _, rfl, ⟨wb2.st.upd ntl (D.nd ntl).1 (D.nd ntl).2 _, by rw [upd_ne ntn.symm]; exact wb2.nl, by rw [upd_ne ntm.symm]; exact wb2.mu, upd_same, ?_⟩, met.add hn hj' hx1 hx2⟩
              have kt := keepT_upd wb2.tl (.lst (vs ++ [V.ref t]))
              exact Paired.snoc (wb2.ps.keep kt) ⟨t, rfl, kt.seqT (SqT.of upd_same)⟩
    · rintro σ H9 ⟨vs, ps, jv, dv, rfl, wb, met⟩
      have e : ((0 + (k : Int)).toNat) = k := by omega
      rw [e] at met
      exact ⟨vs, ps, _, _, _, rfl, wb, met.row⟩
  · rintro σ H9 ⟨vs, ps, kv, jv, dv, rfl, wb, met⟩
    -- return (tuple(names), tuple(sorted(ties)))
    refine ⟨_, rfl, nl, _, rfl, .inl ⟨SqL.of wb.nl, fun na hna => ?_⟩⟩
    have wb := wb.new hna (.tup (names.map V.str))
    have ena : (upd H9 na (.tup (names.map V.str))) na = some (.tup (names.map V.str)) := upd_same
    generalize upd H9 na (.tup (names.map V.str)) = H10 at wb ena
    refine ⟨_, rfl, tl, _, _, rfl, SqL.of wb.tl, wb.ps, fun vs' ps' sl hps' perm2 srt2 hsl => ?_⟩
    have wb := wb.new hsl (.lst vs')
    have hps' := hps'.same (same_new hsl (.lst vs'))
    have ena : (upd H10 sl (.lst vs')) na = some (.tup (names.map V.str)) := by rw [upd_ne (ne_of_none ena hsl)]; exact ena
    refine ⟨sl, _, rfl, .inl ⟨SqL.of upd_same, fun ta hta => ?_⟩⟩
    have wb := wb.new hta (.tup vs')
    have hps' := hps'.same (same_new hta (.tup vs'))
    have ena := g1 (u := .tup vs') ena hta
    refine ⟨(by show 2 ≤ sizeLine; decide), fun a ha => ?_⟩
    have wb := wb.new ha (.tup [.ref na, .ref ta])
    have hps' := hps'.same (same_new ha (.tup [.ref na, .ref ta]))
    have ena := g1 (u := .tup [.ref na, .ref ta]) ena ha
    refine q a names ps' _ wb.st ⟨na, ta, vs', SqT.of upd_same, SqT.of ena, SqT.of (by rw [upd_ne (ne_of_none upd_same ha)]; exact upd_same), hps'⟩ (met.ok hn hw perm2 srt2) (by rw [perm.length_eq]; exact hlen')
end
end K02

namespace K02
open PySem L2
section
variable {P : Program} {w : World} {K : PySem.W.Frag} {mg : Str → Option Value} {base : Heap}
def spSame (K : PySem.W.Frag) (n : Nat) : Sp := fun vs H Q _ => ∃ (x y : V), vs = [x, y] ∧ Eqd K H n x y ∧ ∀ H', Same H H' → Q (.bl true) H'
theorem sc_same : FnScope ["found", "due", "one", "other"] ["found", "due"] (defScope s_law_same) := ⟨rfl, rfl, rfl, by decide +kernel, rfl, by decide +kernel, by decide +kernel⟩
theorem same_step {f : Addr} {fd : FuncData} {n : Nat} (F : Fun K "_law_same" "_law_same" s_law_same f fd) (T : Tx mg) (G_law_same : FnOk P w K mg base CX0 n f fd ["found", "due"] (spSame K n)) (b_law_same : Binds K fd ["found", "due"] []) (m_law_same : mg "_law_same" = some (.ref f)) :
    FnOk P w K mg base CX0 (n + 1) f fd ["found", "due"] (spSame K (n + 1)) := by
  have nd := sc_same.nd
  have k_law_same := F.kp
  refine F.ok sc_same (fun vs H Q E h => ?_) (fun cdv A outer s H vs Q E hr h => ?_)
  · obtain ⟨x, y, rfl, _⟩ := h
    rfl
  have hr_law_same := hr
  obtain ⟨x, y, rfl, he, q⟩ := h
  refine SB.use (bcons
  (bifs (tval (ecallB cr_isi (by unfold Gl; kernel_rfl) T.isinstance L2.boot_isinstance (acons (ev 1 rfl (Or.inl (by kernel_rfl)) (by kernel_rfl) (by kernel_rfl)) (acons (ebltn (v := .ty "tuple") (by unfold Gl; kernel_rfl) T.tuple L2.boot_tuple rfl (by decide +kernel) (by kernel_rfl)) anil (by kernel_rfl)) (by kernel_rfl)) (by decide +kernel) (by kernel_rfl) (by kernel_rfl) (by kernel_rfl)) (by intro _; rfl)) (bcons
  (bifs (tw (wor (tnot (tval (ecallB cr_isi (by unfold Gl; kernel_rfl) T.isinstance L2.boot_isinstance (acons (ev 0 rfl (Or.inl (by kernel_rfl)) (by kernel_rfl) (by kernel_rfl)) (acons (ebltn (v := .ty "tuple") (by unfold Gl; kernel_rfl) T.tuple L2.boot_tuple rfl (by decide +kernel) (by kernel_rfl)) anil (by kernel_rfl)) (by kernel_rfl)) (by decide +kernel) (by kernel_rfl) (by kernel_rfl) (by kernel_rfl)) (by intro _; rfl))) (wor1 (tcmp op_ne (ecallB call_len_seq (by unfold Gl; kernel_rfl) T.len L2.boot_len (acons (ev 0 rfl (Or.inl (by kernel_rfl)) (by kernel_rfl) (by kernel_rfl)) anil (by kernel_rfl)) (by decide +kernel) (by kernel_rfl) (by kernel_rfl) (by kernel_rfl)) (ecallB call_len_seq (by unfold Gl; kernel_rfl) T.len L2.boot_len (acons (ev 1 rfl (Or.inl (by kernel_rfl)) (by kernel_rfl) (by kernel_rfl)) anil (by kernel_rfl)) (by decide +kernel) (by kernel_rfl) (by kernel_rfl) (by kernel_rfl)) (nomark _))))) (bone
  (bret ebl)) bnil)
  (bone
  (bret (ecmp (op_eqD hr.units) (elc (own := [("one", 2), ("other", 3)]) (g := gTup K 2 (gCons (gName 2) (gCons (gName 3) gNil))) (by rfl) nd (izipT (by unfold Gl; kernel_rfl) T.zip (acons (ev 0 rfl (Or.inl (by kernel_rfl)) (by kernel_rfl) (by kernel_rfl)) (acons (ev 1 rfl (Or.inl (by kernel_rfl)) (by kernel_rfl) (by kernel_rfl)) anil (by kernel_rfl)) (by kernel_rfl)) (by kernel_rfl) (by kernel_rfl)) (blkOk_by (own := [("one", 2), ("other", 3)]) (N := ["found", "due", "one", "other"]) (sc := defScope s_law_same) (by decide +kernel)) (fun _ _ _ _ _ => (gtup (n := 2) rfl (gscons (gname (n := 2) nd rfl (Or.inl (by kernel_rfl)) (.inr (by kernel_rfl))) (gscons (gname (n := 3) nd rfl (Or.inl (by kernel_rfl)) (.inr (by kernel_rfl))) gsnil (by kernel_rfl)) (by kernel_rfl)) (by kernel_rfl) (by kernel_rfl))) (fun _ _ _ _ _ => (uone (tnot (tval (ecall G_law_same hr_law_same (by unfold Gl; kernel_rfl) m_law_same k_law_same b_law_same .nil pass0 (acons (ev 2 rfl (Or.inl (by kernel_rfl)) (by kernel_rfl) (by kernel_rfl)) (acons (ev 3 rfl (Or.inl (by kernel_rfl)) (by kernel_rfl) (by kernel_rfl)) anil (by kernel_rfl)) (by kernel_rfl)) (by kernel_rfl) (by kernel_rfl) (by kernel_rfl)) (by intro _; rfl))))) (fun _ _ _ _ _ => eint) (by intro _; rfl)) (elst anil) (nomark _))))) bnil)
  (bcons
  (bifs (tval (ecallB cr_isi (by unfold Gl; kernel_rfl) T.isinstance L2.boot_isinstance (acons (ev 1 rfl (Or.inl (by kernel_rfl)) (by kernel_rfl) (by kernel_rfl)) (acons (ebltn (v := .ty "str") (by unfold Gl; kernel_rfl) T.str L2.boot_str rfl (by decide +kernel) (by kernel_rfl)) anil (by kernel_rfl)) (by kernel_rfl)) (by decide +kernel) (by kernel_rfl) (by kernel_rfl) (by kernel_rfl)) (by intro _; rfl)) (bone
  (bret (eand (ecallB cr_isi (by unfold Gl; kernel_rfl) T.isinstance L2.boot_isinstance (acons (ev 0 rfl (Or.inl (by kernel_rfl)) (by kernel_rfl) (by kernel_rfl)) (acons (ebltn (v := .ty "str") (by unfold Gl; kernel_rfl) T.str L2.boot_str rfl (by decide +kernel) (by kernel_rfl)) anil (by kernel_rfl)) (by kernel_rfl)) (by decide +kernel) (by kernel_rfl) (by kernel_rfl) (by kernel_rfl)) (eone (ecmp op_eq (ev 0 rfl (Or.inl (by kernel_rfl)) (by kernel_rfl) (by kernel_rfl)) (ev 1 rfl (Or.inl (by kernel_rfl)) (by kernel_rfl) (by kernel_rfl)) (nomark _)))))) bnil)
  (bone
  (bret (eand (ecallB cr_isi (by unfold Gl; kernel_rfl) T.isinstance L2.boot_isinstance (acons (ev 0 rfl (Or.inl (by kernel_rfl)) (by kernel_rfl) (by kernel_rfl)) (acons (ebltn (v := .ty "int") (by unfold Gl; kernel_rfl) T.int L2.boot_int rfl (by decide +kernel) (by kernel_rfl)) anil (by kernel_rfl)) (by kernel_rfl)) (by decide +kernel) (by kernel_rfl) (by kernel_rfl) (by kernel_rfl)) (eand (enot (ecallB cr_isi (by unfold Gl; kernel_rfl) T.isinstance L2.boot_isinstance (acons (ev 0 rfl (Or.inl (by kernel_rfl)) (by kernel_rfl) (by kernel_rfl)) (acons (ebltn (v := .ty "bool") (by unfold Gl; kernel_rfl) T.bool L2.boot_bool rfl (by decide +kernel) (by kernel_rfl)) anil (by kernel_rfl)) (by kernel_rfl)) (by decide +kernel) (by kernel_rfl) (by kernel_rfl) (by kernel_rfl))) (eone (ecmp op_eq (ev 0 rfl (Or.inl (by kernel_rfl)) (by kernel_rfl) (by kernel_rfl)) (ev 1 rfl (Or.inl (by kernel_rfl)) (by kernel_rfl) (by kernel_rfl)) (nomark _))))))))) ?_
  rcases he with (⟨z, rfl, rfl⟩ | ⟨i, rfl, rfl⟩) | ⟨a, b, xs, ys, rfl, rfl, ha, hb, hp⟩
  · -- texts
    refine ⟨_, rfl, _, "str", "tuple", rfl, rfl, .inl rfl, _, rfl, ite2 (fun h => absurd h (by decide)) (fun _ => ?_)⟩
    refine ⟨_, rfl, _, "str", "str", rfl, rfl, .inr (.inl rfl), _, rfl, ite2 (fun _ => ?_) (fun h => absurd (by decide) h)⟩
    refine ⟨_, rfl, _, "str", "str", rfl, rfl, .inr (.inl rfl), _, rfl, ite2 (fun _ => ?_) (fun h => absurd (by decide) h)⟩
    refine ⟨_, rfl, _, rfl, rfl, ?_⟩
    rw [decide_eq_true rfl]
    exact q H (Same.refl H)
  · -- numbers
    refine ⟨_, rfl, _, "int", "tuple", rfl, rfl, .inl rfl, _, rfl, ite2 (fun h => absurd h (by decide)) (fun _ => ?_)⟩
    refine ⟨_, rfl, _, "int", "str", rfl, rfl, .inr (.inl rfl), _, rfl, ite2 (fun h => absurd h (by decide)) (fun _ => ?_)⟩
    refine ⟨_, rfl, _, "int", "int", rfl, rfl, .inr (.inr (.inl rfl)), _, rfl, ite2 (fun _ => ?_) (fun h => absurd (by decide) h)⟩
    refine ⟨_, rfl, _, "int", "bool", rfl, rfl, .inr (.inr (.inr rfl)), _, rfl, _, rfl, ite2 (fun _ => ?_) (fun h => absurd (by decide) h)⟩
    refine ⟨_, rfl, _, rfl, rfl, ?_⟩
    rw [decide_eq_true rfl]
    exact q H (Same.refl H)
  · -- tuples
    have hl : xs.length = ys.length := Paired.length hp
    refine ⟨_, rfl, _, "tuple", "tuple", rfl, ⟨rfl, _, hb⟩, .inl rfl, _, rfl, ite2 (fun _ => ?_) (fun h => absurd (by decide) h)⟩
    refine ⟨_, rfl, _, "tuple", "tuple", rfl, ⟨rfl, _, ha⟩, .inl rfl, _, rfl, ite2 (fun h => absurd h (by decide)) (fun _ => ?_)⟩
    refine ⟨_, rfl, a, _, rfl, .inr ha, _, rfl, b, _, rfl, .inr hb, rfl, _, rfl, ?_⟩
    refine iteNS (by rw [hl]) ?_
    refine ⟨_, rfl, _, rfl, a, b, xs, ys, rfl, ha, hb, fun D hD => ?_⟩
    refine lc_zipT (xs := xs) (ys := ys) (fun i H2 => Same H H2 ∧ H2 D = some (.lst [])) ⟨same_new hD _, upd_same⟩ (fun i H2 _ p => ⟨p.1.seqT ha, p.1.seqT hb⟩) hl ?_ ?_
    · rintro i x y H2 t hx hy ht ⟨s2, h2⟩
      refine ⟨t, [x, y], rfl, SqT.of upd_same, rfl, x, [y], rfl, y, [], rfl, rfl, rfl, ?_⟩
      have s3 := s2.trans (same_new ht (.tup [x, y]))
      refine ⟨_, rfl, _, rfl, x, y, rfl, Eqd.same s3 (Paired.get hp hx hy), fun H4 s4 => ⟨_, rfl, iteF ?_⟩⟩
      exact ⟨s3.trans s4, s4 _ _ (by rw [upd_ne (ne_of_none h2 ht)]; exact h2)⟩
    · rintro H2 ⟨s2, h2⟩
      refine ⟨(by show 0 ≤ sizeLine; decide), fun p hp2 => ?_⟩
      have e : (upd H2 p (.lst [])) D = some (.lst []) := by rw [upd_ne (ne_of_none h2 hp2)]; exact h2
      refine ⟨.list [], .list [], .lst (SqL.of e) .nil, .lst (SqL.of upd_same) .nil, rfl, rfl, ?_⟩
      exact q _ (s2.trans (same_new hp2 _))
theorem ok_same {f : Addr} {fd : FuncData} (F : Fun K "_law_same" "_law_same" s_law_same f fd) (T : Tx mg) (b_law_same : Binds K fd ["found", "due"] []) (m_law_same : mg "_law_same" = some (.ref f)) : ∀ n, FnOk P w K mg base CX0 n f fd ["found", "due"] (spSame K n)
  | 0 => by
    have no : ∀ vs H Q E, ¬ spSame K 0 vs H Q E := fun vs H Q E h => by
      obtain ⟨x, y, _, h, _⟩ := h
      exact h
    exact ⟨fun vs H Q E h => absurd h (no vs H Q E), fun A outer s H args us vs Q E _ _ _ _ h => absurd h (no vs H Q E)⟩
  | n + 1 => same_step F T (ok_same F T b_law_same m_law_same n) b_law_same m_law_same
end
end K02

namespace K02
open PySem L2 Wd Wm
/-- a list of pairs grows at D -/
structure Pp (K : PySem.W.Frag) (H : Hp) (D : Addr) (ps : List SS) (H2 : Hp) : Prop where
  s : Same H H2
  v : ∃ vs, H2 D = some (.lst vs) ∧ Prs K H2 vs ps
section
variable {K : PySem.W.Frag} {H H2 : Hp} {D : Addr} {ps : List SS}
theorem Pp.new (h : Pp K H D ps H2) {p : Addr} (n : H2 p = none) (o : HO) : Pp K H D ps (upd H2 p o) := by
  obtain ⟨vs, h1, h2⟩ := h.v
  exact ⟨h.s.trans (same_new n o), vs, by rw [upd_ne (ne_of_none h1 n)]; exact h1, h2.same (same_new n o)⟩
theorem Pp.add (h : Pp K H D ps H2) (n : H D = none) {acc : List V} (ha : H2 D = some (.lst acc)) {v : V} {p : SS} (hv : IsPr K H2 v p) : Pp K H D (ps ++ [p]) (upd H2 D (.lst (acc ++ [v]))) := by
  obtain ⟨vs, h1, h2⟩ := h.v
  rw [ha] at h1
  cases h1
  have kt := keepT_upd ha (.lst (acc ++ [v]))
  exact ⟨fun b o e => by rw [upd_ne (ne_of_none e n)]; exact h.s b o e, _, upd_same, Paired.snoc (h2.keep kt) (hv.keep kt)⟩
theorem Pp.start (n : H D = none) : Pp K H D [] (upd H D (.lst [])) := ⟨same_new n _, [], upd_same, .nil⟩
end
theorem pairs_le {names : List Str} (h : names.length ≤ 14) : (pairsL names).length ≤ 900 := by
  have l2 := len_pairs names
  have l3 : names.length * (names.length - 1) ≤ 14 * 14 := Nat.mul_le_mul h (by omega)
  omega
theorem cut_from {names : List Str} {i : Nat} (h : i < names.length) : cutV (names.map V.str) (some ((i : Int) + 1)) none = (names.drop (i + 1)).map V.str := by
  unfold cutV
  have e : HT.sIx (names.map V.str).length 0 (some ((i : Int) + 1)) = i + 1 := by
    have := HT.sIx_nat (names.map V.str).length 0 (i + 1)
    have e2 : (((i + 1 : Nat)) : Int) = (i : Int) + 1 := by omega
    rw [e2] at this
    rw [this, List.length_map]
    omega
  rw [e, HT.sIx_none, List.length_map, ← List.map_drop, List.take_of_length_le (by rw [List.length_map, List.length_drop]; exact Nat.le_refl _)]
theorem pairs_at {names : List Str} {i : Nat} {x : Str} (h : names[i]? = some x) : pairsL (names.drop i) = (names.drop (i + 1)).map (fun y => (x, y)) ++ pairsL (names.drop (i + 1)) := by
  obtain ⟨h1, h2⟩ := List.getElem?_eq_some_iff.mp h
  rw [List.drop_eq_getElem_cons h1, h2]
  rfl
section
variable {P : Program} {w : World} {K : PySem.W.Frag} {mg : Str → Option Value} {base : Heap}
def spPairs (K : PySem.W.Frag) : Sp := fun vs H Q _ => ∃ (a : Addr) (names : List Str), vs = [.ref a] ∧ SqT K H a (names.map V.str) ∧ names.length ≤ 14 ∧
  ∀ (l : Addr) (H' : Hp), H l = none → Pp K H l (pairsL names) H' → Q (.ref l) H'
theorem sc_pairs : FnScope ["names", "at", "one", "other"] ["names"] (defScope s_pairs_of) := ⟨rfl, rfl, rfl, by decide +kernel, rfl, by decide +kernel, by decide +kernel⟩
theorem ok_pairs {f : Addr} {fd : FuncData} (F : Fun K "pairs_of" "pairs_of" s_pairs_of f fd) (T : Tx mg) : FnOk P w K mg base CX0 1 f fd ["names"] (spPairs K) := by
  have nd := sc_pairs.nd
  refine F.ok sc_pairs (fun vs H Q E h => ?_) (fun cdv A outer s H vs Q E hr h => ?_)
  · obtain ⟨a, names, rfl, _⟩ := h
    rfl
  obtain ⟨a, names, rfl, ha, h14, q⟩ := h
  refine SB.use (bone
  (bret (elc2 (own := [("at", 1), ("one", 2), ("other", 3)]) (vs1 := [3]) (g := gTup K 2 (gCons (gName 1) (gCons (gName 2) gNil))) (g1 := gName 3) (wi1 := iTup K (tSl (rSlT K) (tVar 0) (tPart (tOp (rI0 fun i j => .int (i + j)) (tVar 1) (tC (.int 1)))) tNoPart)) (by rfl) nd (ienumT (by unfold Gl; kernel_rfl) T.enumerate (acons (ev 0 rfl (Or.inr (Or.inl (by kernel_rfl))) (by kernel_rfl) (by kernel_rfl)) anil (by kernel_rfl)) (by kernel_rfl)) (blkOk_by (own := [("at", 1), ("one", 2), ("other", 3)]) (N := ["names", "at", "one", "other"]) (sc := defScope s_pairs_of) (by decide +kernel)) (by decide) (fun _ _ _ _ _ => (gtup (n := 2) rfl (gscons (gname (n := 1) nd rfl (Or.inl (by kernel_rfl)) (.inr (by kernel_rfl))) (gscons (gname (n := 2) nd rfl (Or.inl (by kernel_rfl)) (.inr (by kernel_rfl))) gsnil (by kernel_rfl)) (by kernel_rfl)) (by kernel_rfl) (by kernel_rfl))) (fun _ _ _ _ _ => unil) (fun _ _ _ _ _ => (itupK (K := K) rfl (eslice (sl_tupK (K := K) rfl) (ev 0 rfl (Or.inr (Or.inl (by kernel_rfl))) (by kernel_rfl) (by kernel_rfl)) (osome (eop op_add (ev 1 rfl (Or.inl (by kernel_rfl)) (by kernel_rfl) (by kernel_rfl)) eint)) onone))) (fun _ _ _ _ _ => (gname (n := 3) nd rfl (Or.inl (by kernel_rfl)) (.inr (by kernel_rfl)))) (fun _ _ _ _ _ => unil) (fun _ _ _ _ _ => (etup (acons (ev 2 rfl (Or.inl (by kernel_rfl)) (by kernel_rfl) (by kernel_rfl)) (acons (ev 3 rfl (Or.inl (by kernel_rfl)) (by kernel_rfl) (by kernel_rfl)) anil (by kernel_rfl)) (by kernel_rfl)))) (by intro _; rfl) (by intro _ _; rfl)))) ?_
  refine ⟨_, rfl, a, _, rfl, ha, fun D hD => ?_⟩
  refine ⟨fun i m H2 => m = names.length - i ∧ i ≤ names.length ∧ ∃ ps, Pp K H D ps H2 ∧ ps ++ pairsL (names.drop i) = pairsL names, ⟨names.length, by omega, by omega, [], Pp.start hD, rfl⟩, ?_⟩
  rintro i m H2 ⟨rfl, hi, ps, pp, eq⟩
  by_cases hlt : i < names.length
  · obtain ⟨x, hx⟩ : ∃ x, names[i]? = some x := ⟨names[i], List.getElem?_eq_getElem hlt⟩
    have hxv : (names.map V.str)[i]? = some (.str x) := by rw [List.getElem?_map, hx]; rfl
    refine .inr ⟨⟨_, _, pp.s.seqT ha, hxv⟩, fun H' => ∃ ps, Pp K H D ps H' ∧ ps ++ pairsL (names.drop (i + 1)) = pairsL names, fun H' h => ⟨names.length - (i + 1), by omega, rfl, hlt, h⟩, ?_⟩
    rintro v H' ⟨t, x', rfl, nt, rfl, hx'⟩
    have ex : x' = .str x := by
      have := hx' _ (pp.s.seqT ha)
      rw [hxv] at this
      exact (Option.some.inj this).symm
    subst ex
    have pp := pp.new nt (.tup [.int (i : Nat), .str x])
    refine ⟨t, _, rfl, SqT.of upd_same, rfl, _, _, rfl, _, _, rfl, rfl, rfl, tyes ?_⟩
    generalize upd H2 t (.tup [.int (i : Nat), .str x]) = H3 at pp
    refine ⟨_, rfl, _, rfl, _, _, rfl, rfl, _, rfl, a, _, rfl, pp.s.seqT ha, ?_, fun p hp => ?_⟩
    · rintro ⟨z, _⟩
      have := HT.sIx_nat (names.map V.str).length 0 (i + 1)
      have e2 : (((i + 1 : Nat)) : Int) = (i : Int) + 1 := by omega
      rw [e2, List.length_map] at this
      rw [List.length_map] at z
      have z' : HT.sIx names.length 0 (some ((i : Int) + 1)) = 0 := z
      rw [this] at z'
      omega
    have pp := pp.new hp (.tup ((names.drop (i + 1)).map V.str))
    rw [← cut_from hlt] at pp
    have hsl : (upd H3 p (.tup (cutV (names.map V.str) (some ((i : Int) + 1)) none))) p = some (.tup ((names.drop (i + 1)).map V.str)) := by rw [cut_from hlt]; exact upd_same
    refine ⟨p, rfl, ⟨_, SqT.of hsl⟩, ?_⟩
    generalize upd H3 p (.tup (cutV (names.map V.str) (some ((i : Int) + 1)) none)) = H4 at pp hsl
    refine ⟨fun j k H5 => k = (names.drop (i + 1)).length - j ∧ j ≤ (names.drop (i + 1)).length ∧ H5 p = some (.tup ((names.drop (i + 1)).map V.str)) ∧ Pp K H D (ps ++ ((names.drop (i + 1)).take j).map (fun y => (x, y))) H5, ⟨(names.drop (i + 1)).length, rfl, Nat.zero_le _, hsl, by simpa using pp⟩, ?_⟩
    rintro j k H5 ⟨rfl, hj, hsl5, pp5⟩
    by_cases hjl : j < (names.drop (i + 1)).length
    · obtain ⟨y, hy⟩ : ∃ y, (names.drop (i + 1))[j]? = some y := ⟨(names.drop (i + 1))[j], List.getElem?_eq_getElem hjl⟩
      have hyv : ((names.drop (i + 1)).map V.str)[j]? = some (.str y) := by rw [List.getElem?_map, hy]; rfl
      refine .inr ⟨⟨_, _, SqT.of hsl5, hyv⟩, fun H' => H' p = some (.tup ((names.drop (i + 1)).map V.str)) ∧ Pp K H D (ps ++ ((names.drop (i + 1)).take (j + 1)).map (fun y => (x, y))) H', fun H' h => ⟨(names.drop (i + 1)).length - (j + 1), by omega, rfl, hjl, h⟩, ?_⟩
      rintro v H' ⟨rfl, hv⟩
      have ev : v = .str y := by
        have := hv _ (SqT.of hsl5)
        rw [hyv] at this
        exact (Option.some.inj this).symm
      subst ev
      refine ⟨rfl, tyes ?_⟩
      refine ⟨_, rfl, _, rfl, (by show 2 ≤ sizeLine; decide), fun u hu => ?_⟩
      have pp6 := pp5.new hu (.tup [.str x, .str y])
      obtain ⟨acc, hacc, hpr⟩ := id pp6.v
      have hlen := Paired.length hpr
      have npD : p ≠ D := fun e => by
        rw [e] at hsl5
        obtain ⟨vs, z, _⟩ := pp5.v
        rw [hsl5] at z
        cases z
      have tk : (names.drop (i + 1)).take (j + 1) = (names.drop (i + 1)).take j ++ [y] := by
        rw [List.take_succ, hy]
        rfl
      refine ⟨acc, hacc, ?_, by rw [upd_ne npD, upd_ne (ne_of_none hsl5 hu)]; exact hsl5, ?_⟩
      · rw [hlen]
        have e1 : (pairsL names).length ≤ 900 := pairs_le h14
        rw [← eq, pairs_at hx] at e1
        simp only [List.length_append, List.length_map, List.length_take] at e1 ⊢
        exact small1000 (by omega)
      · rw [tk, List.map_append, ← List.append_assoc]
        exact pp6.add hD hacc ⟨u, rfl, SqT.of upd_same⟩
    · have e : j = (names.drop (i + 1)).length := by omega
      subst e
      rw [List.take_length] at pp5
      exact .inl ⟨⟨_, SqT.of hsl5, by rw [List.length_map]; exact Nat.le_refl _⟩, _, pp5, by rw [← eq, pairs_at hx, List.append_assoc]⟩
  · have e : i = names.length := by omega
    subst e
    rw [List.drop_length] at eq
    have e2 : ps = pairsL names := by rw [← eq]; simp [pairsL]
    subst e2
    exact .inl ⟨⟨_, pp.s.seqT ha, by rw [List.length_map]; exact Nat.le_refl _⟩, q D H2 hD pp⟩
end
end K02

namespace K02
open PySem L2 Wd Wm Tm
def unS : V → Str
  | .str x => x
  | _ => ""
theorem strs_perm {ys : List V} {names : List Str} (h : ys.Perm (names.map V.str)) : ∃ words : List Str, ys = words.map V.str ∧ words.Perm names := by
  refine ⟨ys.map unS, ?_, ?_⟩
  · rw [List.map_map]
    have : ∀ y ∈ ys, (V.str ∘ unS) y = y := fun y hy => by
      obtain ⟨x, _, rfl⟩ := List.mem_map.mp (h.mem_iff.mp hy)
      rfl
    rw [List.map_congr_left this, List.map_id']
  · have := h.map unS
    rw [List.map_map] at this
    have e : names.map (unS ∘ V.str) = names := by
      have : (unS ∘ V.str) = id := rfl
      rw [this, List.map_id]
    rw [e] at this
    exact this
theorem paired_perm {α β : Type} {R : α → β → Prop} : ∀ {xs ys : List α}, ys.Perm xs → ∀ {ps : List β}, Paired R xs ps → ∃ qs, Paired R ys qs ∧ qs.Perm ps := by
  intro xs ys h
  induction h with
  | nil => intro ps hp; exact ⟨ps, hp, List.Perm.refl _⟩
  | cons x _ ih =>
    intro ps hp
    cases hp with
    | cons r t =>
      obtain ⟨qs, h1, h2⟩ := ih t
      exact ⟨_ :: qs, .cons r h1, h2.cons _⟩
  | swap x y l =>
    intro ps hp
    cases hp with
    | cons r t =>
      cases t with
      | cons r2 t => exact ⟨_, .cons r2 (.cons r t), List.Perm.swap _ _ _⟩
  | trans _ _ ih1 ih2 =>
    intro ps hp
    obtain ⟨qs, h1, h2⟩ := ih2 hp
    obtain ⟨rs, h3, h4⟩ := ih1 h1
    exact ⟨rs, h3, h4.trans h2⟩
theorem web_le {names : List Str} {ties : List SS} (h : WebOk names ties) (h14 : names.length ≤ 14) : ties.length ≤ 98 := by
  have sub : ∀ p ∈ ties, p ∈ pairsL names := fun p hp => (mem_pairs h.ns).mpr (h.ti p hp)
  have l1 := nodup_le h.ts.nodup sub
  have l2 := len_pairs names
  have l3 : names.length * (names.length - 1) ≤ 14 * 13 := Nat.mul_le_mul h14 (by omega)
  omega
theorem sum_words : ∀ {ws : List Str}, (∀ w ∈ ws, Word w) → (ws.map (·.length)).sum ≤ ws.length * 8
  | [], _ => Nat.le_refl _
  | w :: r, h => by
    have := sum_words fun x hx => h x (List.mem_cons_of_mem _ hx)
    have := (h w (List.mem_cons_self ..)).hi
    rw [List.map_cons, List.sum_cons, List.length_cons]
    omega
theorem sum_rows {n : Nat} : ∀ {ws : List Str}, (∀ w ∈ ws, w.length ≤ n) → (ws.map (·.length)).sum ≤ ws.length * n
  | [], _ => by simp
  | w :: r, h => by
    have h1 := sum_rows fun x hx => h x (List.mem_cons_of_mem _ hx)
    have h2 := h w (List.mem_cons_self ..)
    rw [List.map_cons, List.sum_cons, List.length_cons, Nat.succ_mul]
    omega
theorem erase_perm {α : Type} : ∀ {l : List α} {k : Nat} (h : k < l.length), (l[k] :: l.eraseIdx k).Perm l
  | x :: r, 0, _ => List.Perm.refl _
  | x :: r, k + 1, h => by
    have ih := erase_perm (l := r) (k := k) (by simpa using h)
    show (r[k]'(by simpa using h) :: x :: r.eraseIdx k).Perm (x :: r)
    exact (List.Perm.swap _ _ _).trans (ih.cons x)
end K02

namespace K02
open PySem L2 Wd Wm Tm
section
variable {P : Program} {w : World} {K : PySem.W.Frag} {mg : Str → Option Value} {base : Heap}
def spShuf (K : PySem.W.Frag) : Sp := fun vs H Q _ => ∃ (d c a : Addr) (xs : List V), vs = [.ref d, .ref a] ∧ Deck H d c ∧ (SqL K H a xs ∨ SqT K H a xs) ∧ xs.length ≤ 900 ∧
  ∀ (l : Addr) (ys : List V) (H' : Hp), Stp d c H H' → H l = none → H' l = some (.lst ys) → ys.Perm xs → Q (.ref l) H'
theorem sc_shuf : FnScope ["deck", "things", "left", "k"] ["deck", "things"] (defScope s_law_shuffled) := ⟨rfl, rfl, rfl, by decide +kernel, rfl, by decide +kernel, by decide +kernel⟩
theorem ok_shuf {f : Addr} {fd : FuncData} (F : Fun K "_law_shuffled" "_law_shuffled" s_law_shuffled f fd) (T : Tx mg) (oT : Own P w K mg base 1 "_law_take" ["deck", "many"] spTake) : FnOk P w K mg base CX0 2 f fd ["deck", "things"] (spShuf K) := by
  have nd := sc_shuf.nd
  obtain ⟨ft, fdt, G_law_take, b_law_take, k_law_take, m_law_take⟩ := oT
  refine F.ok sc_shuf (fun vs H Q E h => ?_) (fun cdv A outer s H vs Q E hr h => ?_)
  · obtain ⟨d, c, a, xs, rfl, _⟩ := h
    rfl
  have hr_law_take := hr
  obtain ⟨d, c, a, xs, rfl, Dk, hx, h900, q⟩ := h
  refine SB.use (bcons
  (bset (n := 2) nd rfl (Or.inr (by kernel_rfl)) (ecallT call_list_of (by unfold Gl; kernel_rfl) T.list L2.boot_list (acons (ev 1 rfl (Or.inl (by kernel_rfl)) (by kernel_rfl) (by kernel_rfl)) anil (by kernel_rfl)) (by decide +kernel) (by kernel_rfl) (by kernel_rfl) (by kernel_rfl)) (by kernel_rfl) (.inl rfl))
  (bone
  (bret (elc (own := [("k", 3)]) (g := gName 3) (by rfl) nd (irange1 (by unfold Gl; kernel_rfl) T.range (acons (ecallB call_len_seq (by unfold Gl; kernel_rfl) T.len L2.boot_len (acons (ev 2 rfl (Or.inr (Or.inl (by kernel_rfl))) (by kernel_rfl) (by kernel_rfl)) anil (by kernel_rfl)) (by decide +kernel) (by kernel_rfl) (by kernel_rfl) (by kernel_rfl)) anil (by kernel_rfl)) (by kernel_rfl)) (blkOk_by (own := [("k", 3)]) (N := ["deck", "things", "left", "k"]) (sc := defScope s_law_shuffled) (by decide +kernel)) (fun _ _ _ _ _ => (gname (n := 3) nd rfl (Or.inl (by kernel_rfl)) (.inr (by kernel_rfl)))) (fun _ _ _ _ _ => unil) (fun _ _ _ _ _ => (ebmK (K := K) rfl PySem.F.plainAttrs_list PySem.F.slot_list_pop PySem.F.type_list_pop mt_popAt (ev 2 rfl (Or.inr (Or.inl (by kernel_rfl))) (by kernel_rfl) (by kernel_rfl)) (acons (ecall G_law_take hr_law_take (by unfold Gl; kernel_rfl) m_law_take k_law_take b_law_take .nil pass0 (acons (ev 0 rfl (Or.inr (Or.inl (by kernel_rfl))) (by kernel_rfl) (by kernel_rfl)) (acons (ecallB (call_len_seqK (K := K) rfl) (by unfold Gl; kernel_rfl) T.len L2.boot_len (acons (ev 2 rfl (Or.inr (Or.inl (by kernel_rfl))) (by kernel_rfl) (by kernel_rfl)) anil (by kernel_rfl)) (by decide +kernel) (by kernel_rfl) (by kernel_rfl) (by kernel_rfl)) anil (by kernel_rfl)) (by kernel_rfl)) (by kernel_rfl) (by kernel_rfl) (by kernel_rfl)) anil (by kernel_rfl)) (by kernel_rfl) (by kernel_rfl) (by kernel_rfl) (by kernel_rfl) (by kernel_rfl))) (by intro _; rfl))))) ?_
  refine ⟨_, rfl, a, xs, rfl, hx, fun lf hlf => ?_⟩
  have st0 : Stp d c H (upd H lf (.lst xs)) := (Stp.refl Dk).new hlf _
  have e0 : (upd H lf (.lst xs)) lf = some (.lst xs) := upd_same
  generalize upd H lf (.lst xs) = H1 at st0 e0
  refine ⟨_, rfl, lf, _, rfl, .inl (SqL.of e0), _, rfl, by omega, by omega, fun D hD => ?_⟩
  have nD : H D = none := st0.free hD
  have nlD : lf ≠ D := ne_of_none e0 hD
  refine lc_range (lo := 0) (fun i H2 => ∃ (ls acc : List V), Stp d c H H2 ∧ H2 lf = some (.lst ls) ∧ H2 D = some (.lst acc) ∧ (acc ++ ls).Perm xs ∧ acc.length = i) ⟨xs, [], st0.new hD _, by rw [upd_ne nlD]; exact e0, upd_same, List.Perm.refl _, rfl⟩ ?_ ?_
  · rintro i H2 hi ⟨ls, acc, st, el, ea, perm, hlen⟩
    have hl := perm.length_eq
    rw [List.length_append] at hl
    have hi' : i < xs.length := by omega
    refine ⟨rfl, tyes ?_⟩
    refine ⟨_, rfl, .inl ⟨rfl, _, SqL.of el⟩, _, rfl, _, rfl, lf, _, rfl, .inl (SqL.of el), d, c, _, rfl, st.dk, by omega, by omega, fun r H3 r0 r1 s3 => ?_⟩
    have el3 := s3.k _ _ el (Dk.nd hlf).1 (Dk.nd hlf).2
    have ea3 := s3.k _ _ ea (Dk.nd nD).1 (Dk.nd nD).2
    have st3 := st.trans s3
    obtain ⟨k, rfl⟩ := Int.eq_ofNat_of_zero_le r0
    have hk : k < ls.length := by omega
    have hix : ixN ls.length ((k : Nat) : Int) = some k := by
      unfold ixN
      rw [if_pos (by omega), if_pos (by omega), Int.toNat_natCast]
    refine ⟨lf, ls, _, k, ls[k], rfl, rfl, el3, by omega, by omega, (ixN_seq hix).1, List.getElem?_eq_getElem hk, acc, by rw [upd_ne nlD.symm]; exact ea3, small1000 (by omega), ?_⟩
    refine ⟨ls.eraseIdx k, acc ++ [ls[k]], ⟨fun b o e n1 n2 => by rw [upd_ne (ne_of_none e nD), upd_ne (ne_of_none e hlf)]; exact st3.k b o e n1 n2, ?_⟩, by rw [upd_ne nlD]; exact upd_same, upd_same, ?_, by rw [List.length_append, hlen]; rfl⟩
    · obtain ⟨cells, n, sd, z1, z2, z3⟩ := st3.dk
      exact ⟨cells, n, sd, by rw [upd_ne (Dk.nd nD).1.symm, upd_ne (Dk.nd hlf).1.symm]; exact z1, by rw [upd_ne (Dk.nd nD).2.symm, upd_ne (Dk.nd hlf).2.symm]; exact z2, z3⟩
    · rw [List.append_assoc]
      exact ((erase_perm hk).append_left acc).trans perm
  · rintro H2 ⟨ls, acc, st, el, ea, perm, hlen⟩
    have hl := perm.length_eq
    rw [List.length_append] at hl
    have : ls = [] := List.eq_nil_of_length_eq_zero (by omega)
    subst this
    rw [List.append_nil] at perm
    exact q D acc H2 st nD ea perm
end
end K02

namespace K02
open PySem L2 Wd Wm Tm
section
variable {P : Program} {w : World} {K : PySem.W.Frag} {mg : Str → Option Value} {base : Heap}
/-! ### _law_text -/
def spText (K : PySem.W.Frag) : Sp := fun vs H Q _ => ∃ (d c wa : Addr) (names : List Str) (ties : List SS), vs = [.ref d, .ref wa] ∧ Deck H d c ∧ WebAt K H wa names ties ∧ WebOk names ties ∧ names.length ≤ 14 ∧
  ∀ (text : Str) (H' : Hp) (row0 : Str) (rows : List Str), Stp d c H H' → Txt.split text "\n" = row0 :: rows → text.length ≤ 1000000 → row0.length ≤ 126 → (∀ r ∈ rows, r.length ≤ 18) → Q (.str text) H'
theorem sc_text : FnScope ["deck", "web", "rows", "tie"] ["deck", "web"] (defScope s_law_text) := ⟨rfl, rfl, rfl, by decide +kernel, rfl, by decide +kernel, by decide +kernel⟩
theorem ok_text {f : Addr} {fd : FuncData} (F : Fun K "_law_text" "_law_text" s_law_text f fd) (T : Tx mg) (oS : Own P w K mg base 2 "_law_shuffled" ["deck", "things"] (spShuf K)) : FnOk P w K mg base CX0 3 f fd ["deck", "web"] (spText K) := by
  have nd := sc_text.nd
  obtain ⟨f1, fd1, G_law_shuffled, b_law_shuffled, k_law_shuffled, m_law_shuffled⟩ := oS
  refine F.ok sc_text (fun vs H Q E h => ?_) (fun cdv A outer s H vs Q E hr h => ?_)
  · obtain ⟨d, c, wa, names, ties, rfl, _⟩ := h
    rfl
  have hr_law_shuffled := hr
  obtain ⟨d, c, wa, names, ties, rfl, Dk, wat, wok, h14, q⟩ := h
  obtain ⟨na, ta, tv, h1, h2, h3, h4⟩ := wat.at_
  have hties := web_le wok h14
  have ltv := Paired.length h4
  refine SB.use (bcons
  (bset (n := 2) nd rfl (Or.inl (by kernel_rfl)) (elst (acons (ejoin estr (ecall G_law_shuffled hr_law_shuffled (by unfold Gl; kernel_rfl) m_law_shuffled k_law_shuffled b_law_shuffled .nil pass0 (acons (ev 0 rfl (Or.inl (by kernel_rfl)) (by kernel_rfl) (by kernel_rfl)) (acons (eix ix_tup (ev 1 rfl (Or.inl (by kernel_rfl)) (by kernel_rfl) (by kernel_rfl)) eint (fun _ _ => rfl)) anil (by kernel_rfl)) (by kernel_rfl)) (by kernel_rfl) (by kernel_rfl) (by kernel_rfl)) (by kernel_rfl) (by kernel_rfl) (by kernel_rfl)) anil (by kernel_rfl))) (by kernel_rfl) (.inl rfl))
  (bcons
  (bfor PassesOwn.never rfl (ilist (ecall G_law_shuffled hr_law_shuffled (by unfold Gl; kernel_rfl) m_law_shuffled k_law_shuffled b_law_shuffled .nil pass0 (acons (ev 0 rfl (Or.inl (by kernel_rfl)) (by kernel_rfl) (by kernel_rfl)) (acons (eix ix_tup (ev 1 rfl (Or.inl (by kernel_rfl)) (by kernel_rfl) (by kernel_rfl)) eint (fun _ _ => rfl)) anil (by kernel_rfl)) (by kernel_rfl)) (by kernel_rfl) (by kernel_rfl) (by kernel_rfl))) (gname (n := 3) nd rfl (Or.inl (by kernel_rfl)) (.inl rfl)) (bone
  (bexpr (ebm PySem.F.plainAttrs_list PySem.F.slot_list_append PySem.F.type_list_append mt_append (ev 2 rfl (Or.inl (by kernel_rfl)) (by kernel_rfl) (by kernel_rfl)) (acons (ejoin estr (ecall G_law_shuffled hr_law_shuffled (by unfold Gl; kernel_rfl) m_law_shuffled k_law_shuffled b_law_shuffled .nil pass0 (acons (ev 0 rfl (Or.inl (by kernel_rfl)) (by kernel_rfl) (by kernel_rfl)) (acons (ev 3 rfl (Or.inl (by kernel_rfl)) (by kernel_rfl) (by kernel_rfl)) anil (by kernel_rfl)) (by kernel_rfl)) (by kernel_rfl) (by kernel_rfl) (by kernel_rfl)) (by kernel_rfl) (by kernel_rfl) (by kernel_rfl)) anil (by kernel_rfl)) (by kernel_rfl) (by kernel_rfl) (by kernel_rfl) (by kernel_rfl) (by kernel_rfl)) (by kernel_rfl))) (by intro _; rfl))
  (bone
  (bret (ejoin estr (ev 2 rfl (Or.inl (by kernel_rfl)) (by kernel_rfl) (by kernel_rfl)) (by kernel_rfl) (by kernel_rfl) (by kernel_rfl)))))) ?_
  refine ⟨⟨_, rfl⟩, _, rfl, _, rfl, wa, _, _, _, rfl, rfl, h1, rfl, d, c, na, _, rfl, Dk, .inr h2, (by rw [List.length_map]; omega), fun l ys H1 s1 nl hl perm => ?_⟩
  obtain ⟨words, rfl, pw⟩ := strs_perm perm
  have ww : ∀ x ∈ words, Word x := fun x hx => (wok.nw x (pw.mem_iff.mp hx)).1
  have lw : words.length ≤ 14 := by rw [pw.length_eq]; exact h14
  have e1 : (" " : Str).length = 1 := by decide +kernel
  refine ⟨_, l, words, rfl, rfl, .inl (SqL.of hl), (by have := sum_words ww; rw [e1]; omega), (by show 1 ≤ sizeLine; decide), fun rl hrl => ?_⟩
  have rn := row_names ww (by omega)
  have nn := nonl_join ww
  have l0 : (Txt.join (" " : Str) words).length ≤ 126 := by
    have := join_len (y := (" " : Str)) (ws := words) (n := 8) fun x hx => (ww x hx).hi
    rw [e1] at this
    omega
  generalize Txt.join (" " : Str) words = row0 at rn nn l0
  have nrl : H rl = none := s1.free hrl
  have st := s1.new hrl (.lst [V.str row0])
  have er : (upd H1 rl (.lst [V.str row0])) rl = some (.lst ([row0].map V.str)) := upd_same
  generalize upd H1 rl (.lst [V.str row0]) = H2 at st er
  have kt := st.keepT Dk
  refine ⟨_, rfl, _, rfl, wa, _, _, _, rfl, rfl, kt.seqT h1, rfl, d, c, ta, tv, rfl, st.dk, .inr (kt.seqT h3), by omega, fun l2 ys2 H3 s3 nl2 hl2 perm2 => ?_⟩
  obtain ⟨ps, hps, pps⟩ := paired_perm perm2 (h4.keep kt)
  have hps := Prs.keep hps (s3.keepT st.dk)
  have nl2' : H l2 = none := st.free nl2
  have nlr : rl ≠ l2 := ne_of_none er nl2
  have st := st.trans s3
  have er := s3.k _ _ er (Dk.nd nrl).1 (Dk.nd nrl).2
  have lps := Paired.length hps
  have lpp := pps.length_eq
  refine ⟨l2, rfl, ⟨_, SqL.of hl2⟩, ?_⟩
  refine for_list (K := K) (xs := ys2) (fun i σ H4 => ∃ (rows : List Str) (x3 : Option V), σ = [some (.ref d), some (.ref wa), some (.ref rl), x3] ∧ Stp d c H H4 ∧ H4 l2 = some (.lst ys2) ∧ H4 rl = some (.lst ((row0 :: rows).map V.str)) ∧ Prs K H4 ys2 ps ∧ Paired RowTie rows (ps.take i) ∧ (∀ r ∈ rows, NoNl r ∧ r.length ≤ 18)) ⟨[], _, rfl, st, hl2, er, hps, .nil, fun r hr => by cases hr⟩ (fun i σ H4 _ ⟨_, _, _, _, z, _⟩ => SqL.of z) ?_ ?_
  · rintro i v σ H4 hv ⟨rows, x3, rfl, st, el2, er, hps, hrt, hno⟩
    have hi : i < ys2.length := (List.getElem?_eq_some_iff.mp hv).1
    obtain ⟨p, hp⟩ : ∃ p, ps[i]? = some p := ⟨ps[i]'(by omega), List.getElem?_eq_getElem (by omega)⟩
    obtain ⟨u, rfl, hu⟩ := Paired.get hps hv hp
    have pin := wok.ti p (pps.mem_iff.mp (List.mem_of_getElem? hp))
    have w1 := (wok.nw p.1 pin.1).1
    have w2 := (wok.nw p.2 pin.2.1).1
    have lr := Paired.length hrt
    rw [List.length_take] at lr
    refine ⟨_, rfl, .inl ⟨rfl, _, SqL.of er⟩, ⟨_, rfl⟩, _, rfl, _, rfl, d, c, u, _, rfl, st.dk, .inr hu, (by show 2 ≤ 900; decide), fun l3 ys3 H5 s5 nl3 hl3 perm3 => ?_⟩
    obtain ⟨ws, rfl, pws⟩ := strs_perm (names := [p.1, p.2]) perm3
    have hws : ∀ x ∈ ws, Word x := fun x hx => by
      have := pws.mem_iff.mp hx
      simp only [List.mem_cons, List.not_mem_nil, or_false] at this
      rcases this with rfl | rfl
      · exact w1
      · exact w2
    have lws : ws.length = 2 := pws.length_eq
    have el2 := s5.k _ _ el2 (Dk.nd nl2').1 (Dk.nd nl2').2
    have er := s5.k _ _ er (Dk.nd nrl).1 (Dk.nd nrl).2
    have hps := Prs.keep hps (s5.keepT st.dk)
    have st := st.trans s5
    have rt := row_tie w1 w2 pws
    have nr := nonl_join hws
    have l3' : (Txt.join (" " : Str) ws).length ≤ 18 := by
      have := join_len (y := (" " : Str)) (ws := ws) (n := 8) fun x hx => (hws x hx).hi
      rw [e1, lws] at this
      omega
    refine ⟨_, l3, ws, rfl, rfl, .inl (SqL.of hl3), (by have := sum_words hws; rw [e1]; omega), ?_⟩
    generalize Txt.join (" " : Str) ws = row at rt nr l3'
    refine ⟨rl, _, _, rfl, rfl, er, (by rw [List.length_map, List.length_cons]; exact small1000 (by omega)), ?_⟩
    have kt2 := keepT_upd er (.lst ((row0 :: rows).map V.str ++ [V.str row]))
    refine ⟨rows ++ [row], _, rfl, st.upd nrl (Dk.nd nrl).1 (Dk.nd nrl).2 _, by rw [upd_ne nlr.symm]; exact el2, by rw [upd_same, ← List.cons_append, List.map_append]; rfl, Prs.keep hps kt2, ?_, ?_⟩
    · have tk : ps.take (i + 1) = ps.take i ++ [p] := by rw [List.take_succ, hp]; rfl
      rw [tk]
      exact Paired.snoc hrt rt
    · intro r hr
      rcases List.mem_append.mp hr with hr | hr
      · exact hno r hr
      · rw [List.mem_singleton.mp hr]
        exact ⟨nr, l3'⟩
  · rintro σ H4 ⟨rows, x3, rfl, st, el2, er, hps, hrt, hno⟩
    rw [lps, List.take_length] at hrt
    have lr := Paired.length hrt
    have en : ("\n" : Str).length = 1 := by decide +kernel
    refine ⟨⟨_, rfl⟩, _, rfl, _, rl, row0 :: rows, rfl, rfl, .inl (SqL.of er), ?_, ?_⟩
    · have := sum_rows (n := 1000) (ws := row0 :: rows) fun r hr => by
        rcases List.mem_cons.mp hr with rfl | hr
        · omega
        · have := (hno r hr).2
          omega
      rw [en]
      rw [List.length_cons] at this ⊢
      have : (rows.length + 1) * 1000 ≤ 100 * 1000 := Nat.mul_le_mul_right _ (by omega)
      omega
    · refine q _ H4 row0 rows st (split_rows (by simp) fun r hr => ?_) ?_ l0 fun r hr => (hno r hr).2
      · rcases List.mem_cons.mp hr with rfl | hr
        · exact nn
        · exact (hno r hr).1
      · have := join_len (y := ("\n" : Str)) (ws := row0 :: rows) (n := 1000) fun r hr => by
          rcases List.mem_cons.mp hr with rfl | hr
          · omega
          · have := (hno r hr).2
            omega
        rw [en, List.length_cons] at this
        have : (rows.length + 1) * (1000 + 1) ≤ 100 * 1001 := Nat.mul_le_mul_right _ (by omega)
        omega
end
end K02

namespace K02
open PySem L2 Wd Wm
section
variable {K : PySem.W.Frag}
theorem WebAt.eqd {H : Hp} {a b : Addr} {names : List Str} {ties : List SS} (h : WebAt K H a names ties) (k : WebAt K H b names ties) : Eqd K H 4 (.ref a) (.ref b) := by
  obtain ⟨na, ta, vs, h1, h2, h3, h4⟩ := h.at_
  obtain ⟨nb, tb, us, k1, k2, k3, k4⟩ := k.at_
  exact .inr ⟨a, b, _, _, rfl, rfl, h1, k1, .cons (.inr ⟨na, nb, _, _, rfl, rfl, h2, k2, Eqd.strs names⟩) (.cons (.inr ⟨ta, tb, _, _, rfl, rfl, h3, k3, Eqd.prs h4 k4⟩) .nil)⟩
theorem Deck.same {H H' : Hp} {d c : Addr} (h : Deck H d c) (s : Same H H') : Deck H' d c := by
  obtain ⟨cells, n, sd, z1, z2, z3⟩ := h
  exact ⟨cells, n, sd, s _ _ z1, s _ _ z2, z3⟩
end
end K02

namespace K02
open PySem L2 Wd Wm Km
theorem str_at {names : List Str} {i : Nat} {v : V} (hv : (names.map V.str)[i]? = some v) : ∃ x, names[i]? = some x ∧ V.str x = v := by
  rw [List.getElem?_map] at hv
  cases e : names[i]? with
  | none => rw [e] at hv; cases hv
  | some x => rw [e] at hv; exact ⟨x, rfl, Option.some.inj hv⟩
theorem take_filter {α : Type} {l : List α} {f : α → Bool} {i : Nat} {x : α} (h : l[i]? = some x) : (l.take (i + 1)).filter f = (l.take i).filter f ++ (if f x = true then [x] else []) := by
  rw [List.take_succ, h, List.filter_append]
  congr 1
  show [x].filter f = _
  rw [List.filter_cons]
  rfl
/-- a list of texts grows at D -/
structure Sp1 (H : Hp) (D : Addr) (xs : List Str) (H2 : Hp) : Prop where
  s : Same H H2
  v : H2 D = some (.lst (xs.map V.str))
theorem Sp1.start {H : Hp} {D : Addr} (n : H D = none) : Sp1 H D [] (upd H D (.lst [])) := ⟨same_new n _, upd_same⟩
theorem Sp1.add {H H2 : Hp} {D : Addr} {xs : List Str} (h : Sp1 H D xs H2) (n : H D = none) (x : Str) : Sp1 H D (xs ++ [x]) (upd H2 D (.lst (xs.map V.str ++ [V.str x]))) :=
  ⟨fun b o e => by rw [upd_ne (ne_of_none e n)]; exact h.s b o e, by rw [upd_same, List.map_append]; rfl⟩
end K02

namespace K02
open PySem L2 Wd Wm Tm Ym
/-- the module's constants -/
def Cst (K : PySem.W.Frag) (mg : Str → Option Value) : Prop := ∃ (tL : Nat) (aD : Addr), mg "LONGEST_NAME" = some (.int 8 tL) ∧ mg "DESK_WORDS" = some (.ref aD) ∧ ∀ H, SqT K H aD (own16.map V.str)
theorem all_map {x : Str} {bs : List Bool} (h : bs = x.cps.toList.map ltB) : bs.all id = x.cps.toList.all ltB := by
  rw [h, List.all_map]
  rfl
theorem take_cps {x : Str} {i c : Nat} (h : x.cps[i]? = some c) : (x.cps.toList.take (i + 1)) = x.cps.toList.take i ++ [c] := by
  rw [List.take_succ, Array.getElem?_toList, h]
  rfl
theorem sLine (x : Str) (h : x.length ≤ 1000000) : x.length ≤ sizeLine := by rw [sizeLine_eq]; omega
section
variable {P : Program} {w : World} {K : PySem.W.Frag} {mg : Str → Option Value} {base : Heap}
def spName : Sp := fun vs H Q _ => ∃ x : Str, vs = [.str x] ∧ x.length ≤ 1000000 ∧ ∀ H', Same H H' → Q (.bl (nmB x)) H'
theorem sc_name : FnScope ["word", "letter"] ["word"] (defScope s_is_name) := ⟨rfl, rfl, rfl, by decide +kernel, rfl, by decide +kernel, by decide +kernel⟩
theorem ok_name {f : Addr} {fd : FuncData} (F : Fun K "is_name" "is_name" s_is_name f fd) (T : Tx mg) (C : Cst K mg) : FnOk P w K mg base CX0 1 f fd ["word"] spName := by
  have nd := sc_name.nd
  obtain ⟨tL, aD, m_LONGEST_NAME, m_DESK_WORDS, hD⟩ := C
  have r_LONGEST_NAME : RelV (.int 8) (.int 8 tL) := ⟨_, rfl⟩
  have r_DESK_WORDS : RelV (.ref aD) (.ref aD) := rfl
  refine F.ok sc_name (fun vs H Q E h => ?_) (fun cdv A outer s H vs Q E hr h => ?_)
  · obtain ⟨x, rfl, _⟩ := h
    rfl
  obtain ⟨x, rfl, hx, q⟩ := h
  refine SB.use (bcons
  (bifs (tw (wor (tnot (tchain op_le op_le eint (ecallB call_len_str (by unfold Gl; kernel_rfl) T.len L2.boot_len (acons (ev 0 rfl (Or.inl (by kernel_rfl)) (by kernel_rfl) (by kernel_rfl)) anil (by kernel_rfl)) (by decide +kernel) (by kernel_rfl) (by kernel_rfl) (by kernel_rfl)) (eglob (by unfold Gl; kernel_rfl) m_LONGEST_NAME r_LONGEST_NAME (by kernel_rfl)) (by kernel_rfl))) (wor1 (tcmp op_in_seq (ev 0 rfl (Or.inl (by kernel_rfl)) (by kernel_rfl) (by kernel_rfl)) (eglob (by unfold Gl; kernel_rfl) m_DESK_WORDS r_DESK_WORDS (by kernel_rfl)) (by kernel_rfl))))) (bone
  (bret ebl)) bnil)
  (bone
  (bret (ecallB (cr_all rfl) (by unfold Gl; kernel_rfl) T.all L2.boot_all (acons (elc (own := [("letter", 1)]) (g := gName 1) (by rfl) nd (istr (ev 0 rfl (Or.inl (by kernel_rfl)) (by kernel_rfl) (by kernel_rfl))) (blkOk_by (own := [("letter", 1)]) (N := ["word", "letter"]) (sc := defScope s_is_name) (by decide +kernel)) (fun _ _ _ _ _ => (gname (n := 1) nd rfl (Or.inl (by kernel_rfl)) (.inr (by kernel_rfl)))) (fun _ _ _ _ _ => unil) (fun _ _ _ _ _ => (echain op_le_str op_le_str estr (ev 1 rfl (Or.inl (by kernel_rfl)) (by kernel_rfl) (by kernel_rfl)) estr (by kernel_rfl))) (by intro _; rfl)) anil (by kernel_rfl)) (by decide +kernel) (by kernel_rfl) (by kernel_rfl) (by kernel_rfl))))) ?_
  have no : ∀ H', Same H H' → nmB x = false → Q (.bl false) H' := fun H' s' e => e ▸ q H' s'
  refine ⟨_, rfl, _, rfl, sLine x hx, _, _, rfl, rfl, _, rfl, ite2 (fun c1 => ?_) (fun c1 => ?_)⟩
  rotate_left
  · have d1 : decide ((1 : Int) ≤ (x.length : Int)) = false := Bool.eq_false_iff.mpr c1
    refine ⟨_, rfl, ?_⟩
    show if (!false) = true then _ else _
    refine iteT (iteT (no H (Same.refl H) ?_))
    have : ¬ 1 ≤ x.length := fun z => c1 (decide_eq_true (by omega))
    unfold nmB
    rw [decide_eq_false this]
    rfl
  have h1 : 1 ≤ x.length := by have := of_decide_eq_true c1; omega
  refine ⟨_, _, rfl, rfl, _, rfl, ?_⟩
  show if (!decide ((x.length : Int) ≤ 8)) = true then _ else _
  by_cases h8 : x.length ≤ 8
  rotate_left
  · rw [decide_eq_false (by omega)]
    refine iteT (iteT (no H (Same.refl H) ?_))
    unfold nmB
    rw [decide_eq_false h8, Bool.and_false]
    rfl
  rw [decide_eq_true (by omega : (x.length : Int) ≤ 8)]
  refine iteF ?_
  refine ⟨_, rfl, aD, _, rfl, .inr (hD _), rfl, flat_strs _, _, rfl, ?_⟩
  show if (inV (.str x) (own16.map V.str)) = true then _ else _
  rw [in_strs]
  by_cases ho : x ∈ own16
  · rw [decide_eq_true ho]
    refine iteT (no H (Same.refl H) ?_)
    unfold nmB
    rw [decide_eq_true ho, Bool.not_true, Bool.and_false]
    rfl
  rw [decide_eq_false ho]
  refine iteF ?_
  have en : nmB x = x.cps.toList.all ltB := by
    unfold nmB
    rw [decide_eq_true h1, decide_eq_true h8, decide_eq_false ho]
    rfl
  refine ⟨_, rfl, x, rfl, fun D hD2 => ?_⟩
  refine lc_str (x := x) (fun i H2 => Same H H2 ∧ H2 D = some (.lst (((x.cps.toList.take i).map ltB).map V.bl))) ⟨same_new hD2 _, upd_same⟩ ?_ ?_
  · rintro i c H2 hc ⟨s2, h2⟩
    have hi : i < x.cps.size := (Array.getElem?_eq_some_iff.mp hc).1
    have hi8 : x.cps.size ≤ 8 := h8
    have lt1 : (([c] : List Nat) < [97]) ↔ c < 97 := by
      rw [List.cons_lt_cons_iff]
      exact ⟨fun h => h.elim id fun h => absurd h.2 (List.lt_irrefl _), .inl⟩
    have lt2 : (([122] : List Nat) < [c]) ↔ 122 < c := by
      rw [List.cons_lt_cons_iff]
      exact ⟨fun h => h.elim id fun h => absurd h.2 (List.lt_irrefl _), .inl⟩
    have ll : (((x.cps.toList.take i).map ltB).map V.bl).length < sizeLine := by
      rw [List.length_map, List.length_map, List.length_take]
      exact small1000 (by omega)
    have fin : ∀ v : Bool, v = ltB c → ∃ acc, H2 D = some (.lst acc) ∧ acc.length < sizeLine ∧ Same H (upd H2 D (.lst (acc ++ [V.bl v]))) ∧ (upd H2 D (.lst (acc ++ [V.bl v]))) D = some (.lst (((x.cps.toList.take (i + 1)).map ltB).map V.bl)) := fun v hv =>
      ⟨_, h2, ll, fun b o e => by rw [upd_ne (ne_of_none e hD2)]; exact s2 b o e, by rw [upd_same, take_cps hc, List.map_append, List.map_append, hv]; rfl⟩
    refine ⟨rfl, tyes ?_⟩
    refine ⟨_, rfl, _, _, rfl, rfl, _, rfl, ite2 (fun c1 => ?_) (fun c1 => ?_)⟩
    · refine ⟨_, _, rfl, rfl, fin (!decide (([122] : List Nat) < [c])) ?_⟩
      have c1' : (!decide (([c] : List Nat) < [97])) = true := c1
      unfold ltB
      by_cases k1 : c < 97
      · rw [decide_eq_true (lt1.mpr k1)] at c1'; cases c1'
      · rw [decide_eq_true (by omega : 97 ≤ c), Bool.true_and]
        by_cases k2 : 122 < c
        · rw [decide_eq_true (lt2.mpr k2), decide_eq_false (by omega : ¬ c ≤ 122)]; rfl
        · rw [decide_eq_false (fun z => k2 (lt2.mp z)), decide_eq_true (by omega : c ≤ 122)]; rfl
    · refine fin false ?_
      have c1' : ¬ (!decide (([c] : List Nat) < [97])) = true := c1
      unfold ltB
      by_cases k1 : c < 97
      · rw [decide_eq_false (by omega : ¬ 97 ≤ c)]; rfl
      · rw [decide_eq_false (fun z => k1 (lt1.mp z))] at c1'
        exact absurd rfl c1'
  · rintro H2 ⟨s2, h2⟩
    have e : x.cps.toList.take x.cps.size = x.cps.toList := List.take_of_length_le (by simp)
    rw [e] at h2
    refine ⟨D, x.cps.toList.map ltB, rfl, SqL.of h2, ?_⟩
    rw [all_map rfl, ← en]
    exact q H2 s2
end
end K02

namespace K02
open PySem L2 Wd Wm Tm Ym
theorem boot_ValueError : bootBuiltins "ValueError" = some (.type "ValueError") := by decide +kernel
/-- the errors of the program, of which one that keeps a row is raised -/
structure Exn (P : Program) (K : PySem.W.Frag) (mg : Str → Option Value) (aS aR aA aN aW : Addr) : Prop where
  mS : mg "SetError" = some (.ref aS)
  mR : mg "NoRow" = some (.ref aR)
  mA : mg "NoAsk" = some (.ref aA)
  mN : mg "NoName" = some (.ref aN)
  mW : mg "NoWeb" = some (.ref aW)
  sup : mg "super" = none
  cN : RaiseI P K aN aS "word"
  cW : RaiseI P K aW aS "row"
  xW : Xc.ExC K aW (.ref aS :: bmV)
  xS : Xc.ExC K aS bmV
  eN : ExA K aN
  eW : ExA K aW
  wN : ExW K aN "word"
  wW : ExW K aW "row"
  iA : PySem.W.kitOne K (.ref aW) (.ref aA) = some false
  iN : PySem.W.kitOne K (.ref aW) (.ref aN) = some false
  iR : PySem.W.kitOne K (.ref aW) (.ref aR) = some false
  iW : PySem.W.kitOne K (.ref aW) (.ref aW) = some true
  iV : PySem.W.kitOne K (.ref aW) (.type "ValueError") = some true
def OwnX (P : Program) (w : World) (K : PySem.W.Frag) (mg : Str → Option Value) (base : Heap) (k : Nat) (x : Str) (ps : List Str) (sp : Sp) : Prop :=
  ∃ f fd, FnOk P w K mg base (CX1 P w) k f fd ps sp ∧ Binds K fd ps [] ∧ PySem.W.keepIn K (.ref f) = true ∧ mg x = some (.ref f)
/-- a new exception with its row -/
def Thrown (aW : Addr) (k : Nat) (H : Hp) (E : XK) : Prop := ∀ (y dx : Addr) (H' : Hp), Same H H' → H' y = none → H' dx = none → dx ≠ y → E (.ref aW) (some y) (upd (upd H' dx (.xd [("row", .int (k : Nat))])) y (.ext (IsEx y aW (some dx))))
theorem Thrown.at {aW : Addr} {k : Nat} {H H1 : Hp} {E : XK} (h : Thrown aW k H E) (s : Same H H1) : Thrown aW k H1 E := fun y dx H' s' => h y dx H' (s.trans s')
theorem kept_nat {k : Nat} (h : k ≤ 1000001) : L2.Kept (V.int (k : Nat)) := by
  show ((k : Nat) : Int).natAbs.log2 < 1920
  rw [Int.natAbs_natCast]
  have : k.log2 ≤ k := Nat.log2_le_self k
  by_cases c : k = 0
  · rw [c]; decide
  · have := (Nat.log2_lt c (k := 20)).mpr (by
      have : (1000001 : Nat) < 2 ^ 20 := by decide
      omega)
    omega
theorem map_bl_all {ws : List Str} : (ws.map nmB).all id = ws.all nmB := by
  rw [List.all_map]
  rfl
section
variable {P : Program} {w : World} {K : PySem.W.Frag} {mg : Str → Option Value} {base : Heap}
/-! ### read_names -/
def spRNames (K : PySem.W.Frag) (aW : Addr) : Sp := fun vs H Q E => ∃ (row : Str), vs = [.str row] ∧ row.length ≤ 1000000 ∧ (Txt.split row " ").length ≤ 14 ∧ (∀ x ∈ Txt.split row " ", x.length ≤ 1000000) ∧
  (okN (nmRow row) = true → ∀ (r : Addr) (names : List Str) (H' : Hp), Same H H' → H' r = some (.tup (names.map V.str)) → names.Perm (nmRow row) → names.Pairwise sLt → Q (.ref r) H') ∧ (okN (nmRow row) = false → Thrown aW 0 H E)
theorem sc_rnames : FnScope ["row", "words", "word"] ["row"] (defScope s_read_names) := ⟨rfl, rfl, rfl, by decide +kernel, rfl, by decide +kernel, by decide +kernel⟩
theorem ok_rnames {f : Addr} {fd : FuncData} {aS aR aA aN aW : Addr} (F : Fun K "read_names" "read_names" s_read_names f fd) (T : Tx mg) (C : Exn P K mg aS aR aA aN aW) (oN : Own P w K mg base 1 "is_name" ["word"] spName) : FnOk P w K mg base (CX1 P w) 2 f fd ["row"] (spRNames K aW) := by
  have nd := sc_rnames.nd
  obtain ⟨f1, fd1, G_is_name, b_is_name, k_is_name, m_is_name⟩ := oN
  refine F.okX sc_rnames (fun vs H Q E h => ?_) (fun cdv A outer s H vs Q E hr h => ?_)
  · obtain ⟨row, rfl, _⟩ := h
    rfl
  have hr_is_name := hr
  have hI_NoWeb := C.cW
  have m_NoWeb := C.mW
  have Tsup := C.sup
  obtain ⟨row, rfl, hrl, h14, hwl, q, qx⟩ := h
  have hw14 : (nmRow row).length ≤ 14 := by
    unfold nmRow
    split
    · exact Nat.zero_le _
    · exact h14
  have hwx : ∀ x ∈ nmRow row, x.length ≤ 1000000 := by
    unfold nmRow
    split
    · intro x hx; cases hx
    · exact hwl
  refine SB.use (bcons
  (bset (n := 1) nd rfl (Or.inl (by kernel_rfl)) (eif (ttruth (ev 0 rfl (Or.inl (by kernel_rfl)) (by kernel_rfl) (by kernel_rfl)) (by intro _; rfl)) (esplit (ev 0 rfl (Or.inl (by kernel_rfl)) (by kernel_rfl) (by kernel_rfl)) estr (by kernel_rfl) (by kernel_rfl) (by kernel_rfl)) (elst anil)) (by kernel_rfl) (.inl rfl))
  (bcons
  (bifs (tw (wor (tcmp op_lt (elenset rfl (by unfold Gl; kernel_rfl) T.len (by unfold Gl; kernel_rfl) T.set (acons (ev 1 rfl (Or.inl (by kernel_rfl)) (by kernel_rfl) (by kernel_rfl)) anil (by kernel_rfl)) (by kernel_rfl) (by kernel_rfl)) (ecallB call_len_seq (by unfold Gl; kernel_rfl) T.len L2.boot_len (acons (ev 1 rfl (Or.inl (by kernel_rfl)) (by kernel_rfl) (by kernel_rfl)) anil (by kernel_rfl)) (by decide +kernel) (by kernel_rfl) (by kernel_rfl) (by kernel_rfl)) (nomark _)) (wor1 (tnot (tval (ecallB (cr_all rfl) (by unfold Gl; kernel_rfl) T.all L2.boot_all (acons (elc (own := [("word", 2)]) (g := gName 2) (by rfl) nd (ilist (ev 1 rfl (Or.inl (by kernel_rfl)) (by kernel_rfl) (by kernel_rfl))) (blkOk_by (own := [("word", 2)]) (N := ["row", "words", "word"]) (sc := defScope s_read_names) (by decide +kernel)) (fun _ _ _ _ _ => (gname (n := 2) nd rfl (Or.inl (by kernel_rfl)) (.inr (by kernel_rfl)))) (fun _ _ _ _ _ => unil) (fun _ _ _ _ _ => (ecall G_is_name hr_is_name (by unfold Gl; kernel_rfl) m_is_name k_is_name b_is_name .nil pass0 (acons (ev 2 rfl (Or.inl (by kernel_rfl)) (by kernel_rfl) (by kernel_rfl)) anil (by kernel_rfl)) (by kernel_rfl) (by kernel_rfl) (by kernel_rfl))) (by intro _; rfl)) anil (by kernel_rfl)) (by decide +kernel) (by kernel_rfl) (by kernel_rfl) (by kernel_rfl)) (by intro _; rfl)))))) (bone
  (braiseI hI_NoWeb hr Tsup (by unfold Gl; kernel_rfl) m_NoWeb (acons eint anil (by kernel_rfl)) (by kernel_rfl) (by kernel_rfl))) bnil)
  (bone
  (bret (ecallT call_tuple_of (by unfold Gl; kernel_rfl) T.tuple L2.boot_tuple (acons (ecallB cr_sortedSA (by unfold Gl; kernel_rfl) T.sorted L2.boot_sorted (acons (ev 1 rfl (Or.inl (by kernel_rfl)) (by kernel_rfl) (by kernel_rfl)) anil (by kernel_rfl)) (by decide +kernel) (by kernel_rfl) (by kernel_rfl) (by kernel_rfl)) anil (by kernel_rfl)) (by decide +kernel) (by kernel_rfl) (by kernel_rfl) (by kernel_rfl)))))) ?_
  by_cases h0 : row.length = 0
  case' pos =>
    refine ⟨_, rfl, _, ⟨sLine row hrl, rfl⟩, ite2 (fun h => absurd h (by rw [h0]; decide)) (fun _ => ⟨Nat.zero_le _, fun wl hwl => ?_⟩)⟩
    have hH : (upd H wl (.lst [])) = upd H wl (.lst ((nmRow row).map V.str)) := by unfold nmRow; rw [if_pos h0]; rfl
  case' neg =>
    refine ⟨_, rfl, _, ⟨sLine row hrl, rfl⟩, ite2 (fun _ => ?_) (fun h => absurd (by simpa using h0) h)⟩
    refine ⟨_, rfl, ⟨_, rfl⟩, _, _, rfl, rfl, (by decide +kernel), (by rw [sizeLine_eq]; omega), fun wl hwl => ?_⟩
    have hH : (upd H wl (.lst ((Txt.split row " ").map V.str))) = upd H wl (.lst ((nmRow row).map V.str)) := by unfold nmRow; rw [if_neg h0]
  all_goals
    have s1 : Same H (upd H wl (.lst ((nmRow row).map V.str))) := same_new hwl _
    have e1 : (upd H wl (.lst ((nmRow row).map V.str))) wl = some (.lst ((nmRow row).map V.str)) := upd_same
    rw [← hH] at s1 e1
    clear hH
    generalize nmRow row = words at s1 e1 q qx hw14 hwx ⊢
    refine ⟨_, rfl, wl, words, rfl, SqL.of e1, by omega, _, rfl, wl, _, rfl, .inl (SqL.of e1), _, _, rfl, rfl, _, rfl, ?_⟩
    show if decide (((SetT.dd words).length : Int) < (((words.map V.str).length : Nat) : Int)) = true then _ else _
    rw [List.length_map]
    by_cases nw : words.Nodup
    rotate_left
    · rw [decide_eq_true (by have := dd_lt.mpr nw; omega)]
      refine iteT (iteT ?_)
      exact ⟨_, rfl, kept_nat (k := 0) (by decide), fun y dx hy hd ne => qx (by unfold okN; rw [decide_eq_false nw]; rfl) y dx _ s1 hy hd ne⟩
    rw [decide_eq_false (by have := SetT.dd_nodup _ words rfl nw; rw [this]; omega)]
    refine iteF ?_
    refine ⟨_, rfl, wl, rfl, ⟨_, SqL.of e1⟩, fun D hD => ?_⟩
    refine lc_list (xs := words.map V.str) (fun i H2 => Same H H2 ∧ H2 wl = some (.lst (words.map V.str)) ∧ H2 D = some (.lst (((words.take i).map nmB).map V.bl))) ⟨s1.trans (same_new hD _), by rw [upd_ne (ne_of_none e1 hD)]; exact e1, upd_same⟩ (fun i H2 _ p => SqL.of p.2.1) ?_ ?_
    · rintro i v H2 hv ⟨s2, e2, h2⟩
      obtain ⟨x, hx, rfl⟩ := str_at hv
      have hi : i < words.length := (List.getElem?_eq_some_iff.mp hx).1
      refine ⟨rfl, tyes ?_⟩
      refine ⟨_, rfl, x, rfl, hwx x (List.mem_of_getElem? hx), fun H3 s3 => ?_⟩
      have nwD : wl ≠ D := ne_of_none e1 hD
      refine ⟨_, s3 _ _ h2, (by rw [List.length_map, List.length_map, List.length_take]; exact small1000 (by omega)), fun b o e => by rw [upd_ne (ne_of_none e (s1.free hD))]; exact s3 _ _ (s2 b o e), by rw [upd_ne nwD]; exact s3 _ _ e2, ?_⟩
      rw [upd_same, List.take_succ, hx, List.map_append, List.map_append]
      rfl
    · rintro H2 ⟨s2, e2, h2⟩
      rw [List.length_map, List.take_length] at h2
      refine ⟨D, words.map nmB, rfl, SqL.of h2, _, rfl, ?_⟩
      rw [map_bl_all]
      have eo : okN words = words.all nmB := by unfold okN; rw [decide_eq_true nw]; rfl
      cases ha : words.all nmB
      · refine iteT ?_
        exact ⟨_, rfl, kept_nat (k := 0) (by decide), fun y dx hy hd ne => qx (eo.trans ha) y dx _ s2 hy hd ne⟩
      · refine iteF ?_
        refine ⟨_, rfl, wl, words, rfl, SqL.of e2, fun names sl perm srt hsl => ?_⟩
        refine ⟨sl, _, rfl, .inl ⟨SqL.of upd_same, fun r hr' => ?_⟩⟩
        exact q (eo.trans ha) r names _ (s2.trans ((same_new hsl _).trans (same_new hr' _))) upd_same perm (strict srt (perm.nodup_iff.mpr nw))
end
end K02

namespace K02
open PySem L2 Wd Wm Tm Ym
section
variable {P : Program} {w : World} {K : PySem.W.Frag} {mg : Str → Option Value} {base : Heap}
theorem prs_rows {H : Hp} : ∀ {vs : List V} {ps : List SS}, Prs K H vs ps → Paired (IsRowT K H) vs (ps.map prL)
  | _, _, .nil => .nil
  | _, _, .cons q t => .cons q (prs_rows t)
/-! ### read_ties -/
def spRTies (K : PySem.W.Frag) (aW : Addr) : Sp := fun vs H Q E => ∃ (a l : Addr) (names rows : List Str), vs = [.ref a, .ref l] ∧ SqT K H a (names.map V.str) ∧ names.Pairwise sLt ∧ names.length ≤ 14 ∧ SqL K H l (rows.map V.str) ∧ rows.length ≤ 1000000 ∧ (∀ r ∈ rows, r.length ≤ 1000000) ∧
  (∀ ps, rdT (fun x => decide (x ∈ names)) [] rows 1 = .inr ps → ∀ (r : Addr) (vs : List V) (ps' : List SS) (H' : Hp), Same H H' → H' r = some (.tup vs) → Prs K H' vs ps' → ps'.Perm ps → ps'.Pairwise (fun p q => prLt q p = false) → Q (.ref r) H') ∧
  (∀ k, rdT (fun x => decide (x ∈ names)) [] rows 1 = .inl k → Thrown aW k H E)
theorem sc_rties : FnScope ["names", "rows", "possible", "ties", "at", "row", "tie"] ["names", "rows"] (defScope s_read_ties) := ⟨rfl, rfl, rfl, by decide +kernel, rfl, by decide +kernel, by decide +kernel⟩
theorem ok_rties {f : Addr} {fd : FuncData} {aS aR aA aN aW : Addr} (F : Fun K "read_ties" "read_ties" s_read_ties f fd) (T : Tx mg) (C : Exn P K mg aS aR aA aN aW) (oP : Own P w K mg base 1 "pairs_of" ["names"] (spPairs K)) : FnOk P w K mg base (CX1 P w) 2 f fd ["names", "rows"] (spRTies K aW) := by
  have nd := sc_rties.nd
  obtain ⟨f1, fd1, G_pairs_of, b_pairs_of, k_pairs_of, m_pairs_of⟩ := oP
  refine F.okX sc_rties (fun vs H Q E h => ?_) (fun cdv A outer s H vs Q E hr h => ?_)
  · obtain ⟨a, l, names, rows, rfl, _⟩ := h
    rfl
  have hr_pairs_of := hr
  have hI_NoWeb := C.cW
  have m_NoWeb := C.mW
  have Tsup := C.sup
  obtain ⟨a, l, names, rows, rfl, ha, hns, h14, hl, hrl, hrx, q, qx⟩ := h
  refine SB.use (bcons
  (bset (n := 2) nd rfl (Or.inl (by kernel_rfl)) (ecall G_pairs_of hr_pairs_of (by unfold Gl; kernel_rfl) m_pairs_of k_pairs_of b_pairs_of .nil pass0 (acons (ev 0 rfl (Or.inl (by kernel_rfl)) (by kernel_rfl) (by kernel_rfl)) anil (by kernel_rfl)) (by kernel_rfl) (by kernel_rfl) (by kernel_rfl)) (by kernel_rfl) (.inl rfl))
  (bcons
  (bset (n := 3) nd rfl (Or.inl (by kernel_rfl)) (elst anil) (by kernel_rfl) (.inl rfl))
  (bcons
  (bfor PassesOwn.leaving rfl (ienum1 (by unfold Gl; kernel_rfl) T.enumerate (acons (ev 1 rfl (Or.inl (by kernel_rfl)) (by kernel_rfl) (by kernel_rfl)) anil (by kernel_rfl)) (by kernel_rfl)) (gtup (n := 2) rfl (gscons (gname (n := 4) nd rfl (Or.inl (by kernel_rfl)) (.inl rfl)) (gscons (gname (n := 5) nd rfl (Or.inl (by kernel_rfl)) (.inl rfl)) gsnil (by kernel_rfl)) (by kernel_rfl)) (by kernel_rfl) (by kernel_rfl)) (bcons
  (bset (n := 6) nd rfl (Or.inl (by kernel_rfl)) (ecallT call_tuple_of (by unfold Gl; kernel_rfl) T.tuple L2.boot_tuple (acons (ecallB cr_sortedSA (by unfold Gl; kernel_rfl) T.sorted L2.boot_sorted (acons (esplit (ev 5 rfl (Or.inl (by kernel_rfl)) (by kernel_rfl) (by kernel_rfl)) estr (by kernel_rfl) (by kernel_rfl) (by kernel_rfl)) anil (by kernel_rfl)) (by decide +kernel) (by kernel_rfl) (by kernel_rfl) (by kernel_rfl)) anil (by kernel_rfl)) (by decide +kernel) (by kernel_rfl) (by kernel_rfl) (by kernel_rfl)) (by kernel_rfl) (.inl rfl))
  (bcons
  (bifs (tw (wor (tcmp (op_notInRowT hr.units) (ev 6 rfl (Or.inl (by kernel_rfl)) (by kernel_rfl) (by kernel_rfl)) (ev 2 rfl (Or.inl (by kernel_rfl)) (by kernel_rfl) (by kernel_rfl)) (by kernel_rfl)) (wor1 (tcmp (op_inRowT hr.units) (ev 6 rfl (Or.inl (by kernel_rfl)) (by kernel_rfl) (by kernel_rfl)) (ev 3 rfl (Or.inl (by kernel_rfl)) (by kernel_rfl) (by kernel_rfl)) (by kernel_rfl))))) (bone
  (braiseI hI_NoWeb hr Tsup (by unfold Gl; kernel_rfl) m_NoWeb (acons (ev 4 rfl (Or.inl (by kernel_rfl)) (by kernel_rfl) (by kernel_rfl)) anil (by kernel_rfl)) (by kernel_rfl) (by kernel_rfl))) bnil)
  (bone
  (bexpr (ebm PySem.F.plainAttrs_list PySem.F.slot_list_append PySem.F.type_list_append mt_append (ev 3 rfl (Or.inl (by kernel_rfl)) (by kernel_rfl) (by kernel_rfl)) (acons (ev 6 rfl (Or.inl (by kernel_rfl)) (by kernel_rfl) (by kernel_rfl)) anil (by kernel_rfl)) (by kernel_rfl) (by kernel_rfl) (by kernel_rfl) (by kernel_rfl) (by kernel_rfl)) (by kernel_rfl))))) (by intro _; rfl))
  (bone
  (bret (ecallT call_tuple_of (by unfold Gl; kernel_rfl) T.tuple L2.boot_tuple (acons (ecallB cr_sortedP (by unfold Gl; kernel_rfl) T.sorted L2.boot_sorted (acons (ev 3 rfl (Or.inl (by kernel_rfl)) (by kernel_rfl) (by kernel_rfl)) anil (by kernel_rfl)) (by decide +kernel) (by kernel_rfl) (by kernel_rfl) (by kernel_rfl)) anil (by kernel_rfl)) (by decide +kernel) (by kernel_rfl) (by kernel_rfl) (by kernel_rfl))))))) ?_
  refine ⟨_, rfl, a, names, rfl, ha, h14, fun po H1 npo pp => ?_⟩
  obtain ⟨pv, hpo, hpp⟩ := pp.v
  have s1 := pp.s
  refine ⟨Nat.zero_le _, fun tl htl => ?_⟩
  have pp0 : Pp K H1 tl [] _ := Pp.start htl
  generalize hm : (fun x => decide (x ∈ names) : Str → Bool) = m at q qx
  have hmm : ∀ x, m x = true ↔ x ∈ names := fun x => by rw [← hm]; exact decide_eq_true_iff
  refine ⟨_, rfl, l, _, rfl, pp0.s.seq (s1.seq hl), ?_⟩
  refine ⟨fun i mm σ H2 => mm = rows.length - i ∧ i ≤ rows.length ∧ ∃ (acc : List SS) (x4 x5 x6 : Option V), σ = [some (.ref a), some (.ref l), some (.ref po), some (.ref tl), x4, x5, x6] ∧ Pp K H1 tl acc H2 ∧ acc.length ≤ i ∧ rdT m acc (rows.drop i) (i + 1) = rdT m [] rows 1, ⟨rows.length, by omega, by omega, [], _, _, _, rfl, pp0, Nat.le_refl _, rfl⟩, ?_⟩
  rintro i mm σ H2 ⟨rfl, hi, acc0, x4, x5, x6, rfl, p2, hacl, hrd⟩
  have hl2 : SqL K H2 l (rows.map V.str) := p2.s.seq (s1.seq hl)
  by_cases hlt : i < rows.length
  · obtain ⟨row, hrow⟩ : ∃ row, rows[i]? = some row := ⟨rows[i], List.getElem?_eq_getElem hlt⟩
    have hrv : (rows.map V.str)[i]? = some (.str row) := by rw [List.getElem?_map, hrow]; rfl
    have rl := hrx row (List.mem_of_getElem? hrow)
    rw [rd_at hrow] at hrd
    refine .inr ⟨⟨_, _, hl2, hrv⟩, fun σ' H' => ∃ (acc : List SS) (x4 x5 x6 : Option V), σ' = [some (.ref a), some (.ref l), some (.ref po), some (.ref tl), x4, x5, x6] ∧ Pp K H1 tl acc H' ∧ acc.length ≤ i + 1 ∧ rdT m acc (rows.drop (i + 1)) (i + 1 + 1) = rdT m [] rows 1, fun σ' H' h => ⟨rows.length - (i + 1), by omega, rfl, hlt, h⟩, ?_⟩
    rintro v H' ⟨t, x', rfl, nt, rfl, hx'⟩
    have ex : x' = .str row := by
      have := hx' _ hl2
      rw [hrv] at this
      exact (Option.some.inj this).symm
    subst ex
    have p3 := p2.new nt (.tup [.int ((i + 1 : Nat) : Int), .str row])
    refine ⟨t, _, rfl, SqT.of upd_same, rfl, _, _, rfl, _, _, rfl, rfl, ?_⟩
    generalize upd H2 t (.tup [.int ((i + 1 : Nat) : Int), .str row]) = H3 at p3
    refine ⟨_, rfl, ⟨_, rfl⟩, _, _, rfl, rfl, (by decide +kernel), (by rw [sizeLine_eq]; omega), fun wl hwl => ?_⟩
    have p4 := p3.new hwl (.lst ((Txt.split row " ").map V.str))
    refine ⟨wl, _, rfl, SqL.of upd_same, fun ys sl perm srt hsl => ?_⟩
    have p5 := p4.new hsl (.lst (ys.map V.str))
    refine ⟨sl, _, rfl, .inl ⟨SqL.of upd_same, fun tu htu => ?_⟩⟩
    have p6 := p5.new htu (.tup (ys.map V.str))
    have isp : IsRowT K (upd (upd (upd H3 wl (.lst ((Txt.split row " ").map V.str))) sl (.lst (ys.map V.str))) tu (.tup (ys.map V.str))) (.ref tu) ys := ⟨tu, rfl, SqT.of upd_same⟩
    generalize upd (upd (upd H3 wl (.lst ((Txt.split row " ").map V.str))) sl (.lst (ys.map V.str))) tu (.tup (ys.map V.str)) = H4 at p6 isp
    obtain ⟨acc, hacc, hpr⟩ := id p6.v
    have thr : rdT m [] rows 1 = .inl (i + 1) → Thrown aW (i + 1) H4 E := fun e => (qx _ e).at (s1.trans p6.s)
    refine ⟨_, rfl, _, rfl, po, pv, (pairsL names).map prL, ys, rfl, SqL.of (p6.s _ _ hpo), prs_rows (hpp.same p6.s), isp, _, rfl, ?_⟩
    show if (!decide (ys ∈ (pairsL names).map prL)) = true then _ else _
    cases ht : tieOf m row with
    | none =>
      rw [ht] at hrd
      have c1 : ys ∉ (pairsL names).map prL := fun hm' => by
        obtain ⟨p, hp, e⟩ := List.mem_map.mp hm'
        have hp' := (mem_pairs hns).mp hp
        exact tie_none ht perm ((hmm _).mpr hp'.1) ((hmm _).mpr hp'.2.1) hp'.2.2 e.symm
      rw [decide_eq_false c1]
      refine iteT (iteT ?_)
      exact ⟨_, rfl, _, rfl, kept_nat (by omega), fun y dx hy hd ne => thr hrd.symm y dx H4 (Same.refl H4) hy hd ne⟩
    | some p =>
      rw [ht] at hrd
      obtain ⟨ey, m1, m2, lt⟩ := tie_some ht perm srt
      subst ey
      have c1 : prL p ∈ (pairsL names).map prL := mem_prL.mpr ((mem_pairs hns).mpr ⟨(hmm _).mp m1, (hmm _).mp m2, lt⟩)
      rw [decide_eq_true c1]
      refine iteF ?_
      refine ⟨_, rfl, _, rfl, tl, acc, acc0.map prL, prL p, rfl, SqL.of hacc, prs_rows hpr, isp, _, rfl, ?_⟩
      show if (decide (prL p ∈ acc0.map prL)) = true then _ else _
      dsimp only at hrd
      by_cases c2 : p ∈ acc0
      · rw [decide_eq_true (mem_prL.mpr c2)]
        rw [decide_eq_true c2, if_pos rfl] at hrd
        refine iteT ?_
        exact ⟨_, rfl, _, rfl, kept_nat (by omega), fun y dx hy hd ne => thr hrd.symm y dx H4 (Same.refl H4) hy hd ne⟩
      · rw [decide_eq_false (fun z => c2 (mem_prL.mp z))]
        rw [decide_eq_false c2, if_neg (by decide)] at hrd
        refine iteF ?_
        have la := Paired.length hpr
        refine ⟨_, rfl, .inl ⟨rfl, _, SqL.of hacc⟩, _, rfl, tl, _, _, rfl, rfl, hacc, ?_, ?_⟩
        · rw [la, sizeLine_eq]
          omega
        · exact ⟨acc0 ++ [p], _, _, _, rfl, p6.add htl hacc isp, by rw [List.length_append]; show acc0.length + 1 ≤ i + 1; omega, hrd⟩
  · have e : i = rows.length := by omega
    subst e
    rw [rd_end] at hrd
    obtain ⟨vs, hvs, hps⟩ := p2.v
    refine .inl ⟨⟨_, hl2, by rw [List.length_map]; exact Nat.le_refl _⟩, ?_⟩
    refine ⟨_, rfl, tl, vs, acc0, rfl, SqL.of hvs, hps, fun vs' ps' sl hps' perm srt hsl => ?_⟩
    refine ⟨sl, _, rfl, .inl ⟨SqL.of upd_same, fun r hr' => ?_⟩⟩
    exact q _ hrd.symm r vs' ps' _ ((s1.trans p2.s).trans ((same_new hsl _).trans (same_new hr' _))) upd_same (hps'.same ((same_new hsl _).trans (same_new hr' _))) perm srt
/-! ### read_web -/
def spRead (K : PySem.W.Frag) (aW : Addr) : Sp := fun vs H Q E => ∃ (text : Str), vs = [.str text] ∧ text.length ≤ 15000 ∧ (∀ row0 rows, Txt.split text "\n" = row0 :: rows → (Txt.split row0 " ").length ≤ 14) ∧
  (∀ ws ps, rd text = .inr (ws, ps) → ∀ (r : Addr) (names : List Str) (ties : List SS) (H' : Hp), Same H H' → WebAt K H' r names ties → names.Perm ws → names.Pairwise sLt → ties.Perm ps → Asc ties → Q (.ref r) H') ∧
  (∀ k, rd text = .inl k → Thrown aW k H E)
theorem sc_rweb : FnScope ["text", "first", "others", "names"] ["text"] (defScope s_read_web) := ⟨rfl, rfl, rfl, by decide +kernel, rfl, by decide +kernel, by decide +kernel⟩
theorem ok_rweb {f : Addr} {fd : FuncData} {aW : Addr} (F : Fun K "read_web" "read_web" s_read_web f fd) (T : Tx mg) (oN : OwnX P w K mg base 2 "read_names" ["row"] (spRNames K aW)) (oT : OwnX P w K mg base 2 "read_ties" ["names", "rows"] (spRTies K aW)) : FnOk P w K mg base (CX1 P w) 3 f fd ["text"] (spRead K aW) := by
  have nd := sc_rweb.nd
  obtain ⟨f1, fd1, G_read_names, b_read_names, k_read_names, m_read_names⟩ := oN
  obtain ⟨f2, fd2, G_read_ties, b_read_ties, k_read_ties, m_read_ties⟩ := oT
  refine F.okX sc_rweb (fun vs H Q E h => ?_) (fun cdv A outer s H vs Q E hr h => ?_)
  · obtain ⟨text, rfl, _⟩ := h
    rfl
  have hr_read_names := hr
  have hr_read_ties := hr
  obtain ⟨text, rfl, hlen, h14, q, qx⟩ := h
  refine SB.use (bcons
  (basg (esplit (ev 0 rfl (Or.inl (by kernel_rfl)) (by kernel_rfl) (by kernel_rfl)) estr (by kernel_rfl) (by kernel_rfl) (by kernel_rfl)) (gstar rfl (gscons (gname (n := 1) nd rfl (Or.inl (by kernel_rfl)) (.inl rfl)) (gscons_star (gname (n := 2) nd rfl (Or.inl (by kernel_rfl)) (.inl rfl)) gsnil (by kernel_rfl)) (by kernel_rfl)) (by kernel_rfl) (by kernel_rfl)) (by kernel_rfl) (by kernel_rfl) (by kernel_rfl))
  (bcons
  (bset (n := 3) nd rfl (Or.inl (by kernel_rfl)) (ecall G_read_names hr_read_names (by unfold Gl; kernel_rfl) m_read_names k_read_names b_read_names .nil pass1 (acons (ev 1 rfl (Or.inl (by kernel_rfl)) (by kernel_rfl) (by kernel_rfl)) anil (by kernel_rfl)) (by kernel_rfl) (by kernel_rfl) (by kernel_rfl)) (by kernel_rfl) (.inl rfl))
  (bone
  (bret (etup (acons (ev 3 rfl (Or.inl (by kernel_rfl)) (by kernel_rfl) (by kernel_rfl)) (acons (ecall G_read_ties hr_read_ties (by unfold Gl; kernel_rfl) m_read_ties k_read_ties b_read_ties .nil pass1 (acons (ev 3 rfl (Or.inl (by kernel_rfl)) (by kernel_rfl) (by kernel_rfl)) (acons (ev 2 rfl (Or.inl (by kernel_rfl)) (by kernel_rfl) (by kernel_rfl)) anil (by kernel_rfl)) (by kernel_rfl)) (by kernel_rfl) (by kernel_rfl) (by kernel_rfl)) anil (by kernel_rfl)) (by kernel_rfl))))))) ?_
  refine ⟨_, rfl, ⟨_, rfl⟩, _, _, rfl, rfl, (by decide +kernel), (by rw [sizeLine_eq]; omega), fun wl hwl => ?_⟩
  obtain ⟨hne, hsl, hsr⟩ := split_nl text
  obtain ⟨row0, rows, hsp⟩ : ∃ row0 rows, Txt.split text "\n" = row0 :: rows := by
    cases hsp : Txt.split text "\n" with
    | nil => exact absurd hsp hne
    | cons row0 rows => exact ⟨_, _, rfl⟩
  have s1 : Same H (upd H wl (.lst ((Txt.split text "\n").map V.str))) := same_new hwl _
  have e1 : (upd H wl (.lst ((Txt.split text "\n").map V.str))) wl = some (.lst (.str row0 :: rows.map V.str)) := by rw [upd_same, hsp]; rfl
  have h14' := h14 row0 rows hsp
  have erd : rd text = if okN (nmRow row0) = true then (match rdT (fun x => decide (x ∈ nmRow row0)) [] rows 1 with
    | .inl k => .inl k
    | .inr ps => .inr (nmRow row0, ps)) else .inl 0 := by unfold rd; (rw [hsp]) <;> rfl
  generalize upd H wl (.lst ((Txt.split text "\n").map V.str)) = H1 at s1 e1 ⊢
  rw [hsp] at hsl hsr
  rw [List.length_cons] at hsl
  have l0 := hsr row0 (List.mem_cons_self ..)
  have lx0 := split_sp row0
  refine ⟨wl, _, _, rfl, SqL.of e1, (by rw [List.length_map]; omega), fun ol hol => ?_⟩
  refine ⟨_, _, rfl, _, _, rfl, rfl, ?_⟩
  have s2 := s1.trans (same_new hol (.lst (rows.map V.str)))
  have eo : (upd H1 ol (.lst (rows.map V.str))) ol = some (.lst (rows.map V.str)) := upd_same
  generalize upd H1 ol (.lst (rows.map V.str)) = H2 at s2 eo ⊢
  refine ⟨_, rfl, row0, rfl, by omega, h14', (fun x hx => by have := lx0.2.2 x hx; omega), fun hok na names H3 s3 hna perm srt => ?_, fun hno => ?_⟩
  rotate_left
  · rw [hno, if_neg (by decide)] at erd
    exact (qx 0 erd).at s2
  rw [hok, if_pos rfl] at erd
  have hm : (fun x => decide (x ∈ nmRow row0) : Str → Bool) = fun x => decide (x ∈ names) := funext fun x => decide_eq_decide.mpr perm.mem_iff.symm
  have n14 : names.length ≤ 14 := by
    rw [perm.length_eq]
    unfold nmRow
    split
    · exact Nat.zero_le _
    · exact h14'
  rw [hm] at erd
  have e3 : H3 ol = some (.lst (rows.map V.str)) := s3 _ _ eo
  refine ⟨_, rfl, _, rfl, _, rfl, na, ol, names, rows, rfl, SqT.of hna, srt, n14, SqL.of e3, by omega, (fun r hr => by have := hsr r (List.mem_cons_of_mem _ hr); omega), fun ps hps ta tv ps' H4 s4 hta hprs perm2 srt2 => ?_, fun k hk => ?_⟩
  · rw [hps] at erd
    have ndp := rd_nodup List.nodup_nil hps
    have as := asc_of srt2 (perm2.nodup_iff.mpr ndp)
    refine ⟨(by show 2 ≤ sizeLine; decide), fun r hr' => ?_⟩
    have s5 := (s2.trans s3).trans (s4.trans (same_new hr' (.tup [.ref na, .ref ta])))
    exact q _ _ erd r names ps' _ s5 ⟨na, ta, tv, SqT.of upd_same, SqT.of (by rw [upd_ne (ne_of_none (s4 _ _ hna) hr')]; exact s4 _ _ hna), SqT.of (by rw [upd_ne (ne_of_none hta hr')]; exact hta), hprs.same (same_new hr' _)⟩ perm srt perm2 as
  · rw [hk] at erd
    exact (qx k erd).at (s2.trans s3)
end
end K02

namespace K02
open PySem L2 Wd Wm Tm Ym
section
variable {P : Program} {w : World} {K : PySem.W.Frag} {mg : Str → Option Value} {base : Heap}
def spLName : Sp := fun vs H Q _ => ∃ x : Str, vs = [.str x] ∧ x.length ≤ 1000000 ∧ ∀ H', Same H H' → Q (.bl (nmB x)) H'
theorem sc_lname : FnScope ["word", "own", "sign"] ["word"] (defScope s_law_is_name) := ⟨rfl, rfl, rfl, by decide +kernel, rfl, by decide +kernel, by decide +kernel⟩
def badL (x : Str) (i : Nat) : List V := ((x.cps.toList.take i).filter (fun c => !ltB c)).map fun c => V.str ⟨#[c]⟩
theorem badL_succ {x : Str} {i c : Nat} (h : x.cps[i]? = some c) : badL x (i + 1) = badL x i ++ (if (!ltB c) = true then [V.str ⟨#[c]⟩] else []) := by
  unfold badL
  rw [take_cps h, List.filter_append, List.map_append]
  congr 1
  cases hc : ltB c <;> simp [hc]
theorem badL_all (x : Str) : (badL x x.cps.size).isEmpty = x.cps.toList.all ltB := by
  unfold badL
  have e : x.cps.toList.take x.cps.size = x.cps.toList := List.take_of_length_le (by simp)
  rw [e]
  generalize x.cps.toList = l
  induction l with
  | nil => rfl
  | cons c r ih =>
    rw [List.all_cons]
    cases hc : ltB c
    · rw [List.filter_cons_of_pos (by simp [hc])]
      rfl
    · rw [List.filter_cons_of_neg (by simp [hc]), ih]
      rfl
theorem badL_len (x : Str) (i : Nat) : (badL x i).length ≤ x.length := by
  unfold badL
  rw [List.length_map]
  refine Nat.le_trans (List.length_filter_le _ _) ?_
  rw [List.length_take]
  exact Nat.min_le_right _ _
theorem ok_lname {f : Addr} {fd : FuncData} (F : Fun K "_law_is_name" "_law_is_name" s_law_is_name f fd) (T : Tx mg) : FnOk P w K mg base CX0 1 f fd ["word"] spLName := by
  have nd := sc_lname.nd
  refine F.ok sc_lname (fun vs H Q E h => ?_) (fun cdv A outer s H vs Q E hr h => ?_)
  · obtain ⟨x, rfl, _⟩ := h
    rfl
  obtain ⟨x, rfl, hx, q⟩ := h
  refine SB.use (bcons
  (bset (n := 1) nd rfl (Or.inl (by kernel_rfl)) (elst (acons estr (acons estr (acons estr (acons estr (acons estr (acons estr (acons estr (acons estr (acons estr (acons estr (acons estr (acons estr anil (by kernel_rfl)) (by kernel_rfl)) (by kernel_rfl)) (by kernel_rfl)) (by kernel_rfl)) (by kernel_rfl)) (by kernel_rfl)) (by kernel_rfl)) (by kernel_rfl)) (by kernel_rfl)) (by kernel_rfl)) (by kernel_rfl))) (by kernel_rfl) (.inl rfl))
  (bcons
  (bset (n := 1) nd rfl (Or.inl (by kernel_rfl)) (eop op_cat (ev 1 rfl (Or.inl (by kernel_rfl)) (by kernel_rfl) (by kernel_rfl)) (elst (acons estr (acons estr (acons estr (acons estr anil (by kernel_rfl)) (by kernel_rfl)) (by kernel_rfl)) (by kernel_rfl)))) (by kernel_rfl) (.inl rfl))
  (bcons
  (bifs (tw (wor (tcmp op_in_seq (ev 0 rfl (Or.inl (by kernel_rfl)) (by kernel_rfl) (by kernel_rfl)) (ev 1 rfl (Or.inl (by kernel_rfl)) (by kernel_rfl) (by kernel_rfl)) (by kernel_rfl)) (wor (tcmp op_lt (ecallB call_len_str (by unfold Gl; kernel_rfl) T.len L2.boot_len (acons (ev 0 rfl (Or.inl (by kernel_rfl)) (by kernel_rfl) (by kernel_rfl)) anil (by kernel_rfl)) (by decide +kernel) (by kernel_rfl) (by kernel_rfl) (by kernel_rfl)) eint (nomark _)) (wor1 (tcmp op_gt (ecallB call_len_str (by unfold Gl; kernel_rfl) T.len L2.boot_len (acons (ev 0 rfl (Or.inl (by kernel_rfl)) (by kernel_rfl) (by kernel_rfl)) anil (by kernel_rfl)) (by decide +kernel) (by kernel_rfl) (by kernel_rfl) (by kernel_rfl)) eint (nomark _)))))) (bone
  (bret ebl)) bnil)
  (bone
  (bret (ecmp (op_eqN hr.units) (elc (own := [("sign", 2)]) (g := gName 2) (by rfl) nd (istr (ev 0 rfl (Or.inl (by kernel_rfl)) (by kernel_rfl) (by kernel_rfl))) (blkOk_by (own := [("sign", 2)]) (N := ["word", "own", "sign"]) (sc := defScope s_law_is_name) (by decide +kernel)) (fun _ _ _ _ _ => (gname (n := 2) nd rfl (Or.inl (by kernel_rfl)) (.inr (by kernel_rfl)))) (fun _ _ _ _ _ => (uone (tcmp op_notIn_sign (ev 2 rfl (Or.inl (by kernel_rfl)) (by kernel_rfl) (by kernel_rfl)) estr (by kernel_rfl)))) (fun _ _ _ _ _ => (ev 2 rfl (Or.inl (by kernel_rfl)) (by kernel_rfl) (by kernel_rfl))) (by intro _; rfl)) (elst anil) (nomark _))))))) ?_
  have no : ∀ H', Same H H' → nmB x = false → Q (.bl false) H' := fun H' s' e => e ▸ q H' s'
  refine ⟨(by show 12 ≤ sizeLine; decide), fun o1 ho1 => ⟨_, rfl, (by show 4 ≤ sizeLine; decide), fun o2 ho2 => ?_⟩⟩
  have n12 : o1 ≠ o2 := ne_of_none upd_same ho2
  refine ⟨o1, o2, _, _, rfl, rfl, (by rw [upd_ne n12]; exact upd_same), upd_same, (by show 16 ≤ sizeLine; decide), fun o ho => ?_⟩
  have s1 : Same H (upd (upd (upd H o1 (.lst (own12.map V.str))) o2 (.lst (own4.map V.str))) o (.lst (own16.map V.str))) := (same_new ho1 (.lst (own12.map V.str))).trans ((same_new ho2 (.lst (own4.map V.str))).trans (same_new ho (.lst (own16.map V.str))))
  have e1 : (upd (upd (upd H o1 (.lst (own12.map V.str))) o2 (.lst (own4.map V.str))) o (.lst (own16.map V.str))) o = some (.lst (own16.map V.str)) := upd_same
  show tSeq _ _ _ _ (upd (upd (upd H o1 (.lst (own12.map V.str))) o2 (.lst (own4.map V.str))) o (.lst (own16.map V.str)))
  generalize (upd (upd (upd H o1 (.lst (own12.map V.str))) o2 (.lst (own4.map V.str))) o (.lst (own16.map V.str))) = H1 at s1 e1 ⊢
  refine ⟨_, rfl, _, rfl, o, _, rfl, .inl (SqL.of e1), rfl, flat_strs _, _, rfl, ?_⟩
  show if (inV (.str x) (own16.map V.str)) = true then _ else _
  rw [in_strs]
  by_cases hw : x ∈ own16
  · rw [decide_eq_true hw]
    refine iteT (iteT (no H1 s1 ?_))
    unfold nmB
    rw [decide_eq_true hw, Bool.not_true, Bool.and_false]
    rfl
  rw [decide_eq_false hw]
  refine iteF ?_
  refine ⟨_, rfl, _, rfl, sLine x hx, _, _, rfl, rfl, _, rfl, ?_⟩
  show if decide ((x.length : Int) < 1) = true then _ else _
  by_cases h1 : 1 ≤ x.length
  rotate_left
  · rw [decide_eq_true (by omega)]
    refine iteT (iteT (no H1 s1 ?_))
    unfold nmB
    rw [decide_eq_false h1]
    rfl
  rw [decide_eq_false (by omega)]
  refine iteF ?_
  refine ⟨_, rfl, _, rfl, sLine x hx, _, _, rfl, rfl, _, rfl, ?_⟩
  show if decide ((8 : Int) < (x.length : Int)) = true then _ else _
  by_cases h8 : x.length ≤ 8
  rotate_left
  · rw [decide_eq_true (by omega)]
    refine iteT (no H1 s1 ?_)
    unfold nmB
    rw [decide_eq_false h8, Bool.and_false]
    rfl
  rw [decide_eq_false (by omega)]
  refine iteF ?_
  have en : nmB x = x.cps.toList.all ltB := by
    unfold nmB
    rw [decide_eq_true h1, decide_eq_true h8, decide_eq_false hw]
    rfl
  refine ⟨_, rfl, x, rfl, fun D hD => ?_⟩
  refine lc_str (x := x) (fun i H2 => Same H1 H2 ∧ H2 D = some (.lst (badL x i))) ⟨same_new hD _, upd_same⟩ ?_ ?_
  · rintro i c H2 hc ⟨s2, h2⟩
    have bs := badL_succ hc
    refine ⟨rfl, ?_⟩
    refine ⟨_, rfl, c, _, rfl, rfl, _, rfl, ?_⟩
    show if (!decide (c ∈ lett.cps.toList)) = true then _ else _
    have ed : decide (c ∈ lett.cps.toList) = ltB c := by
      have := lett_mem c
      cases k : ltB c
      · exact decide_eq_false (fun z => by rw [this.mp z] at k; cases k)
      · exact decide_eq_true (this.mpr k)
    rw [ed]
    refine ite2 (fun k => ?_) (fun k => ?_)
    · rw [if_pos k] at bs
      refine ⟨_, rfl, _, h2, (by have := badL_len x i; rw [sizeLine_eq]; omega), fun b o e => by rw [upd_ne (ne_of_none e hD)]; exact s2 b o e, ?_⟩
      rw [upd_same, bs]
    · rw [if_neg k, List.append_nil] at bs
      rw [bs]
      exact ⟨s2, h2⟩
  · rintro H2 ⟨s2, h2⟩
    refine ⟨(by show 0 ≤ sizeLine; decide), fun e he => ?_⟩
    refine ⟨D, e, _, rfl, rfl, SqL.of (by rw [upd_ne (ne_of_none h2 he)]; exact h2), SqL.of upd_same, ?_⟩
    show Q (.bl (badL x x.cps.size).isEmpty) _
    rw [badL_all, ← en]
    exact q _ (s1.trans (s2.trans (same_new he _)))
end
end K02

namespace K02
open PySem L2 Wd Wm Tm Km Ym
section
variable {P : Program} {w : World} {K : PySem.W.Frag} {mg : Str → Option Value} {base : Heap}
theorem at0 {x : V} {l : List V} : atI (x :: l) 0 = some x := atI_nat (xs := x :: l) (j := 0) rfl
def spLRead (K : PySem.W.Frag) : Sp := fun vs H Q _ => ∃ (text : Str), vs = [.str text] ∧ text.length ≤ 15000 ∧ (∀ row0 rows, Txt.split text "\n" = row0 :: rows → (Txt.split row0 " ").length ≤ 14) ∧
  (∀ ws ps, rd text = .inr (ws, ps) → ∀ (r : Addr) (names : List Str) (ties : List SS) (H' : Hp), Same H H' → WebAt K H' r names ties → names.Perm ws → names.Pairwise sLt → ties.Perm ps → Asc ties → Q (.ref r) H') ∧
  (∀ k : Nat, rd text = .inl k → ∀ H', Same H H' → Q (.int (k : Nat)) H')
theorem sc_lread : FnScope ["text", "rows", "names", "word", "ties", "place", "words", "tie"] ["text"] (defScope s_law_read) := ⟨rfl, rfl, rfl, by decide +kernel, rfl, by decide +kernel, by decide +kernel⟩
theorem ok_lread {f : Addr} {fd : FuncData} (F : Fun K "_law_read" "_law_read" s_law_read f fd) (T : Tx mg) (oN : Own P w K mg base 1 "_law_is_name" ["word"] spLName) : FnOk P w K mg base CX0 2 f fd ["text"] (spLRead K) := by
  have nd := sc_lread.nd
  obtain ⟨f1, fd1, G_law_is_name, b_law_is_name, k_law_is_name, m_law_is_name⟩ := oN
  refine F.ok sc_lread (fun vs H Q E h => ?_) (fun cdv A outer s H vs Q E hr h => ?_)
  · obtain ⟨text, rfl, _⟩ := h
    rfl
  have hr_law_is_name := hr
  obtain ⟨text, rfl, hlen, h14, q, qx⟩ := h
  refine SB.use (bcons
  (bset (n := 1) nd rfl (Or.inl (by kernel_rfl)) (esplit (ev 0 rfl (Or.inl (by kernel_rfl)) (by kernel_rfl) (by kernel_rfl)) estr (by kernel_rfl) (by kernel_rfl) (by kernel_rfl)) (by kernel_rfl) (.inl rfl))
  (bcons
  (bset (n := 2) nd rfl (Or.inr (by kernel_rfl)) (elst anil) (by kernel_rfl) (.inl rfl))
  (bcons
  (bfor PassesOwn.never rfl (ilist (eop op_rep (esplit (eix ix_list (ev 1 rfl (Or.inl (by kernel_rfl)) (by kernel_rfl) (by kernel_rfl)) eint (fun _ _ => rfl)) estr (by kernel_rfl) (by kernel_rfl) (by kernel_rfl)) (ecallT call_int1 (by unfold Gl; kernel_rfl) T.int L2.boot_int (acons (ecmp op_ne (eix ix_list (ev 1 rfl (Or.inl (by kernel_rfl)) (by kernel_rfl) (by kernel_rfl)) eint (fun _ _ => rfl)) estr (nomark _)) anil (by kernel_rfl)) (by decide +kernel) (by kernel_rfl) (by kernel_rfl) (by kernel_rfl)))) (gname (n := 3) nd rfl (Or.inl (by kernel_rfl)) (.inl rfl)) (bcons
  (bifs (tw (wor (tnot (tval (ecall G_law_is_name hr_law_is_name (by unfold Gl; kernel_rfl) m_law_is_name k_law_is_name b_law_is_name .nil pass0 (acons (ev 3 rfl (Or.inl (by kernel_rfl)) (by kernel_rfl) (by kernel_rfl)) anil (by kernel_rfl)) (by kernel_rfl) (by kernel_rfl) (by kernel_rfl)) (by intro _; rfl))) (wor1 (tcmp op_in_seq (ev 3 rfl (Or.inl (by kernel_rfl)) (by kernel_rfl) (by kernel_rfl)) (ev 2 rfl (Or.inr (Or.inl (by kernel_rfl))) (by kernel_rfl) (by kernel_rfl)) (by kernel_rfl))))) (bone
  (bret eint)) bnil)
  (bone
  (bexpr (ebm PySem.F.plainAttrs_list PySem.F.slot_list_append PySem.F.type_list_append mt_append (ev 2 rfl (Or.inr (Or.inl (by kernel_rfl))) (by kernel_rfl) (by kernel_rfl)) (acons (ev 3 rfl (Or.inl (by kernel_rfl)) (by kernel_rfl) (by kernel_rfl)) anil (by kernel_rfl)) (by kernel_rfl) (by kernel_rfl) (by kernel_rfl) (by kernel_rfl) (by kernel_rfl)) (by kernel_rfl)))) (by intro _; rfl))
  (bcons
  (bset (n := 4) nd rfl (Or.inl (by kernel_rfl)) (elst anil) (by kernel_rfl) (.inl rfl))
  (bcons
  (bfor PassesOwn.never rfl (irange2 (by unfold Gl; kernel_rfl) T.range (acons eint (acons (ecallB call_len_seq (by unfold Gl; kernel_rfl) T.len L2.boot_len (acons (ev 1 rfl (Or.inl (by kernel_rfl)) (by kernel_rfl) (by kernel_rfl)) anil (by kernel_rfl)) (by decide +kernel) (by kernel_rfl) (by kernel_rfl) (by kernel_rfl)) anil (by kernel_rfl)) (by kernel_rfl)) (by kernel_rfl) (by kernel_rfl)) (gname (n := 5) nd rfl (Or.inl (by kernel_rfl)) (.inl rfl)) (bcons
  (bset (n := 6) nd rfl (Or.inl (by kernel_rfl)) (esplit (eix ix_list (ev 1 rfl (Or.inl (by kernel_rfl)) (by kernel_rfl) (by kernel_rfl)) (ev 5 rfl (Or.inl (by kernel_rfl)) (by kernel_rfl) (by kernel_rfl)) (fun _ _ => rfl)) estr (by kernel_rfl) (by kernel_rfl) (by kernel_rfl)) (by kernel_rfl) (.inl rfl))
  (bcons
  (bifs (tw (wor (tcmp op_ne (ecallB call_len_seq (by unfold Gl; kernel_rfl) T.len L2.boot_len (acons (ev 6 rfl (Or.inl (by kernel_rfl)) (by kernel_rfl) (by kernel_rfl)) anil (by kernel_rfl)) (by decide +kernel) (by kernel_rfl) (by kernel_rfl) (by kernel_rfl)) eint (nomark _)) (wor (tcmp op_eq (eix ix_list (ev 6 rfl (Or.inl (by kernel_rfl)) (by kernel_rfl) (by kernel_rfl)) eint (fun _ _ => rfl)) (eix ix_list (ev 6 rfl (Or.inl (by kernel_rfl)) (by kernel_rfl) (by kernel_rfl)) eint (fun _ _ => rfl)) (nomark _)) (wor1 (tcmp (op_neN hr.units) (elc (own := [("word", 3)]) (g := gName 3) (by rfl) nd (ilist (ev 6 rfl (Or.inl (by kernel_rfl)) (by kernel_rfl) (by kernel_rfl))) (blkOk_by (own := [("word", 3)]) (N := ["text", "rows", "names", "word", "ties", "place", "words", "tie"]) (sc := defScope s_law_read) (by decide +kernel)) (fun _ _ _ _ _ => (gname (n := 3) nd rfl (Or.inl (by kernel_rfl)) (.inr (by kernel_rfl)))) (fun _ _ _ _ _ => (uone (tcmp (op_notIn_seqK (K := K) rfl) (ev 3 rfl (Or.inl (by kernel_rfl)) (by kernel_rfl) (by kernel_rfl)) (ev 2 rfl (Or.inr (Or.inl (by kernel_rfl))) (by kernel_rfl) (by kernel_rfl)) (by kernel_rfl)))) (fun _ _ _ _ _ => (ev 3 rfl (Or.inl (by kernel_rfl)) (by kernel_rfl) (by kernel_rfl))) (by intro _; rfl)) (elst anil) (nomark _)))))) (bone
  (bret (ev 5 rfl (Or.inl (by kernel_rfl)) (by kernel_rfl) (by kernel_rfl)))) bnil)
  (bcons
  (bifs (tcmp (op_inRowL hr.units) (ecallB cr_sortedSA (by unfold Gl; kernel_rfl) T.sorted L2.boot_sorted (acons (ev 6 rfl (Or.inl (by kernel_rfl)) (by kernel_rfl) (by kernel_rfl)) anil (by kernel_rfl)) (by decide +kernel) (by kernel_rfl) (by kernel_rfl) (by kernel_rfl)) (ev 4 rfl (Or.inl (by kernel_rfl)) (by kernel_rfl) (by kernel_rfl)) (by kernel_rfl)) (bone
  (bret (ev 5 rfl (Or.inl (by kernel_rfl)) (by kernel_rfl) (by kernel_rfl)))) bnil)
  (bone
  (bexpr (ebm PySem.F.plainAttrs_list PySem.F.slot_list_append PySem.F.type_list_append mt_append (ev 4 rfl (Or.inl (by kernel_rfl)) (by kernel_rfl) (by kernel_rfl)) (acons (ecallB cr_sortedSA (by unfold Gl; kernel_rfl) T.sorted L2.boot_sorted (acons (ev 6 rfl (Or.inl (by kernel_rfl)) (by kernel_rfl) (by kernel_rfl)) anil (by kernel_rfl)) (by decide +kernel) (by kernel_rfl) (by kernel_rfl) (by kernel_rfl)) anil (by kernel_rfl)) (by kernel_rfl) (by kernel_rfl) (by kernel_rfl) (by kernel_rfl) (by kernel_rfl)) (by kernel_rfl)))))) (by intro _; rfl))
  (bone
  (bret (etup (acons (ecallT call_tuple_of (by unfold Gl; kernel_rfl) T.tuple L2.boot_tuple (acons (ecallB cr_sortedSA (by unfold Gl; kernel_rfl) T.sorted L2.boot_sorted (acons (ev 2 rfl (Or.inr (Or.inl (by kernel_rfl))) (by kernel_rfl) (by kernel_rfl)) anil (by kernel_rfl)) (by decide +kernel) (by kernel_rfl) (by kernel_rfl) (by kernel_rfl)) anil (by kernel_rfl)) (by decide +kernel) (by kernel_rfl) (by kernel_rfl) (by kernel_rfl)) (acons (ecallT call_tuple_of (by unfold Gl; kernel_rfl) T.tuple L2.boot_tuple (acons (ecallB cr_sortedP (by unfold Gl; kernel_rfl) T.sorted L2.boot_sorted (acons (elc (own := [("tie", 7)]) (g := gName 7) (by rfl) nd (ilist (ev 4 rfl (Or.inl (by kernel_rfl)) (by kernel_rfl) (by kernel_rfl))) (blkOk_by (own := [("tie", 7)]) (N := ["text", "rows", "names", "word", "ties", "place", "words", "tie"]) (sc := defScope s_law_read) (by decide +kernel)) (fun _ _ _ _ _ => (gname (n := 7) nd rfl (Or.inl (by kernel_rfl)) (.inr (by kernel_rfl)))) (fun _ _ _ _ _ => unil) (fun _ _ _ _ _ => (ecallT (call_tuple_ofK (K := K) rfl) (by unfold Gl; kernel_rfl) T.tuple L2.boot_tuple (acons (ev 7 rfl (Or.inl (by kernel_rfl)) (by kernel_rfl) (by kernel_rfl)) anil (by kernel_rfl)) (by decide +kernel) (by kernel_rfl) (by kernel_rfl) (by kernel_rfl))) (by intro _; rfl)) anil (by kernel_rfl)) (by decide +kernel) (by kernel_rfl) (by kernel_rfl) (by kernel_rfl)) anil (by kernel_rfl)) (by decide +kernel) (by kernel_rfl) (by kernel_rfl) (by kernel_rfl)) anil (by kernel_rfl)) (by kernel_rfl)))))))))) ?_
  obtain ⟨hne, hsl, hsr⟩ := split_nl text
  obtain ⟨row0, rows, hsp⟩ : ∃ row0 rows, Txt.split text "\n" = row0 :: rows := by
    cases hsp : Txt.split text "\n" with
    | nil => exact absurd hsp hne
    | cons row0 rows => exact ⟨_, _, rfl⟩
  have h14' := h14 row0 rows hsp
  have erd : rd text = if okN (nmRow row0) = true then (match rdT (fun x => decide (x ∈ nmRow row0)) [] rows 1 with
    | .inl k => .inl k
    | .inr ps => .inr (nmRow row0, ps)) else .inl 0 := by unfold rd; (rw [hsp]) <;> rfl
  -- rows = text.split
  refine ⟨_, rfl, ⟨_, rfl⟩, _, _, rfl, rfl, (by decide +kernel), (by rw [sizeLine_eq]; omega), fun rl hrl => ?_⟩
  have s1 : Same H (upd H rl (.lst ((Txt.split text "\n").map V.str))) := same_new hrl _
  have e1 : (upd H rl (.lst ((Txt.split text "\n").map V.str))) rl = some (.lst (.str row0 :: rows.map V.str)) := by rw [upd_same, hsp]; rfl
  show tSeq _ _ _ _ (upd H rl (.lst ((Txt.split text "\n").map V.str)))
  generalize upd H rl (.lst ((Txt.split text "\n").map V.str)) = H1 at s1 e1 ⊢
  rw [hsp] at hsl hsr
  rw [List.length_cons] at hsl
  have l0 := hsr row0 (List.mem_cons_self ..)
  -- names = []
  refine ⟨Nat.zero_le _, fun nl hnl => ?_⟩
  have nH : H nl = none := s1.free hnl
  have s2 := s1.trans (same_new hnl (.lst []))
  have e2 : (upd H1 nl (.lst [])) rl = some (.lst (.str row0 :: rows.map V.str)) := by rw [upd_ne (ne_of_none e1 hnl)]; exact e1
  have n2 : (upd H1 nl (.lst [])) nl = some (.lst []) := upd_same
  have nrl : rl ≠ nl := ne_of_none e1 hnl
  show tSeq _ _ _ _ (upd H1 nl (.lst []))
  generalize upd H1 nl (.lst []) = H2 at s2 e2 n2 ⊢
  -- for word in ..
  refine ⟨_, rfl, rl, _, _, _, rfl, rfl, SqL.of e2, at0, ⟨row0, rfl⟩, row0, _, rfl, rfl, (by decide +kernel), (by rw [sizeLine_eq]; omega), fun wl hwl => ?_⟩
  have s3 := s2.trans (same_new hwl (.lst ((Txt.split row0 " ").map V.str)))
  have e3 : (upd H2 wl (.lst ((Txt.split row0 " ").map V.str))) rl = some (.lst (.str row0 :: rows.map V.str)) := by rw [upd_ne (ne_of_none e2 hwl)]; exact e2
  have n3 : (upd H2 wl (.lst ((Txt.split row0 " ").map V.str))) nl = some (.lst []) := by rw [upd_ne (ne_of_none n2 hwl)]; exact n2
  have w3 : (upd H2 wl (.lst ((Txt.split row0 " ").map V.str))) wl = some (.lst ((Txt.split row0 " ").map V.str)) := upd_same
  refine ⟨_, rfl, rl, _, _, _, rfl, rfl, SqL.of e3, at0, rfl, .inr ⟨_, rfl, ?_⟩⟩
  have hb : ∀ b : Bool, -(2 ^ 63) ≤ (if b = true then (1 : Int) else 0) ∧ (if b = true then (1 : Int) else 0) < 2 ^ 63 ∧ ((Txt.split row0 " ").map V.str).length * (if b = true then (1 : Int) else 0).toNat ≤ sizeLine := fun b => by
    have := h14'
    rw [List.length_map, sizeLine_eq]
    cases b
    · exact ⟨by decide, by decide, by simp⟩
    · refine ⟨by decide, by decide, ?_⟩
      show _ * (1 : Int).toNat ≤ _
      rw [show (1 : Int).toNat = 1 from rfl]
      omega
  refine ⟨wl, _, _, rfl, rfl, w3, (hb _).1, (hb _).2.1, (hb _).2.2, fun p hp => ?_⟩
  have er := rep_row row0
  show ∃ a, V.ref p = V.ref a ∧ _
  rw [er]
  have hw14 := nm_len h14'
  have hwm : ∀ x ∈ nmRow row0, x.length ≤ 1000000 := fun x hx => by have := nm_mem hx; omega
  generalize nmRow row0 = ws at hw14 hwm erd
  have s4 := s3.trans (same_new hp (.lst (ws.map V.str)))
  have e4 : (upd (upd H2 wl (.lst ((Txt.split row0 " ").map V.str))) p (.lst (ws.map V.str))) rl = some (.lst (.str row0 :: rows.map V.str)) := by rw [upd_ne (ne_of_none e3 hp)]; exact e3
  have n4 : (upd (upd H2 wl (.lst ((Txt.split row0 " ").map V.str))) p (.lst (ws.map V.str))) nl = some (.lst []) := by rw [upd_ne (ne_of_none n3 hp)]; exact n3
  have w4 : (upd (upd H2 wl (.lst ((Txt.split row0 " ").map V.str))) p (.lst (ws.map V.str))) p = some (.lst (ws.map V.str)) := upd_same
  have npn : p ≠ nl := (ne_of_none n3 hp).symm
  generalize (upd (upd H2 wl (.lst ((Txt.split row0 " ").map V.str))) p (.lst (ws.map V.str))) = H4 at s4 e4 n4 w4 ⊢
  refine ⟨p, rfl, ⟨_, SqL.of w4⟩, ?_⟩
  refine for_list (K := K) (xs := ws.map V.str) (fun i σ G => ∃ x3 : Option V, σ = [some (.str text), some (.ref rl), some (.ref nl), x3, none, none, none, none] ∧ Same H G ∧ G rl = some (.lst (.str row0 :: rows.map V.str)) ∧ G p = some (.lst (ws.map V.str)) ∧ G nl = some (.lst ((ws.take i).map V.str)) ∧ goN (ws.take i) (ws.drop i) = goN [] ws) ⟨_, rfl, s4, e4, w4, n4, rfl⟩ (fun i σ G _ ⟨_, _, _, _, z, _⟩ => SqL.of z) ?_ ?_
  · rintro i v σ G hv ⟨x3, rfl, sg, eg, wg, ng, hgo⟩
    obtain ⟨x, hx, rfl⟩ := str_at hv
    have hi : i < ws.length := (List.getElem?_eq_some_iff.mp hx).1
    rw [go_at hx] at hgo
    have no : ∀ G', Same G G' → goN [] ws = false → Q (.int 0) G' := fun G' s' z => by
      rw [go_ok] at z
      rw [z, if_neg (by decide)] at erd
      exact qx 0 erd G' (sg.trans s')
    refine ⟨_, rfl, x, rfl, hwm x (List.mem_of_getElem? hx), fun G3 s3' => ⟨_, rfl, ?_⟩⟩
    show if (!nmB x) = true then _ else _
    by_cases c1 : nmB x = true
    rotate_left
    · rw [Bool.eq_false_iff.mpr c1] at hgo ⊢
      rw [Bool.not_false, Bool.true_or, if_pos rfl] at hgo
      exact iteT (iteT (no G3 s3' hgo.symm))
    rw [c1] at hgo ⊢
    rw [Bool.not_true, Bool.false_or] at hgo
    refine iteF ?_
    refine ⟨_, rfl, _, rfl, nl, _, rfl, .inl (SqL.of (s3' _ _ ng)), rfl, flat_strs _, _, rfl, ?_⟩
    show if (inV (V.str x) ((ws.take i).map V.str)) = true then _ else _
    rw [in_strs]
    by_cases c2 : x ∈ ws.take i
    · rw [decide_eq_true c2] at hgo ⊢
      rw [if_pos rfl] at hgo
      exact iteT (no G3 s3' hgo.symm)
    rw [decide_eq_false c2] at hgo ⊢
    rw [if_neg (by decide)] at hgo
    refine iteF ?_
    refine ⟨_, rfl, .inl ⟨rfl, _, SqL.of (s3' _ _ ng)⟩, _, rfl, nl, _, _, rfl, rfl, s3' _ _ ng, (by rw [List.length_map, List.length_take]; exact small1000 (by omega)), ?_⟩
    refine ⟨_, rfl, fun b o e => by rw [upd_ne (ne_of_none e nH)]; exact s3' _ _ (sg b o e), by rw [upd_ne nrl]; exact s3' _ _ eg, by rw [upd_ne npn]; exact s3' _ _ wg, ?_, hgo⟩
    rw [upd_same, List.take_succ, hx, List.map_append]
    rfl
  rintro σ G ⟨x3, rfl, sg, eg, wg, ng, hgo⟩
  rw [List.length_map] at ng hgo
  rw [go_end, go_ok] at hgo
  rw [List.take_length] at ng
  rw [← hgo, if_pos rfl] at erd
  have ndw := ok_nd hgo.symm
  clear wg e4 n4 w4 s4 hb er
  -- ties = []
  refine ⟨Nat.zero_le _, fun tl htl => ?_⟩
  have r0 := Rl.start htl
  have ntl : H tl = none := sg.free htl
  refine ⟨_, rfl, rl, _, rfl, .inl (SqL.of (r0.s _ _ eg)), _, _, rfl, ⟨by decide, by decide, by omega, ?_⟩, ?_⟩
  · rw [List.length_cons, List.length_map]
    omega
  generalize hm : (fun x => decide (x ∈ ws) : Str → Bool) = m at erd
  have hmm : ∀ x, m x = decide (x ∈ ws) := fun x => by rw [← hm]
  have en : (((((V.str row0 :: rows.map V.str).length : Nat) : Int)) - 1).toNat = rows.length := by
    rw [List.length_cons, List.length_map]
    omega
  refine for_range (lo := 1) (fun i σ G2 => ∃ (acc : List SS) (x5 x6 x7 : Option V), σ = [some (.str text), some (.ref rl), some (.ref nl), x3, some (.ref tl), x5, x6, x7] ∧ Rl G tl acc G2 ∧ acc.length ≤ i ∧ rdT m acc (rows.drop i) (i + 1) = rdT m [] rows 1) ⟨[], _, _, _, rfl, r0, Nat.le_refl _, rfl⟩ ?_ ?_
  · rintro i σ G2 hi ⟨acc, x5, x6, x7, rfl, r2, hacl, hrd⟩
    rw [en] at hi
    obtain ⟨row, hrow⟩ : ∃ row, rows[i]? = some row := ⟨rows[i], List.getElem?_eq_getElem hi⟩
    rw [rd_at hrow] at hrd
    have lrow := hsr row (List.mem_cons_of_mem _ (List.mem_of_getElem? hrow))
    have hat : atI (V.str row0 :: rows.map V.str) (1 + (i : Int)) = some (.str row) := by
      have e : (1 + (i : Int)) = ((i + 1 : Nat) : Int) := by omega
      rw [e]
      exact atI_nat (by rw [List.getElem?_cons_succ, List.getElem?_map, hrow]; rfl)
    have ret : ∀ G', Same G2 G' → rdT m [] rows 1 = .inl (i + 1) → Q (.int (1 + (i : Int))) G' := fun G' s' z => by
      rw [z] at erd
      have e : (1 + (i : Int)) = ((i + 1 : Nat) : Int) := by omega
      rw [e]
      exact qx _ erd G' (sg.trans (r2.s.trans s'))
    refine ⟨_, rfl, _, rfl, rl, _, _, _, rfl, rfl, SqL.of (r2.s _ _ eg), hat, ⟨row, rfl⟩, row, _, rfl, rfl, (by decide +kernel), (by rw [sizeLine_eq]; omega), fun wl2 hwl2 => ?_⟩
    have t3 := same_new hwl2 (.lst ((Txt.split row " ").map V.str))
    have w3 : (upd G2 wl2 (.lst ((Txt.split row " ").map V.str))) wl2 = some (.lst ((Txt.split row " ").map V.str)) := upd_same
    show tSeq _ _ _ _ (upd G2 wl2 (.lst ((Txt.split row " ").map V.str)))
    generalize upd G2 wl2 (.lst ((Txt.split row " ").map V.str)) = G3 at t3 w3 ⊢
    refine ⟨_, rfl, wl2, _, rfl, .inl (SqL.of w3), rfl, _, rfl, ?_⟩
    show if (!decide (V.int ((((Txt.split row " ").map V.str).length : Nat) : Int) = V.int 2)) = true then _ else _
    rw [List.length_map]
    by_cases c1 : (Txt.split row " ").length = 2
    rotate_left
    · have ht : tieOf m row = none := tieW_len c1
      rw [ht] at hrd
      rw [decide_eq_false (fun z => c1 (by have := V.int.inj z; omega))]
      exact iteT (iteT ⟨_, rfl, ret G3 t3 hrd.symm⟩)
    rw [decide_eq_true (by rw [c1]; rfl)]
    refine iteF ?_
    have hto : tieOf m row = tieW m (Txt.split row " ") := rfl
    rw [hto] at hrd
    generalize Txt.split row " " = words at c1 w3 hrd
    match words, c1, w3, hrd with
    | [a, b], _, w3, hrd =>
    refine ⟨_, rfl, wl2, _, _, _, rfl, rfl, SqL.of w3, rfl, _, rfl, wl2, _, _, _, rfl, rfl, SqL.of w3, rfl, rfl, _, rfl, ?_⟩
    show if decide (V.str a = V.str b) = true then _ else _
    rw [tieW_two] at hrd
    by_cases c2 : a = b
    · rw [decide_eq_true c2, Bool.not_true, Bool.and_false, if_neg (by decide)] at hrd
      rw [decide_eq_true (by rw [c2])]
      exact iteT (iteT ⟨_, rfl, ret G3 t3 hrd.symm⟩)
    rw [decide_eq_false (fun z => c2 (V.str.inj z))]
    rw [decide_eq_false c2, Bool.not_false, Bool.and_true] at hrd
    refine iteF ?_
    refine ⟨_, rfl, wl2, rfl, ⟨_, SqL.of w3⟩, fun D hD => ?_⟩
    refine lc_list (xs := [a, b].map V.str) (fun j G4 => Sp1 G3 D (nN (([a, b] : List Str).take j) ws) G4) (Sp1.start hD) (fun j G4 _ pp => pp.s.seq (SqL.of w3)) ?_ ?_
    · intro j v G4 hv pp
      obtain ⟨x, hx, rfl⟩ := str_at hv
      have hj : j < ([a, b] : List Str).length := (List.getElem?_eq_some_iff.mp hx).1
      have tk : nN (([a, b] : List Str).take (j + 1)) ws = nN (([a, b] : List Str).take j) ws ++ (if (!decide (x ∈ ws)) = true then [x] else []) := take_filter hx
      refine ⟨rfl, _, rfl, _, rfl, nl, _, rfl, .inl ((r2.s.trans (t3.trans pp.s)).seq (SqL.of ng)), rfl, flat_strs _, _, rfl, ?_⟩
      show if (!inV (V.str x) (ws.map V.str)) = true then _ else _
      rw [in_strs]
      refine ite2 (fun c => ?_) (fun c => ?_)
      · rw [if_pos c] at tk
        have hl := List.length_filter_le (fun n => !decide (n ∈ ws)) (([a, b] : List Str).take j)
        rw [List.length_take] at hl
        refine ⟨_, rfl, _, pp.v, (by rw [List.length_map]; exact small1000 (by unfold nN; omega)), ?_⟩
        rw [tk]
        exact pp.add hD x
      · rw [if_neg c, List.append_nil] at tk
        rw [tk]
        exact pp
    intro G4 p4
    have p4v := p4.v
    have t4 := t3.trans p4.s
    have w4 := p4.s _ _ w3
    have enn : nN (([a, b] : List Str).take (([a, b] : List Str).map V.str).length) ws = nN [a, b] ws := rfl
    rw [enn] at p4v
    clear p4
    refine ⟨Nat.zero_le _, fun e0 he0 => ?_⟩
    have t5 := t4.trans (same_new he0 (.lst []))
    have w5 : (upd G4 e0 (.lst [])) wl2 = some (.lst ([a, b].map V.str)) := by rw [upd_ne (ne_of_none w4 he0)]; exact w4
    refine ⟨D, e0, _, rfl, rfl, SqL.of (by rw [upd_ne (ne_of_none p4v he0)]; exact p4v), SqL.of upd_same, _, rfl, ?_⟩
    show if (!((nN [a, b] ws).map V.str).isEmpty) = true then _ else _
    have ec : ((nN [a, b] ws).map V.str).isEmpty = (m a && m b) := by
      rw [hmm, hmm]
      unfold nN
      by_cases ka : a ∈ ws <;> by_cases kb : b ∈ ws <;> simp [ka, kb]
    rw [ec]
    generalize upd G4 e0 (.lst []) = G5 at t5 w5 ⊢
    cases hab : (m a && m b)
    · rw [hab, if_neg (by decide)] at hrd
      exact iteT ⟨_, rfl, ret G5 t5 hrd.symm⟩
    rw [hab, if_pos rfl] at hrd
    refine iteF ?_
    have htie : tieW m [a, b] = some (lexP a b) := by rw [tieW_two, hab, decide_eq_false c2]; rfl
    refine ⟨_, rfl, wl2, _, rfl, SqL.of w5, fun ys sl perm srt hsl => ?_⟩
    obtain ⟨ey, _⟩ := tie_some htie perm srt
    have r6 := (r2.same t5).new hsl (.lst (ys.map V.str))
    have t6 := t5.trans (same_new hsl (.lst (ys.map V.str)))
    have w6 : (upd G5 sl (.lst (ys.map V.str))) wl2 = some (.lst ([a, b].map V.str)) := by rw [upd_ne (ne_of_none w5 hsl)]; exact w5
    have l6 : IsRowL K (upd G5 sl (.lst (ys.map V.str))) (.ref sl) (prL (lexP a b)) := ⟨sl, rfl, SqL.of (by rw [← ey]; exact upd_same)⟩
    generalize upd G5 sl (.lst (ys.map V.str)) = G6 at r6 t6 w6 l6 ⊢
    obtain ⟨tv, htv, hrows⟩ := Rl.rows (K := K) r6
    refine ⟨_, rfl, tl, tv, acc.map prL, prL (lexP a b), rfl, SqL.of htv, hrows, l6, _, rfl, ?_⟩
    show if decide (prL (lexP a b) ∈ acc.map prL) = true then _ else _
    dsimp only at hrd
    by_cases c4 : lexP a b ∈ acc
    · rw [decide_eq_true c4, if_pos rfl] at hrd
      rw [decide_eq_true (mem_prL.mpr c4)]
      exact iteT ⟨_, rfl, ret G6 t6 hrd.symm⟩
    rw [decide_eq_false c4, if_neg (by decide)] at hrd
    rw [decide_eq_false (fun z => c4 (mem_prL.mp z))]
    refine iteF ?_
    refine ⟨_, rfl, .inl ⟨rfl, _, SqL.of htv⟩, _, rfl, wl2, _, rfl, SqL.of w6, fun ys2 sl2 perm2 srt2 hsl2 => ?_⟩
    obtain ⟨ey2, _⟩ := tie_some htie perm2 srt2
    have r7 := r6.new hsl2 (.lst (ys2.map V.str))
    have t7 : (upd G6 sl2 (.lst (ys2.map V.str))) tl = some (.lst tv) := by rw [upd_ne (ne_of_none htv hsl2)]; exact htv
    have l7 : (upd G6 sl2 (.lst (ys2.map V.str))) sl2 = some (.lst ((prL (lexP a b)).map V.str)) := by rw [upd_same, ey2]
    have n7 : sl2 ≠ tl := (ne_of_none htv hsl2).symm
    generalize upd G6 sl2 (.lst (ys2.map V.str)) = G7 at r7 t7 l7 ⊢
    have la := Paired.length hrows
    rw [List.length_map] at la
    refine ⟨tl, _, _, rfl, rfl, t7, (by rw [la, sizeLine_eq]; omega), ?_⟩
    exact ⟨acc ++ [lexP a b], _, _, _, rfl, r7.add htl t7 l7 n7, by rw [List.length_append]; show acc.length + 1 ≤ i + 1; omega, hrd⟩
  rintro σ G2 ⟨acc, x5, x6, x7, rfl, r2, hacl, hrd⟩
  rw [en] at hrd hacl
  rw [rd_end] at hrd
  rw [← hrd] at erd
  have ndp := rd_nodup List.nodup_nil hrd.symm
  refine ⟨_, rfl, nl, ws, rfl, SqL.of (r2.s _ _ ng), fun names sl perm srt hsl => ⟨sl, _, rfl, .inl ⟨SqL.of upd_same, fun na hna => ?_⟩⟩⟩
  have r4 := (r2.new hsl (.lst (names.map V.str))).new hna (.tup (names.map V.str))
  have s4 := sg.trans r4.s
  have e4 : (upd (upd G2 sl (.lst (names.map V.str))) na (.tup (names.map V.str))) na = some (.tup (names.map V.str)) := upd_same
  generalize upd (upd G2 sl (.lst (names.map V.str))) na (.tup (names.map V.str)) = G4 at r4 s4 e4 ⊢
  obtain ⟨tv, htv, hrows⟩ := r4.v
  have la := Paired.length hrows
  refine ⟨_, rfl, tl, rfl, ⟨_, SqL.of htv⟩, fun D hD => ?_⟩
  refine lc_list (xs := tv) (fun j G5 => Pp K G4 D (acc.take j) G5) (Pp.start hD) (fun j G5 _ pp => pp.s.seq (SqL.of htv)) ?_ ?_
  · intro j v G5 hv pp
    have hj : j < tv.length := (List.getElem?_eq_some_iff.mp hv).1
    obtain ⟨p', hp'⟩ : ∃ p', acc[j]? = some p' := ⟨acc[j]'(by omega), List.getElem?_eq_getElem (by omega)⟩
    obtain ⟨u, rfl, hu, _⟩ := Paired.get hrows hv hp'
    refine ⟨rfl, tyes ?_⟩
    refine ⟨_, rfl, u, _, rfl, .inl ⟨SqL.of (pp.s _ _ hu), fun t ht => ?_⟩⟩
    have p5 := pp.new ht (.tup ((prL p').map V.str))
    obtain ⟨ac, hac, hpr⟩ := id p5.v
    have hlen := Paired.length hpr
    rw [List.length_take] at hlen
    refine ⟨ac, hac, (by rw [sizeLine_eq]; omega), ?_⟩
    have tk : acc.take (j + 1) = acc.take j ++ [p'] := by rw [List.take_succ, hp']; rfl
    rw [tk]
    exact p5.add hD hac ⟨t, rfl, SqT.of upd_same⟩
  intro G5 p5
  rw [la, List.take_length] at p5
  obtain ⟨vs, hvs, hps⟩ := p5.v
  refine ⟨D, vs, acc, rfl, SqL.of hvs, hps, fun vs' ps' sl2 hps' perm2 srt2 hsl2 => ⟨sl2, _, rfl, .inl ⟨SqL.of upd_same, fun ta hta => ⟨(by show 2 ≤ sizeLine; decide), fun r hr' => ?_⟩⟩⟩⟩
  have s6 := (same_new hsl2 (.lst vs')).trans ((same_new hta (.tup vs')).trans (same_new hr' (.tup [V.ref na, V.ref ta])))
  exact q _ _ erd r names ps' _ (s4.trans (p5.s.trans s6)) ⟨na, ta, vs', SqT.of upd_same, SqT.of (s6 _ _ (p5.s _ _ e4)), SqT.of (by rw [upd_ne (ne_of_none upd_same hr')]; exact upd_same), hps'.same s6⟩ perm (strict srt (perm.nodup_iff.mpr ndw)) perm2 (asc_of srt2 (perm2.nodup_iff.mpr ndp))
end
end K02

namespace K02
open PySem L2 Wd Wm Tm Km Ym
section
variable {P : Program} {w : World} {K : PySem.W.Frag} {mg : Str → Option Value} {base : Heap}
/-! ### _law_caught -/
def spCaught (K : PySem.W.Frag) (aW : Addr) : Sp := fun vs H Q _ => ∃ (y dx : Addr) (k : Nat), vs = [.ref y] ∧ H y = some (.ext (IsEx y aW (some dx))) ∧ H dx = some (.xd [("row", .int (k : Nat))]) ∧ k ≤ 1000001 ∧
  ∀ (r : Addr) (H' : Hp), Same H H' → H' r = some (.tup [.str "web", .int (k : Nat)]) → Q (.ref r) H'
theorem sc_caught : FnScope ["e", "kinds"] ["e"] (defScope s_law_caught) := ⟨rfl, rfl, rfl, by decide +kernel, rfl, by decide +kernel, by decide +kernel⟩
theorem ok_caught {f : Addr} {fd : FuncData} {a_SetError a_NoRow a_NoAsk a_NoName a_NoWeb : Addr} (F : Fun K "_law_caught" "_law_caught" s_law_caught f fd) (T : Tx mg) (TV : mg "ValueError" = none) (C : Exn P K mg a_SetError a_NoRow a_NoAsk a_NoName a_NoWeb) :
    FnOk P w K mg base CX0 1 f fd ["e"] (spCaught K a_NoWeb) := by
  have nd := sc_caught.nd
  have m_NoRow := C.mR
  have m_NoAsk := C.mA
  have m_NoName := C.mN
  have m_NoWeb := C.mW
  refine F.ok sc_caught (fun vs H Q E h => ?_) (fun cdv A outer s H vs Q E hr h => ?_)
  · obtain ⟨y, dx, x, rfl, _⟩ := h
    rfl
  obtain ⟨y, dx, k, rfl, hy, hd, hk, q⟩ := h
  have ru : ∀ (a : Addr) (u' : Value), RelV (.ref a) u' → u' = .ref a := fun a u' r => r
  refine SB.use (bcons
  (bset (n := 1) nd rfl (Or.inl (by kernel_rfl)) (elst (acons (ecallB cr_isXd (by unfold Gl; kernel_rfl) T.isinstance L2.boot_isinstance (acons (ev 0 rfl (Or.inl (by kernel_rfl)) (by kernel_rfl) (by kernel_rfl)) (acons (eglob (by unfold Gl; kernel_rfl) m_NoAsk (v := .ref a_NoAsk) rfl (by kernel_rfl)) anil (by kernel_rfl)) (by kernel_rfl)) (by decide +kernel) (by kernel_rfl) (by kernel_rfl) (by kernel_rfl)) (acons (ecallB cr_isXd (by unfold Gl; kernel_rfl) T.isinstance L2.boot_isinstance (acons (ev 0 rfl (Or.inl (by kernel_rfl)) (by kernel_rfl) (by kernel_rfl)) (acons (eglob (by unfold Gl; kernel_rfl) m_NoName (v := .ref a_NoName) rfl (by kernel_rfl)) anil (by kernel_rfl)) (by kernel_rfl)) (by decide +kernel) (by kernel_rfl) (by kernel_rfl) (by kernel_rfl)) (acons (ecallB cr_isXd (by unfold Gl; kernel_rfl) T.isinstance L2.boot_isinstance (acons (ev 0 rfl (Or.inl (by kernel_rfl)) (by kernel_rfl) (by kernel_rfl)) (acons (eglob (by unfold Gl; kernel_rfl) m_NoRow (v := .ref a_NoRow) rfl (by kernel_rfl)) anil (by kernel_rfl)) (by kernel_rfl)) (by decide +kernel) (by kernel_rfl) (by kernel_rfl) (by kernel_rfl)) (acons (ecallB cr_isXd (by unfold Gl; kernel_rfl) T.isinstance L2.boot_isinstance (acons (ev 0 rfl (Or.inl (by kernel_rfl)) (by kernel_rfl) (by kernel_rfl)) (acons (eglob (by unfold Gl; kernel_rfl) m_NoWeb (v := .ref a_NoWeb) rfl (by kernel_rfl)) anil (by kernel_rfl)) (by kernel_rfl)) (by decide +kernel) (by kernel_rfl) (by kernel_rfl) (by kernel_rfl)) anil (by kernel_rfl)) (by kernel_rfl)) (by kernel_rfl)) (by kernel_rfl))) (by kernel_rfl) (.inl rfl))
  (bcons
  (bifs (tw (wor (tnot (tval (ecallB cr_isXd (by unfold Gl; kernel_rfl) T.isinstance L2.boot_isinstance (acons (ev 0 rfl (Or.inl (by kernel_rfl)) (by kernel_rfl) (by kernel_rfl)) (acons (ebltn (v := .ty "ValueError") (by unfold Gl; kernel_rfl) TV boot_ValueError rfl (by decide +kernel) (by kernel_rfl)) anil (by kernel_rfl)) (by kernel_rfl)) (by decide +kernel) (by kernel_rfl) (by kernel_rfl) (by kernel_rfl)) (by intro _; rfl))) (wor1 (tcmp op_ne (ebm PySem.F.plainAttrs_list PySem.F.slot_list_count PySem.F.type_list_count mt_countB (ev 1 rfl (Or.inl (by kernel_rfl)) (by kernel_rfl) (by kernel_rfl)) (acons ebl anil (by kernel_rfl)) (by kernel_rfl) (by kernel_rfl) (by kernel_rfl) (by kernel_rfl) (by kernel_rfl)) eint (nomark _))))) (bone
  (bret (etup (acons estr (acons eint anil (by kernel_rfl)) (by kernel_rfl))))) bnil)
  (bcons
  (bifs (tval (eix ix_list (ev 1 rfl (Or.inl (by kernel_rfl)) (by kernel_rfl) (by kernel_rfl)) eint (fun _ _ => rfl)) (by intro _; rfl)) (bone
  (bret (etup (acons estr (acons (exw (ev 0 rfl (Or.inl (by kernel_rfl)) (by kernel_rfl) (by kernel_rfl)) (by kernel_rfl)) anil (by kernel_rfl)) (by kernel_rfl))))) bnil)
  (bcons
  (bifs (tval (eix ix_list (ev 1 rfl (Or.inl (by kernel_rfl)) (by kernel_rfl) (by kernel_rfl)) eint (fun _ _ => rfl)) (by intro _; rfl)) (bone
  (bret (etup (acons estr (acons (exw (ev 0 rfl (Or.inl (by kernel_rfl)) (by kernel_rfl) (by kernel_rfl)) (by kernel_rfl)) anil (by kernel_rfl)) (by kernel_rfl))))) bnil)
  (bone
  (bret (etup (acons (eix ix_list (elst (acons estr (acons estr (acons estr anil (by kernel_rfl)) (by kernel_rfl)) (by kernel_rfl))) (ebm PySem.F.plainAttrs_list PySem.F.slot_list_index PySem.F.type_list_index mt_index (ev 1 rfl (Or.inl (by kernel_rfl)) (by kernel_rfl) (by kernel_rfl)) (acons ebl anil (by kernel_rfl)) (by kernel_rfl) (by kernel_rfl) (by kernel_rfl) (by kernel_rfl) (by kernel_rfl)) (fun _ _ => rfl)) (acons eint anil (by kernel_rfl)) (by kernel_rfl))))))))) ?_
  refine ⟨_, rfl, y, a_NoWeb, dx, _, _, _, .ref a_NoAsk, false, rfl, hy, hd, C.xW, C.eW, ru _, C.iA, ?_⟩
  refine ⟨_, rfl, y, a_NoWeb, dx, _, _, _, .ref a_NoName, false, rfl, hy, hd, C.xW, C.eW, ru _, C.iN, ?_⟩
  refine ⟨_, rfl, y, a_NoWeb, dx, _, _, _, .ref a_NoRow, false, rfl, hy, hd, C.xW, C.eW, ru _, C.iR, ?_⟩
  refine ⟨_, rfl, y, a_NoWeb, dx, _, _, _, .ref a_NoWeb, true, rfl, hy, hd, C.xW, C.eW, ru _, C.iW, ?_⟩
  refine ⟨(by show 4 ≤ sizeLine; decide), fun kl hkl => ?_⟩
  have s1 := same_new hkl (.lst ([false, false, false, true].map V.bl))
  have hy1 := s1 _ _ hy
  have hd1 := s1 _ _ hd
  have ekl : (upd H kl (.lst ([false, false, false, true].map V.bl))) kl = some (.lst ([false, false, false, true].map V.bl)) := upd_same
  show tSeq _ _ _ _ (upd H kl (.lst ([false, false, false, true].map V.bl)))
  generalize upd H kl (.lst ([false, false, false, true].map V.bl)) = H1 at s1 hy1 hd1 ekl
  refine ⟨_, rfl, y, a_NoWeb, dx, _, _, _, .type "ValueError", true, rfl, hy1, hd1, C.xW, C.eW, (fun u' r => r), C.iV, _, rfl, iteF ?_⟩
  have ec : (!decide (V.int ((([false, false, false, true].count true : Nat)) : Int) = V.int 1)) = false := by decide
  refine ⟨_, rfl, .inl ⟨rfl, _, SqL.of ekl⟩, kl, [false, false, false, true], true, rfl, rfl, SqL.of ekl, rfl, _, rfl, ?_⟩
  show if (!decide (V.int ((([false, false, false, true].count true : Nat)) : Int) = V.int 1)) = true then _ else _
  rw [ec]
  refine iteF ?_
  refine ⟨_, rfl, kl, _, _, _, rfl, rfl, SqL.of ekl, rfl, _, rfl, iteF ?_⟩
  refine ⟨_, rfl, kl, _, _, _, rfl, rfl, SqL.of ekl, rfl, _, rfl, iteT ?_⟩
  refine ⟨_, rfl, y, a_NoWeb, dx, _, .int (k : Nat), rfl, hy1, hd1, C.eW, C.wW, rfl, kept_nat hk, (by show 2 ≤ sizeLine; decide), fun r hr' => ?_⟩
  exact q r _ (s1.trans (same_new hr' _)) upd_same
end
end K02

namespace K02
open PySem L2 Wd Wm Tm Km Ym
section
variable {P : Program} {w : World} {K : PySem.W.Frag} {mg : Str → Option Value} {base : Heap}
def spRight (K : PySem.W.Frag) : Sp := fun vs H Q _ => ∃ text : Str, vs = [.str text] ∧ text.length ≤ 15000 ∧ ∀ H', Same H H' → Q (.bl true) H'
theorem sc_right : FnScope ["text", "due", "again", "caught", "found", "e"] ["text"] (defScope s_law_right) := ⟨rfl, rfl, rfl, by decide +kernel, rfl, by decide +kernel, by decide +kernel⟩
/-- what is due -/
def Due (K : PySem.W.Frag) (text : Str) (da : Addr) (H : Hp) : Prop := (∃ ws ps names ties, rd text = .inr (ws, ps) ∧ WebAt K H da names ties ∧ names.Perm ws ∧ names.Pairwise sLt ∧ ties.Perm ps ∧ Asc ties) ∨ ∃ k : Nat, rd text = .inl k ∧ SqT K H da [.str "web", .int (k : Nat)]
theorem Due.same {text : Str} {da : Addr} {H H' : Hp} (h : Due K text da H) (s : Same H H') : Due K text da H' := h.imp (fun ⟨ws, ps, n, t, e, z, r⟩ => ⟨ws, ps, n, t, e, z.keep s.keepT, r⟩) fun ⟨k, e, z⟩ => ⟨k, e, s.seqT z⟩
theorem due_eq {text : Str} {da fa : Addr} {H : Hp} (h : Due K text da H) (k : Due K text fa H) : Eqd K H 4 (.ref fa) (.ref da) := by
  rcases h with ⟨ws, ps, n, t, e, z, p1, p2, p3, p4⟩ | ⟨j, e, z⟩ <;> rcases k with ⟨ws', ps', n', t', e', z', q1, q2, q3, q4⟩ | ⟨j', e', z'⟩
  · rw [e] at e'
    injection e' with e'
    injection e' with e1 e2
    subst e1 e2
    have en : n' = n := (q1.trans p1.symm).eq_of_pairwise (fun x y _ _ h1 h2 => absurd (sLt_trans h1 h2) (sLt_irr _)) q2 p2
    have et : t' = t := asc_ext q4 p4 fun p => (q3.trans p3.symm).mem_iff
    subst en et
    exact z'.eqd z
  · rw [e] at e'; cases e'
  · rw [e] at e'; cases e'
  · rw [e] at e'
    injection e' with e1
    subst e1
    exact .inr ⟨fa, da, _, _, rfl, rfl, z', z, .cons (.inl (.inl ⟨_, rfl, rfl⟩)) (.cons (.inl (.inr ⟨_, rfl, rfl⟩)) .nil)⟩
theorem rd_bound {text : Str} {k : Nat} (h : rd text = .inl k) (hl : text.length ≤ 15000) : k ≤ 1000001 := by
  obtain ⟨hne, hsl, hsr⟩ := split_nl text
  unfold rd at h
  split at h
  · injection h with h; omega
  · rename_i row0 rows hsp
    rw [hsp, List.length_cons] at hsl
    split at h
    · split at h
      · rename_i j hj
        injection h with h
        have := rd_le hj
        omega
      · cases h
    · injection h with h; omega
theorem ok_right {f : Addr} {fd : FuncData} {a_SetError a_NoRow a_NoAsk a_NoName a_NoWeb : Addr} (F : Fun K "_law_right" "_law_right" s_law_right f fd) (T : Tx mg) (C : Exn P K mg a_SetError a_NoRow a_NoAsk a_NoName a_NoWeb) (oL : Own P w K mg base 2 "_law_read" ["text"] (spLRead K)) (oC : Own P w K mg base 1 "_law_caught" ["e"] (spCaught K a_NoWeb)) (oS : Own P w K mg base 4 "_law_same" ["found", "due"] (spSame K 4))
    (oR : OwnX P w K mg base 3 "read_web" ["text"] (spRead K a_NoWeb)) : FnOk P w K mg base CX0 5 f fd ["text"] (spRight K) := by
  have nd := sc_right.nd
  obtain ⟨f1, fd1, G_law_read, b_law_read, k_law_read, m_law_read⟩ := oL
  obtain ⟨f4, fd4, G_law_caught, b_law_caught, k_law_caught, m_law_caught⟩ := oC
  obtain ⟨f5, fd5, G_law_same, b_law_same, k_law_same, m_law_same⟩ := oS
  obtain ⟨f6, fd6, G_read_web, b_read_web, k_read_web, m_read_web⟩ := oR
  have m_SetError := C.mS
  have hS_SetError := C.xS
  refine F.ok sc_right (fun vs H Q E h => ?_) (fun cdv A outer s H vs Q E hr h => ?_)
  · obtain ⟨text, rfl, _⟩ := h
    rfl
  have hr_law_same := hr
  have hr_read_web := hr.mono (j := 3) (by decide)
  have hr_law_read := hr.mono (j := 2) (by decide)
  have hr_law_caught := hr.mono (j := 1) (by decide)
  obtain ⟨text, rfl, hlen, q⟩ := h
  refine SB.use (bcons
  (bifs (tcmp op_gt (ecallB call_len_seq (by unfold Gl; kernel_rfl) T.len L2.boot_len (acons (esplit (eix ix_list (esplit (ev 0 rfl (Or.inl (by kernel_rfl)) (by kernel_rfl) (by kernel_rfl)) estr (by kernel_rfl) (by kernel_rfl) (by kernel_rfl)) eint (fun _ _ => rfl)) estr (by kernel_rfl) (by kernel_rfl) (by kernel_rfl)) anil (by kernel_rfl)) (by decide +kernel) (by kernel_rfl) (by kernel_rfl) (by kernel_rfl)) eint (nomark _)) (bone
  (bret ebl)) bnil)
  (bcons
  (bset (n := 1) nd rfl (Or.inl (by kernel_rfl)) (ecall G_law_read hr_law_read (by unfold Gl; kernel_rfl) m_law_read k_law_read b_law_read .nil pass0 (acons (ev 0 rfl (Or.inl (by kernel_rfl)) (by kernel_rfl) (by kernel_rfl)) anil (by kernel_rfl)) (by kernel_rfl) (by kernel_rfl) (by kernel_rfl)) (by kernel_rfl) (.inl rfl))
  (bcons
  (bifs (tval (ecallB cr_isi (by unfold Gl; kernel_rfl) T.isinstance L2.boot_isinstance (acons (ev 1 rfl (Or.inl (by kernel_rfl)) (by kernel_rfl) (by kernel_rfl)) (acons (ebltn (v := .ty "int") (by unfold Gl; kernel_rfl) T.int L2.boot_int rfl (by decide +kernel) (by kernel_rfl)) anil (by kernel_rfl)) (by kernel_rfl)) (by decide +kernel) (by kernel_rfl) (by kernel_rfl) (by kernel_rfl)) (by intro _; rfl)) (bone
  (bset (n := 1) nd rfl (Or.inl (by kernel_rfl)) (etup (acons estr (acons (ev 1 rfl (Or.inl (by kernel_rfl)) (by kernel_rfl) (by kernel_rfl)) anil (by kernel_rfl)) (by kernel_rfl))) (by kernel_rfl) (.inl rfl))) bnil)
  (bcons
  (bfor PassesOwn.never rfl (irange1 (by unfold Gl; kernel_rfl) T.range (acons eint anil (by kernel_rfl)) (by kernel_rfl)) (gname (n := 2) nd rfl (Or.inl (by kernel_rfl)) (.inl rfl)) (bcons
  (bset (n := 3) nd rfl (Or.inl (by kernel_rfl)) enon (by kernel_rfl) (.inl rfl))
  (bcons
  (bset (n := 4) nd rfl (Or.inl (by kernel_rfl)) enon (by kernel_rfl) (.inl rfl))
  (bcons
  (btry (n := 4) (ie := 5) G_read_web hr_read_web (by unfold Gl; kernel_rfl) m_read_web k_read_web b_read_web (acons (ev 0 rfl (Or.inl (by kernel_rfl)) (by kernel_rfl) (by kernel_rfl)) anil (by kernel_rfl)) (by kernel_rfl) (by kernel_rfl) (by kernel_rfl) rfl rfl rfl nd rfl (Or.inl (by kernel_rfl)) (.inl rfl) (by kernel_rfl) hS_SetError (by decide) (by unfold Gl; kernel_rfl) m_SetError (by kernel_rfl) rfl (by kernel_rfl) (fun _ => (bone
  (bset (n := 3) nd rfl (Or.inl (by kernel_rfl)) (ev 5 rfl (Or.inl (by kernel_rfl)) (by kernel_rfl) (by kernel_rfl)) (by kernel_rfl) (.inl rfl)))))
  (bcons
  (bifs (tcmp op_notN (ev 3 rfl (Or.inl (by kernel_rfl)) (by kernel_rfl) (by kernel_rfl)) enon (nomark _)) (bone
  (bset (n := 4) nd rfl (Or.inl (by kernel_rfl)) (ecall G_law_caught hr_law_caught (by unfold Gl; kernel_rfl) m_law_caught k_law_caught b_law_caught .nil pass0 (acons (ev 3 rfl (Or.inl (by kernel_rfl)) (by kernel_rfl) (by kernel_rfl)) anil (by kernel_rfl)) (by kernel_rfl) (by kernel_rfl) (by kernel_rfl)) (by kernel_rfl) (.inl rfl))) bnil)
  (bone
  (bifs (tnot (tval (ecall G_law_same hr_law_same (by unfold Gl; kernel_rfl) m_law_same k_law_same b_law_same .nil pass0 (acons (ev 4 rfl (Or.inl (by kernel_rfl)) (by kernel_rfl) (by kernel_rfl)) (acons (ev 1 rfl (Or.inl (by kernel_rfl)) (by kernel_rfl) (by kernel_rfl)) anil (by kernel_rfl)) (by kernel_rfl)) (by kernel_rfl) (by kernel_rfl) (by kernel_rfl)) (by intro _; rfl))) (bone
  (bret ebl)) bnil)))))) (by intro _; rfl))
  (bone
  (bret ebl)))))) ?_
  obtain ⟨hne, hsl, hsr⟩ := split_nl text
  obtain ⟨row0, rows, hsp⟩ : ∃ row0 rows, Txt.split text "\n" = row0 :: rows := by
    cases hsp : Txt.split text "\n" with
    | nil => exact absurd hsp hne
    | cons row0 rows => exact ⟨_, _, rfl⟩
  have l0 : row0.length ≤ text.length := hsr row0 (by rw [hsp]; exact List.mem_cons_self ..)
  have l1 := split_sp row0
  -- len(..) > 14
  refine ⟨_, rfl, ⟨_, rfl⟩, _, _, rfl, rfl, (by decide +kernel), (by rw [sizeLine_eq]; omega), fun rl hrl => ?_⟩
  have s1 : Same H (upd H rl (.lst ((Txt.split text "\n").map V.str))) := same_new hrl _
  have e1 : (upd H rl (.lst ((Txt.split text "\n").map V.str))) rl = some (.lst (.str row0 :: rows.map V.str)) := by rw [upd_same, hsp]; rfl
  refine ⟨rl, _, _, _, rfl, rfl, SqL.of e1, at0, ⟨row0, rfl⟩, row0, _, rfl, rfl, (by decide +kernel), (by rw [sizeLine_eq]; omega), fun wl hwl => ?_⟩
  have s2 := s1.trans (same_new hwl (.lst ((Txt.split row0 " ").map V.str)))
  refine ⟨wl, _, rfl, .inl (SqL.of upd_same), _, _, rfl, rfl, _, rfl, ?_⟩
  generalize upd (upd H rl (.lst ((Txt.split text "\n").map V.str))) wl (.lst ((Txt.split row0 " ").map V.str)) = H2 at s2
  rw [List.length_map]
  refine ite2 (fun c => q H2 s2) (fun c => ?_)
  have h14 : ∀ r0 rs, Txt.split text "\n" = r0 :: rs → (Txt.split r0 " ").length ≤ 14 := fun r0 rs e => by
    rw [hsp] at e
    injection e with e1 e2
    subst e1
    have : ¬ (14 : Int) < ((Txt.split row0 " ").length : Int) := fun z => c (decide_eq_true z)
    omega
  refine ⟨_, rfl, text, rfl, hlen, h14, fun ws ps e da names ties H3 s3 wat p1 p2 p3 p4 => ?web, fun k e H3 s3 => ?no⟩
  case' web =>
    obtain ⟨na, ta, tv, h1, h2, h3, h4⟩ := wat.at_
    refine ⟨_, rfl, _, "tuple", "int", rfl, ⟨rfl, _, h1⟩, .inr (.inr (.inl rfl)), _, rfl, ite2 (fun h => absurd h (by decide)) (fun _ => ?_)⟩
    have due : Due K text da H3 := .inl ⟨ws, ps, names, ties, e, wat, p1, p2, p3, p4⟩
    have st := s2.trans s3
    generalize H3 = H4 at due st
  case' no =>
    refine ⟨_, rfl, _, "int", "int", rfl, rfl, .inr (.inr (.inl rfl)), _, rfl, ite2 (fun _ => ?_) (fun h => absurd (by decide) h)⟩
    refine ⟨_, rfl, (by show 2 ≤ sizeLine; decide), fun da hda => ?_⟩
    have due : Due K text da (upd H3 da (.tup [.str "web", .int (k : Nat)])) := .inr ⟨k, e, SqT.of upd_same⟩
    have st := (s2.trans s3).trans (same_new hda (.tup [.str "web", .int (k : Nat)]))
    show tSeq _ _ _ _ (upd H3 da (.tup [.str "web", .int (k : Nat)]))
    generalize upd H3 da (.tup [.str "web", .int (k : Nat)]) = H4 at due st ⊢
  all_goals
    refine ⟨_, rfl, by decide, by decide, ?_⟩
    refine for_range (lo := 0) (fun i σ G => ∃ (x2 x3 x4 x5 : Option V), σ = [some (.str text), some (.ref da), x2, x3, x4, x5] ∧ Same H4 G) ⟨_, _, _, _, rfl, Same.refl H4⟩ ?_ ?_
    · rintro i σ G hi ⟨x2, x3, x4, x5, rfl, sg⟩
      have sG := st.trans sg
      have dueG := due.same sg
      refine ⟨_, rfl, text, rfl, hlen, h14, fun ws ps e fa names ties G1 g1 wat p1 p2 p3 p4 => ?_, fun k e y dx G1 g1 hy hd ne => ?_⟩
      · refine ⟨_, rfl, rfl, _, rfl, ?_⟩
        show if (!decide (V.non = V.non)) = true then _ else _
        rw [decide_eq_true rfl]
        refine iteF ?_
        refine ⟨_, rfl, _, rfl, .ref fa, .ref da, rfl, due_eq (dueG.same g1) (.inl ⟨ws, ps, names, ties, e, wat, p1, p2, p3, p4⟩), fun G3 g3 => ⟨_, rfl, iteF ?_⟩⟩
        exact ⟨_, _, _, _, rfl, sg.trans (g1.trans g3)⟩
      · have hy' : (upd G1 dx (.xd [("row", .int (k : Nat))])) y = none := by rw [upd_ne ne.symm]; exact hy
        have g2 := g1.trans ((same_new hd (.xd [("row", .int (k : Nat))])).trans (same_new hy' (.ext (IsEx y a_NoWeb (some dx)))))
        refine ⟨a_NoWeb, y, _, rfl, rfl, C.xW, (by simp), ?_⟩
        refine ⟨_, rfl, ?_⟩
        refine ⟨_, rfl, rfl, _, rfl, ?_⟩
        show if (!decide (V.ref y = V.non)) = true then _ else _
        rw [show (!decide (V.ref y = V.non)) = true from by simp]
        refine iteT ?_
        refine ⟨_, rfl, y, dx, k, rfl, upd_same, by rw [upd_ne ne]; exact upd_same, rd_bound e hlen, fun ca G3 g3 ec => ?_⟩
        refine ⟨_, rfl, _, rfl, .ref ca, .ref da, rfl, due_eq (dueG.same (g2.trans g3)) (.inr ⟨k, e, SqT.of ec⟩), fun G4 g4 => ⟨_, rfl, iteF ?_⟩⟩
        exact ⟨_, _, _, _, rfl, sg.trans (g2.trans (g3.trans g4))⟩
    · rintro σ G ⟨x2, x3, x4, x5, rfl, sg⟩
      exact q _ (st.trans sg)
end
end K02

namespace K02
open PySem L2 Wd Wm Tm Km Ym
section
variable {P : Program} {w : World} {K : PySem.W.Frag} {mg : Str → Option Value} {base : Heap}
def wide1 : Str := " !\"#$&'()*+,-./0123456789:;<=>?@ABCDEFGHIJKLMNOP"
def wide2 : Str := "QRSTUVWXYZ[\\]^_`abcdefghijklmnopqrstuvwxyz{|}~\n"
def few1 : Str := "abz  \n\nAQ0-"
def signMenu : List Str := [few1, wide1 ++ wide2]
theorem menu_ok : ∀ x ∈ signMenu, 1 ≤ x.length ∧ x.length ≤ 1000 := by decide +kernel
theorem at_sign {x : Str} {r : Int} (h0 : 0 ≤ r) (h1 : r < (x.length : Int)) : ∃ k, atI x.cps.toList r = some k := by
  obtain ⟨k, rfl⟩ := Int.eq_ofNat_of_zero_le h0
  have hk : k < x.cps.toList.length := by have : x.length = x.cps.toList.length := rfl; omega
  exact ⟨x.cps.toList[k], atI_nat (List.getElem?_eq_getElem hk)⟩
def spSign : Sp := fun vs H Q _ => ∃ (d c : Addr), vs = [.ref d] ∧ Deck H d c ∧ ∀ (x : Str) (H' : Hp), x.length = 1 → Stp d c H H' → Q (.str x) H'
theorem sc_sign : FnScope ["deck", "wide", "menu"] ["deck"] (defScope s_law_sign) := ⟨rfl, rfl, rfl, by decide +kernel, rfl, by decide +kernel, by decide +kernel⟩
theorem ok_sign {f : Addr} {fd : FuncData} (F : Fun K "_law_sign" "_law_sign" s_law_sign f fd) (T : Tx mg) (oT : Own P w K mg base 1 "_law_take" ["deck", "many"] spTake) : FnOk P w K mg base CX0 2 f fd ["deck"] spSign := by
  have nd := sc_sign.nd
  obtain ⟨ft, fdt, G_law_take, b_law_take, k_law_take, m_law_take⟩ := oT
  refine F.ok sc_sign (fun vs H Q E h => ?_) (fun cdv A outer s H vs Q E hr h => ?_)
  · obtain ⟨d, c, rfl, _⟩ := h
    rfl
  have hr_law_take := hr
  obtain ⟨d, c, rfl, Dk, q⟩ := h
  refine SB.use (bcons
  (bset (n := 1) nd rfl (Or.inl (by kernel_rfl)) estr (by kernel_rfl) (.inl rfl))
  (bcons
  (bset (n := 1) nd rfl (Or.inl (by kernel_rfl)) (eop op_add_str (ev 1 rfl (Or.inl (by kernel_rfl)) (by kernel_rfl) (by kernel_rfl)) estr) (by kernel_rfl) (.inl rfl))
  (bcons
  (bset (n := 2) nd rfl (Or.inl (by kernel_rfl)) (eix ix_list (elst (acons estr (acons (ev 1 rfl (Or.inl (by kernel_rfl)) (by kernel_rfl) (by kernel_rfl)) anil (by kernel_rfl)) (by kernel_rfl))) (ecall G_law_take hr_law_take (by unfold Gl; kernel_rfl) m_law_take k_law_take b_law_take .nil pass0 (acons (ev 0 rfl (Or.inl (by kernel_rfl)) (by kernel_rfl) (by kernel_rfl)) (acons eint anil (by kernel_rfl)) (by kernel_rfl)) (by kernel_rfl) (by kernel_rfl) (by kernel_rfl)) (fun _ _ => rfl)) (by kernel_rfl) (.inl rfl))
  (bone
  (bret (eix ix_str (ev 2 rfl (Or.inl (by kernel_rfl)) (by kernel_rfl) (by kernel_rfl)) (ecall G_law_take hr_law_take (by unfold Gl; kernel_rfl) m_law_take k_law_take b_law_take .nil pass0 (acons (ev 0 rfl (Or.inl (by kernel_rfl)) (by kernel_rfl) (by kernel_rfl)) (acons (ecallB call_len_str (by unfold Gl; kernel_rfl) T.len L2.boot_len (acons (ev 2 rfl (Or.inl (by kernel_rfl)) (by kernel_rfl) (by kernel_rfl)) anil (by kernel_rfl)) (by decide +kernel) (by kernel_rfl) (by kernel_rfl) (by kernel_rfl)) anil (by kernel_rfl)) (by kernel_rfl)) (by kernel_rfl) (by kernel_rfl) (by kernel_rfl)) (fun _ _ => rfl))))))) ?_
  refine ⟨_, rfl, wide1, wide2, rfl, rfl, (by decide +kernel), ?_⟩
  refine ⟨_, rfl, (by show 2 ≤ sizeLine; decide), fun ml hml => ?_⟩
  have st1 : Stp d c H (upd H ml (.lst (signMenu.map V.str))) := (Stp.refl Dk).new hml _
  have e1 : (upd H ml (.lst (signMenu.map V.str))) ml = some (.lst (signMenu.map V.str)) := upd_same
  refine ⟨_, rfl, d, c, 2, rfl, st1.dk, by decide, by decide, fun r1 H1 r10 r11 st2 => ?_⟩
  have e2 := st2.k _ _ e1 (Dk.nd hml).1 (Dk.nd hml).2
  obtain ⟨menu, hat, mem⟩ := at_strs (xs := signMenu) r10 r11
  have mo := menu_ok menu mem
  have st3 := st1.trans st2
  refine ⟨ml, _, _, _, rfl, rfl, SqL.of e2, hat, ?_⟩
  refine ⟨_, rfl, _, rfl, _, rfl, _, rfl, sl1000 (by omega), d, c, _, rfl, st3.dk, by omega, by omega, fun r2 H2 r20 r21 st4 => ?_⟩
  obtain ⟨k, hk⟩ := at_sign r20 r21
  exact ⟨_, _, _, rfl, rfl, sl1000 (by omega), hk, q _ _ (sign_len k) (st3.trans st4)⟩
end
end K02

namespace K02
open PySem L2 Wd Wm Tm Km Ym
theorem nl1 : ("\n" : Str).length = 1 := by decide +kernel
theorem sp1 : (" " : Str).length = 1 := by decide +kernel
theorem map_erase {α β : Type} (f : α → β) : ∀ (l : List α) (k : Nat), (l.map f).eraseIdx k = (l.eraseIdx k).map f
  | [], _ => rfl
  | x :: r, 0 => rfl
  | x :: r, k + 1 => by
    rw [List.map_cons, List.eraseIdx_cons_succ, List.eraseIdx_cons_succ, map_erase f r k]
    rfl
theorem join_fit {y : Str} (hy : y.length = 1) {ws : List Str} {n : Nat} (h : totL ws ≤ n) (hn : n ≤ 1000000) : (ws.map (·.length)).sum + ws.length * y.length ≤ 16777216 := by
  unfold totL at h
  rw [hy]
  omega
section
variable {P : Program} {w : World} {K : PySem.W.Frag} {mg : Str → Option Value} {base : Heap}
def spSpoilt : Sp := fun vs H Q _ => ∃ (d c : Addr) (text : Str), vs = [.ref d, .str text] ∧ Deck H d c ∧ text.length ≤ 5000 ∧ ∀ (x : Str) (H' : Hp), x.length ≤ 3 * text.length + 20 → Stp d c H H' → Q (.str x) H'
theorem sc_spoilt : FnScope ["deck", "text", "at", "way", "rows", "one", "words", "odd", "some"] ["deck", "text"] (defScope s_law_spoilt) := ⟨rfl, rfl, rfl, by decide +kernel, rfl, by decide +kernel, by decide +kernel⟩
theorem ok_spoilt {f : Addr} {fd : FuncData} (F : Fun K "_law_spoilt" "_law_spoilt" s_law_spoilt f fd) (T : Tx mg) (oT : Own P w K mg base 1 "_law_take" ["deck", "many"] spTake) (oS : Own P w K mg base 2 "_law_sign" ["deck"] spSign) : FnOk P w K mg base CX0 3 f fd ["deck", "text"] spSpoilt := by
  have nd := sc_spoilt.nd
  obtain ⟨ft, fdt, G_law_take, b_law_take, k_law_take, m_law_take⟩ := oT
  obtain ⟨fs, fds, G_law_sign, b_law_sign, k_law_sign, m_law_sign⟩ := oS
  refine F.ok sc_spoilt (fun vs H Q E h => ?_) (fun cdv A outer s H vs Q E hr h => ?_)
  · obtain ⟨d, c, text, rfl, _⟩ := h
    rfl
  have hr_law_sign := hr
  have hr_law_take := hr.mono (j := 1) (by decide)
  obtain ⟨d, c, text, rfl, Dk, hlen, q⟩ := h
  have sz : text.length ≤ sizeLine := by rw [sizeLine_eq]; omega
  refine SB.use (bcons
  (bset (n := 2) nd rfl (Or.inl (by kernel_rfl)) (ecall G_law_take hr_law_take (by unfold Gl; kernel_rfl) m_law_take k_law_take b_law_take .nil pass0 (acons (ev 0 rfl (Or.inl (by kernel_rfl)) (by kernel_rfl) (by kernel_rfl)) (acons (eop op_add (ecallB call_len_str (by unfold Gl; kernel_rfl) T.len L2.boot_len (acons (ev 1 rfl (Or.inl (by kernel_rfl)) (by kernel_rfl) (by kernel_rfl)) anil (by kernel_rfl)) (by decide +kernel) (by kernel_rfl) (by kernel_rfl) (by kernel_rfl)) eint) anil (by kernel_rfl)) (by kernel_rfl)) (by kernel_rfl) (by kernel_rfl) (by kernel_rfl)) (by kernel_rfl) (.inl rfl))
  (bcons
  (bset (n := 3) nd rfl (Or.inl (by kernel_rfl)) (ecall G_law_take hr_law_take (by unfold Gl; kernel_rfl) m_law_take k_law_take b_law_take .nil pass0 (acons (ev 0 rfl (Or.inl (by kernel_rfl)) (by kernel_rfl) (by kernel_rfl)) (acons eint anil (by kernel_rfl)) (by kernel_rfl)) (by kernel_rfl) (by kernel_rfl) (by kernel_rfl)) (by kernel_rfl) (.inl rfl))
  (bcons
  (bset (n := 4) nd rfl (Or.inl (by kernel_rfl)) (esplit (ev 1 rfl (Or.inl (by kernel_rfl)) (by kernel_rfl) (by kernel_rfl)) estr (by kernel_rfl) (by kernel_rfl) (by kernel_rfl)) (by kernel_rfl) (.inl rfl))
  (bcons
  (bset (n := 5) nd rfl (Or.inl (by kernel_rfl)) (ecall G_law_take hr_law_take (by unfold Gl; kernel_rfl) m_law_take k_law_take b_law_take .nil pass0 (acons (ev 0 rfl (Or.inl (by kernel_rfl)) (by kernel_rfl) (by kernel_rfl)) (acons (ecallB call_len_seq (by unfold Gl; kernel_rfl) T.len L2.boot_len (acons (ev 4 rfl (Or.inl (by kernel_rfl)) (by kernel_rfl) (by kernel_rfl)) anil (by kernel_rfl)) (by decide +kernel) (by kernel_rfl) (by kernel_rfl) (by kernel_rfl)) anil (by kernel_rfl)) (by kernel_rfl)) (by kernel_rfl) (by kernel_rfl) (by kernel_rfl)) (by kernel_rfl) (.inl rfl))
  (bcons
  (bifs (tcmp op_eq (ev 3 rfl (Or.inl (by kernel_rfl)) (by kernel_rfl) (by kernel_rfl)) eint (nomark _)) (bone
  (bret (eop op_add_str (eslice sl_str (ev 1 rfl (Or.inl (by kernel_rfl)) (by kernel_rfl) (by kernel_rfl)) onone (osome (ev 2 rfl (Or.inl (by kernel_rfl)) (by kernel_rfl) (by kernel_rfl)))) (eslice sl_str (ev 1 rfl (Or.inl (by kernel_rfl)) (by kernel_rfl) (by kernel_rfl)) (osome (eop op_add (ev 2 rfl (Or.inl (by kernel_rfl)) (by kernel_rfl) (by kernel_rfl)) eint)) onone)))) bnil)
  (bcons
  (bifs (tcmp op_eq (ev 3 rfl (Or.inl (by kernel_rfl)) (by kernel_rfl) (by kernel_rfl)) eint (nomark _)) (bone
  (bret (eop op_add_str (eop op_add_str (eslice sl_str (ev 1 rfl (Or.inl (by kernel_rfl)) (by kernel_rfl) (by kernel_rfl)) onone (osome (ev 2 rfl (Or.inl (by kernel_rfl)) (by kernel_rfl) (by kernel_rfl)))) (ecall G_law_sign hr_law_sign (by unfold Gl; kernel_rfl) m_law_sign k_law_sign b_law_sign .nil pass0 (acons (ev 0 rfl (Or.inl (by kernel_rfl)) (by kernel_rfl) (by kernel_rfl)) anil (by kernel_rfl)) (by kernel_rfl) (by kernel_rfl) (by kernel_rfl))) (eslice sl_str (ev 1 rfl (Or.inl (by kernel_rfl)) (by kernel_rfl) (by kernel_rfl)) (osome (ev 2 rfl (Or.inl (by kernel_rfl)) (by kernel_rfl) (by kernel_rfl))) onone)))) bnil)
  (bcons
  (bifs (tcmp op_eq (ev 3 rfl (Or.inl (by kernel_rfl)) (by kernel_rfl) (by kernel_rfl)) eint (nomark _)) (bone
  (bret (eop op_add_str (eop op_add_str (eslice sl_str (ev 1 rfl (Or.inl (by kernel_rfl)) (by kernel_rfl) (by kernel_rfl)) onone (osome (ev 2 rfl (Or.inl (by kernel_rfl)) (by kernel_rfl) (by kernel_rfl)))) (ecall G_law_sign hr_law_sign (by unfold Gl; kernel_rfl) m_law_sign k_law_sign b_law_sign .nil pass0 (acons (ev 0 rfl (Or.inl (by kernel_rfl)) (by kernel_rfl) (by kernel_rfl)) anil (by kernel_rfl)) (by kernel_rfl) (by kernel_rfl) (by kernel_rfl))) (eslice sl_str (ev 1 rfl (Or.inl (by kernel_rfl)) (by kernel_rfl) (by kernel_rfl)) (osome (eop op_add (ev 2 rfl (Or.inl (by kernel_rfl)) (by kernel_rfl) (by kernel_rfl)) eint)) onone)))) bnil)
  (bcons
  (bifs (tcmp op_eq (ev 3 rfl (Or.inl (by kernel_rfl)) (by kernel_rfl) (by kernel_rfl)) eint (nomark _)) (bone
  (bexpr (ebm PySem.F.plainAttrs_list PySem.F.slot_list_insert PySem.F.type_list_insert mt_insert (ev 4 rfl (Or.inl (by kernel_rfl)) (by kernel_rfl) (by kernel_rfl)) (acons (ecall G_law_take hr_law_take (by unfold Gl; kernel_rfl) m_law_take k_law_take b_law_take .nil pass0 (acons (ev 0 rfl (Or.inl (by kernel_rfl)) (by kernel_rfl) (by kernel_rfl)) (acons (eop op_add (ecallB call_len_seq (by unfold Gl; kernel_rfl) T.len L2.boot_len (acons (ev 4 rfl (Or.inl (by kernel_rfl)) (by kernel_rfl) (by kernel_rfl)) anil (by kernel_rfl)) (by decide +kernel) (by kernel_rfl) (by kernel_rfl) (by kernel_rfl)) eint) anil (by kernel_rfl)) (by kernel_rfl)) (by kernel_rfl) (by kernel_rfl) (by kernel_rfl)) (acons (eix ix_list (ev 4 rfl (Or.inl (by kernel_rfl)) (by kernel_rfl) (by kernel_rfl)) (ev 5 rfl (Or.inl (by kernel_rfl)) (by kernel_rfl) (by kernel_rfl)) (fun _ _ => rfl)) anil (by kernel_rfl)) (by kernel_rfl)) (by kernel_rfl) (by kernel_rfl) (by kernel_rfl) (by kernel_rfl) (by kernel_rfl)) (by kernel_rfl))) (bone
  (bifs (tcmp op_eq (ev 3 rfl (Or.inl (by kernel_rfl)) (by kernel_rfl) (by kernel_rfl)) eint (nomark _)) (bcons
  (basg (ejoin estr (erevL (esplit (eix ix_list (ev 4 rfl (Or.inl (by kernel_rfl)) (by kernel_rfl) (by kernel_rfl)) (ev 5 rfl (Or.inl (by kernel_rfl)) (by kernel_rfl) (by kernel_rfl)) (fun _ _ => rfl)) estr (by kernel_rfl) (by kernel_rfl) (by kernel_rfl)) (eun un_neg eint)) (by kernel_rfl) (by kernel_rfl) (by kernel_rfl)) (gsub (ev 4 rfl (Or.inl (by kernel_rfl)) (by kernel_rfl) (by kernel_rfl)) (ev 5 rfl (Or.inl (by kernel_rfl)) (by kernel_rfl) (by kernel_rfl)) set_list (by intro _; rfl)) (by kernel_rfl) (by kernel_rfl) (by kernel_rfl))
  (bone
  (bexpr (ebm PySem.F.plainAttrs_list PySem.F.slot_list_append PySem.F.type_list_append mt_append (ev 4 rfl (Or.inl (by kernel_rfl)) (by kernel_rfl) (by kernel_rfl)) (acons (eix ix_list (ev 4 rfl (Or.inl (by kernel_rfl)) (by kernel_rfl) (by kernel_rfl)) (ev 5 rfl (Or.inl (by kernel_rfl)) (by kernel_rfl) (by kernel_rfl)) (fun _ _ => rfl)) anil (by kernel_rfl)) (by kernel_rfl) (by kernel_rfl) (by kernel_rfl) (by kernel_rfl) (by kernel_rfl)) (by kernel_rfl)))) (bone
  (bifs (tcmp op_eq (ev 3 rfl (Or.inl (by kernel_rfl)) (by kernel_rfl) (by kernel_rfl)) eint (nomark _)) (bone
  (bexpr (ebm PySem.F.plainAttrs_list PySem.F.slot_list_pop PySem.F.type_list_pop mt_popAt (ev 4 rfl (Or.inl (by kernel_rfl)) (by kernel_rfl) (by kernel_rfl)) (acons (ev 5 rfl (Or.inl (by kernel_rfl)) (by kernel_rfl) (by kernel_rfl)) anil (by kernel_rfl)) (by kernel_rfl) (by kernel_rfl) (by kernel_rfl) (by kernel_rfl) (by kernel_rfl)) (by kernel_rfl))) (bone
  (bifs (tcmp op_eq (ev 3 rfl (Or.inl (by kernel_rfl)) (by kernel_rfl) (by kernel_rfl)) eint (nomark _)) (bcons
  (bset (n := 6) nd rfl (Or.inl (by kernel_rfl)) (esplit (eix ix_list (ev 4 rfl (Or.inl (by kernel_rfl)) (by kernel_rfl) (by kernel_rfl)) (ev 5 rfl (Or.inl (by kernel_rfl)) (by kernel_rfl) (by kernel_rfl)) (fun _ _ => rfl)) estr (by kernel_rfl) (by kernel_rfl) (by kernel_rfl)) (by kernel_rfl) (.inl rfl))
  (bcons
  (bset (n := 7) nd rfl (Or.inl (by kernel_rfl)) (elst (acons estr (acons estr (acons estr (acons estr (acons (eix ix_list (ev 6 rfl (Or.inl (by kernel_rfl)) (by kernel_rfl) (by kernel_rfl)) eint (fun _ _ => rfl)) (acons estr (acons estr (acons estr (acons estr anil (by kernel_rfl)) (by kernel_rfl)) (by kernel_rfl)) (by kernel_rfl)) (by kernel_rfl)) (by kernel_rfl)) (by kernel_rfl)) (by kernel_rfl)) (by kernel_rfl))) (by kernel_rfl) (.inl rfl))
  (bcons
  (bexpr (ebm PySem.F.plainAttrs_list PySem.F.slot_list_insert PySem.F.type_list_insert mt_insert (ev 6 rfl (Or.inl (by kernel_rfl)) (by kernel_rfl) (by kernel_rfl)) (acons (ecall G_law_take hr_law_take (by unfold Gl; kernel_rfl) m_law_take k_law_take b_law_take .nil pass0 (acons (ev 0 rfl (Or.inl (by kernel_rfl)) (by kernel_rfl) (by kernel_rfl)) (acons (eop op_add (ecallB call_len_seq (by unfold Gl; kernel_rfl) T.len L2.boot_len (acons (ev 6 rfl (Or.inl (by kernel_rfl)) (by kernel_rfl) (by kernel_rfl)) anil (by kernel_rfl)) (by decide +kernel) (by kernel_rfl) (by kernel_rfl) (by kernel_rfl)) eint) anil (by kernel_rfl)) (by kernel_rfl)) (by kernel_rfl) (by kernel_rfl) (by kernel_rfl)) (acons (eix ix_list (ev 7 rfl (Or.inl (by kernel_rfl)) (by kernel_rfl) (by kernel_rfl)) (ecall G_law_take hr_law_take (by unfold Gl; kernel_rfl) m_law_take k_law_take b_law_take .nil pass0 (acons (ev 0 rfl (Or.inl (by kernel_rfl)) (by kernel_rfl) (by kernel_rfl)) (acons eint anil (by kernel_rfl)) (by kernel_rfl)) (by kernel_rfl) (by kernel_rfl) (by kernel_rfl)) (fun _ _ => rfl)) anil (by kernel_rfl)) (by kernel_rfl)) (by kernel_rfl) (by kernel_rfl) (by kernel_rfl) (by kernel_rfl) (by kernel_rfl)) (by kernel_rfl))
  (bone
  (basg (ejoin estr (ev 6 rfl (Or.inl (by kernel_rfl)) (by kernel_rfl) (by kernel_rfl)) (by kernel_rfl) (by kernel_rfl) (by kernel_rfl)) (gsub (ev 4 rfl (Or.inl (by kernel_rfl)) (by kernel_rfl) (by kernel_rfl)) (ev 5 rfl (Or.inl (by kernel_rfl)) (by kernel_rfl) (by kernel_rfl)) set_list (by intro _; rfl)) (by kernel_rfl) (by kernel_rfl) (by kernel_rfl)))))) (bcons
  (bset (n := 8) nd rfl (Or.inl (by kernel_rfl)) (elst (acons (eop op_add_str (ev 1 rfl (Or.inl (by kernel_rfl)) (by kernel_rfl) (by kernel_rfl)) estr) (acons (eop op_add_str estr (ev 1 rfl (Or.inl (by kernel_rfl)) (by kernel_rfl) (by kernel_rfl))) (acons (eop op_add_str estr (ev 1 rfl (Or.inl (by kernel_rfl)) (by kernel_rfl) (by kernel_rfl))) (arepl (i := 1) rfl (Or.inl (by kernel_rfl)) (by kernel_rfl) (by kernel_rfl) (by kernel_rfl) (by kernel_rfl) (by kernel_rfl) (by kernel_rfl) (by kernel_rfl) (by kernel_rfl)) (by kernel_rfl)) (by kernel_rfl)) (by kernel_rfl))) (by kernel_rfl) (.inl rfl))
  (bone
  (bret (eix ix_list (ev 8 rfl (Or.inl (by kernel_rfl)) (by kernel_rfl) (by kernel_rfl)) (ecall G_law_take hr_law_take (by unfold Gl; kernel_rfl) m_law_take k_law_take b_law_take .nil pass0 (acons (ev 0 rfl (Or.inl (by kernel_rfl)) (by kernel_rfl) (by kernel_rfl)) (acons eint anil (by kernel_rfl)) (by kernel_rfl)) (by kernel_rfl) (by kernel_rfl) (by kernel_rfl)) (fun _ _ => rfl))))))))))))
  (bone
  (bret (ejoin estr (ev 4 rfl (Or.inl (by kernel_rfl)) (by kernel_rfl) (by kernel_rfl)) (by kernel_rfl) (by kernel_rfl) (by kernel_rfl)))))))))))) ?_
  -- at
  refine ⟨_, rfl, _, rfl, _, rfl, sz, _, _, rfl, rfl, d, c, _, rfl, Dk, by omega, by omega, fun r1 H1 r10 r11 st1 => ?_⟩
  -- way
  refine ⟨_, rfl, d, c, 8, rfl, st1.dk, by decide, by decide, fun r2 H2 r20 r21 st2 => ?_⟩
  have st2 := st1.trans st2
  -- rows
  obtain ⟨hne, hsl, hsr⟩ := split_nl text
  have tot := tot_nl text
  refine ⟨_, rfl, ⟨_, rfl⟩, _, _, rfl, rfl, (by decide +kernel), (by rw [sizeLine_eq]; omega), fun rl hrl => ?_⟩
  have nrl : H rl = none := st2.free hrl
  have st3 := st2.new hrl (.lst ((Txt.split text "\n").map V.str))
  have e3 : (upd H2 rl (.lst ((Txt.split text "\n").map V.str))) rl = some (.lst ((Txt.split text "\n").map V.str)) := upd_same
  show tSeq _ _ _ _ (upd H2 rl (.lst ((Txt.split text "\n").map V.str)))
  generalize upd H2 rl (.lst ((Txt.split text "\n").map V.str)) = H3 at st3 e3 ⊢
  generalize Txt.split text "\n" = rows at hne hsl hsr tot e3
  have hrp : 0 < rows.length := List.length_pos_iff.mpr hne
  -- one
  refine ⟨_, rfl, _, rfl, rl, _, rfl, .inl (SqL.of e3), d, c, _, rfl, st3.dk, (by rw [List.length_map]; omega), (by rw [List.length_map]; omega), fun r4 G r40 r41 st4 => ?_⟩
  rw [List.length_map] at r41
  have eg := st4.k _ _ e3 (Dk.nd nrl).1 (Dk.nd nrl).2
  have sg := st3.trans st4
  clear st1 st2 st3 st4 e3
  obtain ⟨one, rfl⟩ := Int.eq_ofNat_of_zero_le r40
  have h1 : one < rows.length := by omega
  obtain ⟨row, hrow⟩ : ∃ row, rows[one]? = some row := ⟨rows[one], List.getElem?_eq_getElem h1⟩
  have lrow := hsr row (List.mem_of_getElem? hrow)
  have hat : atI (rows.map V.str) ((one : Nat) : Int) = some (.str row) := atI_nat (by rw [List.getElem?_map, hrow]; rfl)
  have c1 := cutS_length text none (some r1)
  have c2 := cutS_length text (some (r1 + 1)) none
  have c3 := cutS_length text (some r1) none
  -- way == 0
  refine ⟨_, rfl, rfl, _, rfl, ite2 (fun _ => ?_) (fun _ => ?_)⟩
  · refine ⟨_, rfl, _, rfl, _, rfl, _, rfl, sz, _, rfl, _, rfl, _, _, rfl, rfl, _, rfl, _, rfl, sz, _, _, rfl, rfl, (by rw [sizeLine_eq]; omega), ?_⟩
    exact q _ G (by rw [app_len]; omega) sg
  -- way == 1
  refine ⟨_, rfl, rfl, _, rfl, ite2 (fun _ => ?_) (fun _ => ?_)⟩
  · refine ⟨_, rfl, _, rfl, _, rfl, _, rfl, sz, _, rfl, d, c, rfl, sg.dk, fun x G1 lx g1 => ?_⟩
    refine ⟨_, _, rfl, rfl, (by rw [sizeLine_eq]; omega), _, rfl, _, rfl, _, rfl, _, rfl, sz, _, _, rfl, rfl, (by rw [sizeLine_eq, app_len]; omega), ?_⟩
    exact q _ G1 (by rw [app_len, app_len]; omega) (sg.trans g1)
  -- way == 2
  refine ⟨_, rfl, rfl, _, rfl, ite2 (fun _ => ?_) (fun _ => ?_)⟩
  · refine ⟨_, rfl, _, rfl, _, rfl, _, rfl, sz, _, rfl, d, c, rfl, sg.dk, fun x G1 lx g1 => ?_⟩
    refine ⟨_, _, rfl, rfl, (by rw [sizeLine_eq]; omega), _, rfl, _, rfl, _, _, rfl, rfl, _, rfl, _, rfl, sz, _, _, rfl, rfl, (by rw [sizeLine_eq, app_len]; omega), ?_⟩
    exact q _ G1 (by rw [app_len, app_len]; omega) (sg.trans g1)
  -- the end: what the rows make
  have fin : ∀ (rows' : List Str) (G' : Hp), Stp d c H G' → G' rl = some (.lst (rows'.map V.str)) → totL rows' ≤ 3 * text.length + 20 → ∃ a p ys, V.str "\n" = .str a ∧ [V.ref rl] = [.ref p] ∧ (SqL K G' p (ys.map V.str) ∨ SqT K G' p (ys.map V.str)) ∧ (ys.map (·.length)).sum + ys.length * a.length ≤ 16777216 ∧ Q (.str (Txt.join a ys)) G' := fun rows' G' s' e' t' =>
    ⟨"\n", rl, rows', rfl, rfl, .inl (SqL.of e'), join_fit nl1 t' (by omega), q _ G' (Nat.le_trans (join_tot _ nl1 _) t') s'⟩
  -- way == 3
  refine ⟨_, rfl, rfl, _, rfl, ite2 (fun _ => ?_) (fun _ => ?_)⟩
  · refine ⟨_, rfl, .inl ⟨rfl, _, SqL.of eg⟩, _, rfl, _, rfl, rl, _, rfl, .inl (SqL.of eg), _, _, rfl, rfl, d, c, _, rfl, sg.dk, (by rw [List.length_map]; omega), (by rw [List.length_map]; omega), fun r5 G5 r50 r51 g5 => ?_⟩
    rw [List.length_map] at r51
    obtain ⟨k, rfl⟩ := Int.eq_ofNat_of_zero_le r50
    have e5 := g5.k _ _ eg (Dk.nd nrl).1 (Dk.nd nrl).2
    refine ⟨_, rfl, _, rfl, rl, _, _, _, rfl, rfl, SqL.of e5, hat, rl, _, k, _, rfl, rfl, e5, (by rw [List.length_map]; omega), (by rw [List.length_map]; omega), ?_⟩
    refine ⟨⟨_, rfl⟩, _, rfl, fin (rows.take k ++ row :: rows.drop k) _ ((sg.trans g5).upd nrl (Dk.nd nrl).1 (Dk.nd nrl).2 _) ?_ ?_⟩
    · rw [upd_same, List.map_append, List.map_cons, List.map_take, List.map_drop]
    · rw [tot_ins]; omega
  have hix : ixN (rows.map V.str).length ((one : Nat) : Int) = some one := by
    unfold ixN
    rw [List.length_map, if_pos (by omega), if_pos (by omega), Int.toNat_natCast]
  have lsp := split_sp row
  have tsp := tot_sp row
  -- way == 4
  refine ⟨_, rfl, rfl, _, rfl, ite2 (fun _ => ?_) (fun _ => ?_)⟩
  · refine ⟨⟨_, rfl⟩, _, rfl, _, rfl, rl, _, _, _, rfl, rfl, SqL.of eg, hat, ⟨row, rfl⟩, row, _, rfl, rfl, (by decide +kernel), (by rw [sizeLine_eq]; omega), fun wl hwl => ?_⟩
    have sg1 := sg.new hwl (.lst ((Txt.split row " ").map V.str))
    have eg1 : (upd G wl (.lst ((Txt.split row " ").map V.str))) rl = some (.lst (rows.map V.str)) := by rw [upd_ne (ne_of_none eg hwl)]; exact eg
    have ew1 : (upd G wl (.lst ((Txt.split row " ").map V.str))) wl = some (.lst ((Txt.split row " ").map V.str)) := upd_same
    generalize upd G wl (.lst ((Txt.split row " ").map V.str)) = G1 at sg1 eg1 ew1 ⊢
    generalize Txt.split row " " = words at lsp tsp ew1
    refine ⟨_, rfl, rfl, wl, _, rfl, SqL.of ew1, fun vl hvl => ?_⟩
    have sg2 := sg1.new hvl (.lst (words.map V.str).reverse)
    have eg2 : (upd G1 vl (.lst (words.map V.str).reverse)) rl = some (.lst (rows.map V.str)) := by rw [upd_ne (ne_of_none eg1 hvl)]; exact eg1
    have ev2 : (upd G1 vl (.lst (words.map V.str).reverse)) vl = some (.lst (words.reverse.map V.str)) := by rw [upd_same, List.map_reverse]
    generalize upd G1 vl (.lst (words.map V.str).reverse) = G2 at sg2 eg2 ev2 ⊢
    have t2 := tot_rev words
    have lj := join_tot (" " : Str) sp1 words.reverse
    refine ⟨" ", vl, words.reverse, rfl, rfl, .inl (SqL.of ev2), join_fit sp1 (Nat.le_of_eq t2) (by omega), ?_⟩
    generalize Txt.join (" " : Str) words.reverse = row' at lj
    refine ⟨_, rfl, _, rfl, rl, _, _, one, rfl, rfl, eg2, hix, ?_⟩
    have sg3 := sg2.upd nrl (Dk.nd nrl).1 (Dk.nd nrl).2 (.lst ((rows.set one row').map V.str))
    have e3 : upd G2 rl (.lst ((rows.map V.str).set one (V.str row'))) = upd G2 rl (.lst ((rows.set one row').map V.str)) := by rw [List.map_set]
    have eg3 : (upd G2 rl (.lst ((rows.set one row').map V.str))) rl = some (.lst ((rows.set one row').map V.str)) := upd_same
    rw [e3]
    generalize upd G2 rl (.lst ((rows.set one row').map V.str)) = G3 at sg3 eg3 ⊢
    have hat3 : atI ((rows.set one row').map V.str) ((one : Nat) : Int) = some (.str row') := atI_nat (by rw [List.getElem?_map, List.getElem?_set_self h1]; rfl)
    refine ⟨_, rfl, .inl ⟨rfl, _, SqL.of eg3⟩, _, rfl, _, rfl, rl, _, _, _, rfl, rfl, SqL.of eg3, hat3, rl, _, _, rfl, rfl, eg3, (by rw [List.length_map, List.length_set, sizeLine_eq]; omega), ?_⟩
    refine ⟨⟨_, rfl⟩, _, rfl, fin (rows.set one row' ++ [row']) _ (sg3.upd nrl (Dk.nd nrl).1 (Dk.nd nrl).2 _) ?_ ?_⟩
    · rw [upd_same, List.map_append]; rfl
    · have t3 := tot_set rows one row'
      rw [tot_app, tot_cons]
      show _ + (row'.length + 1 + 0) ≤ _
      omega
  -- way == 5
  refine ⟨_, rfl, rfl, _, rfl, ite2 (fun _ => ?_) (fun _ => ?_)⟩
  · refine ⟨_, rfl, .inl ⟨rfl, _, SqL.of eg⟩, _, rfl, rl, _, _, one, _, rfl, rfl, eg, by omega, by omega, (ixN_seq hix).1, (by rw [List.getElem?_map, hrow]; rfl), ?_⟩
    refine ⟨⟨_, rfl⟩, _, rfl, fin (rows.eraseIdx one) _ (sg.upd nrl (Dk.nd nrl).1 (Dk.nd nrl).2 _) ?_ ?_⟩
    · rw [upd_same, map_erase]
    · have := tot_erase rows one
      omega
  -- way == 6
  refine ⟨_, rfl, rfl, _, rfl, ite2 (fun _ => ?_) (fun _ => ?_)⟩
  · refine ⟨_, rfl, _, rfl, rl, _, _, _, rfl, rfl, SqL.of eg, hat, ⟨row, rfl⟩, row, _, rfl, rfl, (by decide +kernel), (by rw [sizeLine_eq]; omega), fun wl hwl => ?_⟩
    have nwl : H wl = none := sg.free hwl
    have nwr : rl ≠ wl := ne_of_none eg hwl
    have sg1 := sg.new hwl (.lst ((Txt.split row " ").map V.str))
    have eg1 : (upd G wl (.lst ((Txt.split row " ").map V.str))) rl = some (.lst (rows.map V.str)) := by rw [upd_ne (ne_of_none eg hwl)]; exact eg
    have ew1 : (upd G wl (.lst ((Txt.split row " ").map V.str))) wl = some (.lst ((Txt.split row " ").map V.str)) := upd_same
    show tSeq _ _ _ _ (upd G wl (.lst ((Txt.split row " ").map V.str)))
    generalize upd G wl (.lst ((Txt.split row " ").map V.str)) = G1 at sg1 eg1 ew1 ⊢
    generalize Txt.split row " " = words at lsp tsp ew1
    obtain ⟨w0, wr, rfl⟩ : ∃ w0 wr, words = w0 :: wr := by
      cases words with
      | nil => exact absurd rfl lsp.1
      | cons a b => exact ⟨a, b, rfl⟩
    have lw0 := lsp.2.2 w0 (List.mem_cons_self ..)
    refine ⟨_, rfl, wl, _, _, _, rfl, rfl, SqL.of ew1, at0, (by show 9 ≤ sizeLine; decide), fun ol hol => ?_⟩
    have nol : H ol = none := sg1.free hol
    have odd9 : ∀ x ∈ ([("tie" : Str), "abcdefghi", "", "A", w0, "q", "cover", "a1", "zz"] : List Str), x.length ≤ text.length + 9 := fun x hx => by
      simp only [List.mem_cons, List.not_mem_nil, or_false] at hx
      have k9 : ∀ y : Str, y.length ≤ 9 → y.length ≤ text.length + 9 := fun y h => by omega
      rcases hx with rfl | rfl | rfl | rfl | rfl | rfl | rfl | rfl | rfl
      all_goals first | (exact k9 _ (by decide +kernel)) | omega
    have ln9 : ([("tie" : Str), "abcdefghi", "", "A", w0, "q", "cover", "a1", "zz"] : List Str).length = 9 := rfl
    have sg2 := sg1.new hol (.lst (([("tie" : Str), "abcdefghi", "", "A", w0, "q", "cover", "a1", "zz"] : List Str).map V.str))
    have eg2 : (upd G1 ol (.lst (([("tie" : Str), "abcdefghi", "", "A", w0, "q", "cover", "a1", "zz"] : List Str).map V.str))) rl = some (.lst (rows.map V.str)) := by rw [upd_ne (ne_of_none eg1 hol)]; exact eg1
    have ew2 : (upd G1 ol (.lst (([("tie" : Str), "abcdefghi", "", "A", w0, "q", "cover", "a1", "zz"] : List Str).map V.str))) wl = some (.lst ((w0 :: wr).map V.str)) := by rw [upd_ne (ne_of_none ew1 hol)]; exact ew1
    have eo2 : (upd G1 ol (.lst (([("tie" : Str), "abcdefghi", "", "A", w0, "q", "cover", "a1", "zz"] : List Str).map V.str))) ol = some (.lst (([("tie" : Str), "abcdefghi", "", "A", w0, "q", "cover", "a1", "zz"] : List Str).map V.str)) := upd_same
    show tSeq _ _ _ _ (upd G1 ol (.lst (([("tie" : Str), "abcdefghi", "", "A", w0, "q", "cover", "a1", "zz"] : List Str).map V.str)))
    generalize upd G1 ol (.lst (([("tie" : Str), "abcdefghi", "", "A", w0, "q", "cover", "a1", "zz"] : List Str).map V.str)) = G2 at sg2 eg2 ew2 eo2 ⊢
    generalize ([("tie" : Str), "abcdefghi", "", "A", w0, "q", "cover", "a1", "zz"] : List Str) = odd at odd9 ln9 eo2
    have lw := lsp.2.1
    generalize w0 :: wr = words at ew2 tsp lw
    refine ⟨_, rfl, .inl ⟨rfl, _, SqL.of ew2⟩, _, rfl, _, rfl, wl, _, rfl, .inl (SqL.of ew2), _, _, rfl, rfl, d, c, _, rfl, sg2.dk, (by rw [List.length_map]; omega), (by rw [List.length_map]; omega), fun r5 G3 r50 r51 g3 => ?_⟩
    rw [List.length_map] at r51
    obtain ⟨k, rfl⟩ := Int.eq_ofNat_of_zero_le r50
    have sg3 := sg2.trans g3
    have eg3 := g3.k _ _ eg2 (Dk.nd nrl).1 (Dk.nd nrl).2
    have ew3 := g3.k _ _ ew2 (Dk.nd nwl).1 (Dk.nd nwl).2
    have eo3 := g3.k _ _ eo2 (Dk.nd nol).1 (Dk.nd nol).2
    refine ⟨_, rfl, _, rfl, d, c, 9, rfl, sg3.dk, by decide, by decide, fun r6 G4 r60 r61 g4 => ?_⟩
    obtain ⟨od, hod, mod⟩ := at_strs (xs := odd) r60 (by rw [ln9]; exact r61)
    have lod := odd9 od mod
    have sg4 := sg3.trans g4
    have eg4 := g4.k _ _ eg3 (Dk.nd nrl).1 (Dk.nd nrl).2
    have ew4 := g4.k _ _ ew3 (Dk.nd nwl).1 (Dk.nd nwl).2
    have eo4 := g4.k _ _ eo3 (Dk.nd nol).1 (Dk.nd nol).2
    refine ⟨ol, _, _, _, rfl, rfl, SqL.of eo4, hod, wl, _, k, _, rfl, rfl, ew4, (by rw [List.length_map]; omega), (by rw [List.length_map]; omega), ?_⟩
    have e5 : upd G4 wl (.lst ((words.map V.str).take k ++ V.str od :: (words.map V.str).drop k)) = upd G4 wl (.lst ((words.take k ++ od :: words.drop k).map V.str)) := by rw [List.map_append, List.map_cons, List.map_take, List.map_drop]
    have sg5 := sg4.upd nwl (Dk.nd nwl).1 (Dk.nd nwl).2 (.lst ((words.take k ++ od :: words.drop k).map V.str))
    have eg5 : (upd G4 wl (.lst ((words.take k ++ od :: words.drop k).map V.str))) rl = some (.lst (rows.map V.str)) := by rw [upd_ne nwr]; exact eg4
    have ew5 : (upd G4 wl (.lst ((words.take k ++ od :: words.drop k).map V.str))) wl = some (.lst ((words.take k ++ od :: words.drop k).map V.str)) := upd_same
    rw [e5]
    generalize upd G4 wl (.lst ((words.take k ++ od :: words.drop k).map V.str)) = G5 at sg5 eg5 ew5 ⊢
    have t5 := tot_ins words k od
    have lj := join_tot (" " : Str) sp1 (words.take k ++ od :: words.drop k)
    refine ⟨⟨_, rfl⟩, _, rfl, " ", wl, words.take k ++ od :: words.drop k, rfl, rfl, .inl (SqL.of ew5), join_fit sp1 (Nat.le_of_eq t5) (by omega), ?_⟩
    generalize Txt.join (" " : Str) (words.take k ++ od :: words.drop k) = row' at lj
    refine ⟨_, rfl, _, rfl, rl, _, _, one, rfl, rfl, eg5, hix, ?_⟩
    refine ⟨⟨_, rfl⟩, _, rfl, fin (rows.set one row') _ (sg5.upd nrl (Dk.nd nrl).1 (Dk.nd nrl).2 _) ?_ ?_⟩
    · rw [upd_same, List.map_set]
    · have t3 := tot_set rows one row'
      omega
  -- the rest
  refine ⟨_, rfl, _, _, rfl, rfl, (by rw [sizeLine_eq, nl1]; omega), _, rfl, _, _, rfl, rfl, (by rw [sizeLine_eq, nl1]; omega), _, rfl, _, _, rfl, rfl, (by rw [sizeLine_eq, sp1]; omega), ?_⟩
  have l2 : ("  " : Str).length = 2 := by decide +kernel
  refine ⟨text, rfl, (by rw [sizeLine_eq, sp1]; omega), (by rw [sizeLine_eq, l2]; omega), fun r lr => ⟨(by show 5 ≤ sizeLine; decide), fun sl hsl => ?_⟩⟩
  rw [l2] at lr
  have nsl : H sl = none := sg.free hsl
  have s5 : ∀ x ∈ ([text ++ "\n", "\n" ++ text, " " ++ text, text ++ " ", r] : List Str), x.length ≤ 3 * text.length + 20 := fun x hx => by
    simp only [List.mem_cons, List.not_mem_nil, or_false] at hx
    rcases hx with rfl | rfl | rfl | rfl | rfl
    · rw [app_len, nl1]; omega
    · rw [app_len, nl1]; omega
    · rw [app_len, sp1]; omega
    · rw [app_len, sp1]; omega
    · omega
  have ln5 : ([text ++ "\n", "\n" ++ text, " " ++ text, text ++ " ", r] : List Str).length = 5 := rfl
  have sg1 := sg.new hsl (.lst (([text ++ "\n", "\n" ++ text, " " ++ text, text ++ " ", r] : List Str).map V.str))
  have es1 : (upd G sl (.lst (([text ++ "\n", "\n" ++ text, " " ++ text, text ++ " ", r] : List Str).map V.str))) sl = some (.lst (([text ++ "\n", "\n" ++ text, " " ++ text, text ++ " ", r] : List Str).map V.str)) := upd_same
  show gName _ _ _ (upd G sl (.lst (([text ++ "\n", "\n" ++ text, " " ++ text, text ++ " ", r] : List Str).map V.str))) _
  generalize upd G sl (.lst (([text ++ "\n", "\n" ++ text, " " ++ text, text ++ " ", r] : List Str).map V.str)) = G1 at sg1 es1 ⊢
  generalize ([text ++ "\n", "\n" ++ text, " " ++ text, text ++ " ", r] : List Str) = som at s5 ln5 es1
  refine ⟨_, rfl, _, rfl, d, c, 5, rfl, sg1.dk, by decide, by decide, fun r7 G2 r70 r71 g2 => ?_⟩
  obtain ⟨x, hx, mx⟩ := at_strs (xs := som) r70 (by rw [ln5]; exact r71)
  have es2 := g2.k _ _ es1 (Dk.nd nsl).1 (Dk.nd nsl).2
  exact ⟨sl, _, _, _, rfl, rfl, SqL.of es2, hx, q x G2 (s5 x mx) (sg1.trans g2)⟩
end
end K02

namespace K02
open PySem L2 Wd Wm Tm Km Ym
theorem cut40 (l : List V) : cutV l none (some 40) = l.take 40 := by
  unfold cutV
  have e : HT.sIx l.length l.length (some (40 : Int)) = min 40 l.length := by
    have := HT.sIx_nat l.length l.length 40
    have e2 : ((40 : Nat) : Int) = 40 := rfl
    rw [e2] at this
    rw [this]
    try omega
  rw [e, HT.sIx_none, List.drop_zero, Nat.sub_zero]
  by_cases h : 40 ≤ l.length
  · rw [Nat.min_eq_left h]
  · rw [Nat.min_eq_right (by omega), List.take_of_length_le (Nat.le_refl _), List.take_of_length_le (by omega)]
theorem tot_le {n : Nat} : ∀ {ws : List Str}, (∀ w ∈ ws, w.length ≤ n) → totL ws ≤ ws.length * (n + 1)
  | [], _ => by simp [totL]
  | w :: r, h => by
    have h1 := h w (List.mem_cons_self ..)
    have h2 := tot_le fun x hx => h x (List.mem_cons_of_mem w hx)
    rw [tot_cons, List.length_cons, Nat.succ_mul]
    omega
theorem tot40 {row0 : Str} {rows : List Str} (h0 : row0.length ≤ 126) (hr : ∀ r ∈ rows, r.length ≤ 18) : totL ((row0 :: rows).take 40) ≤ 868 := by
  rw [List.take_succ_cons, tot_cons]
  have h1 := tot_le (ws := rows.take 39) (n := 18) fun r h => hr r (List.mem_of_mem_take h)
  have h2 : (rows.take 39).length ≤ 39 := by rw [List.length_take]; omega
  have h3 : (rows.take 39).length * (18 + 1) ≤ 39 * 19 := Nat.mul_le_mul_right _ h2
  omega
theorem at3 {r : Int} (h0 : 0 ≤ r) (h1 : r < 3) : ∃ m : Int, atI [V.int 8, V.int 8, V.int 14] r = some (.int m) ∧ (m = 8 ∨ m = 14) := by
  have : r = 0 ∨ r = 1 ∨ r = 2 := by omega
  rcases this with rfl | rfl | rfl
  · exact ⟨8, rfl, .inl rfl⟩
  · exact ⟨8, rfl, .inl rfl⟩
  · exact ⟨14, rfl, .inr rfl⟩
section
variable {P : Program} {w : World} {K : PySem.W.Frag} {mg : Str → Option Value} {base : Heap}
theorem Deck.same' {d c : Addr} {H H' : Hp} (h : Deck H d c) (s : Same H H') : Deck H' d c := by
  obtain ⟨cells, n, sd, z1, z2, z3⟩ := h
  exact ⟨cells, n, sd, s _ _ z1, s _ _ z2, z3⟩
def lastTexts : List Str := ["\n", "a a", "a b\na a", "a b\na b\nb a", "a\n", "next", "abcdefgh", "abcdefghi", "a b\na c"]
theorem last_len : ∀ x ∈ lastTexts, x.length ≤ 15000 := by decide +kernel
def spLaw (K : PySem.W.Frag) : Sp := fun vs H Q _ => ∃ (a : Addr) (ns : List Int), vs = [.ref a] ∧ SqL K H a (ns.map V.int) ∧ ns.length ≤ 63 ∧ ∀ H', Q (.bl true) H'
theorem sc_law : FnScope ["script", "deck", "turn", "text", "again", "once"] ["script"] (defScope s_law) := ⟨rfl, rfl, rfl, by decide +kernel, rfl, by decide +kernel, by decide +kernel⟩
theorem ok_law {f : Addr} {fd : FuncData} {a_SetError a_NoRow a_NoAsk a_NoName a_NoWeb : Addr} (F : Fun K "law" "law" s_law f fd) (T : Tx mg) (C : Exn P K mg a_SetError a_NoRow a_NoAsk a_NoName a_NoWeb) (oD : Own P w K mg base 1 "_law_deck" ["script"] (spDeck K)) (oTk : Own P w K mg base 1 "_law_take" ["deck", "many"] spTake) (oW : Own P w K mg base 3 "_law_web" ["deck", "most"] (spWeb K))
    (oT : Own P w K mg base 3 "_law_text" ["deck", "web"] (spText K)) (oP : Own P w K mg base 3 "_law_spoilt" ["deck", "text"] spSpoilt) (oR : Own P w K mg base 5 "_law_right" ["text"] (spRight K)) : FnOk P w K mg base CX0 6 f fd ["script"] (spLaw K) := by
  have nd := sc_law.nd
  obtain ⟨f1, fd1, G_law_deck, b_law_deck, k_law_deck, m_law_deck⟩ := oD
  obtain ⟨f0, fd0, G_law_take, b_law_take, k_law_take, m_law_take⟩ := oTk
  obtain ⟨f2, fd2, G_law_web, b_law_web, k_law_web, m_law_web⟩ := oW
  obtain ⟨f4, fd4, G_law_text, b_law_text, k_law_text, m_law_text⟩ := oT
  obtain ⟨f5, fd5, G_law_spoilt, b_law_spoilt, k_law_spoilt, m_law_spoilt⟩ := oP
  obtain ⟨f6, fd6, G_law_right, b_law_right, k_law_right, m_law_right⟩ := oR
  have hI_NoWeb := C.cW
  have hI_NoName := C.cN
  have m_NoWeb := C.mW
  have m_NoName := C.mN
  have Tsup := C.sup
  refine F.ok sc_law (fun vs H Q E h => ?_) (fun cdv A outer s H vs Q E hr h => ?_)
  · obtain ⟨a, ns, rfl, _⟩ := h
    rfl
  have hr_law_right := hr
  have hr_law_deck := hr.mono (j := 1) (by decide)
  have hr_law_take := hr.mono (j := 1) (by decide)
  have hr_law_web := hr.mono (j := 3) (by decide)
  have hr_law_text := hr.mono (j := 3) (by decide)
  have hr_law_spoilt := hr.mono (j := 3) (by decide)
  obtain ⟨a, ns, rfl, hS, h63, q⟩ := h
  refine SB.use (bcons
  (bset (n := 1) nd rfl (Or.inl (by kernel_rfl)) (ecall G_law_deck hr_law_deck (by unfold Gl; kernel_rfl) m_law_deck k_law_deck b_law_deck .nil pass0 (acons (ev 0 rfl (Or.inl (by kernel_rfl)) (by kernel_rfl) (by kernel_rfl)) anil (by kernel_rfl)) (by kernel_rfl) (by kernel_rfl) (by kernel_rfl)) (by kernel_rfl) (.inl rfl))
  (bcons
  (bfor PassesOwn.never rfl (irange1 (by unfold Gl; kernel_rfl) T.range (acons eint anil (by kernel_rfl)) (by kernel_rfl)) (gname (n := 2) nd rfl (Or.inl (by kernel_rfl)) (.inl rfl)) (bcons
  (bset (n := 3) nd rfl (Or.inl (by kernel_rfl)) (ecall G_law_text hr_law_text (by unfold Gl; kernel_rfl) m_law_text k_law_text b_law_text .nil pass0 (acons (ev 1 rfl (Or.inl (by kernel_rfl)) (by kernel_rfl) (by kernel_rfl)) (acons (ecall G_law_web hr_law_web (by unfold Gl; kernel_rfl) m_law_web k_law_web b_law_web .nil pass0 (acons (ev 1 rfl (Or.inl (by kernel_rfl)) (by kernel_rfl) (by kernel_rfl)) (acons (eix ix_list (elst (acons eint (acons eint (acons eint anil (by kernel_rfl)) (by kernel_rfl)) (by kernel_rfl))) (ecall G_law_take hr_law_take (by unfold Gl; kernel_rfl) m_law_take k_law_take b_law_take .nil pass0 (acons (ev 1 rfl (Or.inl (by kernel_rfl)) (by kernel_rfl) (by kernel_rfl)) (acons eint anil (by kernel_rfl)) (by kernel_rfl)) (by kernel_rfl) (by kernel_rfl) (by kernel_rfl)) (fun _ _ => rfl)) anil (by kernel_rfl)) (by kernel_rfl)) (by kernel_rfl) (by kernel_rfl) (by kernel_rfl)) anil (by kernel_rfl)) (by kernel_rfl)) (by kernel_rfl) (by kernel_rfl) (by kernel_rfl)) (by kernel_rfl) (.inl rfl))
  (bcons
  (bset (n := 3) nd rfl (Or.inl (by kernel_rfl)) (ejoin estr (eslice sl_list (esplit (ev 3 rfl (Or.inl (by kernel_rfl)) (by kernel_rfl) (by kernel_rfl)) estr (by kernel_rfl) (by kernel_rfl) (by kernel_rfl)) onone (osome eint)) (by kernel_rfl) (by kernel_rfl) (by kernel_rfl)) (by kernel_rfl) (.inl rfl))
  (bone
  (bfor PassesOwn.never rfl (irange1 (by unfold Gl; kernel_rfl) T.range (acons eint anil (by kernel_rfl)) (by kernel_rfl)) (gname (n := 4) nd rfl (Or.inl (by kernel_rfl)) (.inl rfl)) (bcons
  (bset (n := 5) nd rfl (Or.inl (by kernel_rfl)) (ecall G_law_spoilt hr_law_spoilt (by unfold Gl; kernel_rfl) m_law_spoilt k_law_spoilt b_law_spoilt .nil pass0 (acons (ev 1 rfl (Or.inl (by kernel_rfl)) (by kernel_rfl) (by kernel_rfl)) (acons (ev 3 rfl (Or.inl (by kernel_rfl)) (by kernel_rfl) (by kernel_rfl)) anil (by kernel_rfl)) (by kernel_rfl)) (by kernel_rfl) (by kernel_rfl) (by kernel_rfl)) (by kernel_rfl) (.inl rfl))
  (bone
  (bifs (tw (wor (tnot (tval (ecall G_law_right hr_law_right (by unfold Gl; kernel_rfl) m_law_right k_law_right b_law_right .nil pass0 (acons (ev 3 rfl (Or.inl (by kernel_rfl)) (by kernel_rfl) (by kernel_rfl)) anil (by kernel_rfl)) (by kernel_rfl) (by kernel_rfl) (by kernel_rfl)) (by intro _; rfl))) (wor (tnot (tval (ecall G_law_right hr_law_right (by unfold Gl; kernel_rfl) m_law_right k_law_right b_law_right .nil pass0 (acons (ev 5 rfl (Or.inl (by kernel_rfl)) (by kernel_rfl) (by kernel_rfl)) anil (by kernel_rfl)) (by kernel_rfl) (by kernel_rfl) (by kernel_rfl)) (by intro _; rfl))) (wor1 (tnot (tval (ecall G_law_right hr_law_right (by unfold Gl; kernel_rfl) m_law_right k_law_right b_law_right .nil pass0 (acons (ecall G_law_spoilt hr_law_spoilt (by unfold Gl; kernel_rfl) m_law_spoilt k_law_spoilt b_law_spoilt .nil pass0 (acons (ev 1 rfl (Or.inl (by kernel_rfl)) (by kernel_rfl) (by kernel_rfl)) (acons (ev 5 rfl (Or.inl (by kernel_rfl)) (by kernel_rfl) (by kernel_rfl)) anil (by kernel_rfl)) (by kernel_rfl)) (by kernel_rfl) (by kernel_rfl) (by kernel_rfl)) anil (by kernel_rfl)) (by kernel_rfl) (by kernel_rfl) (by kernel_rfl)) (by intro _; rfl))))))) (bone
  (bret ebl)) bnil))) (by intro _; rfl))))) (by intro _; rfl))
  (bcons
  (bfor PassesOwn.never rfl (ilist (elst (acons estr (acons estr (acons estr (acons estr (acons estr (acons estr (acons estr (acons estr (acons estr anil (by kernel_rfl)) (by kernel_rfl)) (by kernel_rfl)) (by kernel_rfl)) (by kernel_rfl)) (by kernel_rfl)) (by kernel_rfl)) (by kernel_rfl)) (by kernel_rfl)))) (gname (n := 3) nd rfl (Or.inl (by kernel_rfl)) (.inl rfl)) (bone
  (bifs (tnot (tval (ecall G_law_right hr_law_right (by unfold Gl; kernel_rfl) m_law_right k_law_right b_law_right .nil pass0 (acons (ev 3 rfl (Or.inl (by kernel_rfl)) (by kernel_rfl) (by kernel_rfl)) anil (by kernel_rfl)) (by kernel_rfl) (by kernel_rfl) (by kernel_rfl)) (by intro _; rfl))) (bone
  (bret ebl)) bnil)) (by intro _; rfl))
  (bone
  (bret (eand (ecmp op_eq (exw (emakeI hI_NoWeb hr Tsup (by unfold Gl; kernel_rfl) m_NoWeb (acons eint anil (by kernel_rfl)) (by kernel_rfl) (by kernel_rfl)) (by kernel_rfl)) eint (nomark _)) (eone (ecmp op_eq (exw (emakeI hI_NoName hr Tsup (by unfold Gl; kernel_rfl) m_NoName (acons estr anil (by kernel_rfl)) (by kernel_rfl) (by kernel_rfl)) (by kernel_rfl)) estr (nomark _))))))))) ?_
  refine ⟨_, rfl, a, ns, rfl, hS, h63, fun d c H1 s1 D1 _ _ => ?_⟩
  refine ⟨_, rfl, by decide, by decide, ?_⟩
  refine for_range (lo := 0) (fun i σ H2 => ∃ (x2 x3 x4 x5 : Option V), σ = [some (.ref a), some (.ref d), x2, x3, x4, x5] ∧ Deck H2 d c) ⟨_, _, _, _, rfl, D1⟩ ?_ ?_
  · rintro turn σ H2 hturn ⟨x2, x3, x4, x5, rfl, D⟩
    refine ⟨_, rfl, _, rfl, (by show 3 ≤ sizeLine; decide), fun ml hml => ?_⟩
    have st1 : Stp d c H2 (upd H2 ml (.lst [V.int 8, V.int 8, V.int 14])) := (Stp.refl D).new hml _
    have e1 : (upd H2 ml (.lst [V.int 8, V.int 8, V.int 14])) ml = some (.lst [V.int 8, V.int 8, V.int 14]) := upd_same
    refine ⟨_, rfl, d, c, 3, rfl, st1.dk, by decide, by decide, fun r1 H3 r10 r11 st2 => ?_⟩
    have e2 := st2.k _ _ e1 (D.nd hml).1 (D.nd hml).2
    obtain ⟨m, hm, mo⟩ := at3 r10 r11
    refine ⟨ml, _, _, _, rfl, rfl, SqL.of e2, hm, ?_⟩
    refine ⟨d, c, m, rfl, st2.dk, by omega, by omega, fun wa names ties H4 st4 wat wok hl => ?_⟩
    refine ⟨d, c, wa, names, ties, rfl, st4.dk, wat, wok, by omega, fun text0 H5 row0 rows st5 hsp hl0 hr0 hrr => ?_⟩
    refine ⟨⟨_, rfl⟩, _, rfl, ⟨_, rfl⟩, _, _, rfl, rfl, (by decide +kernel), (by rw [sizeLine_eq]; omega), fun rl hrl => ?_⟩
    have D6 := st5.dk.same' (same_new hrl (.lst ((Txt.split text0 "\n").map V.str)))
    have e6 : (upd H5 rl (.lst ((Txt.split text0 "\n").map V.str))) rl = some (.lst ((row0 :: rows).map V.str)) := by rw [upd_same, hsp]
    generalize upd H5 rl (.lst ((Txt.split text0 "\n").map V.str)) = H6 at D6 e6 ⊢
    refine ⟨_, rfl, rl, _, rfl, SqL.of e6, fun p hp => ?_⟩
    have ec := cut40 ((row0 :: rows).map V.str)
    rw [← List.map_take] at ec
    have D7 := D6.same' (same_new hp (.lst (((row0 :: rows).take 40).map V.str)))
    have e7 : (upd H6 p (.lst (((row0 :: rows).take 40).map V.str))) p = some (.lst (((row0 :: rows).take 40).map V.str)) := upd_same
    rw [ec]
    have t40 := tot40 hr0 hrr
    have lj := join_tot ("\n" : Str) nl1 ((row0 :: rows).take 40)
    generalize upd H6 p (.lst (((row0 :: rows).take 40).map V.str)) = H7 at D7 e7 ⊢
    refine ⟨"\n", p, (row0 :: rows).take 40, rfl, rfl, .inl (SqL.of e7), join_fit nl1 t40 (by decide), ?_⟩
    generalize Txt.join ("\n" : Str) ((row0 :: rows).take 40) = text at lj
    have hlt : text.length ≤ 868 := by omega
    refine ⟨_, rfl, by decide, by decide, ?_⟩
    refine for_range (lo := 0) (fun i σ G => ∃ (x4 x5 : Option V), σ = [some (.ref a), some (.ref d), some (.int (0 + (turn : Int))), some (.str text), x4, x5] ∧ Deck G d c) ⟨_, _, rfl, D7⟩ ?_ ?_
    · rintro i σ G hi ⟨x4, x5, rfl, DG⟩
      refine ⟨_, rfl, _, rfl, d, c, text, rfl, DG, by omega, fun once G1 l1 st1 => ?_⟩
      refine ⟨_, rfl, text, rfl, by omega, fun G2 s2 => ⟨_, rfl, iteF ?_⟩⟩
      refine ⟨_, rfl, once, rfl, by omega, fun G3 s3 => ⟨_, rfl, iteF ?_⟩⟩
      have D3 := st1.dk.same' (s2.trans s3)
      refine ⟨_, rfl, _, rfl, d, c, once, rfl, D3, by omega, fun twice G4 l4 st4 => ?_⟩
      refine ⟨twice, rfl, by omega, fun G5 s5 => ⟨_, rfl, iteF ?_⟩⟩
      exact ⟨_, _, rfl, st4.dk.same' s5⟩
    · rintro σ G ⟨x4, x5, rfl, DG⟩
      exact ⟨_, _, _, _, rfl, DG⟩
  · rintro σ H2 ⟨x2, x3, x4, x5, rfl, D⟩
    refine ⟨(by show 9 ≤ sizeLine; decide), fun tl htl => ?_⟩
    have e1 : (upd H2 tl (.lst (lastTexts.map V.str))) tl = some (.lst (lastTexts.map V.str)) := upd_same
    show ∃ a, V.ref tl = V.ref a ∧ _
    have e0 : upd H2 tl (.lst (lastTexts.map V.str)) = upd H2 tl (.lst [V.str "\n", V.str "a a", V.str "a b\na a", V.str "a b\na b\nb a", V.str "a\n", V.str "next", V.str "abcdefgh", V.str "abcdefghi", V.str "a b\na c"]) := rfl
    rw [← e0]
    generalize upd H2 tl (.lst (lastTexts.map V.str)) = H3 at e1
    refine ⟨tl, rfl, ⟨_, SqL.of e1⟩, ?_⟩
    refine for_list (K := K) (xs := lastTexts.map V.str) (fun i σ G => ∃ (x2 x3 x4 x5 : Option V), σ = [some (.ref a), some (.ref d), x2, x3, x4, x5] ∧ G tl = some (.lst (lastTexts.map V.str))) ⟨_, _, _, _, rfl, e1⟩ (fun i σ G _ ⟨_, _, _, _, _, z⟩ => SqL.of z) ?_ ?_
    · rintro i v σ G hv ⟨x2, x3, x4, x5, rfl, eg⟩
      obtain ⟨x, hx, rfl⟩ := str_at hv
      refine ⟨_, rfl, x, rfl, last_len x (List.mem_of_getElem? hx), fun G2 s2 => ⟨_, rfl, iteF ?_⟩⟩
      exact ⟨_, _, _, _, rfl, s2 _ _ eg⟩
    · rintro σ G ⟨x2, x3, x4, x5, rfl, eg⟩
      refine ⟨_, rfl, kept_nat (k := 3) (by decide), fun y dx hy hd ne => ?_⟩
      refine ⟨y, a_NoWeb, dx, _, .int 3, rfl, upd_same, (by rw [upd_ne ne]; exact upd_same), C.eW, C.wW, rfl, kept_nat (k := 3) (by decide), rfl, _, rfl, ite2 (fun _ => ?_) (fun h => absurd (by decide) h)⟩
      have lab : L2.Kept (V.str "ab") := by show ("ab" : Str).length ≤ 1000000; decide +kernel
      refine ⟨_, rfl, lab, fun y2 dx2 hy2 hd2 ne2 => ?_⟩
      refine ⟨y2, a_NoName, dx2, _, .str "ab", rfl, upd_same, (by rw [upd_ne ne2]; exact upd_same), C.eN, C.wN, rfl, lab, rfl, ?_⟩
      show Q (.bl (decide (V.str "ab" = V.str "ab"))) _
      rw [decide_eq_true rfl]
      exact q _
end
end K02

namespace K02
open PySem L2 Wd Wm Tm Km Ym
theorem all_mk {l : PySem.W.OpenLaw} {w : World} {K : PySem.W.Frag} {h : Heap} {mg : Str → Option Value} {fa f1 f2 f3 f4 f5 f6 f7 f8 f9 f10 f11 f12 f13 f14 f15 f16 f17 f18 f19 f20 : Addr} (X : K.In h) (G : h.Ns mainGlobals mg) (hfa : mg "law" = some (.ref fa))
    {od1 an1 od2 an2 od3 an3 od4 an4 od5 an5 od6 an6 od7 an7 od8 an8 od9 an9 od10 an10 od11 an11 od12 an12 od13 an13 od14 an14 od15 an15 od16 an16 od17 an17 od18 an18 od19 an19 od20 an20 : Option Addr} {sl1 sl2 sl3 sl4 sl5 sl6 sl7 sl8 sl9 sl10 sl11 sl12 sl13 sl14 sl15 sl16 sl17 sl18 sl19 sl20 : Array (Option Value)} {oc1 kV1 dc1 pm1 cd1 ct1 oc2 kV2 dc2 pm2 cd2 ct2 oc3 kV3 dc3 pm3 cd3 ct3 oc4 kV4 dc4 pm4 cd4 ct4 oc5 kV5 dc5 pm5 cd5 ct5 oc6 kV6 dc6 pm6 cd6 ct6 oc7 kV7 dc7 pm7 cd7 ct7 oc8 kV8 dc8 pm8 cd8 ct8 oc9 kV9 dc9 pm9 cd9 ct9 oc10 kV10 dc10 pm10 cd10 ct10 oc11 kV11 dc11 pm11 cd11 ct11 oc12 kV12 dc12 pm12 cd12 ct12 oc13 kV13 dc13 pm13 cd13 ct13 oc14 kV14 dc14 pm14 cd14 ct14 oc15 kV15 dc15 pm15 cd15 ct15 oc16 kV16 dc16 pm16 cd16 ct16 oc17 kV17 dc17 pm17 cd17 ct17 oc18 kV18 dc18 pm18 cd18 ct18 oc19 kV19 dc19 pm19 cd19 ct19 oc20 kV20 dc20 pm20 cd20 ct20 : Value}
    {tL tk0 tk1 tk2 tk3 tk4 tk5 tk6 tk7 tk8 tk9 tk10 tk11 tk12 tk13 tk14 tk15 : Nat} {aD : Addr} {odD : Option Addr} {nD : Nat} {slD : Array (Option Value)} {aS aR aA aN aB : Addr} {nmS qS : Str} {NS : Addr} {bsS : List Value} {hdS : Bool} {snS : List Str} {sbS : List Value} {abS : Bool} {clS : Option Bool} {ddS : Option Addr} {k0S k1S k2S k3S k5S : Option Value} {newS : String} {nmN qN : Str} {NN : Addr} {bsN : List Value} {snN : List Str} {sbN : List Value} {abN : Bool} {clN : Option Bool} {ddN : Option Addr} {k0N k1N k2N k3N k5N : Option Value} {fIN cdaN ccN : Addr} {qIN c1N c2N flN : Str} {p1N p2N p3N p4N p5N p6N p7N p8N p9N p10N q0N q1N q2N q3N r1N r2N : Pos} {kVN dcN pmN ctN cclN ccvN : Value} {anN odN cddN cldN : Option Addr} {slN ccsN cslN : Array (Option Value)} {cvsN : Array Value} {tfN : Tok} {nmB qB : Str} {NB : Addr} {bsB : List Value} {snB : List Str} {sbB : List Value} {abB : Bool} {clB : Option Bool} {ddB : Option Addr} {k0B k1B k2B k3B k5B : Option Value} {fIB cdaB ccB : Addr} {qIB c1B c2B flB : Str} {p1B p2B p3B p4B p5B p6B p7B p8B p9B p10B q0B q1B q2B q3B r1B r2B : Pos} {kVB dcB pmB ctB cclB ccvB : Value} {anB odB cddB cldB : Option Addr} {slB ccsB cslB : Array (Option Value)} {cvsB : Array Value} {tfB : Tok}
    (a1 : PySem.W.nsIn K mainGlobals "is_name" = some (some (.ref f1))) (l1 : K.lookup f1 = some ⟨oc1, od1, .func (PySem.W.fnOf "is_name" "is_name" (defArgs s_is_name) (defBody s_is_name) (defScope s_is_name) .none kV1 dc1 pm1 an1 cd1 ct1), sl1⟩) (c1 : PySem.W.codeIn K cd1 "is_name" = true) (k1 : PySem.W.keepIn K (.ref f1) = true)
    (a2 : PySem.W.nsIn K mainGlobals "pairs_of" = some (some (.ref f2))) (l2 : K.lookup f2 = some ⟨oc2, od2, .func (PySem.W.fnOf "pairs_of" "pairs_of" (defArgs s_pairs_of) (defBody s_pairs_of) (defScope s_pairs_of) .none kV2 dc2 pm2 an2 cd2 ct2), sl2⟩) (c2 : PySem.W.codeIn K cd2 "pairs_of" = true) (k2 : PySem.W.keepIn K (.ref f2) = true)
    (a3 : PySem.W.nsIn K mainGlobals "read_names" = some (some (.ref f3))) (l3 : K.lookup f3 = some ⟨oc3, od3, .func (PySem.W.fnOf "read_names" "read_names" (defArgs s_read_names) (defBody s_read_names) (defScope s_read_names) .none kV3 dc3 pm3 an3 cd3 ct3), sl3⟩) (c3 : PySem.W.codeIn K cd3 "read_names" = true) (k3 : PySem.W.keepIn K (.ref f3) = true)
    (a4 : PySem.W.nsIn K mainGlobals "read_ties" = some (some (.ref f4))) (l4 : K.lookup f4 = some ⟨oc4, od4, .func (PySem.W.fnOf "read_ties" "read_ties" (defArgs s_read_ties) (defBody s_read_ties) (defScope s_read_ties) .none kV4 dc4 pm4 an4 cd4 ct4), sl4⟩) (c4 : PySem.W.codeIn K cd4 "read_ties" = true) (k4 : PySem.W.keepIn K (.ref f4) = true)
    (a5 : PySem.W.nsIn K mainGlobals "read_web" = some (some (.ref f5))) (l5 : K.lookup f5 = some ⟨oc5, od5, .func (PySem.W.fnOf "read_web" "read_web" (defArgs s_read_web) (defBody s_read_web) (defScope s_read_web) .none kV5 dc5 pm5 an5 cd5 ct5), sl5⟩) (c5 : PySem.W.codeIn K cd5 "read_web" = true) (k5 : PySem.W.keepIn K (.ref f5) = true)
    (a6 : PySem.W.nsIn K mainGlobals "_law_deck" = some (some (.ref f6))) (l6 : K.lookup f6 = some ⟨oc6, od6, .func (PySem.W.fnOf "_law_deck" "_law_deck" (defArgs s_law_deck) (defBody s_law_deck) (defScope s_law_deck) .none kV6 dc6 pm6 an6 cd6 ct6), sl6⟩) (c6 : PySem.W.codeIn K cd6 "_law_deck" = true) (k6 : PySem.W.keepIn K (.ref f6) = true)
    (a7 : PySem.W.nsIn K mainGlobals "_law_take" = some (some (.ref f7))) (l7 : K.lookup f7 = some ⟨oc7, od7, .func (PySem.W.fnOf "_law_take" "_law_take" (defArgs s_law_take) (defBody s_law_take) (defScope s_law_take) .none kV7 dc7 pm7 an7 cd7 ct7), sl7⟩) (c7 : PySem.W.codeIn K cd7 "_law_take" = true) (k7 : PySem.W.keepIn K (.ref f7) = true)
    (a8 : PySem.W.nsIn K mainGlobals "_law_names" = some (some (.ref f8))) (l8 : K.lookup f8 = some ⟨oc8, od8, .func (PySem.W.fnOf "_law_names" "_law_names" (defArgs s_law_names) (defBody s_law_names) (defScope s_law_names) .none kV8 dc8 pm8 an8 cd8 ct8), sl8⟩) (c8 : PySem.W.codeIn K cd8 "_law_names" = true) (k8 : PySem.W.keepIn K (.ref f8) = true)
    (a9 : PySem.W.nsIn K mainGlobals "_law_size" = some (some (.ref f9))) (l9 : K.lookup f9 = some ⟨oc9, od9, .func (PySem.W.fnOf "_law_size" "_law_size" (defArgs s_law_size) (defBody s_law_size) (defScope s_law_size) .none kV9 dc9 pm9 an9 cd9 ct9), sl9⟩) (c9 : PySem.W.codeIn K cd9 "_law_size" = true) (k9 : PySem.W.keepIn K (.ref f9) = true)
    (a10 : PySem.W.nsIn K mainGlobals "_law_web" = some (some (.ref f10))) (l10 : K.lookup f10 = some ⟨oc10, od10, .func (PySem.W.fnOf "_law_web" "_law_web" (defArgs s_law_web) (defBody s_law_web) (defScope s_law_web) .none kV10 dc10 pm10 an10 cd10 ct10), sl10⟩) (c10 : PySem.W.codeIn K cd10 "_law_web" = true) (k10 : PySem.W.keepIn K (.ref f10) = true)
    (a11 : PySem.W.nsIn K mainGlobals "_law_same" = some (some (.ref f11))) (l11 : K.lookup f11 = some ⟨oc11, od11, .func (PySem.W.fnOf "_law_same" "_law_same" (defArgs s_law_same) (defBody s_law_same) (defScope s_law_same) .none kV11 dc11 pm11 an11 cd11 ct11), sl11⟩) (c11 : PySem.W.codeIn K cd11 "_law_same" = true) (k11 : PySem.W.keepIn K (.ref f11) = true)
    (a12 : PySem.W.nsIn K mainGlobals "_law_shuffled" = some (some (.ref f12))) (l12 : K.lookup f12 = some ⟨oc12, od12, .func (PySem.W.fnOf "_law_shuffled" "_law_shuffled" (defArgs s_law_shuffled) (defBody s_law_shuffled) (defScope s_law_shuffled) .none kV12 dc12 pm12 an12 cd12 ct12), sl12⟩) (c12 : PySem.W.codeIn K cd12 "_law_shuffled" = true) (k12 : PySem.W.keepIn K (.ref f12) = true)
    (a13 : PySem.W.nsIn K mainGlobals "_law_text" = some (some (.ref f13))) (l13 : K.lookup f13 = some ⟨oc13, od13, .func (PySem.W.fnOf "_law_text" "_law_text" (defArgs s_law_text) (defBody s_law_text) (defScope s_law_text) .none kV13 dc13 pm13 an13 cd13 ct13), sl13⟩) (c13 : PySem.W.codeIn K cd13 "_law_text" = true) (k13 : PySem.W.keepIn K (.ref f13) = true)
    (a14 : PySem.W.nsIn K mainGlobals "_law_caught" = some (some (.ref f14))) (l14 : K.lookup f14 = some ⟨oc14, od14, .func (PySem.W.fnOf "_law_caught" "_law_caught" (defArgs s_law_caught) (defBody s_law_caught) (defScope s_law_caught) .none kV14 dc14 pm14 an14 cd14 ct14), sl14⟩) (c14 : PySem.W.codeIn K cd14 "_law_caught" = true) (k14 : PySem.W.keepIn K (.ref f14) = true)
    (a15 : PySem.W.nsIn K mainGlobals "_law_is_name" = some (some (.ref f15))) (l15 : K.lookup f15 = some ⟨oc15, od15, .func (PySem.W.fnOf "_law_is_name" "_law_is_name" (defArgs s_law_is_name) (defBody s_law_is_name) (defScope s_law_is_name) .none kV15 dc15 pm15 an15 cd15 ct15), sl15⟩) (c15 : PySem.W.codeIn K cd15 "_law_is_name" = true) (k15 : PySem.W.keepIn K (.ref f15) = true)
    (a16 : PySem.W.nsIn K mainGlobals "_law_read" = some (some (.ref f16))) (l16 : K.lookup f16 = some ⟨oc16, od16, .func (PySem.W.fnOf "_law_read" "_law_read" (defArgs s_law_read) (defBody s_law_read) (defScope s_law_read) .none kV16 dc16 pm16 an16 cd16 ct16), sl16⟩) (c16 : PySem.W.codeIn K cd16 "_law_read" = true) (k16 : PySem.W.keepIn K (.ref f16) = true)
    (a17 : PySem.W.nsIn K mainGlobals "_law_right" = some (some (.ref f17))) (l17 : K.lookup f17 = some ⟨oc17, od17, .func (PySem.W.fnOf "_law_right" "_law_right" (defArgs s_law_right) (defBody s_law_right) (defScope s_law_right) .none kV17 dc17 pm17 an17 cd17 ct17), sl17⟩) (c17 : PySem.W.codeIn K cd17 "_law_right" = true) (k17 : PySem.W.keepIn K (.ref f17) = true)
    (a18 : PySem.W.nsIn K mainGlobals "_law_sign" = some (some (.ref f18))) (l18 : K.lookup f18 = some ⟨oc18, od18, .func (PySem.W.fnOf "_law_sign" "_law_sign" (defArgs s_law_sign) (defBody s_law_sign) (defScope s_law_sign) .none kV18 dc18 pm18 an18 cd18 ct18), sl18⟩) (c18 : PySem.W.codeIn K cd18 "_law_sign" = true) (k18 : PySem.W.keepIn K (.ref f18) = true)
    (a19 : PySem.W.nsIn K mainGlobals "_law_spoilt" = some (some (.ref f19))) (l19 : K.lookup f19 = some ⟨oc19, od19, .func (PySem.W.fnOf "_law_spoilt" "_law_spoilt" (defArgs s_law_spoilt) (defBody s_law_spoilt) (defScope s_law_spoilt) .none kV19 dc19 pm19 an19 cd19 ct19), sl19⟩) (c19 : PySem.W.codeIn K cd19 "_law_spoilt" = true) (k19 : PySem.W.keepIn K (.ref f19) = true)
    (a20 : PySem.W.nsIn K mainGlobals "law" = some (some (.ref f20))) (l20 : K.lookup f20 = some ⟨oc20, od20, .func (PySem.W.fnOf "law" "law" (defArgs s_law) (defBody s_law) (defScope s_law) .none kV20 dc20 pm20 an20 cd20 ct20), sl20⟩) (c20 : PySem.W.codeIn K cd20 "law" = true) (k20 : PySem.W.keepIn K (.ref f20) = true)
    (z0 : PySem.W.nsIn K mainGlobals "len" = some none)
    (z1 : PySem.W.nsIn K mainGlobals "sum" = some none)
    (z2 : PySem.W.nsIn K mainGlobals "range" = some none)
    (z3 : PySem.W.nsIn K mainGlobals "sorted" = some none)
    (z4 : PySem.W.nsIn K mainGlobals "min" = some none)
    (z5 : PySem.W.nsIn K mainGlobals "int" = some none)
    (z6 : PySem.W.nsIn K mainGlobals "tuple" = some none)
    (z7 : PySem.W.nsIn K mainGlobals "isinstance" = some none)
    (z8 : PySem.W.nsIn K mainGlobals "str" = some none)
    (z9 : PySem.W.nsIn K mainGlobals "bool" = some none)
    (z10 : PySem.W.nsIn K mainGlobals "zip" = some none)
    (z11 : PySem.W.nsIn K mainGlobals "enumerate" = some none)
    (z12 : PySem.W.nsIn K mainGlobals "set" = some none)
    (z13 : PySem.W.nsIn K mainGlobals "all" = some none)
    (z14 : PySem.W.nsIn K mainGlobals "list" = some none)
    (z15 : PySem.W.nsIn K mainGlobals "max" = some none)
    (z16 : PySem.W.nsIn K mainGlobals "any" = some none)
    (z17 : PySem.W.nsIn K mainGlobals "reversed" = some none)
    (g1 : PySem.W.nsIn K mainGlobals "LONGEST_NAME" = some (some (.int 8 tL)))
    (g2 : PySem.W.nsIn K mainGlobals "DESK_WORDS" = some (some (.ref aD)))
    (g3 : K.lookup aD = some ⟨.type "tuple", odD, .seq #[.str "web" tk0, .str "put" tk1, .str "take" tk2, .str "tie" tk3, .str "untie" tk4, .str "show" tk5, .str "first" tk6, .str "next" tk7, .str "all" tk8, .str "count" tk9, .str "sizes" tk10, .str "biggest" tk11, .str "fill" tk12, .str "tied" tk13, .str "apart" tk14, .str "cover" tk15] nD, slD⟩)
    (x1 : PySem.W.nsIn K mainGlobals "SetError" = some (some (.ref aS)))
    (x2 : PySem.W.nsIn K mainGlobals "NoRow" = some (some (.ref aR)))
    (x3 : PySem.W.nsIn K mainGlobals "NoAsk" = some (some (.ref aA)))
    (x4 : PySem.W.nsIn K mainGlobals "NoName" = some (some (.ref aN)))
    (x5 : PySem.W.nsIn K mainGlobals "NoWeb" = some (some (.ref aB)))
    (y5 : K.lookup aS = some (excClassObj nmS qS aS NS bsS bmV hdS snS sbS abS clS ddS k0S k1S k2S k3S k5S newS))
    (I0N : K.lookup aN = some (excClassObj nmN qN aN NN bsN (.ref aS :: bmV) true snN sbN abN clN ddN k0N k1N k2N k3N k5N "ValueError.__new__"))
    (I1N : PySem.W.nsIn K NN "__init__" = some (some (.ref fIN)))
    (I2N : PySem.W.tailIn K bmV (.ref aS :: bmV) = true)
    (I3N : PySem.W.nsOkIn K NN = true)
    (I4N : K.lookup fIN = some ⟨.type "function", odN, .func (PySem.W.ksFn "__init__" qIN (iniArgs "word" r1N r2N) (iniBody "word" c1N c2N p1N p2N p3N p4N p5N p6N p7N p8N p9N p10N q0N q1N q2N q3N) (iniScope "word") .none kVN dcN pmN anN (.ref cdaN) ctN ccN), slN⟩)
    (I5N : PySem.W.codeIn K (.ref cdaN) qIN = true)
    (I6N : K.lookup cdaN = some ⟨cclN, cddN, .fields cvsN, ccsN⟩)
    (I7N : cvsN[2]? = some (.str flN tfN))
    (I8N : ((l.prog.main.file : Str) == flN) = true)
    (I9N : K.lookup ccN = some ⟨ccvN, cldN, .cell (some (.ref aN)), cslN⟩)
    (I10N : c1N.length ≤ 1000000 ∧ c2N.length ≤ 1000000)
    (I11N : (p8N.endLine == p9N.line) = true)
    (I12N : PySem.W.ks_superIn K aN aN "__init__" = some (some (.builtin "ValueError.__init__")))
    (I13N : PySem.W.mroIn K aN (.ref aN) = some true)
    (I14N : PySem.W.mroIn K aN (.type "ValueError") = some true)
    (I15N : PySem.W.findIn K (.ref aN) "__setattr__" = some (some (.builtin "object.__setattr__")))
    (I16N : PySem.W.findIn K (.ref aN) "word" = some none)
    (I17N : PySem.W.mroIn K aN (.type "object") = some true)
    (I0B : K.lookup aB = some (excClassObj nmB qB aB NB bsB (.ref aS :: bmV) true snB sbB abB clB ddB k0B k1B k2B k3B k5B "ValueError.__new__"))
    (I1B : PySem.W.nsIn K NB "__init__" = some (some (.ref fIB)))
    (I2B : PySem.W.tailIn K bmV (.ref aS :: bmV) = true)
    (I3B : PySem.W.nsOkIn K NB = true)
    (I4B : K.lookup fIB = some ⟨.type "function", odB, .func (PySem.W.ksFn "__init__" qIB (iniArgs "row" r1B r2B) (iniBody "row" c1B c2B p1B p2B p3B p4B p5B p6B p7B p8B p9B p10B q0B q1B q2B q3B) (iniScope "row") .none kVB dcB pmB anB (.ref cdaB) ctB ccB), slB⟩)
    (I5B : PySem.W.codeIn K (.ref cdaB) qIB = true)
    (I6B : K.lookup cdaB = some ⟨cclB, cddB, .fields cvsB, ccsB⟩)
    (I7B : cvsB[2]? = some (.str flB tfB))
    (I8B : ((l.prog.main.file : Str) == flB) = true)
    (I9B : K.lookup ccB = some ⟨ccvB, cldB, .cell (some (.ref aB)), cslB⟩)
    (I10B : c1B.length ≤ 1000000 ∧ c2B.length ≤ 1000000)
    (I11B : (p8B.endLine == p9B.line) = true)
    (I12B : PySem.W.ks_superIn K aB aB "__init__" = some (some (.builtin "ValueError.__init__")))
    (I13B : PySem.W.mroIn K aB (.ref aB) = some true)
    (I14B : PySem.W.mroIn K aB (.type "ValueError") = some true)
    (I15B : PySem.W.findIn K (.ref aB) "__setattr__" = some (some (.builtin "object.__setattr__")))
    (I16B : PySem.W.findIn K (.ref aB) "row" = some none)
    (I17B : PySem.W.mroIn K aB (.type "object") = some true)
    (hopq : PySem.W.nsIn K cStatics "thirdparty.any" = some none)
    (htop : (l.prog.main.scope.names.lookup ("super" : Str)).isSome = false)
    (hsup : PySem.W.nsIn K mainGlobals "super" = some none)
    (e1N : PySem.W.findIn K (.ref aN) "__getattribute__" = some (some (.builtin "BaseException.__getattribute__")))
    (e2N : PySem.W.findIn K (.ref aN) "__getattr__" = some none)
    (e3N : PySem.W.findIn K (.ref aN) "__class__" = some (some (.builtin "object.__class__")))
    (e5N : PySem.W.mroIn K aN (.type "BaseException") = some true)
    (e1B : PySem.W.findIn K (.ref aB) "__getattribute__" = some (some (.builtin "BaseException.__getattribute__")))
    (e2B : PySem.W.findIn K (.ref aB) "__getattr__" = some none)
    (e3B : PySem.W.findIn K (.ref aB) "__class__" = some (some (.builtin "object.__class__")))
    (e5B : PySem.W.mroIn K aB (.type "BaseException") = some true)
    (i0B : PySem.W.kitOne K (.ref aB) (.ref aA) = some false)
    (i1B : PySem.W.kitOne K (.ref aB) (.ref aN) = some false)
    (i2B : PySem.W.kitOne K (.ref aB) (.ref aR) = some false)
    (i3B : PySem.W.kitOne K (.ref aB) (.ref aB) = some true)
    (i4B : PySem.W.kitOne K (.ref aB) (.type "ValueError") = some true)
    (gv : PySem.W.nsIn K mainGlobals "ValueError" = some none) :
    ∃ fd : FuncData, (∀ (s : Shared) (v : Value), BindsTo s fd ⟨[v], []⟩ [("script", v)]) ∧ ∀ base : Heap, K.In base → base.Ns mainGlobals mg → FnOk l.prog w K mg base CX0 6 fa fd ["script"] (spLaw K) := by
  have e := hfa.symm.trans (PySem.W.mg_of X G a20)
  cases e
  have T : Tx mg := ⟨PySem.W.mg_none_of X G z0, PySem.W.mg_none_of X G z1, PySem.W.mg_none_of X G z2, PySem.W.mg_none_of X G z3, PySem.W.mg_none_of X G z4, PySem.W.mg_none_of X G z5, PySem.W.mg_none_of X G z6, PySem.W.mg_none_of X G z7, PySem.W.mg_none_of X G z8, PySem.W.mg_none_of X G z9, PySem.W.mg_none_of X G z10, PySem.W.mg_none_of X G z11, PySem.W.mg_none_of X G z12, PySem.W.mg_none_of X G z13, PySem.W.mg_none_of X G z14, PySem.W.mg_none_of X G z15, PySem.W.mg_none_of X G z16, PySem.W.mg_none_of X G z17⟩
  have F1 := fun_mk (st := s_is_name) l1 c1 k1
  have b1 := F1.binds (ps := ["word"]) fun _ _ _ _ _ _ us hl => match us, hl with | [_], _ => rfl
  have F2 := fun_mk (st := s_pairs_of) l2 c2 k2
  have b2 := F2.binds (ps := ["names"]) fun _ _ _ _ _ _ us hl => match us, hl with | [_], _ => rfl
  have F3 := fun_mk (st := s_read_names) l3 c3 k3
  have b3 := F3.binds (ps := ["row"]) fun _ _ _ _ _ _ us hl => match us, hl with | [_], _ => rfl
  have F4 := fun_mk (st := s_read_ties) l4 c4 k4
  have b4 := F4.binds (ps := ["names", "rows"]) fun _ _ _ _ _ _ us hl => match us, hl with | [_, _], _ => rfl
  have F5 := fun_mk (st := s_read_web) l5 c5 k5
  have b5 := F5.binds (ps := ["text"]) fun _ _ _ _ _ _ us hl => match us, hl with | [_], _ => rfl
  have F6 := fun_mk (st := s_law_deck) l6 c6 k6
  have b6 := F6.binds (ps := ["script"]) fun _ _ _ _ _ _ us hl => match us, hl with | [_], _ => rfl
  have F7 := fun_mk (st := s_law_take) l7 c7 k7
  have b7 := F7.binds (ps := ["deck", "many"]) fun _ _ _ _ _ _ us hl => match us, hl with | [_, _], _ => rfl
  have F8 := fun_mk (st := s_law_names) l8 c8 k8
  have b8 := F8.binds (ps := ["deck", "many"]) fun _ _ _ _ _ _ us hl => match us, hl with | [_, _], _ => rfl
  have F9 := fun_mk (st := s_law_size) l9 c9 k9
  have b9 := F9.binds (ps := ["deck", "most"]) fun _ _ _ _ _ _ us hl => match us, hl with | [_, _], _ => rfl
  have F10 := fun_mk (st := s_law_web) l10 c10 k10
  have b10 := F10.binds (ps := ["deck", "most"]) fun _ _ _ _ _ _ us hl => match us, hl with | [_, _], _ => rfl
  have F11 := fun_mk (st := s_law_same) l11 c11 k11
  have b11 := F11.binds (ps := ["found", "due"]) fun _ _ _ _ _ _ us hl => match us, hl with | [_, _], _ => rfl
  have F12 := fun_mk (st := s_law_shuffled) l12 c12 k12
  have b12 := F12.binds (ps := ["deck", "things"]) fun _ _ _ _ _ _ us hl => match us, hl with | [_, _], _ => rfl
  have F13 := fun_mk (st := s_law_text) l13 c13 k13
  have b13 := F13.binds (ps := ["deck", "web"]) fun _ _ _ _ _ _ us hl => match us, hl with | [_, _], _ => rfl
  have F14 := fun_mk (st := s_law_caught) l14 c14 k14
  have b14 := F14.binds (ps := ["e"]) fun _ _ _ _ _ _ us hl => match us, hl with | [_], _ => rfl
  have F15 := fun_mk (st := s_law_is_name) l15 c15 k15
  have b15 := F15.binds (ps := ["word"]) fun _ _ _ _ _ _ us hl => match us, hl with | [_], _ => rfl
  have F16 := fun_mk (st := s_law_read) l16 c16 k16
  have b16 := F16.binds (ps := ["text"]) fun _ _ _ _ _ _ us hl => match us, hl with | [_], _ => rfl
  have F17 := fun_mk (st := s_law_right) l17 c17 k17
  have b17 := F17.binds (ps := ["text"]) fun _ _ _ _ _ _ us hl => match us, hl with | [_], _ => rfl
  have F18 := fun_mk (st := s_law_sign) l18 c18 k18
  have b18 := F18.binds (ps := ["deck"]) fun _ _ _ _ _ _ us hl => match us, hl with | [_], _ => rfl
  have F19 := fun_mk (st := s_law_spoilt) l19 c19 k19
  have b19 := F19.binds (ps := ["deck", "text"]) fun _ _ _ _ _ _ us hl => match us, hl with | [_, _], _ => rfl
  have F20 := fun_mk (st := s_law) l20 c20 k20
  refine ⟨PySem.W.fnOf "law" "law" (defArgs s_law) (defBody s_law) (defScope s_law) .none kV20 dc20 pm20 an20 cd20 ct20, fun s v => .of_eq rfl, fun base _ _ => ?_⟩
  have C : Cst K mg := ⟨tL, aD, PySem.W.mg_of X G g1, PySem.W.mg_of X G g2, fun H => .inr ⟨_, _, nD, g3, rfl, rfl, (by show 16 ≤ sizeLine; decide), (.cons ⟨_, rfl⟩ (.cons ⟨_, rfl⟩ (.cons ⟨_, rfl⟩ (.cons ⟨_, rfl⟩ (.cons ⟨_, rfl⟩ (.cons ⟨_, rfl⟩ (.cons ⟨_, rfl⟩ (.cons ⟨_, rfl⟩ (.cons ⟨_, rfl⟩ (.cons ⟨_, rfl⟩ (.cons ⟨_, rfl⟩ (.cons ⟨_, rfl⟩ (.cons ⟨_, rfl⟩ (.cons ⟨_, rfl⟩ (.cons ⟨_, rfl⟩ (.cons ⟨_, rfl⟩ .nil))))))))))))))))⟩⟩
  have TV : mg "ValueError" = none := PySem.W.mg_none_of X G gv
  have CLN : ∃ nm q N bs sn sub ab col dd k0 k1 k2 k3 k5, K.lookup aN = some (excClassObj nm q aN N bs (.ref aS :: bmV) true sn sub ab col dd k0 k1 k2 k3 k5 "ValueError.__new__") := ⟨_, _, _, _, _, _, _, _, _, _, _, _, _, _, I0N⟩
  have INN : Ini l.prog K aN aS fIN "word" := ⟨⟨_, _, _, _, _, _, _, _, _, _, _, _, _, _, _, _, _, _, _, _, _, _, _, _, _, _, _, _, I10N, I11N, I4N, (fun _ _ => rfl), I5N, ⟨_, _, _, _, _, _, I6N, I7N, I8N⟩, ⟨_, _, _, I9N⟩⟩, CLN, I12N, I13N, I14N, hopq, ⟨⟨_, _, _, _, _, _, _, _, _, _, _, _, _, _, _, I0N⟩, I15N, I16N, I17N⟩, htop, rfl, rfl, rfl, (by decide), (by decide)⟩
  have RIN : RaiseI l.prog K aN aS "word" := ⟨⟨fIN, INN, _, _, _, _, _, _, _, _, _, _, _, _, _, _, I0N, I2N, I3N, I1N⟩⟩
  have WXN : ExW K aN "word" := ⟨⟨_, by unfold PySem.W.clsIn; rw [I0N], rfl⟩, I16N⟩
  have CLB : ∃ nm q N bs sn sub ab col dd k0 k1 k2 k3 k5, K.lookup aB = some (excClassObj nm q aB N bs (.ref aS :: bmV) true sn sub ab col dd k0 k1 k2 k3 k5 "ValueError.__new__") := ⟨_, _, _, _, _, _, _, _, _, _, _, _, _, _, I0B⟩
  have INB : Ini l.prog K aB aS fIB "row" := ⟨⟨_, _, _, _, _, _, _, _, _, _, _, _, _, _, _, _, _, _, _, _, _, _, _, _, _, _, _, _, I10B, I11B, I4B, (fun _ _ => rfl), I5B, ⟨_, _, _, _, _, _, I6B, I7B, I8B⟩, ⟨_, _, _, I9B⟩⟩, CLB, I12B, I13B, I14B, hopq, ⟨⟨_, _, _, _, _, _, _, _, _, _, _, _, _, _, _, I0B⟩, I15B, I16B, I17B⟩, htop, rfl, rfl, rfl, (by decide), (by decide)⟩
  have RIB : RaiseI l.prog K aB aS "row" := ⟨⟨fIB, INB, _, _, _, _, _, _, _, _, _, _, _, _, _, _, I0B, I2B, I3B, I1B⟩⟩
  have WXB : ExW K aB "row" := ⟨⟨_, by unfold PySem.W.clsIn; rw [I0B], rfl⟩, I16B⟩
  have EC : Exn l.prog K mg aS aR aA aN aB := ⟨PySem.W.mg_of X G x1, PySem.W.mg_of X G x2, PySem.W.mg_of X G x3, PySem.W.mg_of X G x4, PySem.W.mg_of X G x5, PySem.W.mg_none_of X G hsup, RIN, RIB, ⟨_, _, _, _, _, _, _, _, _, _, _, _, _, _, _, _, I0B⟩, ⟨_, _, _, _, _, _, _, _, _, _, _, _, _, _, _, _, y5⟩, ⟨e1N, e2N, e3N, I17N, e5N⟩, ⟨e1B, e2B, e3B, I17B, e5B⟩, WXN, WXB, i0B, i1B, i2B, i3B, i4B⟩
  have oT : Own l.prog w K mg base 1 "_law_take" ["deck", "many"] spTake := ⟨f7, _, ok_take F7 T, b7, k7, PySem.W.mg_of X G a7⟩
  have oD : Own l.prog w K mg base 1 "_law_deck" ["script"] (spDeck K) := ⟨f6, _, ok_deck F6 T, b6, k6, PySem.W.mg_of X G a6⟩
  have oN : Own l.prog w K mg base 2 "_law_names" ["deck", "many"] spNames := ⟨f8, _, ok_names F8 T oT, b8, k8, PySem.W.mg_of X G a8⟩
  have oZ : Own l.prog w K mg base 2 "_law_size" ["deck", "most"] spSize := ⟨f9, _, ok_size F9 T oT, b9, k9, PySem.W.mg_of X G a9⟩
  have oW : Own l.prog w K mg base 3 "_law_web" ["deck", "most"] (spWeb K) := ⟨f10, _, ok_web F10 T oT oN oZ, b10, k10, PySem.W.mg_of X G a10⟩
  have oS : Own l.prog w K mg base 4 "_law_same" ["found", "due"] (spSame K 4) := ⟨f11, _, ok_same F11 T b11 (PySem.W.mg_of X G a11) 4, b11, k11, PySem.W.mg_of X G a11⟩
  have oP : Own l.prog w K mg base 1 "pairs_of" ["names"] (spPairs K) := ⟨f2, _, ok_pairs F2 T, b2, k2, PySem.W.mg_of X G a2⟩
  have oI : Own l.prog w K mg base 1 "is_name" ["word"] spName := ⟨f1, _, ok_name F1 T C, b1, k1, PySem.W.mg_of X G a1⟩
  have oRN : OwnX l.prog w K mg base 2 "read_names" ["row"] (spRNames K aB) := ⟨f3, _, ok_rnames F3 T EC oI, b3, k3, PySem.W.mg_of X G a3⟩
  have oRT : OwnX l.prog w K mg base 2 "read_ties" ["names", "rows"] (spRTies K aB) := ⟨f4, _, ok_rties F4 T EC oP, b4, k4, PySem.W.mg_of X G a4⟩
  have oR : OwnX l.prog w K mg base 3 "read_web" ["text"] (spRead K aB) := ⟨f5, _, ok_rweb F5 T oRN oRT, b5, k5, PySem.W.mg_of X G a5⟩
  have oH : Own l.prog w K mg base 2 "_law_shuffled" ["deck", "things"] (spShuf K) := ⟨f12, _, ok_shuf F12 T oT, b12, k12, PySem.W.mg_of X G a12⟩
  have oX : Own l.prog w K mg base 3 "_law_text" ["deck", "web"] (spText K) := ⟨f13, _, ok_text F13 T oH, b13, k13, PySem.W.mg_of X G a13⟩
  have oLN : Own l.prog w K mg base 1 "_law_is_name" ["word"] spLName := ⟨f15, _, ok_lname F15 T, b15, k15, PySem.W.mg_of X G a15⟩
  have oLR : Own l.prog w K mg base 2 "_law_read" ["text"] (spLRead K) := ⟨f16, _, ok_lread F16 T oLN, b16, k16, PySem.W.mg_of X G a16⟩
  have oCt : Own l.prog w K mg base 1 "_law_caught" ["e"] (spCaught K aB) := ⟨f14, _, ok_caught F14 T TV EC, b14, k14, PySem.W.mg_of X G a14⟩
  have oRt : Own l.prog w K mg base 5 "_law_right" ["text"] (spRight K) := ⟨f17, _, ok_right F17 T EC oLR oCt oS oR, b17, k17, PySem.W.mg_of X G a17⟩
  have oSg : Own l.prog w K mg base 2 "_law_sign" ["deck"] spSign := ⟨f18, _, ok_sign F18 T oT, b18, k18, PySem.W.mg_of X G a18⟩
  have oSp : Own l.prog w K mg base 3 "_law_spoilt" ["deck", "text"] spSpoilt := ⟨f19, _, ok_spoilt F19 T oT oSg, b19, k19, PySem.W.mg_of X G a19⟩
  exact ok_law F20 T EC oD oT oW oX oSp oRt
theorem walk {l : PySem.W.OpenLaw} {q : Program} {loose : List Str} {XP : (Str → Option Value) → Heap → Prop} {YP : World → Heap → Prop} {d : DefRec} {K : Params → PySem.W.Frag} (hn : l.most = some 63) (hdf : d.params.defaults = [])
    (hY : ∀ (w : World) (h : Heap), YP w h → (K w.params).In h)
    (F : ∀ (w : World) (mg : Str → Option Value) (fa : Addr) (h : Heap), (K w.params).In h → h.Ns mainGlobals mg → mg d.name = some (.ref fa) →
      ∃ fd : FuncData, (∀ (s : Shared) (u : Value), BindsTo s fd ⟨[u], []⟩ [("script", u)]) ∧ ∀ base : Heap, (K w.params).In base → base.Ns mainGlobals mg → FnOk l.prog w (K w.params) mg base CX0 6 fa fd ["script"] (spLaw (K w.params))) :
    PySem.W.WalkO q loose XP YP l.row.toRowW d [] (fun f vs => PySem.call f vs) :=
  L2.walk_of (n := 63) (k := 6) (x := "script") (CX := fun _ => CX0) (sp := fun w => spLaw (K w.params)) hn (by decide) hdf ⟨rfl, by decide, by decide⟩ hY F (fun _ _ a ns hl _ hS => ⟨a, ns, rfl, hS, hl, fun _ => rfl⟩) fun _ _ _ _ _ z => z
end K02
open PySem PySem.W PyProof.Rows
set_option maxRecDepth 100000 in
set_option maxHeartbeats 0 in
theorem PySem.Challenge.cw_eachgreatest_k02_texts_of_no_web_holds : PySem.Challenge.rw_eachgreatest_k02_texts_of_no_web.Holds := by
  w_on; o_law; k_head; (case hw => w_witness2)
  k_fill
  refine K02.walk (l := PySem.Challenge.rw_eachgreatest_k02_texts_of_no_web) rfl rfl (fun w h Y => PySem.W.kIn_of Y) ?F
  case F =>
    intro w mg fa h KX G hmg
    refine' K02.all_mk KX G hmg ?a1 ?l1 ?c1 ?k1 ?a2 ?l2 ?c2 ?k2 ?a3 ?l3 ?c3 ?k3 ?a4 ?l4 ?c4 ?k4 ?a5 ?l5 ?c5 ?k5 ?a6 ?l6 ?c6 ?k6 ?a7 ?l7 ?c7 ?k7 ?a8 ?l8 ?c8 ?k8 ?a9 ?l9 ?c9 ?k9 ?a10 ?l10 ?c10 ?k10 ?a11 ?l11 ?c11 ?k11 ?a12 ?l12 ?c12 ?k12 ?a13 ?l13 ?c13 ?k13 ?a14 ?l14 ?c14 ?k14 ?a15 ?l15 ?c15 ?k15 ?a16 ?l16 ?c16 ?k16 ?a17 ?l17 ?c17 ?k17 ?a18 ?l18 ?c18 ?k18 ?a19 ?l19 ?c19 ?k19 ?a20 ?l20 ?c20 ?k20 ?z0 ?z1 ?z2 ?z3 ?z4 ?z5 ?z6 ?z7 ?z8 ?z9 ?z10 ?z11 ?z12 ?z13 ?z14 ?z15 ?z16 ?z17 ?g1 ?g2 ?g3 ?x1 ?x2 ?x3 ?x4 ?x5 ?y5 ?I0N ?I1N ?I2N ?I3N ?I4N ?I5N ?I6N ?I7N ?I8N ?I9N ?I10N ?I11N ?I12N ?I13N ?I14N ?I15N ?I16N ?I17N ?I0B ?I1B ?I2B ?I3B ?I4B ?I5B ?I6B ?I7B ?I8B ?I9B ?I10B ?I11B ?I12B ?I13B ?I14B ?I15B ?I16B ?I17B ?hopq ?htop ?hsup ?e1N ?e2N ?e3N ?e5N ?e1B ?e2B ?e3B ?e5B ?i0B ?i1B ?i2B ?i3B ?i4B ?gv
    (case a1 => k_is)
    (case l1 => k_is)
    (case c1 => k_is)
    (case k1 => k_is)
    (case a2 => k_is)
    (case l2 => k_is)
    (case c2 => k_is)
    (case k2 => k_is)
    (case a3 => k_is)
    (case l3 => k_is)
    (case c3 => k_is)
    (case k3 => k_is)
    (case a4 => k_is)
    (case l4 => k_is)
    (case c4 => k_is)
    (case k4 => k_is)
    (case a5 => k_is)
    (case l5 => k_is)
    (case c5 => k_is)
    (case k5 => k_is)
    (case a6 => k_is)
    (case l6 => k_is)
    (case c6 => k_is)
    (case k6 => k_is)
    (case a7 => k_is)
    (case l7 => k_is)
    (case c7 => k_is)
    (case k7 => k_is)
    (case a8 => k_is)
    (case l8 => k_is)
    (case c8 => k_is)
    (case k8 => k_is)
    (case a9 => k_is)
    (case l9 => k_is)
    (case c9 => k_is)
    (case k9 => k_is)
    (case a10 => k_is)
    (case l10 => k_is)
    (case c10 => k_is)
    (case k10 => k_is)
    (case a11 => k_is)
    (case l11 => k_is)
    (case c11 => k_is)
    (case k11 => k_is)
    (case a12 => k_is)
    (case l12 => k_is)
    (case c12 => k_is)
    (case k12 => k_is)
    (case a13 => k_is)
    (case l13 => k_is)
    (case c13 => k_is)
    (case k13 => k_is)
    (case a14 => k_is)
    (case l14 => k_is)
    (case c14 => k_is)
    (case k14 => k_is)
    (case a15 => k_is)
    (case l15 => k_is)
    (case c15 => k_is)
    (case k15 => k_is)
    (case a16 => k_is)
    (case l16 => k_is)
    (case c16 => k_is)
    (case k16 => k_is)
    (case a17 => k_is)
    (case l17 => k_is)
    (case c17 => k_is)
    (case k17 => k_is)
    (case a18 => k_is)
    (case l18 => k_is)
    (case c18 => k_is)
    (case k18 => k_is)
    (case a19 => k_is)
    (case l19 => k_is)
    (case c19 => k_is)
    (case k19 => k_is)
    (case a20 => k_is)
    (case l20 => k_is)
    (case c20 => k_is)
    (case k20 => k_is)
    (case z0 => k_is)
    (case z1 => k_is)
    (case z2 => k_is)
    (case z3 => k_is)
    (case z4 => k_is)
    (case z5 => k_is)
    (case z6 => k_is)
    (case z7 => k_is)
    (case z8 => k_is)
    (case z9 => k_is)
    (case z10 => k_is)
    (case z11 => k_is)
    (case z12 => k_is)
    (case z13 => k_is)
    (case z14 => k_is)
    (case z15 => k_is)
    (case z16 => k_is)
    (case z17 => k_is)
    (case g1 => k_is)
    (case g2 => k_is)
    (case g3 => k_is)
    (case x1 => k_is)
    (case x2 => k_is)
    (case x3 => k_is)
    (case x4 => k_is)
    (case x5 => k_is)
    (case y5 => k_is)
    (case I0N => k_is)
    (case I1N => k_is)
    (case I2N => first | k_is | kernel_rfl | rfl | decide +kernel)
    (case I3N => first | k_is | kernel_rfl | rfl | decide +kernel)
    (case I4N => k_is)
    (case I5N => k_is)
    (case I6N => k_is)
    (case I7N => first | rfl | kernel_rfl)
    (case I8N => first | rfl | decide +kernel)
    (case I9N => k_is)
    (case I10N => decide +kernel)
    (case I11N => first | rfl | decide +kernel)
    (case I12N => first | ks_is | kernel_rfl)
    (case I13N => k_is)
    (case I14N => k_is)
    (case I15N => k_is)
    (case I16N => k_is)
    (case I17N => k_is)
    (case I0B => k_is)
    (case I1B => k_is)
    (case I2B => first | k_is | kernel_rfl | rfl | decide +kernel)
    (case I3B => first | k_is | kernel_rfl | rfl | decide +kernel)
    (case I4B => k_is)
    (case I5B => k_is)
    (case I6B => k_is)
    (case I7B => first | rfl | kernel_rfl)
    (case I8B => first | rfl | decide +kernel)
    (case I9B => k_is)
    (case I10B => decide +kernel)
    (case I11B => first | rfl | decide +kernel)
    (case I12B => first | ks_is | kernel_rfl)
    (case I13B => k_is)
    (case I14B => k_is)
    (case I15B => k_is)
    (case I16B => k_is)
    (case I17B => k_is)
    (case hopq => k_is)
    (case htop => first | rfl | decide +kernel)
    (case hsup => k_is)
    (case e1N => k_is)
    (case e2N => k_is)
    (case e3N => k_is)
    (case e5N => k_is)
    (case e1B => k_is)
    (case e2B => k_is)
    (case e3B => k_is)
    (case e5B => k_is)
    (case i0B => kit_is)
    (case i1B => kit_is)
    (case i2B => kit_is)
    (case i3B => kit_is)
    (case i4B => kit_is)
    (case gv => k_is)
